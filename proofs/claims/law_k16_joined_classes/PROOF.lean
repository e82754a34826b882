import PyProof.Rows.All
import Wide.All
import OpenK.AllK
import Wide.FinOn
import HandS.OwnEq
import OpenK.KOwn
import OpenK.KOps
import OpenK.KMake
import PyProof.EqKinds
import PyProof.InstNe
import HandS.ForMost
import HandS.SetBool
import HandS.SetTxt0
import HandS.Strs
import KE.GoesMore
import HandS.Iter
import HandS.ForExc
import HandS.Wide
import HandS.IsInst
import HandS.Flow
import HandS.Walk
import HandS.Text
import HandS.Conv
import HandS.Star
import HandS.TupAny
import HandS.ExcInit
import HandS.ExcValue
import HandS.ExcCtx
import HandS.HotCalls
import HandS.ExcIs
import HandS.ExcField
import KE.KExcIs
import OpenK.KMeth
import HandS.Deep
import HandS.ClsMeth
import HandS.Defaults
import HandS.MakeKw
import HandS.MakeKwOnly
import HandS.Style
import HandS.SetFor
import HandS.DictComp
import HandS.Small
import HandS.Dict
import HandS.Comp
import HandS.List
import HandS.CallLocal
import KE.DataMinMax
import HandS.SortKw
import PyProof.NeKinds
import PySem.Challenge.RW_contractheirs_k16_joined_classes
set_option Elab.async false
set_option linter.all false
set_option maxRecDepth 100000
set_option maxHeartbeats 8000000
section
open PySem PySem.W PyProof.Rows
def PySem.W.Fast.tw9192076382355695938 : Nat := 0
def PySem.W.Fast.tw2823118049874573146 : Nat := 0
def PySem.W.Fast.tw4871023551779116047 : Nat := 0
def PySem.W.Fast.tw13471087186995400110 : Nat := 0
def PySem.W.Fast.tw12913585747446191368 : Nat := 0
def PySem.W.Fast.tw13264466142152643106 : Nat := 0
def PySem.W.Fast.tw570635876876168471 : Nat := 0
def PySem.W.Fast.tw13813285138798053550 : Nat := 0
def PySem.W.Fast.tw11387982265765964227 : Nat := 0
def PySem.W.Fast.tw11059873238273201061 : Nat := 0
def PySem.W.Fast.tw6148205278495617449 : Nat := 0
def PySem.W.Fast.tw16672169410535432776 : Nat := 0
def PySem.W.Fast.tw9619684205737103106 : Nat := 0
def PySem.W.Fast.tw18362023495940916128 : Nat := 0
def PySem.W.Fast.tw3561008662826143345 : Nat := 0
def PySem.W.Fast.tw13515312947879922138 : Nat := 0
def PySem.W.Fast.tw11967042740584411575 : Nat := 0
def PySem.W.Fast.tw1763029838519554183 : Nat := 0
def PySem.W.Fast.tw12172285726978554201 : Nat := 0
set_option maxRecDepth 100000 in
set_option maxHeartbeats 0 in
open_top kTop for PySem.Challenge.rw_contractheirs_k16_joined_classes
end
set_option linter.all false
/-! == and != of tuples and lists, with any answer, whose items may be objects with an own == -/
namespace PySem.SeqAt
open AutoSeq1 (wpAny_loadPart')
open MeetsSeq MeetsSeq2 MeetsSeq3 SeqRoads2
theorem str_eq_declines_plain (b : Str) (u : Tok) (l : Addr) (c : Value) (dd : Option Addr) (sl : Array (Option Value)) :
    Meets (Builtin.«str.__eq__» ⟨[.str b u, .ref l], []⟩) (fun _ R s => s.heap.get? l = some { cls := c, dict := dd, data := .plain, slots := sl } ∧ R (.ok (.ret .notImplemented)) s) :=
  .of_wp fun prog w A R s h => by obtain ⟨hp, g, d, tk, os⟩ := s; obtain ⟨hl, h⟩ := h; wp_walk using wpAny_loadPart' hl, wpAny_load hl; exact ⟨_, rfl, h⟩
theorem bool_eq_declines_plain (b : Bool) (l : Addr) (c : Value) (dd : Option Addr) (sl : Array (Option Value)) :
    Meets (Builtin.«int.__eq__» ⟨[.bool b, .ref l], []⟩) (fun _ R s => s.heap.get? l = some { cls := c, dict := dd, data := .plain, slots := sl } ∧ R (.ok (.ret .notImplemented)) s) :=
  .of_wp fun prog w A R s h => by obtain ⟨hp, g, d, tk, os⟩ := s; obtain ⟨hl, h⟩ := h; wp_walk using wpAny_loadPart' hl, wpAny_load hl; exact ⟨_, rfl, h⟩
theorem int_eq_declines_plain (b : Int) (u : Tok) (l : Addr) (c : Value) (dd : Option Addr) (sl : Array (Option Value)) :
    Meets (Builtin.«int.__eq__» ⟨[.int b u, .ref l], []⟩) (fun _ R s => s.heap.get? l = some { cls := c, dict := dd, data := .plain, slots := sl } ∧ R (.ok (.ret .notImplemented)) s) :=
  .of_wp fun prog w A R s h => by obtain ⟨hp, g, d, tk, os⟩ := s; obtain ⟨hl, h⟩ := h; wp_walk using wpAny_loadPart' hl, wpAny_load hl; exact ⟨_, rfl, h⟩
end PySem.SeqAt
namespace GQ
open PySem PySem.SeqAt
open AutoSeq1 (wpAny_loadPart')
open MeetsSeq MeetsSeq2 MeetsSeq3 SeqRoads2
section
variable {prog : Program} {w : World} {A : Around} {R : Result → Shared → Prop}
/-- what two rows of things give, by what each pair gives -/
def allEq (m n : Nat) (e : Nat → Bool) : Bool := (List.range (min m n)).all e && m == n
theorem tuple_eqB (l b : Addr) (items items2 : Array Value) (n n2 : Nat) (dd dd2 : Option Addr) (sl sl2 : Array (Option Value)) (e : Nat → Bool) (I : Nat → Shared → Prop)
    (turn : ∀ i (h1 : i < items.size) (h2 : i < items2.size) s, I i s → wpAny (model prog w) A.in1 (eqBool items[i] items2[i]) (fun r s' => r = e i ∧ I (i + 1) s') (fun e s' => R (.error e) s') s)
    (fin : ∀ i s, I i s → R (.ok (.ret (.bool (allEq items.size items2.size e)))) s) {s : Shared} (hl1 : s.heap.get? l = some { cls := .type "tuple", dict := dd, data := .seq items n, slots := sl }) (hb1 : s.heap.get? b = some { cls := .type "tuple", dict := dd2, data := .seq items2 n2, slots := sl2 }) (h : I 0 s) :
    wpAny (model prog w) A.in1 (Builtin.«tuple.__eq__» ⟨[.ref l, .ref b], []⟩) (FinOf prog w A R) (fun e s' => R (.error e) s') s := by
  have f2 := AutoSeq1.sub_tuple_tuple
  have hZ : (items.toList.zip items2.toList).length = min items.size items2.size := by simp
  have h0 := h
  obtain ⟨hp, g, d, tk, os⟩ := s
  wp_walk using wpAny_loadPart' hl1, wpAny_loadPart' hb1, wpAny_forIn_list _ (fun rest b s' => b.1 = none ∧ ∃ i, rest = (items.toList.zip items2.toList).drop i ∧ I i s' ∧ (((List.range (min items.size items2.size)).drop i).all e && items.size == items2.size) = allEq items.size items2.size e) _
  case turn =>
    rintro ⟨y, x⟩ rest b s' ⟨hb', i, hz, hI, hR⟩
    have hlt : i < (items.toList.zip items2.toList).length := by
      rcases Nat.lt_or_ge i (items.toList.zip items2.toList).length with h' | h'
      · exact h'
      · rw [List.drop_of_length_le h'] at hz; cases hz
    have hm : i < min items.size items2.size := hZ ▸ hlt
    have h1 : i < items.size := Nat.lt_of_lt_of_le hm (Nat.min_le_left _ _)
    have h2 : i < items2.size := Nat.lt_of_lt_of_le hm (Nat.min_le_right _ _)
    rw [List.drop_eq_getElem_cons hlt] at hz
    injection hz with hyx hrest
    have hy : y = items[i] := by have := congrArg Prod.fst hyx; simpa using this
    have hx : x = items2[i] := by have := congrArg Prod.snd hyx; simpa using this
    subst hy hx
    have hd : (List.range (min items.size items2.size)).drop i = i :: (List.range (min items.size items2.size)).drop (i + 1) := by simp [List.drop_eq_getElem_cons, hm]
    rw [hd, List.all_cons] at hR
    refine wpAny_bind (wpAny_mono (turn i h1 h2 s' hI) (fun r s2 q2 => ?_) fun _ _ x => x)
    obtain ⟨hr, q2⟩ := q2
    subst hr
    cases hy : e i with
    | true =>
      rw [hy] at hR
      wp_walk
      exact ⟨rfl, i + 1, hrest, q2, by simpa using hR⟩
    | false =>
      rw [hy] at hR
      have hf := fin _ _ q2
      rw [← hR] at hf
      wp_walk
      simpa using hf
  case fin =>
    rintro ⟨b1, b2⟩ s' ⟨hb', i, hz, hI, hR⟩
    simp only at hb'
    subst hb'
    have hge : min items.size items2.size ≤ i := by
      rcases Nat.lt_or_ge i (items.toList.zip items2.toList).length with h' | h'
      · rw [List.drop_eq_getElem_cons h'] at hz; cases hz
      · exact hZ ▸ h'
    rw [List.drop_of_length_le (by simpa using hge)] at hR
    have hf := fin _ _ hI
    rw [← hR] at hf
    wp_walk
    simpa [Builtin.Tuple.tupleCompareSizes] using hf
  case h =>
    exact ⟨rfl, 0, rfl, h0, rfl⟩
theorem tuple_neB (l b : Addr) (items items2 : Array Value) (n n2 : Nat) (dd dd2 : Option Addr) (sl sl2 : Array (Option Value)) (e : Nat → Bool) (I : Nat → Shared → Prop)
    (turn : ∀ i (h1 : i < items.size) (h2 : i < items2.size) s, I i s → wpAny (model prog w) A.in1 (eqBool items[i] items2[i]) (fun r s' => r = e i ∧ I (i + 1) s') (fun e s' => R (.error e) s') s)
    (fin : ∀ i s, I i s → R (.ok (.ret (.bool (!allEq items.size items2.size e)))) s) {s : Shared} (hl1 : s.heap.get? l = some { cls := .type "tuple", dict := dd, data := .seq items n, slots := sl }) (hb1 : s.heap.get? b = some { cls := .type "tuple", dict := dd2, data := .seq items2 n2, slots := sl2 }) (h : I 0 s) :
    wpAny (model prog w) A.in1 (Builtin.«tuple.__ne__» ⟨[.ref l, .ref b], []⟩) (FinOf prog w A R) (fun e s' => R (.error e) s') s := by
  have f2 := AutoSeq1.sub_tuple_tuple
  have hZ : (items.toList.zip items2.toList).length = min items.size items2.size := by simp
  have h0 := h
  obtain ⟨hp, g, d, tk, os⟩ := s
  wp_walk using wpAny_loadPart' hl1, wpAny_loadPart' hb1, wpAny_forIn_list _ (fun rest b s' => b.1 = none ∧ ∃ i, rest = (items.toList.zip items2.toList).drop i ∧ I i s' ∧ (((List.range (min items.size items2.size)).drop i).all e && items.size == items2.size) = allEq items.size items2.size e) _
  case turn =>
    rintro ⟨y, x⟩ rest b s' ⟨hb', i, hz, hI, hR⟩
    have hlt : i < (items.toList.zip items2.toList).length := by
      rcases Nat.lt_or_ge i (items.toList.zip items2.toList).length with h' | h'
      · exact h'
      · rw [List.drop_of_length_le h'] at hz; cases hz
    have hm : i < min items.size items2.size := hZ ▸ hlt
    have h1 : i < items.size := Nat.lt_of_lt_of_le hm (Nat.min_le_left _ _)
    have h2 : i < items2.size := Nat.lt_of_lt_of_le hm (Nat.min_le_right _ _)
    rw [List.drop_eq_getElem_cons hlt] at hz
    injection hz with hyx hrest
    have hy : y = items[i] := by have := congrArg Prod.fst hyx; simpa using this
    have hx : x = items2[i] := by have := congrArg Prod.snd hyx; simpa using this
    subst hy hx
    have hd : (List.range (min items.size items2.size)).drop i = i :: (List.range (min items.size items2.size)).drop (i + 1) := by simp [List.drop_eq_getElem_cons, hm]
    rw [hd, List.all_cons] at hR
    refine wpAny_bind (wpAny_mono (turn i h1 h2 s' hI) (fun r s2 q2 => ?_) fun _ _ x => x)
    obtain ⟨hr, q2⟩ := q2
    subst hr
    cases hy : e i with
    | true =>
      rw [hy] at hR
      wp_walk
      exact ⟨rfl, i + 1, hrest, q2, by simpa using hR⟩
    | false =>
      rw [hy] at hR
      have hf := fin _ _ q2
      rw [← hR] at hf
      wp_walk
      simpa using hf
  case fin =>
    rintro ⟨b1, b2⟩ s' ⟨hb', i, hz, hI, hR⟩
    simp only at hb'
    subst hb'
    have hge : min items.size items2.size ≤ i := by
      rcases Nat.lt_or_ge i (items.toList.zip items2.toList).length with h' | h'
      · rw [List.drop_eq_getElem_cons h'] at hz; cases hz
      · exact hZ ▸ h'
    rw [List.drop_of_length_le (by simpa using hge)] at hR
    have hf := fin _ _ hI
    rw [← hR] at hf
    wp_walk
    simpa [Builtin.Tuple.tupleCompareSizes, bne] using hf
  case h =>
    exact ⟨rfl, 0, rfl, h0, rfl⟩
/-- at each turn the two lists are read anew -/
def ListB (prog : Program) (w : World) (A : Around) (E : Value → Shared → Prop) (l b : Addr) (N : Nat) (e : Nat → Bool) (I : Nat → Shared → Prop) : Prop :=
  ∀ i s, I i s → ∃ (items items2 : Array Value) (n n2 : Nat), s.heap.get? l = some { cls := .type "list", data := .seq items n } ∧ s.heap.get? b = some { cls := .type "list", data := .seq items2 n2 } ∧ items.size = N ∧ items2.size = N ∧
    ∀ (h1 : i < items.size) (h2 : i < items2.size), wpAny (model prog w) A.in1 (eqBool items[i] items2[i]) (fun r s' => r = e i ∧ I (i + 1) s') E s
theorem eq_loopB (l b : Addr) (N : Nat) (e : Nat → Bool) (I : Nat → Shared → Prop) (hl : ListB prog w A (fun e s' => R (.error e) s') l b N e I)
    (fin : ∀ i s, I i s → R (.ok (.ret (.bool ((List.range N).all e)))) s) (k : Nat) :
    ∀ i : Nat, N - i = k → i ≤ N → ((List.range N).drop i).all e = (List.range N).all e → ∀ s, I i s →
      wpAny (model prog w) A.in1 (Builtin.«list.__eq__.loop» ⟨[.ref l, .ref b, rawInt i, rawInt 2], []⟩) (FinOf prog w A R) (fun e s' => R (.error e) s') s := by
  induction k with
  | zero =>
    intro i hk hi hv s h
    obtain ⟨items, items2, n, n2, hl1, hb1, hs1, hs2, _⟩ := hl _ _ h
    have hi' : i = N := by omega
    have hR := fin _ s h
    rw [← hv, hi', List.drop_of_length_le (by simp)] at hR
    obtain ⟨hp, g, d, tk, os⟩ := s
    wp_walk using wpAny_loadPart' hl1, wpAny_loadPart' hb1
    have hi1 : items[((i : Nat) : Int).toNat]? = none := by simp; omega
    have hi2 : items2[((i : Nat) : Int).toNat]? = none := by simp; omega
    rw [hi1, hi2]
    wp_walk using wpAny_loadPart' hl1, wpAny_loadPart' hb1
    show R (.ok (.ret (.bool (items.size == items2.size)))) _
    rw [hs1, hs2]
    simpa using hR
  | succ k ih =>
    intro i hk hi hv s h
    obtain ⟨items, items2, n, n2, hl1, hb1, hs1, hs2, turn⟩ := hl _ _ h
    have hlt : i < items.size := by omega
    have hlt2 : i < items2.size := by omega
    have ht := turn hlt hlt2
    have hd : (List.range N).drop i = i :: (List.range N).drop (i + 1) := by
      have hN : i < (List.range N).length := by simp; omega
      rw [List.drop_eq_getElem_cons hN]; simp
    rw [hd, List.all_cons] at hv
    obtain ⟨hp, g, d, tk, os⟩ := s
    wp_walk using wpAny_loadPart' hl1, wpAny_loadPart' hb1
    have hi1 : items[((i : Nat) : Int).toNat]? = some items[i] := by simp [hlt]
    have hi2 : items2[((i : Nat) : Int).toNat]? = some items2[i] := by simp [hlt2]
    have hc : ((i : Int) + 1) = ((i + 1 : Nat) : Int) := by omega
    rw [hi1, hi2]
    refine wpAny_bind (wpAny_mono ht (fun r s2 h2 => ?_) fun _ _ x => x)
    obtain ⟨hr, h2⟩ := h2
    subst hr
    cases hy : e i with
    | true =>
      rw [hy, Bool.true_and] at hv
      have hrec := ih (i + 1) (by omega) (by omega) hv s2 h2
      obtain ⟨hp2, g2, d2, tk2, os2⟩ := s2
      wp_walk
      rw [hc]
      exact ⟨plainId_quiet plain_eq_loop _, codeAny_builtin entry_eq_loop (by
        rw [Around.under_plainId plain_eq_loop _]
        exact hrec)⟩
    | false =>
      rw [hy, Bool.false_and] at hv
      have hf := fin _ _ h2
      rw [← hv] at hf
      obtain ⟨itemsA, itemsB, nA, nB, hA, hB, hsA, hsB, _⟩ := hl _ _ h2
      obtain ⟨hp2, g2, d2, tk2, os2⟩ := s2
      wp_walk using wpAny_loadPart' hA, wpAny_loadPart' hB
      have hiA : itemsA[((i : Nat) : Int).toNat]? = some (itemsA[i]'(by omega)) := by simp
      have hiB : itemsB[((i : Nat) : Int).toNat]? = some (itemsB[i]'(by omega)) := by simp
      rw [hiA, hiB]
      wp_walk
      simpa using hf
theorem list_eqB (l b : Addr) (N : Nat) (e : Nat → Bool) (I : Nat → Shared → Prop) (hl : ListB prog w A (fun e s' => R (.error e) s') l b N e I)
    (fin : ∀ i s, I i s → R (.ok (.ret (.bool ((List.range N).all e)))) s) {s : Shared} (h : I 0 s) :
    wpAny (model prog w) A.in1 (Builtin.«list.__eq__» ⟨[.ref l, .ref b], []⟩) (FinOf prog w A R) (fun e s' => R (.error e) s') s := by
  obtain ⟨items, items2, n, n2, hl1, hb1, hs1, hs2, _⟩ := hl _ _ h
  have hrec := eq_loopB (A := A) (R := R) l b N e I hl fin _ 0 rfl (Nat.zero_le _) rfl s h
  obtain ⟨hp, g, d, tk, os⟩ := s
  have f3 := AutoSeq1.sub_list_list
  have hne : ¬ (items.size != items2.size) = true := by simp [hs1, hs2]
  wp_walk using wpAny_loadPart' hl1, wpAny_loadPart' hb1
  exact ⟨plainId_quiet plain_eq_loop _, codeAny_builtin entry_eq_loop (by
    rw [Around.under_plainId plain_eq_loop _]
    exact hrec)⟩
end
section
variable {prog : Program} {w : World} {A : Around} {E : Value → Shared → Prop} {s : Shared}
theorem rc_listB {l b : Addr} {N : Nat} {e : Nat → Bool} {Q : Value → Shared → Prop} (hu : A.units < cLine) (I : Nat → Shared → Prop) (hl : ListB prog w A E l b N e I)
    (fin : ∀ i s, I i s → Q (.bool ((List.range N).all e)) s) (h : I 0 s) : wpAny (model prog w) A (richCompare .Eq (.ref l) (.ref b)) Q E s := by
  obtain ⟨items, items2, n, n2, hl1, hb1, _, _, _⟩ := hl _ _ h
  refine wpAny_richCompare_same_room (op := .Eq) ⟨_, hl1, rfl⟩ ⟨_, hb1, rfl⟩ F.slot_list_eq (call_here F.slot_list_eq ⟨_, hl1, rfl⟩ F.entry_list_eq (F.args_list_eq_2 _ _) ?_) hu
  exact list_eqB (R := wants (fun v s' => v ≠ .notImplemented ∧ Q v s') E) l b N e I hl (fun i s' q => ⟨(fun x => nomatch x), fin i s' q⟩) h
theorem rc_tupB {l b : Addr} {items items2 : Array Value} {e : Nat → Bool} {Q : Value → Shared → Prop} (hu : A.units < cLine) (I : Nat → Shared → Prop)
    (hl : s.heap.IsTuple l items) (hb : s.heap.IsTuple b items2)
    (turn : ∀ i (h1 : i < items.size) (h2 : i < items2.size) s, I i s → wpAny (model prog w) A.in1 (eqBool items[i] items2[i]) (fun r s' => r = e i ∧ I (i + 1) s') E s)
    (fin : ∀ i s, I i s → Q (.bool (allEq items.size items2.size e)) s) (h : I 0 s) : wpAny (model prog w) A (richCompare .Eq (.ref l) (.ref b)) Q E s := by
  obtain ⟨⟨cls, dd, data, sl⟩, ho, hc, n, hd⟩ := id hl
  obtain ⟨⟨cls2, dd2, data2, sl2⟩, ho2, hc2, n2, hd2⟩ := id hb
  simp only at hc hd hc2 hd2
  subst hc hd hc2 hd2
  refine wpAny_richCompare_same_room (op := .Eq) ⟨_, ho, rfl⟩ ⟨_, ho2, rfl⟩ F.slot_tuple_eq (call_here F.slot_tuple_eq ⟨_, ho, rfl⟩ F.entry_tuple_eq (F.args_tuple_eq_2 _ _) ?_) hu
  exact tuple_eqB (R := wants (fun v s' => v ≠ .notImplemented ∧ Q v s') E) l b items items2 n n2 dd dd2 sl sl2 e I turn (fun i s' q => ⟨(fun x => nomatch x), fin i s' q⟩) ho ho2 h
theorem rc_tupNeB {l b : Addr} {items items2 : Array Value} {e : Nat → Bool} {Q : Value → Shared → Prop} (hu : A.units < cLine) (I : Nat → Shared → Prop)
    (hl : s.heap.IsTuple l items) (hb : s.heap.IsTuple b items2)
    (turn : ∀ i (h1 : i < items.size) (h2 : i < items2.size) s, I i s → wpAny (model prog w) A.in1 (eqBool items[i] items2[i]) (fun r s' => r = e i ∧ I (i + 1) s') E s)
    (fin : ∀ i s, I i s → Q (.bool (!allEq items.size items2.size e)) s) (h : I 0 s) : wpAny (model prog w) A (richCompare .NotEq (.ref l) (.ref b)) Q E s := by
  obtain ⟨⟨cls, dd, data, sl⟩, ho, hc, n, hd⟩ := id hl
  obtain ⟨⟨cls2, dd2, data2, sl2⟩, ho2, hc2, n2, hd2⟩ := id hb
  simp only at hc hd hc2 hd2
  subst hc hd hc2 hd2
  refine wpAny_richCompare_same_room (op := .NotEq) ⟨_, ho, rfl⟩ ⟨_, ho2, rfl⟩ F.slot_tuple_ne (call_here F.slot_tuple_ne ⟨_, ho, rfl⟩ F.entry_tuple_ne (F.args_tuple_ne_2 _ _) ?_) hu
  exact tuple_neB (R := wants (fun v s' => v ≠ .notImplemented ∧ Q v s') E) l b items items2 n n2 dd dd2 sl sl2 e I turn (fun i s' q => ⟨(fun x => nomatch x), fin i s' q⟩) ho ho2 h
end
end GQ
namespace PySem.W
open PyProof.Rows
section
variable {prog : Program} {w : World} {A : Around} {E : Value → Shared → Prop} {s : Shared} {K : Frag} {x C L f : Addr} {h₀ : Heap} {m : Str → Option Value} {ox : Obj} {od : Option Obj}
/-- a builtin thing == an object with an own ==, which is asked because the thing does not know -/
theorem cmpR_K {a : Value} {Ta ida : String} {Q : Value → Shared → Prop} (hu : A.units < cLine) (F : Fr h₀ L s.heap m) (X₀ : K.In h₀) (I : InstAt s.heap x ox C od) (ha : s.TypeIs a Ta)
    (hsub : subIn K (.ref C) (.type Ta) = some false) (h1 : Slot Ta (cmpInfo .Eq).2.1 ida)
    (hc1 : ∀ Q' : Value → Shared → Prop, Q' .notImplemented s → wpAny (model prog w) A (call (.builtin ida) [a, .ref x]) Q' E s)
    (hs : findIn K (.ref C) (cmpInfo .Eq).2.2 = some (some (.ref f))) (hf : isFn K (.ref f) = true)
    (h : wpAny (model prog w) A (call (.ref f) [.ref x, a]) (CmpBack Q) E s) : wpAny (model prog w) A (richCompare .Eq a (.ref x)) Q E s := by
  have X := X₀.keeps F.keep
  have one : wpAny (model prog w) A (tryCompare (.ref x) (cmpInfo .Eq).2.2 a) (fun r s' => ∃ v, r = some v ∧ Q v s') E s := by
    unfold tryCompare
    refine wpAny_bind (ifBound_K X I hs hf (wpAny_mono h (fun v s' hv => ?_) fun _ _ e => e))
    cases v <;> first | exact hv.elim | exact wpAny_pure ⟨_, rfl, hv⟩
  rcases hi : cmpInfo CmpOp.Eq with ⟨sym, fn, r⟩
  rw [hi] at h1 one
  simp only [richCompare, hi, ha.oneThing_none]
  try with_reducible refine wpAny_holding ?_
  refine wpAny_bind (wpAny_cRoomFor_or (.inr hu) ?_)
  refine wpAny_bind (wpAny_typeOf ha (wpAny_bind (I.type.here ?_)))
  have hne : (Value.type Ta != Value.ref C) = true := by simp
  simp only [hne, if_true]
  refine wpAny_bind ((looks_subIn X hsub).here ?_)
  simp only [Bool.false_eq_true, if_false, Bool.not_false, if_true]
  refine wpAny_bind (m := tryCompare a _ (.ref x)) (wpAny_tryCompare_declines ha h1 (hc1 _ ⟨rfl, ?_⟩))
  refine wpAny_bind (m := tryCompare (.ref x) _ a) (wpAny_mono one (fun r s' z => ?_) fun _ _ e => e)
  obtain ⟨v, rfl, hq⟩ := z
  exact wpAny_pure hq
end
end PySem.W
set_option linter.all false
/-! data with objects that have an own ==: what == says of two of them -/
namespace PySem.SeqAt
open AutoSeq1 (wpAny_loadPart')
open MeetsSeq MeetsSeq2 MeetsSeq3 SeqRoads2
section
variable {prog : Program} {w : World} {A : Around} {R : Result → Shared → Prop}
theorem tuple_eq_declines_own (l x : Addr) (items : Array Value) (n : Nat) (dd : Option Addr) (sl : Array (Option Value)) {s : Shared} (hI : PySem.W.Looks (model prog w) s.heap (isInstance (.ref x) (.type "tuple")) false)
    (hl : s.heap.get? l = some { cls := .type "tuple", dict := dd, data := .seq items n, slots := sl }) (hR : R (.ok (.ret .notImplemented)) s) :
    wpAny (model prog w) A.in1 (Builtin.«tuple.__eq__» ⟨[.ref l, .ref x], []⟩) (GQ.FinOf prog w A R) (fun e s' => R (.error e) s') s := by
  obtain ⟨hp, g, d, tk, os⟩ := s
  wp_walk using wpAny_loadPart' hl, hI.here
  exact hR
theorem list_eq_declines_own (l x : Addr) (items : Array Value) (n : Nat) {s : Shared} (hI : PySem.W.Looks (model prog w) s.heap (isInstance (.ref x) (.type "list")) false)
    (hl : s.heap.get? l = some { cls := .type "list", data := .seq items n }) (hR : R (.ok (.ret .notImplemented)) s) :
    wpAny (model prog w) A.in1 (Builtin.«list.__eq__» ⟨[.ref l, .ref x], []⟩) (GQ.FinOf prog w A R) (fun e s' => R (.error e) s') s := by
  obtain ⟨hp, g, d, tk, os⟩ := s
  wp_walk using wpAny_loadPart' hl, hI.here
  exact hR
end
end PySem.SeqAt
namespace L2
open PySem PySem.Spec PyProof.Rows
inductive OD where
  | fl (v : V)
  | tup (xs : List OD)
  | lst (xs : List OD)
  | obj (k : Nat) (xs : List OD)
structure OCls where
  C : Addr
  f : Addr
  names : List Str
  lv : Nat
section
variable (K : PySem.W.Frag) (cl : Nat → OCls) (H : Hp)
mutual
def Oh : OD → V → Prop
  | .fl v, x => x = v ∧ flatV v = true
  | .tup ds, x => ∃ a xs, x = .ref a ∧ SqT K H a xs ∧ OhAll ds xs
  | .lst ds, x => ∃ a xs, x = .ref a ∧ H a = some (.lst xs) ∧ OhAll ds xs
  | .obj k ds, x => ∃ a dx fs xs, x = .ref a ∧ H a = some (.ins (cl k).C dx fs) ∧ (cl k).names.map (fun n => fs.lookup n) = xs.map some ∧ OhAll ds xs
def OhAll : List OD → List V → Prop
  | [], xs => xs = []
  | d :: ds, xs => ∃ x ys, xs = x :: ys ∧ Oh d x ∧ OhAll ds ys
end
mutual
def eqo : OD → OD → Bool
  | .fl v, .fl w => eqV v w
  | .tup xs, .tup ys => eqoAll xs ys
  | .lst xs, .lst ys => eqoAll xs ys
  | .obj k xs, .obj l ys => k == l && eqoAll xs ys
  | _, _ => false
def eqoAll : List OD → List OD → Bool
  | [], [] => true
  | x :: xs, y :: ys => eqo x y && eqoAll xs ys
  | _, _ => false
end
mutual
def need : OD → Nat
  | .fl _ => 0
  | .tup xs => needAll xs + 1
  | .lst xs => needAll xs + 1
  | .obj k _ => (cl k).lv
def needAll : List OD → Nat
  | [] => 0
  | x :: xs => max (need x) (needAll xs)
end
variable (S : Nat → List OD → Prop)
mutual
def okO : OD → Prop
  | .fl _ => True
  | .tup xs => okAll xs
  | .lst xs => okAll xs
  | .obj k xs => S k xs ∧ okAll xs
def okAll : List OD → Prop
  | [] => True
  | x :: xs => okO x ∧ okAll xs
end
end
def flTy : V → String
  | .non => "NoneType"
  | .bl _ => "bool"
  | .int _ => "int"
  | _ => "str"
/-- the classes that are spoken of -/
def Dm (S : Nat → List OD → Prop) (k : Nat) : Prop := ∃ ds, S k ds
/-- what the text must have of the classes with an own == -/
structure OwnCls (K : PySem.W.Frag) (cl : Nat → OCls) (S : Nat → List OD → Prop) : Prop where
  eqf : ∀ k, Dm S k → PySem.W.findIn K (.ref (cl k).C) "__eq__" = some (some (.ref (cl k).f))
  isf : ∀ k, Dm S k → PySem.W.isFn K (.ref (cl k).f) = true
  inj : ∀ k l, Dm S k → Dm S l → (cl k).C = (cl l).C → k = l
  sub : ∀ k l, Dm S k → Dm S l → k ≠ l → PySem.W.subIn K (.ref (cl l).C) (.ref (cl k).C) = some false
  sT : ∀ k, Dm S k → ∀ T, T ∈ ["NoneType", "bool", "int", "str", "tuple", "list"] → PySem.W.subIn K (.type T) (.ref (cl k).C) = some false ∧ PySem.W.subIn K (.ref (cl k).C) (.type T) = some false
/-- what the own == of these classes promise -/
def OwnGives (X : Cx) (cl : Nat → OCls) (S : Nat → List OD → Prop) : Prop :=
  ∀ k ds, S k ds → ∀ (A : Around) (pins : List (Addr × Obj)) (s : Shared) (σ : St) (H : Hp) (a : Addr) (e : OD) (y : V) (v : Value), Sub X (cl k).lv A → Inv X pins σ H s → RelV y v → Oh X.K cl H (.obj k ds) (.ref a) → Oh X.K cl H e y → okAll S ds → okO S e →
    wpAny (model X.prog X.w) A (call (.ref (cl k).f) [.ref a, v]) (fun r s' => r = .bool (eqo (.obj k ds) e) ∧ ∃ H', Inv X pins σ H' s' ∧ Ext H H') X.xe s
section
variable {K : PySem.W.Frag} {cl : Nat → OCls} {S : Nat → List OD → Prop}
mutual
theorem Oh.ext {H H' : Hp} (x : Ext H H') : ∀ (d : OD) (v : V), Oh K cl H d v → Oh K cl H' d v
  | .fl _, _, h => h
  | .tup ds, _, ⟨a, xs, e, h, q⟩ => ⟨a, xs, e, h.ext x, OhAll.ext x ds xs q⟩
  | .lst ds, _, ⟨a, xs, e, h, q⟩ => ⟨a, xs, e, x _ _ h, OhAll.ext x ds xs q⟩
  | .obj _ ds, _, ⟨a, dx, fs, xs, e, h, l, q⟩ => ⟨a, dx, fs, xs, e, x _ _ h, l, OhAll.ext x ds xs q⟩
theorem OhAll.ext {H H' : Hp} (x : Ext H H') : ∀ (ds : List OD) (xs : List V), OhAll K cl H ds xs → OhAll K cl H' ds xs
  | [], _, h => h
  | d :: ds, _, ⟨v, ys, e, h, q⟩ => ⟨v, ys, e, Oh.ext x d v h, OhAll.ext x ds ys q⟩
end
theorem OhAll.length {H : Hp} : ∀ (ds : List OD) (xs : List V), OhAll K cl H ds xs → ds.length = xs.length
  | [], _, h => by cases h; rfl
  | d :: ds, _, ⟨v, ys, e, _, q⟩ => by rw [e, List.length_cons, List.length_cons, OhAll.length ds ys q]
theorem eqV_refl {v : V} (h : flatV v = true) : eqV v v = true := by
  cases v with
  | non => rfl
  | bl b => show (b == b) = true; exact beq_self_eq_true b
  | int b => show (b == b) = true; exact beq_self_eq_true b
  | str b => show (b == b) = true; exact beq_self_eq_true b
  | _ => cases h
theorem relV_inj {x y : V} {u : Value} (h : RelV x u) (h' : RelV y u) : x = y := by
  cases x <;> cases y <;> simp_all [RelV]
  all_goals (obtain ⟨t, rfl⟩ := h; obtain ⟨t', e⟩ := h'; cases e; try rfl)
theorem map_some_inj : ∀ {xs ys : List V}, xs.map some = ys.map some → xs = ys
  | [], [], _ => rfl
  | [], _ :: _, h => by cases h
  | _ :: _, [], h => by cases h
  | x :: xs, y :: ys, h => by
    rw [List.map_cons, List.map_cons] at h
    injection h with h1 h2
    rw [Option.some.inj h1, map_some_inj h2]
theorem vals_inj : ∀ {xs ys : List V} {us : List Value}, Vals xs us → Vals ys us → xs = ys
  | _, _, _, .nil, .nil => rfl
  | _, _, _, .cons a r, .cons b t => by rw [relV_inj a b, vals_inj r t]
section
variable {X : Cx} {pins : List (Addr × Obj)} {s : Shared} {σ : St} {H : Hp}
theorem tup_obj {a C dx : Addr} {xs : List V} {fs : List (Str × V)} (I : Inv X pins σ H s) (h : SqT X.K H a xs) (h' : H a = some (.ins C dx fs)) : False := by
  obtain ⟨its, r, t, z⟩ := I.tuple h
  obtain ⟨o, ho, hc, _⟩ := t
  obtain ⟨_, O, _⟩ := ins_get I.hok h'
  rw [O.obj] at ho
  cases ho
  cases hc
mutual
theorem eqo_same (W : OwnCls X.K cl S) (I : Inv X pins σ H s) : ∀ (d e : OD) (x : V), Oh X.K cl H d x → Oh X.K cl H e x → okO S d → okO S e → eqo d e = true
  | .fl v, .fl w, x, hd, he, _, _ => by
    obtain ⟨rfl, h⟩ := hd
    obtain ⟨rfl, h'⟩ := he
    exact eqV_refl h
  | .tup ds, .tup es, x, hd, he, oD, oE => by
    obtain ⟨a, xs, rfl, h, q⟩ := hd
    obtain ⟨b, ys, e, h', q'⟩ := he
    cases e
    obtain ⟨its, r, t, z⟩ := I.tuple h
    obtain ⟨its', r', t', z'⟩ := I.tuple h'
    obtain ⟨o, ho, _, n, hn⟩ := t
    obtain ⟨o', ho', _, n', hn'⟩ := t'
    rw [ho] at ho'
    cases ho'
    rw [hn] at hn'
    have e1 : its = its' := by injection hn' with e1 _; exact congrArg Array.toList e1
    subst e1
    rw [← vals_inj r r'] at q'
    exact eqoAll_same W I ds es xs q q' oD oE
  | .lst ds, .lst es, x, hd, he, oD, oE => by
    obtain ⟨a, xs, rfl, h, q⟩ := hd
    obtain ⟨b, ys, e, h', q'⟩ := he
    cases e
    rw [h] at h'
    cases h'
    exact eqoAll_same W I ds es xs q q' oD oE
  | .obj k ds, .obj l es, x, hd, he, oD, oE => by
    obtain ⟨a, dx, fs, xs, rfl, h, n, q⟩ := hd
    obtain ⟨b, dy, gs, ys, e, h', n', q'⟩ := he
    cases e
    rw [h] at h'
    have e1 : (cl k).C = (cl l).C := by injection h' with h'; injection h' with h'
    have e2 : fs = gs := by injection h' with h'; injection h' with _ _ h'
    have e3 := W.inj k l ⟨_, oD.1⟩ ⟨_, oE.1⟩ e1
    subst e3 e2
    rw [n] at n'
    have e4 : xs = ys := map_some_inj n'
    subst e4
    show (k == k && eqoAll ds es) = true
    rw [beq_self_eq_true, eqoAll_same W I ds es xs q q' oD.2 oE.2]
    rfl
  | .fl v, .tup _, x, hd, he, _, _ => by obtain ⟨rfl, h⟩ := hd; obtain ⟨a, xs, rfl, _⟩ := he; cases h
  | .fl v, .lst _, x, hd, he, _, _ => by obtain ⟨rfl, h⟩ := hd; obtain ⟨a, xs, rfl, _⟩ := he; cases h
  | .fl v, .obj _ _, x, hd, he, _, _ => by obtain ⟨rfl, h⟩ := hd; obtain ⟨a, dx, fs, xs, rfl, _⟩ := he; cases h
  | .tup _, .fl v, x, hd, he, _, _ => by obtain ⟨rfl, h⟩ := he; obtain ⟨a, xs, rfl, _⟩ := hd; cases h
  | .lst _, .fl v, x, hd, he, _, _ => by obtain ⟨rfl, h⟩ := he; obtain ⟨a, xs, rfl, _⟩ := hd; cases h
  | .obj _ _, .fl v, x, hd, he, _, _ => by obtain ⟨rfl, h⟩ := he; obtain ⟨a, dx, fs, xs, rfl, _⟩ := hd; cases h
  | .tup _, .lst _, x, hd, he, _, _ => by
    obtain ⟨a, xs, rfl, h, _⟩ := hd
    obtain ⟨b, ys, e, h', _⟩ := he
    cases e
    obtain ⟨its, r, t, z⟩ := I.tuple h
    obtain ⟨z2, its2, k2, r2, e2⟩ := I.hok _ _ h'
    exact absurd rfl (SeqAt.ne_of_list_tuple ⟨_, e2, rfl, _, rfl⟩ t)
  | .lst _, .tup _, x, hd, he, _, _ => by
    obtain ⟨a, xs, rfl, h, _⟩ := he
    obtain ⟨b, ys, e, h', _⟩ := hd
    cases e
    obtain ⟨its, r, t, z⟩ := I.tuple h
    obtain ⟨z2, its2, k2, r2, e2⟩ := I.hok _ _ h'
    exact absurd rfl (SeqAt.ne_of_list_tuple ⟨_, e2, rfl, _, rfl⟩ t)
  | .tup _, .obj _ _, x, hd, he, _, _ => by
    obtain ⟨a, xs, rfl, h, _⟩ := hd
    obtain ⟨b, dx, fs, ys, e, h', _⟩ := he
    cases e
    exact (tup_obj I h h').elim
  | .obj _ _, .tup _, x, hd, he, _, _ => by
    obtain ⟨a, xs, rfl, h, _⟩ := he
    obtain ⟨b, dx, fs, ys, e, h', _⟩ := hd
    cases e
    exact (tup_obj I h h').elim
  | .lst _, .obj _ _, x, hd, he, _, _ => by
    obtain ⟨a, xs, rfl, h, _⟩ := hd
    obtain ⟨b, dx, fs, ys, e, h', _⟩ := he
    cases e
    rw [h] at h'
    cases h'
  | .obj _ _, .lst _, x, hd, he, _, _ => by
    obtain ⟨a, xs, rfl, h, _⟩ := he
    obtain ⟨b, dx, fs, ys, e, h', _⟩ := hd
    cases e
    rw [h] at h'
    cases h'
theorem eqoAll_same (W : OwnCls X.K cl S) (I : Inv X pins σ H s) : ∀ (ds es : List OD) (xs : List V), OhAll X.K cl H ds xs → OhAll X.K cl H es xs → okAll S ds → okAll S es → eqoAll ds es = true
  | [], [], _, _, _, _, _ => rfl
  | d :: ds, e :: es, _, ⟨x, xs, rfl, h, q⟩, ⟨y, ys, e1, h', q'⟩, oD, oE => by
    cases e1
    show (eqo d e && eqoAll ds es) = true
    rw [eqo_same W I d e x h h' oD.1 oE.1, eqoAll_same W I ds es xs q q' oD.2 oE.2]
    rfl
  | [], e :: es, _, h, ⟨y, ys, e1, h', q'⟩, _, _ => by
    have h : _ = [] := h
    rw [e1] at h
    cases h
  | d :: ds, [], _, ⟨y, ys, e1, h', q'⟩, h, _, _ => by
    have h : _ = [] := h
    rw [e1] at h
    cases h
end
end
end
end L2
set_option linter.all false
namespace L2
open PySem PySem.Spec PyProof.Rows
section
variable {cl : Nat → OCls} {S : Nat → List OD → Prop} {X : Cx}
/-- what is asked where == is asked -/
abbrev After (X : Cx) (pins : List (Addr × Obj)) (σ : St) (H : Hp) (b : Bool) : Value → Shared → Prop := fun r s' => r = .bool b ∧ ∃ H', Inv X pins σ H' s' ∧ Ext H H'
theorem own_back (G : OwnGives X cl S) {k : Nat} {ds : List OD} (hk : S k ds) {A : Around} {pins : List (Addr × Obj)} {s : Shared} {σ : St} {H : Hp} {a : Addr} {e : OD} {y : V} {v : Value} (sb : Sub X (cl k).lv A) (I : Inv X pins σ H s) (ry : RelV y v) (h : Oh X.K cl H (.obj k ds) (.ref a)) (he : Oh X.K cl H e y) (oD : okAll S ds) (oE : okO S e) :
    wpAny (model X.prog X.w) A (call (.ref (cl k).f) [.ref a, v]) (PySem.W.CmpBack (After X pins σ H (eqo (.obj k ds) e))) X.xe s :=
  wpAny_mono (G k ds hk A pins s σ H a e y v sb I ry h he oD oE) (fun r s' q => by
    obtain ⟨rfl, q⟩ := q
    exact ⟨rfl, q⟩) fun _ _ e => e
theorem flTy_looks {x : V} {u : Value} (h : flatV x = true) (r : RelV x u) {M : Model} {hp : Heap} : PySem.W.Looks M hp (typeOf u) (.type (flTy x)) := by
  cases x with
  | non => cases r; exact PySem.W.Looks.of_pure rfl
  | bl b => cases r; exact PySem.W.Looks.of_pure rfl
  | int b => obtain ⟨t, rfl⟩ := r; exact PySem.W.Looks.of_pure rfl
  | str b => obtain ⟨t, rfl⟩ := r; exact PySem.W.Looks.of_pure rfl
  | _ => cases h
theorem flTy_mem {x : V} (h : flatV x = true) : flTy x ∈ ["NoneType", "bool", "int", "str", "tuple", "list"] := by
  cases x with
  | non => decide
  | bl b => simp [flTy]
  | int b => simp [flTy]
  | str b => simp [flTy]
  | _ => cases h
theorem ty_looks (W : OwnCls X.K cl S) {pins : List (Addr × Obj)} {s : Shared} {σ : St} {H : Hp} (I : Inv X pins σ H s) {k : Nat} (hk : Dm S k) {e : OD} {y : V} {v : Value} (ry : RelV y v) (he : Oh X.K cl H e y) (oE : okO S e) :
    ∃ tb, PySem.W.Looks (model X.prog X.w) s.heap (typeOf v) tb ∧ PySem.W.notFirst X.K (cl k).C tb = true := by
  cases e with
  | fl w =>
    obtain ⟨rfl, h⟩ := he
    refine ⟨_, flTy_looks h ry, ?_⟩
    unfold PySem.W.notFirst
    rw [(W.sT k hk _ (flTy_mem h)).1]
    simp
  | tup es =>
    obtain ⟨b, xs, rfl, h, _⟩ := he
    obtain rfl : v = Value.ref b := ry
    obtain ⟨its, r, ht, hz⟩ := I.tuple h
    obtain ⟨o, ho, hc⟩ := ht.typeIs
    refine ⟨.type "tuple", hc ▸ (PySem.W.Looks.ld ho).andThen .now, ?_⟩
    unfold PySem.W.notFirst
    rw [(W.sT k hk "tuple" (by decide)).1]
    simp
  | lst es =>
    obtain ⟨b, xs, rfl, h, _⟩ := he
    obtain rfl : v = Value.ref b := ry
    obtain ⟨z2, its2, k2, r2, e2⟩ := I.hok _ _ h
    refine ⟨.type "list", (PySem.W.Looks.ld e2).andThen .now, ?_⟩
    unfold PySem.W.notFirst
    rw [(W.sT k hk "list" (by decide)).1]
    simp
  | obj l es =>
    obtain ⟨b, dx, fs, xs, rfl, h, _, _⟩ := he
    obtain rfl : v = Value.ref b := ry
    obtain ⟨_, O2, _⟩ := ins_get I.hok h
    obtain ⟨o2, J2, _⟩ := O2.look
    refine ⟨.ref (cl l).C, J2.type, ?_⟩
    unfold PySem.W.notFirst
    by_cases hl : k = l
    · subst hl; simp
    · rw [W.sub k l hk ⟨_, oE.1⟩ hl]; simp
/-- an object with an own == on the left -/
theorem rcB_objL (W : OwnCls X.K cl S) (G : OwnGives X cl S) {k : Nat} {A : Around} {pins : List (Addr × Obj)} {s : Shared} {σ : St} {H : Hp} {ds : List OD} {e : OD} {x y : V} {u v : Value} (sb : Sub X (cl k).lv A) (I : Inv X pins σ H s) (rx : RelV x u) (ry : RelV y v) (h : Oh X.K cl H (.obj k ds) x) (he : Oh X.K cl H e y) (oD : okO S (.obj k ds)) (oE : okO S e) :
    wpAny (model X.prog X.w) A (richCompare .Eq u v) (After X pins σ H (eqo (.obj k ds) e)) X.xe s := by
  obtain ⟨a, dx, fs, xs, rfl, hi, hn, hq⟩ := id h
  cases rx
  obtain ⟨_, O1, _⟩ := ins_get I.hok hi
  obtain ⟨o1, J1, _⟩ := O1.look
  obtain ⟨m, hF⟩ := I.fr
  obtain ⟨tb, L, hn⟩ := ty_looks W I ⟨_, oD.1⟩ ry he oE
  exact PySem.W.cmp_K (op := .Eq) (tb := tb) sb.room.units0 hF I.ok.mod.kin J1 L hn (W.eqf k ⟨_, oD.1⟩) (W.isf k ⟨_, oD.1⟩) (own_back G oD.1 sb I ry h he oD.2 oE)
theorem eqo_obj_fl {k : Nat} {ds : List OD} {w : V} : eqo (.obj k ds) (.fl w) = false := by rw [eqo]; all_goals simp
theorem eqo_fl_obj {k : Nat} {ds : List OD} {w : V} : eqo (.fl w) (.obj k ds) = false := by rw [eqo]; all_goals simp
theorem eqo_obj_tup {k : Nat} {ds es : List OD} : eqo (.obj k ds) (.tup es) = false := by rw [eqo]; all_goals simp
theorem eqo_tup_obj {k : Nat} {ds es : List OD} : eqo (.tup es) (.obj k ds) = false := by rw [eqo]; all_goals simp
theorem eqo_obj_lst {k : Nat} {ds es : List OD} : eqo (.obj k ds) (.lst es) = false := by rw [eqo]; all_goals simp
theorem eqo_lst_obj {k : Nat} {ds es : List OD} : eqo (.lst es) (.obj k ds) = false := by rw [eqo]; all_goals simp
theorem rcB_flObj (W : OwnCls X.K cl S) (G : OwnGives X cl S) {k : Nat} {A : Around} {pins : List (Addr × Obj)} {s : Shared} {σ : St} {H : Hp} {ds : List OD} {w : V} {x y : V} {u v : Value} (sb : Sub X (cl k).lv A) (I : Inv X pins σ H s) (rx : RelV x u) (ry : RelV y v) (h : Oh X.K cl H (.fl w) x) (he : Oh X.K cl H (.obj k ds) y) (oE : okO S (.obj k ds)) :
    wpAny (model X.prog X.w) A (richCompare .Eq u v) (After X pins σ H (eqo (.fl w) (.obj k ds))) X.xe s := by
  obtain ⟨a, dx, fs, xs, rfl, hi, hn, hq⟩ := id he
  cases ry
  obtain ⟨_, O1, _⟩ := ins_get I.hok hi
  obtain ⟨o1, J1, _⟩ := O1.look
  obtain ⟨m, hF⟩ := I.fr
  have hb := own_back G oE.1 sb I rx he h oE.2 trivial
  rw [eqo_obj_fl] at hb
  rw [eqo_fl_obj]
  obtain ⟨rfl, hf⟩ := h
  have sT := (W.sT k ⟨_, oE.1⟩ _ (flTy_mem hf)).2
  have ox := O1.obj
  cases x with
  | non =>
    cases rx
    exact PySem.W.cmpR_K sb.room.units0 hF I.ok.mod.kin J1 rfl sT F.slot_NoneType_eq (fun _ hq => call_gives F.slot_NoneType_eq rfl F.entry_NoneType_eq (F.args_NoneType_eq_2 _ _) (SeqAt.NoneType___eq___none_ref_0 _) hq) (W.eqf k ⟨_, oE.1⟩) (W.isf k ⟨_, oE.1⟩) hb
  | int b =>
    obtain ⟨t, rfl⟩ := rx
    exact PySem.W.cmpR_K sb.room.units0 hF I.ok.mod.kin J1 (typeIs_int s b t) sT F.slot_int_eq (fun _ hq => call_meets F.slot_int_eq (typeIs_int s b t) F.entry_int_eq (F.args_int_eq_2 _ _) (SeqAt.int_eq_declines_plain b t _ _ _ _) ⟨ox, hq⟩) (W.eqf k ⟨_, oE.1⟩) (W.isf k ⟨_, oE.1⟩) hb
  | str b =>
    obtain ⟨t, rfl⟩ := rx
    exact PySem.W.cmpR_K sb.room.units0 hF I.ok.mod.kin J1 (typeIs_str s b t) sT F.slot_str_eq (fun _ hq => call_meets F.slot_str_eq (typeIs_str s b t) F.entry_str_eq (F.args_str_eq_2 _ _) (SeqAt.str_eq_declines_plain b t _ _ _ _) ⟨ox, hq⟩) (W.eqf k ⟨_, oE.1⟩) (W.isf k ⟨_, oE.1⟩) hb
  | bl b =>
    cases rx
    exact PySem.W.cmpR_K sb.room.units0 hF I.ok.mod.kin J1 (PySem.typeIs_bool s b) sT F.slot_bool_eq (fun _ hq => call_meets F.slot_bool_eq (PySem.typeIs_bool s b) F.entry_int_eq (F.args_int_eq_2 _ _) (SeqAt.bool_eq_declines_plain b _ _ _ _) ⟨ox, hq⟩) (W.eqf k ⟨_, oE.1⟩) (W.isf k ⟨_, oE.1⟩) hb
  | _ => cases hf
theorem rcB_tupObj (W : OwnCls X.K cl S) (G : OwnGives X cl S) {k : Nat} {A : Around} {pins : List (Addr × Obj)} {s : Shared} {σ : St} {H : Hp} {ds es : List OD} {x y : V} {u v : Value} (sb : Sub X (cl k).lv A) (I : Inv X pins σ H s) (rx : RelV x u) (ry : RelV y v) (h : Oh X.K cl H (.tup es) x) (he : Oh X.K cl H (.obj k ds) y) (oD : okO S (.tup es)) (oE : okO S (.obj k ds)) :
    wpAny (model X.prog X.w) A (richCompare .Eq u v) (After X pins σ H (eqo (.tup es) (.obj k ds))) X.xe s := by
  obtain ⟨a, dx, fs, xs, rfl, hi, hn, hq⟩ := id he
  cases ry
  obtain ⟨_, O1, _⟩ := ins_get I.hok hi
  obtain ⟨o1, J1, _⟩ := O1.look
  obtain ⟨m, hF⟩ := I.fr
  have hb := own_back G oE.1 sb I rx he h oE.2 oD
  rw [eqo_obj_tup] at hb
  rw [eqo_tup_obj]
  obtain ⟨b, ys, rfl, hs, _⟩ := h
  cases rx
  obtain ⟨its, r, ht, hz⟩ := I.tuple hs
  have sT := (W.sT k ⟨_, oE.1⟩ "tuple" (by decide)).2
  have hI : PySem.W.Looks (model X.prog X.w) s.heap (isInstance (.ref a) (.type "tuple")) false := J1.type.andThen (PySem.W.looks_subIn (I.ok.mod.kin.keeps hF.keep) sT)
  obtain ⟨⟨cls, dd, data, sl⟩, ho, hc, n, hd⟩ := id ht
  simp only at hc hd
  subst hc hd
  exact PySem.W.cmpR_K sb.room.units0 hF I.ok.mod.kin J1 ⟨_, ho, rfl⟩ sT F.slot_tuple_eq (fun Q' hq => GQ.call_here F.slot_tuple_eq ⟨_, ho, rfl⟩ F.entry_tuple_eq (F.args_tuple_eq_2 _ _) (SeqAt.tuple_eq_declines_own (R := wants Q' X.xe) b a _ n dd sl hI ho hq)) (W.eqf k ⟨_, oE.1⟩) (W.isf k ⟨_, oE.1⟩) hb
theorem rcB_lstObj (W : OwnCls X.K cl S) (G : OwnGives X cl S) {k : Nat} {A : Around} {pins : List (Addr × Obj)} {s : Shared} {σ : St} {H : Hp} {ds es : List OD} {x y : V} {u v : Value} (sb : Sub X (cl k).lv A) (I : Inv X pins σ H s) (rx : RelV x u) (ry : RelV y v) (h : Oh X.K cl H (.lst es) x) (he : Oh X.K cl H (.obj k ds) y) (oD : okO S (.lst es)) (oE : okO S (.obj k ds)) :
    wpAny (model X.prog X.w) A (richCompare .Eq u v) (After X pins σ H (eqo (.lst es) (.obj k ds))) X.xe s := by
  obtain ⟨a, dx, fs, xs, rfl, hi, hn, hq⟩ := id he
  cases ry
  obtain ⟨_, O1, _⟩ := ins_get I.hok hi
  obtain ⟨o1, J1, _⟩ := O1.look
  obtain ⟨m, hF⟩ := I.fr
  have hb := own_back G oE.1 sb I rx he h oE.2 oD
  rw [eqo_obj_lst] at hb
  rw [eqo_lst_obj]
  obtain ⟨b, ys, rfl, hs, _⟩ := h
  cases rx
  obtain ⟨z, its, n, r, ho⟩ := I.hok _ _ hs
  have sT := (W.sT k ⟨_, oE.1⟩ "list" (by decide)).2
  have hI : PySem.W.Looks (model X.prog X.w) s.heap (isInstance (.ref a) (.type "list")) false := J1.type.andThen (PySem.W.looks_subIn (I.ok.mod.kin.keeps hF.keep) sT)
  exact PySem.W.cmpR_K sb.room.units0 hF I.ok.mod.kin J1 ⟨_, ho, rfl⟩ sT F.slot_list_eq (fun Q' hq => GQ.call_here F.slot_list_eq ⟨_, ho, rfl⟩ F.entry_list_eq (F.args_list_eq_2 _ _) (SeqAt.list_eq_declines_own (R := wants Q' X.xe) b a _ n hI ho hq)) (W.eqf k ⟨_, oE.1⟩) (W.isf k ⟨_, oE.1⟩) hb
theorem allEq_eqo : ∀ (ds es : List OD) (e : Nat → Bool), (∀ i d c, ds[i]? = some d → es[i]? = some c → e i = eqo d c) → GQ.allEq ds.length es.length e = eqoAll ds es
  | [], [], e, _ => rfl
  | [], _ :: _, e, _ => by simp [GQ.allEq, eqoAll]
  | _ :: _, [], e, _ => by simp [GQ.allEq, eqoAll]
  | d :: ds, c :: es, e, h => by
    have ih := allEq_eqo ds es (fun i => e (i + 1)) fun i d' c' h1 h2 => h (i + 1) d' c' (by simpa using h1) (by simpa using h2)
    have h0 : e 0 = eqo d c := h 0 d c rfl rfl
    unfold GQ.allEq at ih ⊢
    rw [eqoAll, ← ih, ← h0]
    have hm : min (d :: ds).length (c :: es).length = min ds.length es.length + 1 := by simp [Nat.succ_min_succ]
    rw [hm, List.range_succ_eq_map, List.all_cons, List.all_map]
    simp [Function.comp_def, Bool.and_assoc]
theorem need_get : ∀ (ds : List OD) (i : Nat) (d : OD), ds[i]? = some d → need cl d ≤ needAll cl ds
  | [], i, d, h => by simp at h
  | x :: xs, 0, d, h => by
    simp at h
    subst h
    show need cl x ≤ max (need cl x) (needAll cl xs)
    omega
  | x :: xs, i + 1, d, h => by
    have := need_get xs i d (by simpa using h)
    show need cl d ≤ max (need cl x) (needAll cl xs)
    omega
theorem okAll_get : ∀ (ds : List OD) (i : Nat) (d : OD), okAll S ds → ds[i]? = some d → okO S d
  | [], i, d, _, h => by simp at h
  | x :: xs, 0, d, o, h => by simp at h; subst h; exact o.1
  | x :: xs, i + 1, d, o, h => okAll_get xs i d o.2 (by simpa using h)
theorem ohAll_get {K : PySem.W.Frag} {H : Hp} : ∀ (ds : List OD) (xs : List V) (i : Nat) (x : V), OhAll K cl H ds xs → xs[i]? = some x → ∃ d, ds[i]? = some d ∧ Oh K cl H d x
  | [], xs, i, x, h, e => by cases h; simp at e
  | d :: ds, _, 0, x, ⟨y, ys, rfl, h, q⟩, e => by simp at e; subst e; exact ⟨d, rfl, h⟩
  | d :: ds, _, i + 1, x, ⟨y, ys, rfl, h, q⟩, e => by
    obtain ⟨d', h1, h2⟩ := ohAll_get ds ys i x q (by simpa using e)
    exact ⟨d', by simpa using h1, h2⟩
def EqOD (X : Cx) (cl : Nat → OCls) (S : Nat → List OD → Prop) (d e : OD) : Prop :=
  ∀ (A : Around) (pins : List (Addr × Obj)) (s : Shared) (σ : St) (H : Hp) (x y : V) (u v : Value), Sub X (max (need cl d) (need cl e)) A → Inv X pins σ H s → RelV x u → RelV y v → Oh X.K cl H d x → Oh X.K cl H e y → okO S d → okO S e →
    wpAny (model X.prog X.w) A (eqBool u v) (fun r s' => r = eqo d e ∧ ∃ H', Inv X pins σ H' s' ∧ Ext H H') X.xe s
def RcOD (X : Cx) (cl : Nat → OCls) (S : Nat → List OD → Prop) (d e : OD) : Prop :=
  ∀ (A : Around) (pins : List (Addr × Obj)) (s : Shared) (σ : St) (H : Hp) (x y : V) (u v : Value), Sub X (max (need cl d) (need cl e)) A → Inv X pins σ H s → RelV x u → RelV y v → Oh X.K cl H d x → Oh X.K cl H e y → okO S d → okO S e →
    wpAny (model X.prog X.w) A (richCompare .Eq u v) (After X pins σ H (eqo d e)) X.xe s
/-- what the items of two rows need -/
theorem turnOD {ds es : List OD} (h : ∀ (i : Nat) (d e : OD), ds[i]? = some d → es[i]? = some e → EqOD X cl S d e) {A : Around} (sb : Sub X (max (needAll cl ds) (needAll cl es) + 1) A) {pins : List (Addr × Obj)} {σ : St} {H : Hp} {xs ys : List V} {its its2 : List Value}
    (p : OhAll X.K cl H ds xs) (q : OhAll X.K cl H es ys) (oD : okAll S ds) (oE : okAll S es) (r : Vals xs its) (r2 : Vals ys its2) (c : Nat → Bool) (hc : ∀ (i : Nat) (d e : OD), ds[i]? = some d → es[i]? = some e → c i = eqo d e)
    (i : Nat) (h1 : i < its.toArray.size) (h2 : i < its2.toArray.size) (s' : Shared) (l : LoopI X pins σ H s') :
    wpAny (model X.prog X.w) A.in1 (eqBool its.toArray[i] its2.toArray[i]) (fun r s2 => r = c i ∧ LoopI X pins σ H s2) X.xe s' := by
  obtain ⟨H1, I1, e1⟩ := l
  have g1 : its[i]? = some its.toArray[i] := by
    have h1' : i < its.length := by simpa using h1
    rw [List.getElem?_eq_getElem h1'] <;> simp
  have g2 : its2[i]? = some its2.toArray[i] := by
    have h2' : i < its2.length := by simpa using h2
    rw [List.getElem?_eq_getElem h2'] <;> simp
  have k1 : i < xs.length := by rw [r.length]; simpa using h1
  have k2 : i < ys.length := by rw [r2.length]; simpa using h2
  obtain ⟨u, hu, ru⟩ := r.get (List.getElem?_eq_getElem k1)
  obtain ⟨v, hv, rv⟩ := r2.get (List.getElem?_eq_getElem k2)
  rw [g1] at hu
  rw [g2] at hv
  rw [Option.some.inj hu, Option.some.inj hv]
  obtain ⟨d, hd, od⟩ := ohAll_get ds xs i _ p (List.getElem?_eq_getElem k1)
  obtain ⟨e, he, oe⟩ := ohAll_get es ys i _ q (List.getElem?_eq_getElem k2)
  have n1 := need_get (cl := cl) ds i d hd
  have n2 := need_get (cl := cl) es i e he
  refine wpAny_mono (h i d e hd he A.in1 pins s' σ H1 _ _ u v (sb.in1.mono (by omega)) I1 ru rv (Oh.ext e1 _ _ od) (Oh.ext e1 _ _ oe) (okAll_get ds i d oD hd) (okAll_get es i e oE he)) (fun r s2 q => ?_) fun _ _ x => x
  obtain ⟨hr, H2, I2, e2⟩ := q
  exact ⟨hr.trans (hc i d e hd he).symm, H2, I2, e1.trans e2⟩
/-- the answers of the pairs -/
def pairs (ds es : List OD) (i : Nat) : Bool := match ds[i]?, es[i]? with
  | some d, some e => eqo d e
  | _, _ => false
theorem pairs_eq {ds es : List OD} {i : Nat} {d e : OD} (h1 : ds[i]? = some d) (h2 : es[i]? = some e) : pairs ds es i = eqo d e := by unfold pairs; rw [h1, h2]
theorem rcOD_tup {ds es : List OD} (h : ∀ (i : Nat) (d e : OD), ds[i]? = some d → es[i]? = some e → EqOD X cl S d e) : RcOD X cl S (.tup ds) (.tup es) := by
  intro A pins s σ H x y u v sb I rx ry hd he oD oE
  obtain ⟨a, xs, rfl, ha, p⟩ := hd
  obtain ⟨b, ys, rfl, hb, q⟩ := he
  cases rx
  cases ry
  obtain ⟨its, r, e, z⟩ := I.tuple ha
  obtain ⟨its2, r2, e2, z2⟩ := I.tuple hb
  have sb' : Sub X (max (needAll cl ds) (needAll cl es) + 1) A := sb.mono (by show _ ≤ max (needAll cl ds + 1) (needAll cl es + 1); omega)
  have z1 : GQ.allEq its.toArray.size its2.toArray.size (pairs ds es) = eqo (.tup ds) (.tup es) := by
    rw [List.size_toArray, List.size_toArray, ← r.length, ← r2.length, ← OhAll.length ds xs p, ← OhAll.length es ys q]
    exact allEq_eqo ds es _ fun i d c h1 h2 => pairs_eq h1 h2
  exact GQ.rc_tupB sb.room.units0 (fun _ s' => LoopI X pins σ H s') e e2 (fun i h1 h2 s' l => turnOD h sb' p q oD oE r r2 (pairs ds es) (fun i d c h1 h2 => pairs_eq h1 h2) i h1 h2 s' l) (fun i s' l => by rw [z1]; exact ⟨rfl, l⟩) ⟨H, I, Ext.rfl'⟩
theorem rcOD_lst {ds es : List OD} (h : ∀ (i : Nat) (d e : OD), ds[i]? = some d → es[i]? = some e → EqOD X cl S d e) : RcOD X cl S (.lst ds) (.lst es) := by
  intro A pins s σ H x y u v sb I rx ry hd he oD oE
  obtain ⟨a, xs, rfl, ha, p⟩ := hd
  obtain ⟨b, ys, rfl, hb, q⟩ := he
  cases rx
  cases ry
  have sb' : Sub X (max (needAll cl ds) (needAll cl es) + 1) A := sb.mono (by show _ ≤ max (needAll cl ds + 1) (needAll cl es + 1); omega)
  have l1 := OhAll.length ds xs p
  have l2 := OhAll.length es ys q
  by_cases hl : ds.length = es.length
  · have z1 : (List.range ds.length).all (pairs ds es) = eqo (.lst ds) (.lst es) := by
      have := allEq_eqo ds es (pairs ds es) fun i d c h1 h2 => pairs_eq h1 h2
      unfold GQ.allEq at this
      rw [show eqo (.lst ds) (.lst es) = eqoAll ds es from rfl, ← this, ← hl]
      simp
    refine GQ.rc_listB (N := ds.length) (e := pairs ds es) sb.room.units0 (fun _ s' => LoopI X pins σ H s') (fun i s' l => ?_) (fun i s' l => by rw [z1]; exact ⟨rfl, l⟩) ⟨H, I, Ext.rfl'⟩
    obtain ⟨H1, I1, e1⟩ := id l
    obtain ⟨z, its, k, r, e⟩ := I1.hok a _ (e1 _ _ ha)
    obtain ⟨z2, its2, k2, r2, e2⟩ := I1.hok b _ (e1 _ _ hb)
    refine ⟨its.toArray, its2.toArray, k, k2, e, e2, by rw [List.size_toArray, ← r.length, l1], by rw [List.size_toArray, ← r2.length, hl, l2], fun h1 h2 => ?_⟩
    exact turnOD h sb' p q oD oE r r2 (pairs ds es) (fun i d c h1 h2 => pairs_eq h1 h2) i h1 h2 s' l
  · obtain ⟨z, its, k, r, e⟩ := I.hok a _ ha
    obtain ⟨z2, its2, k2, r2, e2⟩ := I.hok b _ hb
    have z1 : eqo (.lst ds) (.lst es) = false := by
      have := allEq_eqo ds es (pairs ds es) fun i d c h1 h2 => pairs_eq h1 h2
      unfold GQ.allEq at this
      rw [show eqo (.lst ds) (.lst es) = eqoAll ds es from rfl, ← this]
      simp [hl]
    rw [z1]
    exact SeqAt.RcAt.lists_lengths ⟨_, e, rfl, _, rfl⟩ ⟨_, e2, rfl, _, rfl⟩ (by rw [List.size_toArray, List.size_toArray, ← r.length, ← r2.length, ← l1, ← l2]; simpa using hl) sb.room.units0 X.prog X.w X.xe _ ⟨rfl, H, I, Ext.rfl'⟩
theorem eqOD_ref (W : OwnCls X.K cl S) {d e : OD} (h : RcOD X cl S d e) (hd : ∀ H x, Oh X.K cl H d x → ∃ a, x = .ref a) (he : ∀ H x, Oh X.K cl H e x → ∃ a, x = .ref a) : EqOD X cl S d e := by
  intro A pins s σ H x y u v sb I rx ry od oe oD oE
  obtain ⟨a, rfl⟩ := hd _ _ od
  obtain ⟨b, rfl⟩ := he _ _ oe
  cases rx
  cases ry
  by_cases hab : a = b
  · subst hab
    have e1 := eqo_same W I d e _ od oe oD oE
    exact SeqAt.EqAt.same (A := A) (s := s) (.ref a) X.prog X.w X.xe _ ⟨e1.symm, H, I, Ext.rfl'⟩
  · refine GQ.eqBool_refG hab (wpAny_mono (h A pins s σ H (.ref a) (.ref b) _ _ sb I rfl rfl od oe oD oE) (fun r s' q => ?_) fun _ _ x => x)
    obtain ⟨hr', q⟩ := q
    exact ⟨_, hr', rfl, q⟩
theorem oh_tup_ref {K : PySem.W.Frag} {ds : List OD} (H : Hp) (x : V) (h : Oh K cl H (.tup ds) x) : ∃ a, x = .ref a := let ⟨a, _, e, _⟩ := h; ⟨a, e⟩
theorem oh_lst_ref {K : PySem.W.Frag} {ds : List OD} (H : Hp) (x : V) (h : Oh K cl H (.lst ds) x) : ∃ a, x = .ref a := let ⟨a, _, e, _⟩ := h; ⟨a, e⟩
theorem oh_obj_ref {K : PySem.W.Frag} {k : Nat} {ds : List OD} (H : Hp) (x : V) (h : Oh K cl H (.obj k ds) x) : ∃ a, x = .ref a := let ⟨a, _, _, _, e, _⟩ := h; ⟨a, e⟩
theorem eqo_fl_tup {w : V} {ds : List OD} : eqo (.fl w) (.tup ds) = false := by rw [eqo]; all_goals simp
theorem eqo_tup_fl {w : V} {ds : List OD} : eqo (.tup ds) (.fl w) = false := by rw [eqo]; all_goals simp
theorem eqo_fl_lst {w : V} {ds : List OD} : eqo (.fl w) (.lst ds) = false := by rw [eqo]; all_goals simp
theorem eqo_lst_fl {w : V} {ds : List OD} : eqo (.lst ds) (.fl w) = false := by rw [eqo]; all_goals simp
theorem eqo_tup_lst {es ds : List OD} : eqo (.tup ds) (.lst es) = false := by rw [eqo]; all_goals simp
theorem eqo_lst_tup {es ds : List OD} : eqo (.lst ds) (.tup es) = false := by rw [eqo]; all_goals simp
theorem eqBool_no {P : Program} {w : World} {A : Around} {E : Value → Shared → Prop} {s : Shared} {u v : Value} {Q : Bool → Shared → Prop} (hn : (u == v) = false) (hf : ∀ x t, u ≠ .float x t) (h : wpAny (model P w) A (richCompare .Eq u v) (fun v s' => ∃ r, v = .bool r ∧ Q r s') E s) : wpAny (model P w) A (eqBool u v) Q E s := by
  unfold eqBool
  refine wpAny_holding ?_
  refine wpAny_ite_split (fun hab => absurd hab (by rw [hn]; exact Bool.false_ne_true)) (fun _ => ?_)
  have fin : wpAny (model P w) A (richCompare .Eq u v >>= truthOfDropped) Q E s := by
    refine wpAny_bind (wpAny_mono h (fun v s' hv => ?_) fun _ _ x => x)
    obtain ⟨r, rfl, q⟩ := hv
    exact wpAny_truthy_bool q
  cases u with
  | float x t => exact absurd rfl (hf x t)
  | _ => exact fin
theorem flat_ne_ref {x : V} {u : Value} {a : Addr} (h : flatV x = true) (r : RelV x u) : (u == .ref a) = false ∧ (Value.ref a == u) = false ∧ ∀ x t, u ≠ .float x t := by
  cases x with
  | non => cases r; exact ⟨rfl, rfl, nofun⟩
  | bl b => cases r; exact ⟨rfl, rfl, nofun⟩
  | int b => obtain ⟨t, rfl⟩ := r; exact ⟨rfl, rfl, nofun⟩
  | str b => obtain ⟨t, rfl⟩ := r; exact ⟨rfl, rfl, nofun⟩
  | _ => cases h
theorem flat_tup {x : V} {u : Value} (h : flatV x = true) (r : RelV x u) {A : Around} {s : Shared} {b : Addr} {items : Array Value} (ht : s.heap.IsTuple b items) (hu : A.units < cLine) : SeqAt.EqAt A s u (.ref b) false ∧ SeqAt.EqAt A s (.ref b) u false := by
  cases x with
  | non => cases r; exact ⟨SeqAt.EqAt.none_tuple ht hu, SeqAt.EqAt.tuple_none ht hu⟩
  | bl b => cases r; exact ⟨SeqAt.EqAt.bool_tuple b ht hu, SeqAt.EqAt.tuple_bool b ht hu⟩
  | int b => obtain ⟨t, rfl⟩ := r; exact ⟨SeqAt.EqAt.int_tuple b t ht hu, SeqAt.EqAt.tuple_int b t ht hu⟩
  | str b => obtain ⟨t, rfl⟩ := r; exact ⟨SeqAt.EqAt.str_tuple b t ht hu, SeqAt.EqAt.tuple_str b t ht hu⟩
  | _ => cases h
theorem flat_lst {x : V} {u : Value} (h : flatV x = true) (r : RelV x u) {A : Around} {s : Shared} {b : Addr} {items : Array Value} (ht : s.heap.IsList b items) (hu : A.units < cLine) : SeqAt.EqAt A s u (.ref b) false ∧ SeqAt.EqAt A s (.ref b) u false := by
  cases x with
  | non => cases r; exact ⟨SeqAt.EqAt.none_list ht hu, SeqAt.EqAt.list_none ht hu⟩
  | bl b => cases r; exact ⟨SeqAt.EqAt.bool_list b ht hu, SeqAt.EqAt.list_bool b ht hu⟩
  | int b => obtain ⟨t, rfl⟩ := r; exact ⟨SeqAt.EqAt.int_list b t ht hu, SeqAt.EqAt.list_int b t ht hu⟩
  | str b => obtain ⟨t, rfl⟩ := r; exact ⟨SeqAt.EqAt.str_list b t ht hu, SeqAt.EqAt.list_str b t ht hu⟩
  | _ => cases h
theorem eq_fl_fl (v w : V) : EqOD X cl S (.fl v) (.fl w) := by
  intro A pins s σ H x y u u' sb I rx ry od oe oD oE
  obtain ⟨rfl, h⟩ := od
  obtain ⟨rfl, h'⟩ := oe
  exact eqAt_V (A := A) (s := s) rx ry h h' X.prog X.w X.xe _ ⟨rfl, H, I, Ext.rfl'⟩
theorem eq_fl_tup (v : V) (ds : List OD) : EqOD X cl S (.fl v) (.tup ds) ∧ EqOD X cl S (.tup ds) (.fl v) := by
  refine ⟨fun A pins s σ H x y u u' sb I rx ry od oe oD oE => ?_, fun A pins s σ H x y u u' sb I rx ry oe od oE oD => ?_⟩
  · obtain ⟨rfl, h⟩ := od
    obtain ⟨b, ys, rfl, hb, q⟩ := oe
    cases ry
    obtain ⟨its, r, e, z⟩ := I.tuple hb
    exact (flat_tup h rx e sb.room.units0).1 X.prog X.w X.xe _ ⟨eqo_fl_tup.symm, H, I, Ext.rfl'⟩
  · obtain ⟨rfl, h⟩ := od
    obtain ⟨b, ys, rfl, hb, q⟩ := oe
    cases rx
    obtain ⟨its, r, e, z⟩ := I.tuple hb
    exact (flat_tup h ry e sb.room.units0).2 X.prog X.w X.xe _ ⟨eqo_tup_fl.symm, H, I, Ext.rfl'⟩
theorem eq_fl_lst (v : V) (ds : List OD) : EqOD X cl S (.fl v) (.lst ds) ∧ EqOD X cl S (.lst ds) (.fl v) := by
  refine ⟨fun A pins s σ H x y u u' sb I rx ry od oe oD oE => ?_, fun A pins s σ H x y u u' sb I rx ry oe od oE oD => ?_⟩
  · obtain ⟨rfl, h⟩ := od
    obtain ⟨b, ys, rfl, hb, q⟩ := oe
    cases ry
    obtain ⟨z, its, n, r, e⟩ := I.hok _ _ hb
    exact (flat_lst h rx ⟨_, e, rfl, _, rfl⟩ sb.room.units0).1 X.prog X.w X.xe _ ⟨eqo_fl_lst.symm, H, I, Ext.rfl'⟩
  · obtain ⟨rfl, h⟩ := od
    obtain ⟨b, ys, rfl, hb, q⟩ := oe
    cases rx
    obtain ⟨z, its, n, r, e⟩ := I.hok _ _ hb
    exact (flat_lst h ry ⟨_, e, rfl, _, rfl⟩ sb.room.units0).2 X.prog X.w X.xe _ ⟨eqo_lst_fl.symm, H, I, Ext.rfl'⟩
theorem eq_tup_lst (ds es : List OD) : EqOD X cl S (.tup ds) (.lst es) ∧ EqOD X cl S (.lst es) (.tup ds) := by
  refine ⟨fun A pins s σ H x y u u' sb I rx ry od oe oD oE => ?_, fun A pins s σ H x y u u' sb I rx ry oe od oE oD => ?_⟩
  · obtain ⟨a, xs, rfl, ha, _⟩ := od
    obtain ⟨b, ys, rfl, hb, q⟩ := oe
    cases rx
    cases ry
    obtain ⟨its, r, t, z⟩ := I.tuple ha
    obtain ⟨z, its, n, r, e⟩ := I.hok _ _ hb
    exact SeqAt.EqAt.tuple_list t ⟨_, e, rfl, _, rfl⟩ sb.room.units0 X.prog X.w X.xe _ ⟨eqo_tup_lst.symm, H, I, Ext.rfl'⟩
  · obtain ⟨a, xs, rfl, ha, _⟩ := od
    obtain ⟨b, ys, rfl, hb, q⟩ := oe
    cases rx
    cases ry
    obtain ⟨its, r, t, z⟩ := I.tuple ha
    obtain ⟨z, its, n, r, e⟩ := I.hok _ _ hb
    exact SeqAt.EqAt.list_tuple ⟨_, e, rfl, _, rfl⟩ t sb.room.units0 X.prog X.w X.xe _ ⟨eqo_lst_tup.symm, H, I, Ext.rfl'⟩
theorem rc_obj (W : OwnCls X.K cl S) (G : OwnGives X cl S) (k : Nat) (ds : List OD) (e : OD) : RcOD X cl S (.obj k ds) e :=
  fun A pins s σ H x y u v sb I rx ry od oe oD oE => rcB_objL W G (sb.mono (Nat.le_max_left _ _)) I rx ry od oe oD oE
theorem rc_flObj (W : OwnCls X.K cl S) (G : OwnGives X cl S) (k : Nat) (ds : List OD) (w : V) : RcOD X cl S (.fl w) (.obj k ds) :=
  fun A pins s σ H x y u v sb I rx ry od oe oD oE => rcB_flObj W G (sb.mono (Nat.le_max_right _ _)) I rx ry od oe oE
theorem rc_tupObj (W : OwnCls X.K cl S) (G : OwnGives X cl S) (k : Nat) (ds es : List OD) : RcOD X cl S (.tup es) (.obj k ds) :=
  fun A pins s σ H x y u v sb I rx ry od oe oD oE => rcB_tupObj W G (sb.mono (Nat.le_max_right _ _)) I rx ry od oe oD oE
theorem rc_lstObj (W : OwnCls X.K cl S) (G : OwnGives X cl S) (k : Nat) (ds es : List OD) : RcOD X cl S (.lst es) (.obj k ds) :=
  fun A pins s σ H x y u v sb I rx ry od oe oD oE => rcB_lstObj W G (sb.mono (Nat.le_max_right _ _)) I rx ry od oe oD oE
theorem eq_of_rc_fl {k : Nat} {ds : List OD} {w : V} (h1 : RcOD X cl S (.fl w) (.obj k ds)) (h2 : RcOD X cl S (.obj k ds) (.fl w)) : EqOD X cl S (.fl w) (.obj k ds) ∧ EqOD X cl S (.obj k ds) (.fl w) := by
  refine ⟨fun A pins s σ H x y u u' sb I rx ry od oe oD oE => ?_, fun A pins s σ H x y u u' sb I rx ry od oe oD oE => ?_⟩
  · have q := h1 A pins s σ H x y u u' sb I rx ry od oe oD oE
    obtain ⟨rfl, h⟩ := od
    obtain ⟨a, rfl⟩ := oh_obj_ref _ _ oe
    cases ry
    obtain ⟨n1, n2, n3⟩ := flat_ne_ref (a := a) h rx
    exact eqBool_no n1 n3 (wpAny_mono q (fun r s' z => ⟨_, z.1, rfl, z.2⟩) fun _ _ x => x)
  · have q := h2 A pins s σ H x y u u' sb I rx ry od oe oD oE
    obtain ⟨rfl, h⟩ := oe
    obtain ⟨a, rfl⟩ := oh_obj_ref _ _ od
    cases rx
    obtain ⟨n1, n2, n3⟩ := flat_ne_ref (a := a) h ry
    exact eqBool_no n2 nofun (wpAny_mono q (fun r s' z => ⟨_, z.1, rfl, z.2⟩) fun _ _ x => x)
mutual
theorem eqOD (W : OwnCls X.K cl S) (G : OwnGives X cl S) : ∀ (d e : OD), EqOD X cl S d e
  | .fl v, .fl w => eq_fl_fl v w
  | .fl v, .tup ds => (eq_fl_tup v ds).1
  | .fl v, .lst ds => (eq_fl_lst v ds).1
  | .fl v, .obj k ds => (eq_of_rc_fl (rc_flObj W G k ds v) (rc_obj W G k ds (.fl v))).1
  | .tup ds, .fl v => (eq_fl_tup v ds).2
  | .lst ds, .fl v => (eq_fl_lst v ds).2
  | .obj k ds, .fl v => (eq_of_rc_fl (rc_flObj W G k ds v) (rc_obj W G k ds (.fl v))).2
  | .tup ds, .lst es => (eq_tup_lst ds es).1
  | .lst ds, .tup es => (eq_tup_lst es ds).2
  | .tup ds, .obj k es => eqOD_ref W (rc_tupObj W G k es ds) oh_tup_ref oh_obj_ref
  | .lst ds, .obj k es => eqOD_ref W (rc_lstObj W G k es ds) oh_lst_ref oh_obj_ref
  | .obj k es, .tup ds => eqOD_ref W (rc_obj W G k es (.tup ds)) oh_obj_ref oh_tup_ref
  | .obj k es, .lst ds => eqOD_ref W (rc_obj W G k es (.lst ds)) oh_obj_ref oh_lst_ref
  | .obj k es, .obj l ds => eqOD_ref W (rc_obj W G k es (.obj l ds)) oh_obj_ref oh_obj_ref
  | .tup ds, .tup es => eqOD_ref W (rcOD_tup (eqODs W G ds es)) oh_tup_ref oh_tup_ref
  | .lst ds, .lst es => eqOD_ref W (rcOD_lst (eqODs W G ds es)) oh_lst_ref oh_lst_ref
theorem eqODs (W : OwnCls X.K cl S) (G : OwnGives X cl S) : ∀ (ds es : List OD) (i : Nat) (d e : OD), ds[i]? = some d → es[i]? = some e → EqOD X cl S d e
  | x :: xs, y :: ys, 0, d, e, h1, h2 => by
    have q := eqOD W G x y
    simp at h1 h2
    subst h1 h2
    exact q
  | x :: xs, y :: ys, i + 1, d, e, h1, h2 => eqODs W G xs ys i d e (by simpa using h1) (by simpa using h2)
  | [], es, i, d, e, h1, h2 => by simp at h1
  | x :: xs, [], i, d, e, h1, h2 => by simp at h2
end
end
end L2
set_option linter.all false
namespace PySem.W
open PyProof.Rows Builtin
section
variable {prog : Program} {w : World} {A : Around} {E : Value → Shared → Prop} {s : Shared} {K : Frag} {x C L f : Addr} {h₀ : Heap} {m : Str → Option Value} {ox : Obj} {od : Option Obj} {b tb : Value}
theorem ifBound_objNe {M : Model} {args : List Value} {Q : Option Value → Shared → Prop} (X : K.In s.heap) (I : InstAt s.heap x ox C od) (hs : findIn K (.ref C) "__ne__" = some (some (.builtin "object.__ne__")))
    (h : wpAny M A (call (.builtin "object.__ne__") (.ref x :: args)) (fun v => Q (some v)) E s) : wpAny M A (callSpecialIfBound? (.ref x) "__ne__" args) Q E s := by
  simp only [callSpecialIfBound?, bindSpecialIfBound?]
  refine wpAny_holding (wpAny_bind (wpAny_bind (wpAny_bind (I.type.here ((looks_findIn X hs).here ?_)))))
  refine wpAny_bind (wpAny_askSetting (wpAny_ite ?_))
  have fin : wpAny M A (call (.builtin "object.__ne__") ([.ref x] ++ args) >>= fun v => pure (some v)) Q E s := wpAny_bind (wpAny_mono h (fun v s' h' => wpAny_pure h') fun _ _ h' => h')
  split
  · exact wpAny_bind (wpAny_of_eq (F.cmp_object.ne.bind _) (wpAny_pure (by exact fin)))
  · exact wpAny_tryCatch (wpAny_bind (wpAny_of_eq (F.cmp_object.ne.bind _) (wpAny_pure (by exact fin))))
theorem objNe_entry {Q : Fin → Shared → Prop} (X : K.In s.heap) (I : InstAt s.heap x ox C od) (he : findIn K (.ref C) "__eq__" = some (some (.ref f))) (hf : isFn K (.ref f) = true) (hu : A.units < cLine)
    (hcall : wpAny (model prog w) A (call (.ref f) [.ref x, b]) (fun v s' => ∃ b, v = .bool b ∧ Q (.done (.ret (.bool (!b)))) s') E s) :
    wpAny (model prog w) A (Builtin.«object.__ne__» ⟨[.ref x, b], []⟩) Q E s := by
  unfold Builtin.«object.__ne__»
  repeat (first
    | with_reducible refine wpAny_cRoomFor hu ?_
    | (refine wpAny_bind (m := callSpecialIfBound? (.ref x) (Str.ofString "__eq__") [b])
        (ifBound_K X I he hf (wpAny_mono hcall (fun v s' hr => by
          obtain ⟨b, rfl, hq⟩ := hr
          repeat (first | exact hq | exact wpAny_pure hq | exact wpAny_truthy_bool hq | (refine wpAny_bind (m := truthy (.bool _)) (wpAny_truthy_bool ?_)) | wp_step)) fun _ _ e => e)))
    | wp_step)
/-- x != b, x an object with an own == and no != -/
theorem ne_K {Q : Value → Shared → Prop} (hu : A.units + 1 < cLine) (F0 : Fr h₀ L s.heap m) (X₀ : K.In h₀) (I : InstAt s.heap x ox C od) (hb : Looks (model prog w) s.heap (typeOf b) tb) (hn : notFirst K C tb = true)
    (hm : mroIn K C (.type "object") = some true) (hs : findIn K (.ref C) "__ne__" = some (some (.builtin "object.__ne__"))) (he : findIn K (.ref C) "__eq__" = some (some (.ref f))) (hf : isFn K (.ref f) = true)
    (h : wpAny (model prog w) A.in1 (call (.ref f) [.ref x, b]) (fun v s' => ∃ k, v = .bool k ∧ Q (.bool (!k)) s') E s) : wpAny (model prog w) A (richCompare .NotEq (.ref x) b) Q E s := by
  have X := X₀.keeps F0.keep
  have one : wpAny (model prog w) A (tryCompare (.ref x) (cmpInfo .NotEq).2.1 b) (fun r s' => ∃ v, r = some v ∧ Q v s') E s := by
    unfold tryCompare
    refine wpAny_bind (ifBound_objNe X I hs ?_)
    refine wpAny_call (codeAny_call_builtin F.cmp_object.ne.plain F.cmpEntry_ne (check_slot F.cmpKind_ne F.cmpSplit_ne (I.type.andThen (looks_mroIn X hm)) (F.cmpArgs_ne _ _) ?_))
    refine objNe_entry (A := A.in1) X I he hf (by show A.units + 1 < cLine; exact hu) (wpAny_mono h (fun v s' hv => ?_) fun _ _ e => e)
    obtain ⟨k, rfl, hq⟩ := hv
    first | exact ⟨k, rfl, wpAny_pure ⟨_, rfl, hq⟩⟩ | exact ⟨k, rfl, ⟨_, rfl, hq⟩⟩
  unfold richCompare
  simp only [oneThing_ref]
  refine wpAny_holding (wpAny_bind (wpAny_cRoomFor (Nat.lt_of_succ_lt hu) ?_))
  refine wpAny_bind (I.type.here (wpAny_bind (hb.here ?_)))
  split
  · rename_i q
    have e : subIn K tb (.ref C) = some false := by
      rcases Bool.or_eq_true_iff.mp hn with e | e
      · rw [beq_iff_eq.mp e] at q; simp at q
      · exact beq_iff_eq.mp e
    refine wpAny_bind ((looks_subIn X e).here ?_)
    simp only [Bool.false_eq_true, if_false]
    refine wpAny_bind (wpAny_mono one (fun r s' z => ?_) fun _ _ e => e)
    obtain ⟨v, rfl, hq⟩ := z
    exact wpAny_pure hq
  · refine wpAny_bind (wpAny_pure ?_)
    simp only [Bool.false_eq_true, if_false]
    refine wpAny_bind (wpAny_mono one (fun r s' z => ?_) fun _ _ e => e)
    obtain ⟨v, rfl, hq⟩ := z
    exact wpAny_pure hq
end
end PySem.W
namespace L2
open PySem PySem.Spec PyProof.Rows
section
variable {cl : Nat → OCls} {S : Nat → List OD → Prop} {X : Cx}
theorem rc_flat {A : Around} {s : Shared} {y x : V} {u v : Value} (ry : RelV y u) (rx : RelV x v) (fy : flatV y = true) (fx : flatV x = true) : SeqAt.RcAt A s u v (eqV y x) := by
  cases y with
  | non =>
    cases ry
    cases x with
    | non => cases rx; exact SeqAt.RcAt.none_none
    | bl b => cases rx; exact SeqAt.RcAt.none_bool b
    | int b => obtain ⟨t, rfl⟩ := rx; exact SeqAt.RcAt.none_int b t
    | str b => obtain ⟨t, rfl⟩ := rx; exact SeqAt.RcAt.none_str b t
    | _ => cases fx
  | bl a =>
    cases ry
    cases x with
    | non => cases rx; exact SeqAt.RcAt.bool_none a
    | bl b => cases rx; exact SeqAt.RcAt.bool_bool a b
    | int b => obtain ⟨t, rfl⟩ := rx; exact SeqAt.RcAt.bool_int a b t
    | str b => obtain ⟨t, rfl⟩ := rx; exact SeqAt.RcAt.bool_str a b t
    | _ => cases fx
  | int a =>
    obtain ⟨ta, rfl⟩ := ry
    cases x with
    | non => cases rx; exact SeqAt.RcAt.int_none a ta
    | bl b => cases rx; exact SeqAt.RcAt.int_bool a ta b
    | int b => obtain ⟨t, rfl⟩ := rx; exact SeqAt.RcAt.int_int a ta b t
    | str b => obtain ⟨t, rfl⟩ := rx; exact SeqAt.RcAt.int_str a ta b t
    | _ => cases fx
  | str a =>
    obtain ⟨ta, rfl⟩ := ry
    cases x with
    | non => cases rx; exact SeqAt.RcAt.str_none a ta
    | bl b => cases rx; exact SeqAt.RcAt.str_bool a ta b
    | int b => obtain ⟨t, rfl⟩ := rx; exact SeqAt.RcAt.str_int a ta b t
    | str b => obtain ⟨t, rfl⟩ := rx; exact SeqAt.RcAt.str_str a ta b t
    | _ => cases fx
  | _ => cases fy
theorem rc_flTup {x : V} {u : Value} (h : flatV x = true) (r : RelV x u) {A : Around} {s : Shared} {b : Addr} {items : Array Value} (ht : s.heap.IsTuple b items) (hu : A.units < cLine) : SeqAt.RcAt A s u (.ref b) false ∧ SeqAt.RcAt A s (.ref b) u false := by
  cases x with
  | non => cases r; exact ⟨SeqAt.RcAt.none_tuple ht hu, SeqAt.RcAt.tuple_none ht hu⟩
  | bl b => cases r; exact ⟨SeqAt.RcAt.bool_tuple b ht hu, SeqAt.RcAt.tuple_bool b ht hu⟩
  | int b => obtain ⟨t, rfl⟩ := r; exact ⟨SeqAt.RcAt.int_tuple b t ht hu, SeqAt.RcAt.tuple_int b t ht hu⟩
  | str b => obtain ⟨t, rfl⟩ := r; exact ⟨SeqAt.RcAt.str_tuple b t ht hu, SeqAt.RcAt.tuple_str b t ht hu⟩
  | _ => cases h
/-- == of the two sides, where no list is -/
def noLst : OD → Prop
  | .lst _ => False
  | _ => True
theorem rcOD (W : OwnCls X.K cl S) (G : OwnGives X cl S) : ∀ (d e : OD), noLst d → noLst e → RcOD X cl S d e
  | .fl v, .fl w, _, _ => fun A pins s σ H x y u u' sb I rx ry od oe oD oE => by
    obtain ⟨rfl, h⟩ := od
    obtain ⟨rfl, h'⟩ := oe
    exact rc_flat (A := A) (s := s) rx ry h h' X.prog X.w X.xe _ ⟨rfl, H, I, Ext.rfl'⟩
  | .fl v, .tup ds, _, _ => fun A pins s σ H x y u u' sb I rx ry od oe oD oE => by
    obtain ⟨rfl, h⟩ := od
    obtain ⟨b, ys, rfl, hb, q⟩ := oe
    cases ry
    obtain ⟨its, r, e, z⟩ := I.tuple hb
    rw [eqo_fl_tup]
    exact (rc_flTup h rx e sb.room.units0).1 X.prog X.w X.xe _ ⟨rfl, H, I, Ext.rfl'⟩
  | .tup ds, .fl v, _, _ => fun A pins s σ H x y u u' sb I rx ry oe od oE oD => by
    obtain ⟨rfl, h⟩ := od
    obtain ⟨b, ys, rfl, hb, q⟩ := oe
    cases rx
    obtain ⟨its, r, e, z⟩ := I.tuple hb
    rw [eqo_tup_fl]
    exact (rc_flTup h ry e sb.room.units0).2 X.prog X.w X.xe _ ⟨rfl, H, I, Ext.rfl'⟩
  | .fl v, .obj k ds, _, _ => rc_flObj W G k ds v
  | .tup ds, .obj k es, _, _ => rc_tupObj W G k es ds
  | .obj k es, e, _, _ => rc_obj W G k es e
  | .tup ds, .tup es, _, _ => rcOD_tup (eqODs W G ds es)
  | .lst _, _, h, _ => h.elim
  | .fl _, .lst _, _, h => h.elim
  | .tup _, .lst _, _, h => h.elim
def rEqO (K : PySem.W.Frag) (cl : Nat → OCls) (S : Nat → List OD → Prop) (n : Nat) : R2 := fun x y H Q => ∃ d e, Oh K cl H d x ∧ Oh K cl H e y ∧ okO S d ∧ okO S e ∧ need cl d ≤ n ∧ need cl e ≤ n ∧ noLst d ∧ noLst e ∧ ∀ H', Ext H H' → Q (.bl (eqo d e)) H'
theorem op_eqO (W : OwnCls X.K cl S) (G : OwnGives X cl S) {n : Nat} (hr : Room n X.A) : OpR X (compareOp .Eq) (rEqO X.K cl S n) := by
  intro pins s σ H x y v u Q I rx ry h
  obtain ⟨d, e, hd, he, oD, oE, n1, n2, l1, l2, q⟩ := h
  show wpAny (model X.prog X.w) X.A (richCompare .Eq v u) (EP X pins σ Q) X.xe s
  refine wpAny_mono (rcOD W G d e l1 l2 X.A pins s σ H x y v u ⟨hr.mono (by omega), rfl⟩ I rx ry hd he oD oE) (fun r s' z => ?_) fun _ _ x => x
  obtain ⟨rfl, H', I', e'⟩ := z
  exact ⟨.bl _, H', I', rfl, q H' e'⟩
/-- two lists -/
def rEqOL (K : PySem.W.Frag) (cl : Nat → OCls) (S : Nat → List OD → Prop) (n : Nat) : R2 := fun x y H Q => ∃ ds es, Oh K cl H (.lst ds) x ∧ Oh K cl H (.lst es) y ∧ okAll S ds ∧ okAll S es ∧ needAll cl ds + 1 ≤ n ∧ needAll cl es + 1 ≤ n ∧ ∀ H', Ext H H' → Q (.bl (eqoAll ds es)) H'
theorem op_eqOL (W : OwnCls X.K cl S) (G : OwnGives X cl S) {n : Nat} (hr : Room n X.A) : OpR X (compareOp .Eq) (rEqOL X.K cl S n) := by
  intro pins s σ H x y v u Q I rx ry h
  obtain ⟨ds, es, hd, he, oD, oE, n1, n2, q⟩ := h
  show wpAny (model X.prog X.w) X.A (richCompare .Eq v u) (EP X pins σ Q) X.xe s
  refine wpAny_mono (rcOD_lst (eqODs W G ds es) X.A pins s σ H x y v u ⟨hr.mono (by show max (needAll cl ds + 1) (needAll cl es + 1) ≤ n; omega), rfl⟩ I rx ry hd he oD oE) (fun r s' z => ?_) fun _ _ x => x
  obtain ⟨rfl, H', I', e'⟩ := z
  exact ⟨.bl _, H', I', rfl, q H' e'⟩
/-- != of two tuples -/
def rNeOT (K : PySem.W.Frag) (cl : Nat → OCls) (S : Nat → List OD → Prop) (n : Nat) : R2 := fun x y H Q => ∃ ds es, Oh K cl H (.tup ds) x ∧ Oh K cl H (.tup es) y ∧ okAll S ds ∧ okAll S es ∧ needAll cl ds + 1 ≤ n ∧ needAll cl es + 1 ≤ n ∧ ∀ H', Ext H H' → Q (.bl (!eqoAll ds es)) H'
theorem op_neOT (W : OwnCls X.K cl S) (G : OwnGives X cl S) {n : Nat} (hr : Room n X.A) : OpR X (compareOp .NotEq) (rNeOT X.K cl S n) := by
  intro pins s σ H x y v u Q I rx ry h
  obtain ⟨ds, es, hd, he, oD, oE, n1, n2, q⟩ := h
  obtain ⟨a, xs, rfl, ha, p⟩ := hd
  obtain ⟨b, ys, rfl, hb, q'⟩ := he
  cases rx
  cases ry
  obtain ⟨its, r, e, z⟩ := I.tuple ha
  obtain ⟨its2, r2, e2, z2⟩ := I.tuple hb
  have sb' : Sub X (max (needAll cl ds) (needAll cl es) + 1) X.A := ⟨hr.mono (by omega), rfl⟩
  have z1 : GQ.allEq its.toArray.size its2.toArray.size (pairs ds es) = eqoAll ds es := by
    rw [List.size_toArray, List.size_toArray, ← r.length, ← r2.length, ← OhAll.length ds xs p, ← OhAll.length es ys q']
    exact allEq_eqo ds es _ fun i d c h1 h2 => pairs_eq h1 h2
  show wpAny (model X.prog X.w) X.A (richCompare .NotEq (.ref a) (.ref b)) (EP X pins σ Q) X.xe s
  exact GQ.rc_tupNeB sb'.room.units0 (fun _ s' => LoopI X pins σ H s') e e2 (fun i h1 h2 s' l => turnOD (eqODs W G ds es) sb' p q' oD oE r r2 (pairs ds es) (fun i d c h1 h2 => pairs_eq h1 h2) i h1 h2 s' l)
    (fun i s' l => by rw [z1]; obtain ⟨H', I', e'⟩ := l; exact ⟨.bl _, H', I', rfl, q H' e'⟩) ⟨H, I, Ext.rfl'⟩
/-- what != asks of the class -/
structure NoNe (K : PySem.W.Frag) (C : Addr) : Prop where
  mo : PySem.W.mroIn K C (.type "object") = some true
  ne : PySem.W.findIn K (.ref C) "__ne__" = some (some (.builtin "object.__ne__"))
/-- != of an object with an own == and anything -/
def rNeOO (K : PySem.W.Frag) (cl : Nat → OCls) (S : Nat → List OD → Prop) (n : Nat) : R2 := fun x y H Q => ∃ k ds e, Oh K cl H (.obj k ds) x ∧ Oh K cl H e y ∧ okO S (.obj k ds) ∧ okO S e ∧ (cl k).lv ≤ n ∧ NoNe K (cl k).C ∧ ∀ H', Ext H H' → Q (.bl (!eqo (.obj k ds) e)) H'
theorem op_neOO (W : OwnCls X.K cl S) (G : OwnGives X cl S) {n : Nat} (hr : Room (n + 1) X.A) : OpR X (compareOp .NotEq) (rNeOO X.K cl S n) := by
  intro pins s σ H x y v u Q I rx ry h
  obtain ⟨k, ds, e, hd, he, oD, oE, n1, nn, q⟩ := h
  obtain ⟨a, dx, fs, xs, rfl, hi, hn, hq⟩ := id hd
  cases rx
  obtain ⟨_, O1, _⟩ := ins_get I.hok hi
  obtain ⟨o1, J1, _⟩ := O1.look
  obtain ⟨m, hF⟩ := I.fr
  obtain ⟨tb, L, hn⟩ := ty_looks W I ⟨_, oD.1⟩ ry he oE
  show wpAny (model X.prog X.w) X.A (richCompare .NotEq (.ref a) u) (EP X pins σ Q) X.xe s
  refine PySem.W.ne_K (tb := tb) (by have := hr.un; omega) hF I.ok.mod.kin J1 L hn nn.mo nn.ne (W.eqf k ⟨_, oD.1⟩) (W.isf k ⟨_, oD.1⟩) ?_
  refine wpAny_mono (G k ds oD.1 X.A.in1 pins s σ H a e y u ⟨hr.in1.mono n1, rfl⟩ I ry hd he oD.2 oE) (fun r s' z => ?_) fun _ _ e => e
  obtain ⟨rfl, H', I', e'⟩ := z
  exact ⟨_, rfl, .bl _, H', I', rfl, q H' e'⟩
end
end L2
namespace Kx
open PySem L2 PySem.Spec PyProof.Rows PySem.Froz
/-! sets of texts that can be walked and sorted -/
structure GoodX (P : Program) (w : World) (D : SD) (l : List Str) : Prop where
  tx : TxOk P w D l
  nd : l.Nodup
  ris : Ris D.2.2.place.toList
  led : w.params.followText "set-order" = true ∨ D.2.2.led = true
theorem tailTx_ris {ep : Nat} {es : Array (Int × Value)} {t : SetTable} {b : Bool} (r : Ris t.place.toList) : Ris (tailTx ep es t b).2.2.place.toList := by
  unfold tailTx
  by_cases c : (!b && t.tooFull) = true
  · rw [if_pos c]; exact relayAll_ris _ _ _
  · rw [if_neg c]; exact r
theorem tailTx_led {ep : Nat} {es : Array (Int × Value)} {t : SetTable} {b : Bool} : (tailTx ep es t b).2.2.led = t.led := by
  unfold tailTx
  by_cases c : (!b && t.tooFull) = true
  · rw [if_pos c]; exact relayAll_led _ _ _
  · rw [if_neg c]
theorem off_ris {t : SetTable} (r : Ris t.place.toList) : Ris (if t.plain = true then { t with plain := false } else t).place.toList := by
  by_cases c : t.plain = true
  · rw [if_pos c]; exact r
  · rw [if_neg c]; exact r
theorem off_led {t : SetTable} : (if t.plain = true then { t with plain := false } else t).led = t.led := by
  by_cases c : t.plain = true
  · rw [if_pos c]
  · rw [if_neg c]
theorem addTx_ris {hh : Int} {v : Value} {D : SD} (r : Ris D.2.2.place.toList) : Ris (addTx hh v D).2.2.place.toList := by
  unfold addTx
  exact tailTx_ris (off_ris (layNew_ris _ _ _ _ r))
theorem addTx_led {hh : Int} {v : Value} {D : SD} : (addTx hh v D).2.2.led = D.2.2.led := by
  unfold addTx
  rw [tailTx_led, off_led, layNew_led]
theorem GoodX.add {P : Program} {w : World} {D : SD} {l : List Str} {k : Str} (u : Tok) (G : GoodX P w D l) (hk : k ∉ l) : GoodX P w (addTx (hashStr w k) (.str k u) D) (k :: l) :=
  ⟨add_ok u G.tx, List.nodup_cons.mpr ⟨hk, G.nd⟩, addTx_ris G.ris, G.led.imp id fun z => by rw [addTx_led]; exact z⟩
section
variable {P : Program} {w : World} {A : Around} {E : Value → Shared → Prop} {s : Shared}
theorem add_old {a : Addr} {D : SD} {l : List Str} {k : Str} {u : Tok} {Q : Bool → Shared → Prop} (ho : s.heap.get? a = some (sObj "set" D)) (F : TxOk P w D l) (hk : k ∈ l) (hb : l.length < scanBound)
    (h : Q false s) : wpAny (model P w) A (setAddHashed a (.str k u) (hashStr w k)) Q E s := by
  obtain ⟨es, ep, t⟩ := D
  have hd : (sObj "set" (es, ep, t)).data = .set es ep t := rfl
  have hf : t.fits es.size = true := F.fit
  have he : ElemsOf (strKind P w) es.toList := F.el
  have hz : es.size < scanBound := by rw [show es.size = l.length from F.sz]; exact hb
  unfold setAddHashed setAddHashedIn
  refine wpAny_holding (wpAny_bind (wpAny_setState_of ho hd hf ?_))
  dsimp only
  rw [byScan_of rfl hz he]
  simp only [↓reduceIte]
  unfold setAddByScan
  refine wpAny_bind (wpAny_bind (wpAny_rule (wpAny_bind (wpAny_setScan_of (knd := strKind P w) (k := k) (is_str k u) ho hd hf he ?_))))
  cases hr : List.findIdx? (fun e => (strKind P w).is k e.2) es.toList with
  | some j => exact wpAny_pure (wpAny_pure h)
  | none =>
    obtain ⟨e, hm, q⟩ := (F.mem k).mp hk
    have c := List.findIdx?_eq_none_iff.mp hr e hm
    rw [q] at c
    cases c
end
/-- the set of texts at a: its members, each once -/
def TxAt (P : Program) (w : World) (h : Heap) (a : Addr) (l : List Str) : Prop := ∃ D, h.get? a = some (sObj "set" D) ∧ GoodX P w D l
/-- a text put into a list of texts -/
def put (l : List Str) (k : Str) : List Str := if k ∈ l then l else k :: l
theorem mem_put {l : List Str} {k x : Str} : x ∈ put l k ↔ x ∈ l ∨ x = k := by
  unfold put
  by_cases h : k ∈ l
  · rw [if_pos h]
    exact ⟨.inl, fun z => z.elim id fun e => e ▸ h⟩
  · rw [if_neg h, List.mem_cons]
    exact Or.comm
theorem put_len {l : List Str} {k : Str} : (put l k).length ≤ l.length + 1 := by
  unfold put
  by_cases h : k ∈ l
  · rw [if_pos h]; exact Nat.le_succ _
  · rw [if_neg h]; exact Nat.le_refl _
section
variable {P : Program} {w : World} {A : Around} {E : Value → Shared → Prop} {s : Shared}
theorem txAt_new {h : Heap} : TxAt P w (h.push { cls := .type "set", dict := none, data := .set #[] 0 (.fresh 0 0 (!w.params.followText "set-order")) }) h.objs.size [] :=
  ⟨(#[], 0, .fresh 0 0 (!w.params.followText "set-order")), Heap.get?_push_size _ rfl, TxOk.nil rfl, List.nodup_nil, List.Pairwise.nil, by
    show _ ∨ (!w.params.followText "set-order") = true
    cases w.params.followText "set-order"
    · exact .inr rfl
    · exact .inl rfl⟩
/-- found.add(k) -/
theorem tx_add {a : Addr} {l : List Str} {k : Str} {u : Tok} {Q : Value → Shared → Prop} (R : TxAt P w s.heap a l) (room : l.length + 1 < scanBound)
    (hQ : ∀ h' : Heap, Heap.SameBut a s.heap h' → TxAt P w h' a (put l k) → Q .none { s with heap := h', toks := s.toks + 1 }) :
    wpAny (model P w) A (call (.builtin "set.add") [.ref a, .str k u]) Q E s := by
  obtain ⟨D, ho, G⟩ := R
  have hT : s.TypeIs (.ref a) "set" := ⟨_, ho, rfl⟩
  refine wpAny_call_entry F.slot_set_add hT F.entry_set_add ?_ (F.args_set_add_2 _ _)
  unfold Builtin.«set.add» Builtin.Frozenset.oneOther
  simp only [List.isEmpty_nil, bind_assoc]
  unfold Builtin.Frozenset.addrOf setAdd
  refine wpAny_bind (wpAny_pure ?_)
  try dsimp only
  refine wpAny_bind (wpAny_pure ?_)
  try dsimp only
  refine wpAny_bind (wpAny_holding (wpAny_bind ((strKind P w).pyHash (is_str k u) ?_)))
  by_cases hk : k ∈ l
  · refine add_old (s := { s with toks := s.toks + 1 }) ho G.tx hk (by omega) ?_
    have q := hQ s.heap (Heap.SameBut.refl a s.heap) ⟨D, ho, by unfold put; rw [if_pos hk]; exact G⟩
    show wpAny _ _ (ret Value.none) _ _ _
    exact wpAny_pure ⟨_, rfl, q⟩
  · refine add_x (s := { s with toks := s.toks + 1 }) ho G.tx hk room ?_
    have q := hQ _ (Heap.SameBut.update s.heap a (fun _ => sObj "set" (addTx (hashStr w k) (.str k u) D))) ⟨_, get_upd _ ho rfl, by unfold put; rw [if_neg hk]; exact G.add u hk⟩
    show wpAny _ _ (ret Value.none) _ _ _
    exact wpAny_pure ⟨_, rfl, q⟩
theorem strs_of_kind {l : List Str} {D : SD} (F : TxOk P w D l) : ∀ v ∈ D.1.toList.map (·.2), ∃ x t, v = Value.str x t := fun v hv => by
  obtain ⟨e, he, rfl⟩ := List.mem_map.mp hv
  obtain ⟨⟨k, h1, _⟩, _⟩ := F.el e he
  obtain ⟨t, z⟩ := Value.isStrOf_shape (x := k) (v := e.2) h1
  exact ⟨k, t, z⟩
def txt : Value → Str
  | .str x _ => x
  | _ => ⟨#[]⟩
theorem strsAre_txt : ∀ {vs : List Value}, (∀ v ∈ vs, ∃ x t, v = Value.str x t) → StrsAre vs (vs.map txt)
  | [], _ => .nil
  | v :: vs, h => by
    obtain ⟨x, t, rfl⟩ := h v List.mem_cons_self
    exact .cons x t (strsAre_txt fun u hu => h u (List.mem_cons_of_mem _ hu))
theorem perm_of_sub : ∀ {l m : List Str}, l.Nodup → (∀ x ∈ l, x ∈ m) → m.length = l.length → m.Perm l
  | [], m, _, _, h => by
    rw [List.eq_nil_of_length_eq_zero h]
  | x :: l, m, nd, sub, h => by
    obtain ⟨n1, n2⟩ := List.nodup_cons.mp nd
    have hx : x ∈ m := sub x List.mem_cons_self
    have p := List.perm_cons_erase hx
    have hl : (m.erase x).length = l.length := by
      have q := p.length_eq
      rw [List.length_cons] at q h
      omega
    refine p.trans (List.Perm.cons x (perm_of_sub n2 (fun y hy => ?_) hl))
    have ne : y ≠ x := fun e => n1 (e ▸ hy)
    exact (List.mem_erase_of_ne ne).mpr (sub y (List.mem_cons_of_mem _ hy))
/-- sorted(found), fewer than 64 members -/
theorem tx_sorted {a : Addr} {l : List Str} {Q : Value → Shared → Prop} (R : TxAt P w s.heap a l) (hh : A.handled = none) (h64 : l.length < 64)
    (hQ : ∀ (s' : Shared) (p : Addr) (out : Array Value) (c : Nat) (ys : List Str), (∀ b o, s.heap.get? b = some o → s'.heap.get? b = some o) → s'.gens = s.gens → s'.os = s.os → s.heap.objs.size ≤ p →
      s'.heap.get? p = some (seqObj "list" out c) → StrsAre out.toList ys → sortedS ys = true → ys.Perm l → Q (.ref p) s') :
    wpAny (model P w) A (call (.builtin "sorted") [.ref a]) Q E s := by
  obtain ⟨⟨es, ep, t⟩, ho, G⟩ := R
  have hz : es.size = l.length := G.tx.sz
  have lim : scanBound > 64 := by decide
  refine Calls.call_function_entry kind_sorted plain_sorted entry_sorted (args_sorted1 _) ?_
  unfold Builtin.«sorted»
  refine wpAny_bind (m := checkCount "sorted" 1 1 _) (wpAny_pure ?_)
  refine wpAny_bind (collect_set (A := A.in1) hh ⟨_, ho, rfl, rfl⟩ G.tx.fit (by show es.size < _; omega) G.ris G.led fun s1 vs k1 z1 g1 o1 pm => ?_)
  have pm' : vs.Perm (es.toList.map (·.2)) := pm
  have hvl : vs.length = l.length := by rw [pm'.length_eq, List.length_map, Array.length_toList]; exact hz
  have hstr : ∀ v ∈ vs, ∃ x t, v = Value.str x t := fun v hv => strs_of_kind G.tx v (pm'.mem_iff.mp hv)
  have hS := strsAre_txt hstr
  have hperm : (vs.map txt).Perm l := (pm'.map txt).trans <| perm_of_sub G.nd (fun x hx => by
      obtain ⟨e, he, q⟩ := (G.tx.mem x).mp hx
      obtain ⟨t', z⟩ := Value.isStrOf_shape (x := x) (v := e.2) q
      exact List.mem_map.mpr ⟨e.2, List.mem_map.mpr ⟨e, he, rfl⟩, by rw [z]; rfl⟩) (by rw [List.length_map, List.length_map, Array.length_toList]; exact hz)
  refine wpAny_bind (wpAny_newList ?_ (by rw [hvl, sizeLine_eq]; omega))
  have hoL : (s1.heap.push (seqObj "list" vs.toArray 0)).get? s1.heap.objs.size = some (seqObj "list" vs.toArray 0) := Heap.get?_push_size _ rfl
  refine wpAny_bind (wpAny_holding (wpAny_call_entry slot_list_sort ⟨_, hoL, rfl⟩ entry_list_sort
    (list_sort_treeK strKind_oneLt hoL hS.keysOf (fun v₁ v₂ rest e => keyKind_strs (by rw [← e]; exact hS)) (by rw [hvl]; exact h64) fun st' a1 a2 => ⟨_, rfl, ?_⟩) (args_list_sort _)))
  obtain ⟨ys, b1, b2, b3⟩ := sorted_out_str hS a1 a2
  obtain ⟨c, hc⟩ := sortedHeap_at (vs := vs) (out := (arrOf st').map (·.2)) hoL
  refine wpAny_pure ⟨_, rfl, hQ _ s1.heap.objs.size _ c ys (fun b u e => ?_) g1 o1 z1 hc b1 b3 (b2.trans hperm)⟩
  have q := k1 b u e
  have hlt := Heap.lt_size q
  show (sortedHeap (s1.heap.push (seqObj "list" vs.toArray 0)) s1.heap.objs.size vs _).get? b = some u
  rw [sortedHeap_old (Nat.ne_of_lt hlt) (by rw [size_push']; exact Nat.lt_succ_of_lt hlt)]
  exact Heap.get?_push_of_some _ q
end
/-! ### as tracked things -/
def SetX (P : Program) (w : World) (a : Addr) (l : List Str) : HO := .ext fun h => TxAt P w h a l
theorem setX_new {w : World} {P : Program} {H : Hp} {h : Heap} {a : Addr} {l : List Str} (R : TxAt P w h a l) : ObjOk P w H h a (SetX P w a l) := by
  obtain ⟨D, ho, G⟩ := R
  exact ⟨⟨D, ho, G⟩, ⟨_, ho⟩, fun h1 h2 p k => let ⟨D', ho', G'⟩ := p; ⟨D', k _ ho', G'⟩⟩
section
variable {X : Cx}
theorem setX_get {pins : List (Addr × Obj)} {σ : L2.St} {H : Hp} {s : Shared} {a : Addr} {l : List Str} (I : Inv X pins σ H s) (ha : H a = some (SetX X.prog X.w a l)) : TxAt X.prog X.w s.heap a l := (I.hok a _ ha).1
theorem addX_ok {pins : List (Addr × Obj)} {σ : L2.St} {H : Hp} {s : Shared} {E : Value → Shared → Prop} {D : Addr} {l : List Str} {k : Str} {u : Tok} {Q : Value → Shared → Prop} (I : Inv X pins σ H s) (hD : H D = some (SetX X.prog X.w D l)) (room : l.length + 1 < scanBound)
    (h : ∀ s', Inv X pins σ (upd H D (SetX X.prog X.w D (put l k))) s' → Q .none s') : wpAny (model X.prog X.w) X.A (call (.builtin "set.add") [.ref D, .str k u]) Q E s := by
  refine tx_add (setX_get I hD) room fun h' sb new => ?_
  have he : ∃ u, h'.get? D = some u := let ⟨_, ho, _⟩ := new; ⟨_, ho⟩
  exact h _ (I.write (e := D) (t' := s.toks + 1) (by rw [hD]; trivial) (.inl rfl) (fun b u hb hu => (sb.2 b hb).trans hu) he (setX_new new))
def rSortedX (P : Program) (w : World) : List V → Hp → VK → Prop := fun vs H Q => ∃ (a : Addr) (l : List Str), vs = [V.ref a] ∧ H a = some (SetX P w a l) ∧ l.length < 64 ∧
  ∀ (ys : List Str) (p : Addr), sortedS ys = true → ys.Perm l → H p = none → Q (.ref p) (upd H p (.lst (ys.map V.str)))
theorem cr_sortedX (hc : X.calm = true) : CallR X (.builtin "sorted") (rSortedX X.prog X.w) := by
  intro pins s σ H vs us Q I r h
  obtain ⟨a, l, rfl, ha, h64, q⟩ := h
  rw [Vals.ref1 r]
  refine tx_sorted (setX_get I ha) (I.ok.hd hc) h64 fun s' p out c ys k g o hp hg hi hs hl => ?_
  have hlen : (ys.map V.str).length ≤ sizeLine := by rw [List.length_map, hl.length_eq, sizeLine_eq]; omega
  have hn : H p = none := I.hok.fresh hp
  have J : Inv X pins σ (upd H p (.lst (ys.map V.str))) { s with heap := s'.heap, gens := s'.gens, drawn := s'.drawn, toks := s'.toks } :=
    I.call (ch := []) (Un.laid k hp hn) (I.hok.laid k hp ⟨hlen, out.toList, c, vals_of_strs hi, hg⟩) (by rw [g]; exact I.bare) (fun _ z => nomatch z)
  have e : s' = { s with heap := s'.heap, gens := s'.gens, drawn := s'.drawn, toks := s'.toks } := by
    cases s'; cases s; cases o; rfl
  rw [e]
  exact ⟨.ref p, _, J, rfl, q ys p hs hl hn⟩
end
end Kx
namespace Kx
open PySem L2 PySem.Spec PyProof.Rows PpSet
/-! set comprehensions of texts, with several clauses -/
/-- one turn of a clause, whatever is done with an element that passes -/
def turnOf (tg : Expr) (pos : Pos) (ifs : List Expr) (body : Sem Unit) (c : Expr) (j : Nat) (it acc : Value) (env : Env) : Sem Fin := do
  standAt pos
  match ← pyNext it with
  | none => pure (.done .next)
  | some v =>
    letOwnedTupleGo tg it v
    assign tg env v
    let mut ok := true
    for c in ifs do
      if ok then ok ← isTrue c env (eval c env)
    if ok then body
    again (.compLoop c j it acc env)
abbrev testsOf (ifs : List Expr) (env : Env) : Sem Bool := forIn ifs true fun c r => if r = true then do let ok ← isTrue c env (eval c env); pure (ForInStep.yield ok) else pure (ForInStep.yield r)
section
variable {P : Program} {w : World} {A : Around} {R : Result → Shared → Prop} {s : Shared} {elt tg : Expr} {gs : List Comprehension} {scope : Scope} {cp : Pos} {j : Nat} {ifs : List Expr} {pos : Pos} {it acc : Value} {env : Env} {body : Sem Unit}
abbrev NoE : Value → Shared → Prop := fun _ _ => False
theorem loop_gen (hturn : compTurn (.SetComp elt gs scope cp) j it acc env = turnOf tg pos ifs body (.SetComp elt gs scope cp) j it acc env) (I : Nat → Shared → Prop)
    (turn : ∀ n s, I n s → wpAny (model P w) A (pyNext it) (fun r s1 => match r with
      | none => R (.ok .next) s1
      | some v => wpAny (model P w) A (letOwnedTupleGo tg it v) (fun _ s2 => wpAny (model P w) A (assign tg env v) (fun _ s3 => wpAny (model P w) A (testsOf ifs env) (fun ok s4 =>
          if ok = true then wpAny (model P w) A body (fun _ s5 => ∃ m, m < n ∧ I m s5) NoE s4 else ∃ m, m < n ∧ I m s4) NoE s3) NoE s2) NoE s1) NoE s)
    (n : Nat) (h : I n s) : codeAny (model P w) A (.compLoop (.SetComp elt gs scope cp) j it acc env) R s := by
  refine codeAny_loop rfl I (fun n s hI => ?_) n h
  show wpAny _ A ((compTurn (.SetComp elt gs scope cp) j it acc env).onRaise (fun x => do noteFrame x env; theTreesLotGoes x)) _ _ s
  refine wpAny_noted ?_
  rw [hturn]
  unfold turnOf
  refine wpAny_bind (wpAny_standAt (wpAny_bind (thnF (turn n s hI) fun r s1 h1 => ?_)))
  cases r with
  | none => exact wpAny_pure h1
  | some v =>
    refine wpAny_bind (thnF h1 fun _ s2 h2 => ?_)
    refine wpAny_bind (thnF h2 fun _ s3 h3 => wpAny_bind (thnF h3 fun ok s4 h4 => ?_))
    cases ok with
    | false => exact wpAny_pure ⟨rfl, h4⟩
    | true => exact wpAny_bind (thnF h4 fun _ s5 h5 => wpAny_pure ⟨rfl, h5⟩)
end
abbrev TB := L2.St → Hp → (Hp → Prop) → Prop
/-- what is done with an element, in a block -/
structure PB (Y : Cx) (body : Sem Unit) (vs : List Nat) (tb : TB) : Prop where
  run : ∀ (pins : List (Addr × Obj)) (s : Shared) (σ : L2.St) (H : Hp) (Q : Hp → Prop), Inv Y pins σ H s → tb σ H Q → wpAny (model Y.prog Y.w) Y.A body (fun _ s' => ∃ H', Inv Y pins (wipe σ vs) H' s' ∧ Q H') NoE s
def tElt (P : Program) (w : World) (te : TE) (D : Addr) : TB := fun σ H Q => te σ H fun y H1 => ∃ (l : List Str) (k : Str), y = .str k ∧ H1 D = some (SetX P w D l) ∧ l.length + 1 < scanBound ∧ Q (upd H1 D (SetX P w D (put l k)))
def tNest (wi : TI) (g : TG) (tt : TT) (tb : TB) (vs : List Nat) : TB := fun σ H Q => wi σ H fun J H1 => ∃ W : Nat → Nat → Hp → Prop, (∃ m, W 0 m H1) ∧ ∀ i m H, W i m H →
  (J.stop i H ∧ Q H) ∨ (J.go i H ∧ ∃ Nx : Hp → Prop, (∀ H', Nx H' → ∃ m', m' < m ∧ W (i + 1) m' H') ∧ ∀ x H', J.yld i H x H' → g x (wipe σ vs) H' fun σ2 H2 => wipe σ2 vs = wipe σ vs ∧ tt σ2 H2 fun b H3 => if b = true then tb σ2 H3 Nx else Nx H3)
section
variable {Y : Cx} {elt tg iter ee : Expr} {gs : List Comprehension} {scope : Scope} {cp : Pos} {ifs : List Expr} {te : TE} {D : Addr} {wi : TI} {g : TG} {tt : TT} {tb : TB} {vs vs' : List Nat} {j : Nat} {acc : Value} {body : Sem Unit}
theorem pb_elt (hx : Y.xe = NoE) (he : PE Y elt te) : PB Y (do let v ← eval elt Y.env; standAt elt.pos; let _ ← call (.builtin "set.add") [.ref D, v]) [] (tElt Y.prog Y.w te D) := by
  refine ⟨fun pins s σ H Q I h => ?_⟩
  have z := he.run pins s σ H _ I h
  rw [hx] at z
  refine wpAny_bind (thnF z fun u s1 ⟨y, H1, I1, r, l, k, e, hD, room, q⟩ => wpAny_bind (wpAny_standAt ?_))
  subst e
  obtain ⟨t, rfl⟩ := r
  exact wpAny_bind (addX_ok I1 hD room fun s2 I2 => wpAny_pure ⟨_, I2, q⟩)
/-- a further clause's start -/
def StartOk (c : Expr) (j : Nat) (acc : Value) (env : Env) : Prop := ∀ (P : Program) (w : World) (A : Around) (R : Result → Shared → Prop) (s : Shared) (it : Value), codeAny (model P w) A (.compLoop c j it acc env) R s →
  (∀ E, wpAny (model P w) A (pyIter it) (fun it' s' => codeAny (model P w) A (.compLoop c j it' acc env) R s') E s) → codeAny (model P w) A (.compStart c j it acc env) R s
theorem pb_nest (sub : ∀ i ∈ vs', i ∈ vs) (hc : Y.calm = true) (hx : Y.xe = NoE) (hi : PI Y tg iter wi) (hg : PG Y tg g) (ht : PTs Y ifs tt) (hb : PB Y body vs' tb) (hs : ∀ x, foldedSetIterable iter Y.env x = pure x)
    (hturn : ∀ it, compTurn (.SetComp ee gs scope cp) j (.ref it) acc Y.env = turnOf tg iter.pos ifs body (.SetComp ee gs scope cp) j (.ref it) acc Y.env) (hst : StartOk (.SetComp ee gs scope cp) j acc Y.env) :
    PB Y (do let x ← eval iter Y.env; standAt iter.pos; let x ← foldedSetIterable iter Y.env x; let _ ← runOwn (.compStart (.SetComp ee gs scope cp) j (← holding [x] (pyIter x)) acc Y.env) Y.env) vs (tNest wi g tt tb vs) := by
  refine ⟨fun pins s σ H Q I h => ?_⟩
  have z := hi.run pins s σ H _ I h
  rw [hx] at z
  refine wpAny_bind (thnF z fun xv s1 hv => ?_)
  refine wpAny_bind (wpAny_standAt (wpAny_bind (wpAny_of_eq (hs xv) (wpAny_bind (wpAny_holding (thnF hv fun itv s2 h2 => ?_))))))
  obtain ⟨it, fp, tn, J, H1, e, I1, T, st, fo, W, ⟨m0, w0⟩, turn⟩ := h2
  subst e
  refine wpAny_bind (wpAny_runOwn ?_)
  rw [Around.mark_none]
  have stat : ∀ {H' : Hp}, (∀ b ∈ fp, H' b = none) → ∀ b ∈ fp, FpOk Y pins H' b := fun hn b hb => ⟨hn b hb, (fo b hb).2⟩
  have loop : codeAny (model Y.prog Y.w) Y.A (.compLoop (.SetComp ee gs scope cp) j (.ref it) acc Y.env) (fun r s' => match r with
      | .ok _ => ∃ H', Inv Y pins (wipe σ vs) H' s' ∧ Q H'
      | .error _ => False) s2 := by
    refine loop_gen (hturn it) (fun k s' => ∃ i H', Inv Y pins (wipe σ vs) H' s' ∧ tn i s'.heap ∧ (∀ b ∈ fp, H' b = none) ∧ W i k H') ?_ m0 ⟨0, H1, I1.weak (wipe_length _ _) (fun j v e => (wipe_some e).1), st, fun b hb => (fo b hb).1, w0⟩
    rintro k s3 ⟨i, H3, I3, st3, n3, w3⟩
    rcases turn i k H3 w3 with ⟨stop, q⟩ | ⟨go, Nx, hNx, step⟩
    · refine thnF (T.done Y rfl rfl rfl hc i _ s3 (wipe σ vs) H3 NoE I3 (stat n3) st3 stop) fun r s4 ⟨hr, I4⟩ => ?_
      subst hr
      exact ⟨H3, I4, q⟩
    · refine thnF (T.item Y rfl rfl rfl hc i _ s3 (wipe σ vs) H3 NoE I3 (stat n3) st3 go) fun r s4 ⟨u, hr, h4⟩ => ?_
      subst hr
      refine thnF h4 fun _ s5 ⟨x, H5, I5, r5, y5, st5, n5⟩ => ?_
      have I5' := I5.pinned (stat n5) (T.obj _ _ st5)
      have z6 := hg.run _ s5 (wipe σ vs) H5 x u _ I5' r5 (step x H5 y5)
      rw [hx] at z6
      refine thnF z6 fun _ s6 ⟨σ6, H6, I6, hw, q6⟩ => ?_
      have z7 := ht.run _ s6 σ6 H6 _ I6 q6
      rw [hx] at z7
      refine thnF z7 fun b s7 ⟨H7, I7, q7⟩ => ?_
      have fin : ∀ {vs1 : List Nat} {s' : Shared} {H' : Hp}, (∀ i ∈ vs1, i ∈ vs) → Inv Y (pins ++ pinsAt fp s5.heap) (wipe σ6 vs1) H' s' → Nx H' → ∃ m, m < k ∧ ∃ i H', Inv Y pins (wipe σ vs) H' s' ∧ tn i s'.heap ∧ (∀ b ∈ fp, H' b = none) ∧ W i m H' := fun {vs1 s' H'} hv I' nx => by
        obtain ⟨m', hm, w'⟩ := hNx H' nx
        have pin' : ∀ b ∈ fp, ∀ o, s5.heap.get? b = some o → s'.heap.get? b = some o ∧ H' b = none := fun b hb o e =>
          let z := I'.pin (b, o) (List.mem_append_right _ (List.mem_append_right _ (mem_pinsAt hb e)))
          ⟨z.1, z.2.1⟩
        refine ⟨m', hm, i + 1, H', I'.unpinned.weak (by rw [← hw, wipe_length, wipe_length]) (fun j v e => ?_), T.keep _ _ _ st5 fun b hb o e => (pin' b hb o e).1, fun b hb => ?_, w'⟩
        · rw [← hw] at e
          obtain ⟨e1, e2⟩ := wipe_some e
          rw [wipe_out fun z => e2 (hv j z)]
          exact e1
        · obtain ⟨o, e, _⟩ := T.obj _ _ st5 b hb
          exact (pin' b hb o e).2
      cases b with
      | false =>
        simp only [Bool.false_eq_true, if_false] at q7 ⊢
        exact fin (vs1 := []) (fun i z => nomatch z) I7 q7
      | true =>
        simp only [if_true] at q7 ⊢
        exact thnF (hb.run _ s7 σ6 H7 _ I7 q7) fun _ s8 ⟨H8, I8, q8⟩ => fin sub I8 q8
  refine codeAny_mono (hst _ _ _ _ _ _ loop fun E => T.self Y.A 0 _ _ _ st loop) fun r s' hr => ?_
  cases r with
  | ok f =>
    first
      | exact wpAny_pure hr
      | exact wpAny_bind (wpAny_pure (wpAny_pure hr))
  | error e => exact hr.elim
end
end Kx
namespace Kx
open PySem L2 PySem.Spec PyProof.Rows PpSet
def tScN (P : Program) (w : World) (wi : TI) (g : TG) (tt : TT) (tb : Addr → TB) (vs : List Nat) : TE := fun σ H Q => wi σ H fun J H1 => ∀ D, H1 D = none → ∃ W : Nat → Nat → Hp → Prop, (∃ m, W 0 m (upd H1 D (SetX P w D []))) ∧ ∀ i m H, W i m H →
  (J.stop i H ∧ Q (.ref D) H) ∨ (J.go i H ∧ ∃ Nx : Hp → Prop, (∀ H', Nx H' → ∃ m', m' < m ∧ W (i + 1) m' H') ∧ ∀ x H', J.yld i H x H' → g x (wipe σ vs) H' fun σ2 H2 => wipe σ2 vs = wipe σ vs ∧ tt σ2 H2 fun b H3 => if b = true then tb D σ2 H3 Nx else Nx H3)
section
variable {X : Cx} {elt tg iter : Expr} {ifs : List Expr} {gs : List Comprehension} {scope : Scope} {own : List (PySem.Str × Nat)} {cp : Pos} {wi : TI} {g : TG} {tt : TT} {tb : Addr → TB} {body : Addr → Env → Sem Unit} {vs' : List Nat}
theorem pe_scN (hc : X.calm = true) (hN : X.N.Nodup) (hi : PI X tg iter wi) (ok : BlkOk X.N X.env.scope scope own) (sub : ∀ i ∈ vs', i ∈ own.map (·.2))
    (hg : ∀ (s : Shared) (H : Hp) (C : Addr) (cl : List (PySem.Str × Addr)) (fp : List Addr), PG (X.blk s H scope (compEnvC scope cl C X.env) fp) tg g)
    (ht : ∀ (s : Shared) (H : Hp) (C : Addr) (cl : List (PySem.Str × Addr)) (fp : List Addr), PTs (X.blk s H scope (compEnvC scope cl C X.env) fp) ifs tt)
    (hb : ∀ (s : Shared) (H : Hp) (C : Addr) (cl : List (PySem.Str × Addr)) (fp : List Addr) (D : Addr), PB (X.blk s H scope (compEnvC scope cl C X.env) fp) (body D (compEnvC scope cl C X.env)) vs' (tb D))
    (hturn : ∀ it D env, compTurn (.SetComp elt (⟨tg, iter, ifs, 0⟩ :: gs) scope cp) 0 (.ref it) (.ref D) env = turnOf tg iter.pos ifs (body D env) (.SetComp elt (⟨tg, iter, ifs, 0⟩ :: gs) scope cp) 0 (.ref it) (.ref D) env)
    (hs : ∀ x, foldedSetIterable iter X.env x = pure x := by intro _; rfl) : PE X (.SetComp elt (⟨tg, iter, ifs, 0⟩ :: gs) scope cp) (tScN X.prog X.w wi g tt tb (own.map (·.2))) := by
  refine ⟨fun pins s σ H Q I h => ?_⟩
  rw [eval_SetComp]
  have fr : ∀ y ∈ scope.names, y.2 = .free → ∃ c, X.env.cells.lookup y.1 = some c := fun y hy e => I.ok.has _ (ok.free y hy e)
  refine wpAny_comprehension_free (use := none) rfl hs (closure_ok fr) ok.kind (fun y hy e => by rw [ok.uniq y hy, e]) (thn (hi.run pins s σ H _ I h) fun xv sa hx => thn hx fun itv sb hb' => ?_)
  obtain ⟨it, fp, tn, J, Hb, e, Ib, T, stb, fb, q⟩ := hb'
  subst e
  refine newSet_ok (newEnv_comp ?_)
  obtain ⟨D, hD⟩ : ∃ D, sb.heap.objs.size = D := ⟨_, rfl⟩
  have hDn : Hb D = none := Ib.hok.fresh (Nat.le_of_eq hD)
  obtain ⟨W, ⟨m0, w0⟩, turn⟩ := q D hDn
  obtain ⟨sc, hsc⟩ : ∃ sc : Shared, ({ sb with heap := sb.heap.push { cls := .type "set", dict := none, data := .set #[] 0 (.fresh 0 0 (!X.w.params.followText "set-order")) } } : Shared) = sc := ⟨_, rfl⟩
  have hch : sc.heap = sb.heap.push { cls := .type "set", dict := none, data := .set #[] 0 (.fresh 0 0 (!X.w.params.followText "set-order")) } := by rw [← hsc]
  have Ic : Inv X pins σ (upd Hb D (SetX X.prog X.w D [])) sc := by
    rw [← hsc]
    refine Ib.laid (t' := sb.toks) (fun b o z => Heap.get?_push_of_some _ z) (Nat.le_of_eq hD) ?_
    rw [← hD]
    exact setX_new txAt_new
  have lt : ∀ b ∈ fp, b < sb.heap.objs.size := fun b hb => let ⟨o, z, _⟩ := T.obj _ _ stb b hb; Heap.lt_size z
  have fc : ∀ b ∈ fp, FpOk X pins (upd Hb D (SetX X.prog X.w D [])) b ∧ b < sc.heap.objs.size := fun b hb =>
    ⟨⟨by rw [upd_ne (by rw [← hD]; exact Nat.ne_of_lt (lt b hb))]; exact (fb b hb).1, (fb b hb).2⟩, by rw [hch, Heap.size_push]; exact Nat.lt_succ_of_lt (lt b hb)⟩
  have stc : tn 0 sc.heap := T.keep _ _ _ stb fun b _ o z => by rw [hch]; exact Heap.get?_push_of_some _ z
  have Id0 := block_start Ic ok hN fc
  rw [hD]
  have pg := hg sc (upd Hb D (SetX X.prog X.w D [])) sc.heap.objs.size (cellsFrom (sc.heap.objs.size + 1) scope.names (cloFrom X.env.cells scope.names [])) fp
  have pt := ht sc (upd Hb D (SetX X.prog X.w D [])) sc.heap.objs.size (cellsFrom (sc.heap.objs.size + 1) scope.names (cloFrom X.env.cells scope.names [])) fp
  have pb := hb sc (upd Hb D (SetX X.prog X.w D [])) sc.heap.objs.size (cellsFrom (sc.heap.objs.size + 1) scope.names (cloFrom X.env.cells scope.names [])) fp D
  rw [show ({ sb with heap := sb.heap.push { cls := .type "set", dict := none, data := .set #[] 0 (.fresh 0 0 (!X.w.params.followText "set-order")) } } : Shared) = sc from hsc]
  obtain ⟨ce, hce⟩ : ∃ ce, compEnvC scope (cellsFrom (sc.heap.objs.size + 1) scope.names (cloFrom X.env.cells scope.names [])) sc.heap.objs.size X.env = ce := ⟨_, rfl⟩
  have cL : ce.locals = sc.heap.objs.size := by rw [← hce] <;> rfl
  obtain ⟨Hc, hHc⟩ : ∃ Hc, upd Hb D (SetX X.prog X.w D []) = Hc := ⟨_, rfl⟩
  obtain ⟨sd, hsd⟩ : ∃ sd : Shared, ({ sc with heap := pushCells (sc.heap.push { cls := .type "dict", data := .dict #[] }) scope.names } : Shared) = sd := ⟨_, rfl⟩
  have kd : ∀ b o, sc.heap.get? b = some o → sd.heap.get? b = some o := fun b o z => by rw [← hsd]; exact pushCells_keeps _ _ _ _ (Heap.get?_push_of_some _ z)
  rw [hce] at Id0 pg pt pb
  rw [hHc] at Id0 pg pt pb w0 Ic fc
  rw [hsd] at Id0
  have std : tn 0 sd.heap := T.keep _ _ _ stc fun b _ o z => kd b o z
  have stat : ∀ {σ' : L2.St} {H' : Hp} {s' : Shared}, Inv (X.blk sc Hc scope ce fp) [] σ' H' s' → (∀ b ∈ fp, H' b = none) → ∀ b ∈ fp, FpOk (X.blk sc Hc scope ce fp) [] H' b := fun {σ' H' s'} I' hn b hb =>
    ⟨hn b hb, (I'.ok.exf b hb).1, I'.ok.exfs b hb, .inl hb, fun x c z => (I'.ok.exf b hb).2 x c z, fun p hp => absurd (show p ∈ ([] : List (Addr × Obj)) ++ [] from hp) (by simp)⟩
  have loop : codeAny (model X.prog X.w) X.A (.compLoop (.SetComp elt (⟨tg, iter, ifs, 0⟩ :: gs) scope cp) 0 (.ref it) (.ref D) ce) (compPost (model X.prog X.w) X.A X.xe none (EP X pins σ Q) (.ref D) sc.heap.objs.size) sd := by
    refine loop_gen (hturn it D ce) (fun n s' => ∃ i H', Inv (X.blk sc Hc scope ce fp) [] (wipe σ (own.map (·.2))) H' s' ∧ tn i s'.heap ∧ (∀ b ∈ fp, H' b = none) ∧ W i n H') ?_ m0 ⟨0, Hc, Id0, std, fun b hb => (fc b hb).1.1, w0⟩
    rintro n s5 ⟨i, H5, I5, st5, n5, w5⟩
    rcases turn i n H5 w5 with ⟨stop, qq⟩ | ⟨go, Nx, hNx, step⟩
    · refine thnF (T.done (X.blk sc Hc scope ce fp) rfl rfl rfl hc i [] s5 _ H5 NoE I5 (stat I5 n5) st5 stop) fun r s6 ⟨hr, I6⟩ => ?_
      subst hr
      have I7 : Inv X pins σ H5 s6 := Ic.call' (ch := fp) I6.os I6.base I6.hok I6.bare fun b hb => ⟨(fc b hb).1.2.2.2.1, (fc b hb).1.2.1, (fc b hb).1.2.2.2.2.1, (fc b hb).1.2.2.2.2.2⟩
      have nC : H5 sc.heap.objs.size = none := by
        have z : H5 ce.locals = none := I6.free
        rw [cL] at z
        exact z
      obtain ⟨m, hn, _⟩ := I6.loc
      have hn : s6.heap.Ns ce.locals m := hn
      rw [cL] at hn
      obtain ⟨f0, f1, f2, f3, f4, f5⟩ := Ic.fpOk (Nat.le_refl _) nC
      exact ⟨m, hn, fun h'' sb' => ⟨.ref D, H5, I7.turned (t' := s6.toks) (fun b o hb z => (sb'.2 b hb).trans z) f0 f1 f3 f4 f5, rfl, qq⟩⟩
    · refine thnF (T.item (X.blk sc Hc scope ce fp) rfl rfl rfl hc i [] s5 _ H5 NoE I5 (stat I5 n5) st5 go) fun r s6 ⟨u, hr, h6⟩ => ?_
      subst hr
      refine thnF h6 fun _ s7 ⟨x, H7, I7, r7, y7, st7, n7⟩ => ?_
      have J7 := I7.pinned (stat I7 n7) (T.obj _ _ st7)
      refine thnF (pg.run _ s7 _ H7 x u _ J7 r7 (step x H7 y7)) fun _ s8 ⟨σ8, H8, I8, hw8, q8⟩ => ?_
      refine thnF (pt.run _ s8 σ8 H8 _ I8 q8) fun b s9 ⟨H9, I9, q9⟩ => ?_
      have fin : ∀ {vs1 : List Nat} {s' : Shared} {H' : Hp}, (∀ i ∈ vs1, i ∈ own.map (·.2)) → Inv (X.blk sc Hc scope ce fp) ([] ++ pinsAt fp s7.heap) (wipe σ8 vs1) H' s' → Nx H' → ∃ m, m < n ∧ ∃ i H', Inv (X.blk sc Hc scope ce fp) [] (wipe σ (own.map (·.2))) H' s' ∧ tn i s'.heap ∧ (∀ b ∈ fp, H' b = none) ∧ W i m H' := fun {vs1 s' H'} hv I' nx => by
        obtain ⟨m', hm, w'⟩ := hNx H' nx
        have pin' : ∀ b ∈ fp, ∀ o, s7.heap.get? b = some o → s'.heap.get? b = some o ∧ H' b = none := fun b hb o z =>
          let k := I'.pin (b, o) (List.mem_append_right _ (List.mem_append_right _ (mem_pinsAt hb z)))
          ⟨k.1, k.2.1⟩
        refine ⟨m', hm, i + 1, H', (I'.unpinned (pins := [])).weak (by rw [← hw8, wipe_length, wipe_length]) (fun j v z => ?_), T.keep _ _ _ st7 fun b hb o z => (pin' b hb o z).1, fun b hb => ?_, w'⟩
        · rw [← hw8] at z
          obtain ⟨e1, e2⟩ := wipe_some z
          rw [wipe_out fun k => e2 (hv j k)]
          exact e1
        · obtain ⟨o, z, _⟩ := T.obj _ _ st7 b hb
          exact (pin' b hb o z).2
      cases b with
      | false =>
        simp only [Bool.false_eq_true, if_false] at q9 ⊢
        exact fin (vs1 := []) (fun i z => nomatch z) I9 q9
      | true =>
        simp only [if_true] at q9 ⊢
        exact thnF (pb.run _ s9 σ8 H9 _ I9 q9) fun _ s10 ⟨H10, I10, q10⟩ => fin sub I10 q10
  rw [← hce] at loop
  rw [← hsd] at loop
  exact codeAny_compStart_set loop (T.self X.A 0 _ _ _ (by rw [hsd]; exact std) loop)
end
/-! three clauses -/
section
variable {elt t0 i0 t1 i1 t2 i2 : Expr} {f0 f1 f2 : List Expr} {scope : Scope} {cp : Pos}
theorem start1 (acc : Value) (env : Env) : StartOk (.SetComp elt [⟨t0, i0, f0, 0⟩, ⟨t1, i1, f1, 0⟩, ⟨t2, i2, f2, 0⟩] scope cp) 1 acc env := by
  intro P w A R s it h0 h
  refine codeAny_of_tree ?_
  show wpAny _ _ ((compStart (.SetComp elt [⟨t0, i0, f0, 0⟩, ⟨t1, i1, f1, 0⟩, ⟨t2, i2, f2, 0⟩] scope cp) 1 it acc env).onRaise (fun x => do noteFrame x env; standAt theWindowsPlace)) _ _ s
  refine wpAny_notedAt ?_
  unfold compStart
  show wpAny _ _ (ask >>= _) _ _ s
  refine wpAny_bind (wpAny_askSetting (wpAny_ite ?_))
  split
  · first
      | exact wpAny_bind (wpAny_pure (wpAny_pure (And.intro rfl h0)))
      | exact wpAny_pure (And.intro rfl h0)
  · refine wpAny_bind (wpAny_rule ?_)
    show wpAny _ _ (standAt i1.pos >>= _) _ _ s
    exact wpAny_bind (wpAny_standAt (wpAny_bind (thn (h _) fun it' s' h' => wpAny_pure (And.intro rfl h'))))
theorem start2 (acc : Value) (env : Env) : StartOk (.SetComp elt [⟨t0, i0, f0, 0⟩, ⟨t1, i1, f1, 0⟩, ⟨t2, i2, f2, 0⟩] scope cp) 2 acc env := by
  intro P w A R s it h0 h
  refine codeAny_of_tree ?_
  show wpAny _ _ ((compStart (.SetComp elt [⟨t0, i0, f0, 0⟩, ⟨t1, i1, f1, 0⟩, ⟨t2, i2, f2, 0⟩] scope cp) 2 it acc env).onRaise (fun x => do noteFrame x env; standAt theWindowsPlace)) _ _ s
  refine wpAny_notedAt ?_
  unfold compStart
  show wpAny _ _ (ask >>= _) _ _ s
  refine wpAny_bind (wpAny_askSetting (wpAny_ite ?_))
  split
  · first
      | exact wpAny_bind (wpAny_pure (wpAny_pure (And.intro rfl h0)))
      | exact wpAny_pure (And.intro rfl h0)
  · refine wpAny_bind (wpAny_rule ?_)
    show wpAny _ _ (standAt i2.pos >>= _) _ _ s
    exact wpAny_bind (wpAny_standAt (wpAny_bind (thn (h _) fun it' s' h' => wpAny_pure (And.intro rfl h'))))
abbrev c3 (elt t0 i0 t1 i1 t2 i2 : Expr) (f0 f1 f2 : List Expr) (scope : Scope) (cp : Pos) : Expr := .SetComp elt [⟨t0, i0, f0, 0⟩, ⟨t1, i1, f1, 0⟩, ⟨t2, i2, f2, 0⟩] scope cp
abbrev bElt (elt : Expr) (D : Addr) (env : Env) : Sem Unit := do let v ← eval elt env; standAt elt.pos; let _ ← call (.builtin "set.add") [.ref D, v]
abbrev bNest (c : Expr) (j : Nat) (iter : Expr) (D : Addr) (env : Env) : Sem Unit := do let x ← eval iter env; standAt iter.pos; let x ← foldedSetIterable iter env x; let _ ← runOwn (.compStart c j (← holding [x] (pyIter x)) (.ref D) env) env
theorem turn3_0 (it D : Addr) (env : Env) : compTurn (c3 elt t0 i0 t1 i1 t2 i2 f0 f1 f2 scope cp) 0 (.ref it) (.ref D) env = turnOf t0 i0.pos f0 (bNest (c3 elt t0 i0 t1 i1 t2 i2 f0 f1 f2 scope cp) 1 i1 D env) (c3 elt t0 i0 t1 i1 t2 i2 f0 f1 f2 scope cp) 0 (.ref it) (.ref D) env := by
  have e : compTurn (c3 elt t0 i0 t1 i1 t2 i2 f0 f1 f2 scope cp) 0 (.ref it) (.ref D) env = (do
      standAt i0.pos
      match ← pyNext (.ref it) with
      | none => pure (.done .next)
      | some v =>
        letOwnedTupleGo t0 (.ref it) v
        assign t0 env v
        let mut ok := true
        for c in f0 do
          if ok then ok ← isTrue c env (eval c env)
        if ok then
          let x ← eval i1 env
          standAt i1.pos
          let x ← foldedSetIterable i1 env x
          let _ ← runOwn (.compStart (c3 elt t0 i0 t1 i1 t2 i2 f0 f1 f2 scope cp) 1 (← holding [x] (pyIter x)) (.ref D) env) env
        again (.compLoop (c3 elt t0 i0 t1 i1 t2 i2 f0 f1 f2 scope cp) 0 (.ref it) (.ref D) env)) := by rfl
  rw [e]
  unfold turnOf
  simp only [bind_assoc, pure_bind]
  all_goals rfl
theorem turn3_1 (it D : Addr) (env : Env) : compTurn (c3 elt t0 i0 t1 i1 t2 i2 f0 f1 f2 scope cp) 1 (.ref it) (.ref D) env = turnOf t1 i1.pos f1 (bNest (c3 elt t0 i0 t1 i1 t2 i2 f0 f1 f2 scope cp) 2 i2 D env) (c3 elt t0 i0 t1 i1 t2 i2 f0 f1 f2 scope cp) 1 (.ref it) (.ref D) env := by
  have e : compTurn (c3 elt t0 i0 t1 i1 t2 i2 f0 f1 f2 scope cp) 1 (.ref it) (.ref D) env = (do
      standAt i1.pos
      match ← pyNext (.ref it) with
      | none => pure (.done .next)
      | some v =>
        letOwnedTupleGo t1 (.ref it) v
        assign t1 env v
        let mut ok := true
        for c in f1 do
          if ok then ok ← isTrue c env (eval c env)
        if ok then
          let x ← eval i2 env
          standAt i2.pos
          let x ← foldedSetIterable i2 env x
          let _ ← runOwn (.compStart (c3 elt t0 i0 t1 i1 t2 i2 f0 f1 f2 scope cp) 2 (← holding [x] (pyIter x)) (.ref D) env) env
        again (.compLoop (c3 elt t0 i0 t1 i1 t2 i2 f0 f1 f2 scope cp) 1 (.ref it) (.ref D) env)) := by rfl
  rw [e]
  unfold turnOf
  simp only [bind_assoc, pure_bind]
  all_goals rfl
theorem turn3_2 (it D : Addr) (env : Env) : compTurn (c3 elt t0 i0 t1 i1 t2 i2 f0 f1 f2 scope cp) 2 (.ref it) (.ref D) env = turnOf t2 i2.pos f2 (bElt elt D env) (c3 elt t0 i0 t1 i1 t2 i2 f0 f1 f2 scope cp) 2 (.ref it) (.ref D) env := by rfl
end
section
variable {X : Cx} {elt t0 i0 t1 i1 t2 i2 : Expr} {f0 f1 f2 : List Expr} {scope : Scope} {own : List (PySem.Str × Nat)} {cp : Pos} {w0 w1 w2 : TI} {g0 g1 g2 : TG} {tt0 tt1 tt2 : TT} {te : TE} {vs1 vs2 : List Nat}
theorem pe_sc3 (hc : X.calm = true) (hN : X.N.Nodup) (hi : PI X t0 i0 w0) (ok : BlkOk X.N X.env.scope scope own) (h1 : ∀ i ∈ vs1, i ∈ own.map (·.2)) (h2 : ∀ i ∈ vs2, i ∈ vs1)
    (hg0 : ∀ (s : Shared) (H : Hp) (C : Addr) (cl : List (PySem.Str × Addr)) (fp : List Addr), PG (X.blk s H scope (compEnvC scope cl C X.env) fp) t0 g0)
    (ht0 : ∀ (s : Shared) (H : Hp) (C : Addr) (cl : List (PySem.Str × Addr)) (fp : List Addr), PTs (X.blk s H scope (compEnvC scope cl C X.env) fp) f0 tt0)
    (hi1 : ∀ (s : Shared) (H : Hp) (C : Addr) (cl : List (PySem.Str × Addr)) (fp : List Addr), PI (X.blk s H scope (compEnvC scope cl C X.env) fp) t1 i1 w1)
    (hg1 : ∀ (s : Shared) (H : Hp) (C : Addr) (cl : List (PySem.Str × Addr)) (fp : List Addr), PG (X.blk s H scope (compEnvC scope cl C X.env) fp) t1 g1)
    (ht1 : ∀ (s : Shared) (H : Hp) (C : Addr) (cl : List (PySem.Str × Addr)) (fp : List Addr), PTs (X.blk s H scope (compEnvC scope cl C X.env) fp) f1 tt1)
    (hi2 : ∀ (s : Shared) (H : Hp) (C : Addr) (cl : List (PySem.Str × Addr)) (fp : List Addr), PI (X.blk s H scope (compEnvC scope cl C X.env) fp) t2 i2 w2)
    (hg2 : ∀ (s : Shared) (H : Hp) (C : Addr) (cl : List (PySem.Str × Addr)) (fp : List Addr), PG (X.blk s H scope (compEnvC scope cl C X.env) fp) t2 g2)
    (ht2 : ∀ (s : Shared) (H : Hp) (C : Addr) (cl : List (PySem.Str × Addr)) (fp : List Addr), PTs (X.blk s H scope (compEnvC scope cl C X.env) fp) f2 tt2)
    (he : ∀ (s : Shared) (H : Hp) (C : Addr) (cl : List (PySem.Str × Addr)) (fp : List Addr), PE (X.blk s H scope (compEnvC scope cl C X.env) fp) elt te)
    (hs : ∀ x, foldedSetIterable i0 X.env x = pure x := by intro _; rfl) (hs1 : ∀ env x, foldedSetIterable i1 env x = pure x := by intro _ _; rfl) (hs2 : ∀ env x, foldedSetIterable i2 env x = pure x := by intro _ _; rfl) :
    PE X (c3 elt t0 i0 t1 i1 t2 i2 f0 f1 f2 scope cp) (tScN X.prog X.w w0 g0 tt0 (fun D => tNest w1 g1 tt1 (tNest w2 g2 tt2 (tElt X.prog X.w te D) vs2) vs1) (own.map (·.2))) :=
  pe_scN (gs := [⟨t1, i1, f1, 0⟩, ⟨t2, i2, f2, 0⟩]) (body := fun D env => bNest (c3 elt t0 i0 t1 i1 t2 i2 f0 f1 f2 scope cp) 1 i1 D env) hc hN hi ok h1 hg0 ht0
    (fun s H C cl fp D => pb_nest (ee := elt) (gs := [⟨t0, i0, f0, 0⟩, ⟨t1, i1, f1, 0⟩, ⟨t2, i2, f2, 0⟩]) (scope := scope) (cp := cp) (Y := X.blk s H scope (compEnvC scope cl C X.env) fp) h2 hc rfl (hi1 s H C cl fp) (hg1 s H C cl fp) (ht1 s H C cl fp)
      (pb_nest (ee := elt) (gs := [⟨t0, i0, f0, 0⟩, ⟨t1, i1, f1, 0⟩, ⟨t2, i2, f2, 0⟩]) (scope := scope) (cp := cp) (Y := X.blk s H scope (compEnvC scope cl C X.env) fp) (vs' := []) (fun i z => nomatch z) hc rfl (hi2 s H C cl fp) (hg2 s H C cl fp) (ht2 s H C cl fp)
        (pb_elt (Y := X.blk s H scope (compEnvC scope cl C X.env) fp) rfl (he s H C cl fp)) (hs2 _) (fun it => turn3_2 it D _) (start2 _ _))
      (hs1 _) (fun it => turn3_1 it D _) (start1 _ _))
    (fun it D env => turn3_0 it D env) hs
end
end Kx
/-! enumerate over a tuple -/
namespace PySem
open Sem (wp)
open AutoSeq1 (wpAny_loadPart')
theorem new_enumT (t : Addr) (its : Array Value) (n : Nat) (dd : Option Addr) (sl : Array (Option Value)) : Meets (Builtin.«enumerate.__new__» ⟨[.type "enumerate", .ref t], []⟩)
    (fun _ R s => s.heap.get? t = some { cls := .type "tuple", dict := dd, data := .seq its n, slots := sl } ∧ R (.ok (.ret (.ref (s.heap.push { cls := .type "tuple_iterator", data := .fields #[.ref t, .int 0 0] }).objs.size)))
      { s with heap := (s.heap.push { cls := .type "tuple_iterator", data := .fields #[.ref t, .int 0 0] }).push { cls := .type "enumerate", data := .fields #[.none, .bool false, .ref s.heap.objs.size, rawInt 0, .none, .none] } }) :=
  .of_wp fun P w A R s h => by
    obtain ⟨hp, g, d, k, os⟩ := s
    obtain ⟨ht, h⟩ := h
    have hs := sub_enumerate
    have hT : Heap.IsTuple (Shared.heap ⟨hp, g, d, k, os⟩) t its := ⟨_, ht, rfl, n, rfl⟩
    wp_walk using wpAny_loadPart' ht
    refine wpAny_stack_any fun st => wpAny_pure ?_
    split
    · rename_i c _ _ _ _ _
      cases (c == Value.type "enumerate") <;>
        (wp_walk using wpAny_loadPart' ht, wpAny_pyIter_tuple hT; exact ⟨_, rfl, h⟩)
    · wp_walk using wpAny_loadPart' ht, wpAny_pyIter_tuple hT
      exact ⟨_, rfl, h⟩
section
variable {P : Program} {w : World} {A : Around} {E : Value → Shared → Prop} {s : Shared}
theorem call_enumT {t : Addr} {its : Array Value} {Q : Value → Shared → Prop} (hT : s.heap.IsTuple t its)
    (h : ∀ h' : Heap, IsEnum h' (s.heap.objs.size + 1) s.heap.objs.size 0 .none → h'.IsTupleIter s.heap.objs.size t 0 → h'.objs.size = s.heap.objs.size + 2 → (∀ b o, s.heap.get? b = some o → h'.get? b = some o) → Q (.ref (s.heap.objs.size + 1)) { s with heap := h' }) :
    wpAny (model P w) A (call (.type "enumerate") [.ref t]) Q E s := by
  obtain ⟨⟨c, dd, dt, sl⟩, ht, hc, n, hd⟩ := hT
  have hc' : c = .type "tuple" := hc
  have hd' : dt = .seq its n := hd
  subst hc' hd'
  refine callType_new F.called_enumerate (by decide) (F.typeCall_enumerate_1 _) (F.newCall_enumerate_1 _) (fun obj => F.args_object_init_2 obj _) F.entry_enumerate_new (new_enumT t its n dd sl) ⟨ht, ?_⟩
  obtain ⟨h1, e1⟩ : ∃ h1, s.heap.push { cls := .type "tuple_iterator", data := .fields #[.ref t, .int 0 0] } = h1 := ⟨_, rfl⟩
  have z1 : h1.objs.size = s.heap.objs.size + 1 := by rw [← e1]; exact Heap.size_push ..
  have i1 : h1.get? s.heap.objs.size = some { cls := .type "tuple_iterator", data := .fields #[.ref t, .int 0 0] } := by rw [← e1]; exact Heap.get?_push_size _ rfl
  have k1 : ∀ b o, s.heap.get? b = some o → h1.get? b = some o := fun b o z => by rw [← e1]; exact Heap.get?_push_of_some _ z
  rw [e1]
  have g2 := Heap.get?_push_size h1 (o := { cls := .type "enumerate", data := .fields #[.none, .bool false, .ref s.heap.objs.size, rawInt 0, .none, .none] }) rfl
  rw [z1] at g2
  show _ ∧ _
  rw [z1]
  exact ⟨⟨_, g2, rfl⟩, h _ g2 ⟨_, Heap.get?_push_of_some _ i1, rfl, rfl⟩ (by rw [Heap.size_push, z1]) fun b o z => Heap.get?_push_of_some _ (k1 b o z)⟩
end
end PySem
namespace Kx
open PySem L2 PySem.Spec PyProof.Rows
/-- the tuple at a, each item in a new pair with its number -/
def IteT (K : PySem.W.Frag) (a : Addr) : It :=
  ⟨fun i H => ∃ (xs : List V) (x : V), SqT K H a xs ∧ xs[i]? = some x, fun i H v H' => ∃ T x, v = .ref T ∧ H T = none ∧ H' = upd H T (.tup [.int (i : Nat), x]) ∧ ∀ xs, SqT K H a xs → xs[i]? = some x, fun i H => ∃ xs : List V, SqT K H a xs ∧ xs.length ≤ i⟩
theorem turn_enumT {P : Program} {w : World} {K : PySem.W.Frag} {elts : List Expr} {kk : Nat} {tpos : Pos} (a e it : Addr) :
    Turn P w K (.Tuple elts kk tpos) (IteT K a) [e, it] e (fun i h => (∃ old, IsEnum h e it ((i : Nat) : Int) old) ∧ h.IsTupleIter it a i ∧ e ≠ it ∧ a ≠ it ∧ a ≠ e) where
  mem := by simp
  obj := fun i h st b hb => by
    obtain ⟨⟨old, he⟩, ⟨o, ho, hc, hd⟩, _⟩ := st
    rcases (show b = e ∨ b = it by simpa using hb) with z | z
    · rw [z]; exact ⟨_, he, fun v q => nomatch q⟩
    · rw [z]; exact ⟨o, ho, fun v q => by rw [hd] at q; cases q⟩
  keep := fun i h h' st k => let ⟨⟨old, he⟩, hi, hn⟩ := st; ⟨⟨old, k e (by simp) _ he⟩, hi.at fun o q => k it (by simp) o q, hn⟩
  item := by
    intro X hP hw hK hc i pins s σ H E I hf st hg
    subst hP hw hK
    obtain ⟨⟨old, he⟩, hit, hne, n1, n2⟩ := st
    obtain ⟨xs, x, hq, hx⟩ := hg
    obtain ⟨its, rv, p, hz⟩ := I.tuple hq
    obtain ⟨u, hu, ru⟩ := rv.get hx
    have hT : s.heap.IsTuple a its.toArray := p
    have hu' : its.toArray[i]? = some u := by simpa using hu
    have hlt : i < its.toArray.size := (Array.getElem?_eq_some_iff.mp hu').1
    have hel : e < s.heap.objs.size := Heap.lt_size he
    have hil : it < s.heap.objs.size := by obtain ⟨_, q, _⟩ := hit; exact Heap.lt_size q
    have ni : it ≠ a := fun z => n1 z.symm
    refine wpAny_pyNext_enum_itemD (Draws.tuple (A := X.A.in1) (I.ok.hd hc) it a n1 its.toArray) he ⟨hit, hT⟩ hlt hne (by simp [hne, Ne.symm n2]) fun y h' tk hy ho hit' hTn hsz hk => ?_
    have ey : y = u := Option.some.inj ((show its.toArray[i]? = some y from hy).symm.trans hu')
    subst ey
    refine ⟨_, rfl, wpAny_letOwnedTupleGo_enum (s := { s with heap := h', toks := tk + 1 }) ho fun h2 he2 sb => ?_⟩
    have hT2 : h2.get? s.heap.objs.size = some { cls := .type "tuple", data := .seq #[.int i tk, y] } := (sb.2 _ (Nat.ne_of_gt hel)).trans hTn
    have new : ObjOk X.prog X.w (upd H s.heap.objs.size (.tup [.int (i : Nat), x])) h2 s.heap.objs.size (.tup [.int (i : Nat), x]) :=
      ⟨by show 2 ≤ sizeLine; decide, [.int i tk, y], .cons ⟨_, rfl⟩ (.cons ru .nil), ⟨_, hT2, rfl, _, rfl⟩⟩
    have I1 : Inv X pins σ (upd H s.heap.objs.size (.tup [.int (i : Nat), x])) { s with heap := h2, toks := tk + 1 } :=
      I.turnedNew (ch := [e, it]) (fun b ob hb q => (sb.2 b (fun z => hb (by simp [z]))).trans (hk b ob (fun z => hb (by simp [z])) (fun z => hb (by simp [z])) q)) hf (Nat.le_refl _) new
    have lt2 : ∀ b ∈ [e, it], b < s.heap.objs.size := fun b hb => by
      rcases (show b = e ∨ b = it by simpa using hb) with z | z
      · rw [z]; exact hel
      · rw [z]; exact hil
    refine ⟨.ref s.heap.objs.size, _, I1, rfl, ⟨_, x, rfl, I.hok.fresh (Nat.le_refl _), rfl, fun ys hy' => by rw [I.tuple_inj hy' hq]; exact hx⟩, ⟨⟨y, ?_⟩, hit'.1.at fun o q => (sb.2 it (Ne.symm hne)).trans q, hne, n1, n2⟩, fun b hb => ?_⟩
    · rw [show ((i + 1 : Nat) : Int) = (i : Int) + 1 from by omega]
      exact he2
    · rw [upd_ne (Nat.ne_of_lt (lt2 b hb))]
      exact (hf b hb).1
  done := by
    intro X hP hw hK hc i pins s σ H E I hf st hg
    subst hP hw hK
    obtain ⟨⟨old, he⟩, hit, hne, n1, n2⟩ := st
    obtain ⟨xs, hq, hx⟩ := hg
    obtain ⟨its, rv, p, hz⟩ := I.tuple hq
    obtain ⟨f0, f1, f2, f3, f4, f5⟩ := hf it (by simp)
    have hl := rv.length
    have hT : s.heap.IsTuple a its.toArray := p
    unfold pyNext
    have hTy : s.TypeIs (.ref e) "enumerate" := ⟨_, he, rfl⟩
    refine wpAny_bind (wpAny_attempt (wpAny_callSpecial?_slot (name := Str.ofString "__next__") hTy F.slot_enumerate_next
      (wpAny_call_entry F.slot_enumerate_next hTy F.entry_enumerate_next ?_ (F.args_enumerate_next_1 _))))
    show wpAny _ _ (field (.ref e) 2 >>= fun r => Builtin.SmallTypes.nextOf r >>= _) _ _ _
    refine wpAny_bind (wpAny_field he rfl (x := .ref it) rfl ?_)
    refine wpAny_bind (wpAny_nextOf_tuple_end (I.ok.hd hc) hit hT (Array.getElem?_eq_none (by simp; omega)) fun h' x e1 e2 => ?_)
    obtain ⟨o, ho, hco⟩ := e2
    refine wpAny_bind (wpAny_isInstance (T := "StopIteration") (b := true) ⟨o, ho, hco⟩ isSubtype_stop ?_)
    exact wpAny_pure ⟨rfl, I.turned (t' := s.toks) (fun b o hb q => e1 b o hb q) f0 f1 f3 f4 f5⟩
  self := fun A i s Q E st h => let ⟨⟨_, he⟩, _⟩ := st; wpAny_pyIter_enum he h
def iEnumT (K : PySem.W.Frag) (ta : TA) : TI := fun σ H R => ta σ H fun vs H1 => ∃ a xs, vs = [.ref a] ∧ SqT K H1 a xs ∧ R (IteT K a) H1
theorem pi_enumT {X : Cx} {e : Expr} {ta : TA} {p pos tpos : Pos} {elts : List Expr} {kk : Nat} (hg : Gl X "enumerate") (hm : X.mg "enumerate" = none) (ha : PA X [e] ta) (hs : starEach [e] X.env = [(false, eval e X.env)] := by rfl) :
    PI X (.Tuple elts kk tpos) (.Call (.Name "enumerate" p) [e] [] pos) (iEnumT X.K ta) := by
  refine ⟨fun pins s σ H R I h => ?_⟩
  refine Call_ (ld_blt I hg hm boot_enumerate (PyProof.Rows.callWith_type1 (thn (ha.run pos pins s σ H _ I h) fun us s1 ⟨vs, H1, I1, r1, a, xs, ex, hq, q⟩ => ?_) hs rfl))
  subst ex
  cases r1 with
  | cons r rr =>
    cases rr
    cases r
    obtain ⟨its, rv, p', hz⟩ := I1.tuple hq
    have hT : s1.heap.IsTuple a its.toArray := p'
    have hlt : a < s1.heap.objs.size := by obtain ⟨_, z, _⟩ := hT; exact Heap.lt_size z
    refine call_enumT hT fun h' he hit hsz hk => wpAny_pyIter_enum he ?_
    have I2 : Inv X pins σ H1 { s1 with heap := h' } := I1.kept (t' := s1.toks) hk
    refine ⟨s1.heap.objs.size + 1, [s1.heap.objs.size + 1, s1.heap.objs.size], _, _, H1, rfl, I2, turn_enumT a (s1.heap.objs.size + 1) s1.heap.objs.size, ⟨⟨.none, he⟩, hit, Nat.succ_ne_self _, Nat.ne_of_lt hlt, Nat.ne_of_lt (Nat.lt_succ_of_lt hlt)⟩, fun b hb => ?_, q⟩
    have hle : s1.heap.objs.size ≤ b := by
      rcases (show b = s1.heap.objs.size + 1 ∨ b = s1.heap.objs.size by simpa using hb) with z | z
      · rw [z]; exact Nat.le_add_right _ _
      · rw [z]; exact Nat.le_refl _
    exact I1.fpOk hle (I1.hok.fresh hle)
/-- over a tuple that the body leaves as it is -/
theorem for_enumT {K : PySem.W.Frag} {a : Addr} {xs : List V} {g : TG} {tb : TS} {D : Ends} {σ : L2.St} {H : Hp} (Pv : Nat → L2.St → Hp → Prop) (h0 : Pv 0 σ H) (hl : ∀ i σ H, i ≤ xs.length → Pv i σ H → SqT K H a xs)
    (hs : ∀ i x σ H T, xs[i]? = some x → Pv i σ H → H T = none → g (.ref T) σ (upd H T (.tup [.int (i : Nat), x])) fun σ2 H2 => tb { D with nx := Pv (i + 1), ct := Pv (i + 1), bk := D.nx } σ2 H2) (hd : ∀ σ H, Pv xs.length σ H → D.nx σ H) :
    ∃ W : Nat → Nat → L2.St → Hp → Prop, (∃ m, W 0 m σ H) ∧ ∀ i m σ H, W i m σ H →
      ((IteT K a).stop i H ∧ D.nx σ H) ∨ ((IteT K a).go i H ∧ ∃ N : L2.St → Hp → Prop, (∀ σ' H', N σ' H' → ∃ m', m' < m ∧ W (i + 1) m' σ' H') ∧ ∀ x H', (IteT K a).yld i H x H' → g x σ H' fun σ2 H2 => tb { D with nx := N, ct := N, bk := D.nx } σ2 H2) := by
  refine ⟨fun i m σ H => m = xs.length - i ∧ i ≤ xs.length ∧ Pv i σ H, ⟨xs.length, by simp, Nat.zero_le _, h0⟩, ?_⟩
  rintro i m σ H ⟨rfl, hi, p⟩
  have q := hl i σ H hi p
  rcases Nat.lt_or_eq_of_le hi with hlt | e
  · refine .inr ⟨⟨xs, xs[i], q, by simp [hlt]⟩, Pv (i + 1), fun σ' H' p' => ⟨xs.length - (i + 1), by omega, rfl, hlt, p'⟩, fun v H' ⟨T, x, ev, hT, eH, hx⟩ => ?_⟩
    subst ev eH
    exact hs i x σ H T (hx xs q) p hT
  · subst e
    exact .inl ⟨⟨xs, q, Nat.le_refl _⟩, hd σ H p⟩
end Kx
namespace Kx
open PySem L2 PySem.Spec PyProof.Rows
def top (i : Nat) : Stmt := PySem.Challenge.pw_contractheirs_k16_joined_classes.main.body.getD i (.Pass ⟨0, 0, 0, 0⟩)
abbrev sIsInt : Stmt := top 13
abbrev sIsWord : Stmt := top 14
abbrev sIsTerm : Stmt := top 17
abbrev sIsLit : Stmt := top 18
abbrev sLitT : Stmt := top 19
abbrev sIsCl : Stmt := top 20
abbrev sStand : Stmt := top 24
abbrev sFirst : Stmt := top 25
/-! words, terms, literals, clauses -/
def lets : Str := "abcdefghijklmnopqrstuvwxyz"
def isWord (t : Str) : Bool := decide (1 ≤ t.length ∧ t.length ≤ 8) && t.cps.toList.all fun c => decide (c ∈ lets.cps.toList)
def isTerm (t : Str) : Bool := decide (t = "") || (decide ((Txt.split t ".").length ≤ 2) && (Txt.split t ".").all isWord)
structure Short (t : Str) : Prop where
  l : t.length ≤ 1000
  n : (Txt.split t ".").length ≤ 1000
  e : ∀ x ∈ Txt.split t ".", x.length ≤ 1000
structure Bx (mg : Str → Option Value) : Prop where
  isi : mg "isinstance" = none
  int : mg "int" = none
  bool : mg "bool" = none
  str : mg "str" = none
  tuple : mg "tuple" = none
  len : mg "len" = none
  all : mg "all" = none
  sorted : mg "sorted" = none
  enum : mg "enumerate" = none
  lets : ∃ t, mg "LETTERS" = some (.str lets t)
  longest : ∃ t, mg "LONGEST_WORD" = some (.int 8 t)
structure Fa (K : PySem.W.Frag) (mg : Str → Option Value) (g x : Str) (st : Stmt) (ps : List Str) (f : Addr) (fd : FuncData) : Prop where
  F : Fun K x x st f fd
  b : Binds K fd ps []
  m : mg g = some (.ref f)
structure Fs (K : PySem.W.Frag) (mg : Str → Option Value) (x : Str) (st : Stmt) (ps : List Str) (f : Addr) (fd : FuncData) : Prop where
  F : Fun K x x st f fd
  b : Binds K fd ps []
  m : mg x = some (.ref f)
theorem yes_of {σ : L2.St} {H : Hp} {A B : Hp → Prop} (h : A H) : tYes σ H fun b H3 => if b = true then A H3 else B H3 := by
  show (if true = true then A H else B H)
  rw [if_pos rfl]
  exact h
theorem new_same {H : Hp} {D : Addr} {o : HO} (hD : H D = none) : Same H (upd H D o) := fun b u e => by
  have hb : b ≠ D := fun z => by
    rw [z, hD] at e
    cases e
  rw [upd_ne hb]
  exact e
/-- what is told at a new address stays told of what was there -/
theorem same_upd {H H2 : Hp} {D : Addr} {o : HO} (hD : H D = none) (s2 : Same H H2) : Same H (upd H2 D o) := fun b u e => by
  have hb : b ≠ D := fun z => by
    rw [z, hD] at e
    cases e
  rw [upd_ne hb]
  exact s2 b u e
theorem tyT {K : PySem.W.Frag} {H : Hp} {a : Addr} {xs : List V} (h : SqT K H a xs) : TyX K H (.ref a) (.type "tuple") := by
  rcases h with (h | ⟨o, h⟩) | ⟨o, its, n, hk, hc, _⟩
  · exact .base (.tup h)
  · exact .fTuple h
  · exact .kTuple hk hc
theorem SqT.same {K : PySem.W.Frag} {H H' : Hp} {a : Addr} {xs : List V} (s : Same H H') (h : SqT K H a xs) : SqT K H' a xs := by
  rcases h with (h | ⟨o, h⟩) | h
  · exact .inl (.inl (s _ _ h))
  · exact .inl (.inr ⟨o, s _ _ h⟩)
  · exact .inr h
def spIsInt : Sp := fun vs H Q _ => ∃ n : Int, vs = [.int n] ∧ Q (.bl true) H
def spIsWord : Sp := fun vs H Q _ => ∃ t : Str, vs = [.str t] ∧ t.length ≤ 1000 ∧ ∀ H', Same H H' → Q (.bl (isWord t)) H'
def spIsTerm : Sp := fun vs H Q _ => ∃ t : Str, vs = [.str t] ∧ Short t ∧ ∀ H', Same H H' → Q (.bl (isTerm t)) H'
abbrev Lit := Str × Str × Int
def IsLit (K : PySem.W.Frag) (H : Hp) (x : V) (l : Lit) : Prop := ∃ a, x = .ref a ∧ SqT K H a [.str l.1, .str l.2.1, .int l.2.2]
def spIsLit (K : PySem.W.Frag) : Sp := fun vs H Q _ => ∃ (x : V) (l : Lit), vs = [x] ∧ IsLit K H x l ∧ Q (.bl true) H
theorem IsLit.same {K : PySem.W.Frag} {H H' : Hp} {x : V} {l : Lit} (s : Same H H') (h : IsLit K H x l) : IsLit K H' x l := let ⟨a, e, q⟩ := h; ⟨a, e, SqT.same s q⟩
section
variable {P : Program} {w : World} {K : PySem.W.Frag} {mg : Str → Option Value} {base : Heap}
theorem scInt : FnScope ["thing"] ["thing"] (defScope sIsInt) := ⟨rfl, rfl, rfl, by decide +kernel, rfl, by decide +kernel, by decide +kernel⟩
theorem ok_isint {f : Addr} {fd : FuncData} (F : Fs K mg "is_integer" sIsInt ["thing"] f fd) (T : Bx mg) : FnOk P w K mg base CX0 1 f fd ["thing"] spIsInt := by
  refine F.F.ok scInt (fun vs H Q E h => ?_) (fun cdv A outer s H vs Q E hr h => ?_)
  · obtain ⟨n, rfl, _⟩ := h
    rfl
  · obtain ⟨n, rfl, q⟩ := h
    refine ⟨_, pss_one (ps_ret (pe_and (pe_callB call_isi (by rfl) T.isi boot_isinstance (pa_cons (pv 0) (pa_cons (pe_bltn (v := .ty "int") (by rfl) T.int (by decide +kernel) rfl) pa_nil)))
      (pe_one (pe_not (pe_callB call_isi (by rfl) T.isi boot_isinstance (pa_cons (pv 0) (pa_cons (pe_bltn (v := .ty "bool") (by rfl) T.bool (by decide +kernel) rfl) pa_nil))))))), ?_⟩
    refine ⟨_, rfl, .int n, .ty "int", _, _, true, rfl, .ty _, .base (.int n), kit_ty (by decide +kernel), true, rfl, iteT ?_⟩
    exact ⟨_, rfl, .int n, .ty "bool", _, _, false, rfl, .ty _, .base (.int n), kit_ty (by decide +kernel), false, rfl, q⟩
theorem scWord : FnScope ["thing", "letter"] ["thing"] (defScope sIsWord) := ⟨rfl, rfl, rfl, by decide +kernel, rfl, by decide +kernel, by decide +kernel⟩
theorem ok_isword {f : Addr} {fd : FuncData} (F : Fs K mg "is_word" sIsWord ["thing"] f fd) (T : Bx mg) : FnOk P w K mg base CX0 1 f fd ["thing"] spIsWord := by
  obtain ⟨tl, hL⟩ := T.lets
  obtain ⟨tw, hW⟩ := T.longest
  refine F.F.ok scWord (fun vs H Q E h => ?_) (fun cdv A outer s H vs Q E hr h => ?_)
  · obtain ⟨t, rfl, _⟩ := h
    rfl
  · obtain ⟨t, rfl, hs, q⟩ := h
    refine ⟨_, pss_cons (ps_if (PW.pt (pw_or (pt_not (pt_val (pe_callB call_isi (by rfl) T.isi boot_isinstance (pa_cons (pv 0) (pa_cons (pe_bltn (v := .ty "str") (by rfl) T.str (by decide +kernel) rfl) pa_nil)))))
        (pw_or1 (pt_not (pt_chain op_le op_le pe_int (pe_callB call_len_str (by rfl) T.len PySem.boot_len (pa_cons (pv 0) pa_nil)) (pe_glob (v := .int 8) (by rfl) hW ⟨_, rfl⟩)))))) (pss_one (ps_ret pe_bl)) pss_nil)
      (pss_one (ps_ret (pe_callB (cr_all rfl) (by rfl) T.all (by decide +kernel) (pa_cons
        (pe_lc (own := [("letter", 1)]) (g := gName 1) (tt := tYes) rfl scWord.nd (pi_str (pv 0)) (blkOk_by (N := ["thing", "letter"]) (sc := defScope sIsWord) (by decide +kernel))
          (fun _ _ _ _ _ => pg_name (i := 1) scWord.nd rfl (Or.inl rfl)) (fun _ _ _ _ _ => pts_nil) (fun _ _ _ _ _ => pe_cmpR op_in_sign (pv 1) (pe_glob (v := .str lets) (by rfl) hL ⟨_, rfl⟩) (by with_unfolding_all rfl))) pa_nil)))), ?_⟩
    have hz : t.length ≤ sizeLine := Nat.le_of_lt (small1000 hs)
    refine ⟨_, rfl, .str t, .ty "str", _, _, true, rfl, .ty _, .base (.str t), kit_ty (by decide +kernel), true, rfl, iteF ?_⟩
    refine ⟨_, rfl, t, rfl, hz, _, _, rfl, rfl, _, rfl, ?_⟩
    by_cases h1 : (1 : Int) ≤ (t.length : Int)
    case neg =>
      rw [decide_eq_false h1]
      have e : isWord t = false := by
        unfold isWord
        rw [decide_eq_false (by omega), Bool.false_and]
      refine iteF ⟨_, rfl, iteT ?_⟩
      have q' := q H fun _ _ z => z
      rw [e] at q'
      exact q'
    case pos =>
    rw [decide_eq_true h1]
    refine iteT ⟨_, _, rfl, rfl, _, rfl, ?_⟩
    by_cases h2 : (t.length : Int) ≤ 8
    case neg =>
      rw [decide_eq_false h2]
      have e : isWord t = false := by
        unfold isWord
        rw [decide_eq_false (by omega), Bool.false_and]
      refine iteT ?_
      have q' := q H fun _ _ z => z
      rw [e] at q'
      exact q'
    case pos =>
    rw [decide_eq_true h2]
    refine iteF ?_
    refine ⟨_, rfl, t, rfl, fun D hD => ?_⟩
    refine lc_it walk_str (fun i H2 => Same H H2 ∧ H2 D = some (.lst ((t.cps.toList.take i).map fun c => .bl (decide (c ∈ lets.cps.toList))))) ⟨new_same hD, upd_same⟩ (fun _ _ _ _ => trivial) ?_ ?_
    · rintro i x H2 H3 hi ⟨s2, g⟩ ⟨rfl, c, hc, rfl⟩
      refine ⟨rfl, yes_of ?_⟩
      have hc' : t.cps.toList[i]? = some c := by rw [Array.getElem?_toList]; exact hc
      refine ⟨_, rfl, c, lets, rfl, rfl, _, g, small1000 (by rw [List.length_map, List.length_take]; have e : t.length = t.cps.toList.length := Array.length_toList.symm; omega), same_upd hD s2, ?_⟩
      · rw [upd_same, List.take_add_one, hc', List.map_append]
        rfl
    · rintro H2 ⟨s2, g⟩
      refine ⟨D, t.cps.toList.map fun c => decide (c ∈ lets.cps.toList), rfl, SqL.of ?_, ?_⟩
      · rw [g, List.take_of_length_le (by rw [Array.length_toList]; exact Nat.le_refl _), List.map_map]
        rfl
      · have e : isWord t = (t.cps.toList.map fun c => decide (c ∈ lets.cps.toList)).all id := by
          unfold isWord
          rw [decide_eq_true (by omega), Bool.true_and, List.all_map]
          rfl
        rw [← e]
        exact q H2 s2
theorem scTerm : FnScope ["thing", "words", "word"] ["thing"] (defScope sIsTerm) := ⟨rfl, rfl, rfl, by decide +kernel, rfl, by decide +kernel, by decide +kernel⟩
theorem ok_isterm {f g : Addr} {fd fdW : FuncData} (F : Fs K mg "is_term" sIsTerm ["thing"] f fd) (W : Fs K mg "is_word" sIsWord ["thing"] g fdW) (T : Bx mg) : FnOk P w K mg base CX0 2 f fd ["thing"] spIsTerm := by
  have GW : FnOk P w K mg base CX0 1 g fdW ["thing"] spIsWord := ok_isword W T
  refine F.F.ok scTerm (fun vs H Q E h => ?_) (fun cdv A outer s H vs Q E hr h => ?_)
  · obtain ⟨t, rfl, _⟩ := h
    rfl
  · obtain ⟨t, rfl, hs, q⟩ := h
    refine ⟨_, pss_cons (ps_if (pt_not (pt_val (pe_callB call_isi (by rfl) T.isi boot_isinstance (pa_cons (pv 0) (pa_cons (pe_bltn (v := .ty "str") (by rfl) T.str (by decide +kernel) rfl) pa_nil))))) (pss_one (ps_ret pe_bl)) pss_nil)
      (pss_cons (ps_if (pt_cmpR op_eq (pv 0) pe_str (nomark _)) (pss_one (ps_ret pe_bl)) pss_nil)
      (pss_cons (ps_set (i := 1) scTerm.nd rfl (Or.inl rfl) (pe_split (pv 0) pe_str))
      (pss_one (ps_ret (pe_and (pe_cmpR op_le (pe_callB call_len_seq (by rfl) T.len PySem.boot_len (pa_cons (pv 1) pa_nil)) pe_int (nomark _))
        (pe_one (pe_callB (cr_all rfl) (by rfl) T.all (by decide +kernel) (pa_cons
          (pe_lc (own := [("word", 2)]) (g := gName 2) (tt := tYes) rfl scTerm.nd (pi_list (pv 1)) (blkOk_by (N := ["thing", "words", "word"]) (sc := defScope sIsTerm) (by decide +kernel))
            (fun _ _ _ _ _ => pg_name (i := 2) scTerm.nd rfl (Or.inl rfl)) (fun _ _ _ _ _ => pts_nil)
            (fun _ _ _ _ _ => pe_call GW hr rfl W.m W.F.kp W.b .nil pass0 (pa_cons (pv 2) pa_nil))) pa_nil)))))))), ?_⟩
    refine ⟨_, rfl, .str t, .ty "str", _, _, true, rfl, .ty _, .base (.str t), kit_ty (by decide +kernel), true, rfl, iteF ?_⟩
    refine ⟨_, rfl, rfl, _, rfl, ?_⟩
    by_cases ht : t = ""
    case pos =>
      have e : decide (V.str t = V.str "") = true := by rw [ht]; exact decide_eq_true rfl
      rw [e]
      refine iteT ?_
      have e : isTerm t = true := by
        unfold isTerm
        rw [decide_eq_true ht, Bool.true_or]
      have q' := q H fun _ _ z => z
      rw [e] at q'
      exact q'
    case neg =>
    have e : decide (V.str t = V.str "") = false := decide_eq_false fun z => ht (V.str.inj z)
    rw [e]
    refine iteF ?_
    have e0 : isTerm t = (decide ((Txt.split t ".").length ≤ 2) && (Txt.split t ".").all isWord) := by
      unfold isTerm
      rw [decide_eq_false ht, Bool.false_or]
    rw [e0] at q
    refine ⟨_, rfl, ⟨t, rfl⟩, t, ".", rfl, rfl, (by decide), (by have := hs.l; rw [sizeLine_eq]; omega), fun p hp => ?_⟩
    have gp : (upd H p (.lst ((Txt.split t ".").map V.str))) p = some (.lst ((Txt.split t ".").map V.str)) := upd_same
    refine ⟨_, rfl, p, _, rfl, .inl (SqL.of gp), _, _, rfl, rfl, _, rfl, ?_⟩
    rw [List.length_map]
    by_cases h2 : ((Txt.split t ".").length : Int) ≤ 2
    case neg =>
      rw [decide_eq_false (by omega), Bool.false_and] at q
      rw [decide_eq_false h2]
      exact iteF (q _ (new_same hp))
    case pos =>
    rw [decide_eq_true (by omega), Bool.true_and] at q
    rw [decide_eq_true h2]
    refine iteT ⟨_, rfl, p, rfl, ⟨_, SqL.of gp⟩, fun D hD => ?_⟩
    have nD : p ≠ D := fun z => by
      rw [← z, gp] at hD
      cases hD
    refine lc_it (walk_list (xs := (Txt.split t ".").map V.str)) (fun i H2 => Same (upd H p (.lst ((Txt.split t ".").map V.str))) H2 ∧ H2 D = some (.lst (((Txt.split t ".").take i).map fun x => .bl (isWord x)))) ⟨new_same hD, upd_same⟩ (fun i H2 _ h => SqL.of (h.1 _ _ gp)) ?_ ?_
    · rintro i x H2 H3 hi ⟨s2, gD⟩ ⟨rfl, hx⟩
      rw [List.getElem?_map] at hx
      obtain ⟨z, hz, rfl⟩ := Option.map_eq_some_iff.mp hx
      refine ⟨rfl, yes_of ⟨_, rfl, z, rfl, hs.e z (List.mem_of_getElem? hz), fun H4 s4 => ⟨_, s4 _ _ gD, small1000 (by rw [List.length_map, List.length_take]; have := hs.n; omega), same_upd hD (fun b u e => s4 _ _ (s2 _ _ e)), ?_⟩⟩⟩
      rw [upd_same, List.take_add_one, hz, List.map_append]
      rfl
    · rintro H2 ⟨s2, gD⟩
      refine ⟨D, (Txt.split t ".").map isWord, rfl, SqL.of ?_, ?_⟩
      · rw [gD, List.take_of_length_le (by rw [List.length_map]; exact Nat.le_refl _), List.map_map]
        rfl
      · have e : (Txt.split t ".").all isWord = ((Txt.split t ".").map isWord).all id := by
          rw [List.all_map]
          rfl
        rw [← e]
        exact q H2 fun b u z => s2 _ _ (new_same hp b u z)
theorem scLit : FnScope ["thing", "left", "right", "number"] ["thing"] (defScope sIsLit) := ⟨rfl, rfl, rfl, by decide +kernel, rfl, by decide +kernel, by decide +kernel⟩
theorem ok_islit {f g : Addr} {fd fdI : FuncData} (F : Fs K mg "is_literal" sIsLit ["thing"] f fd) (W : Fs K mg "is_integer" sIsInt ["thing"] g fdI) (T : Bx mg) : FnOk P w K mg base CX0 2 f fd ["thing"] (spIsLit K) := by
  have GI : FnOk P w K mg base CX0 1 g fdI ["thing"] spIsInt := ok_isint W T
  refine F.F.ok scLit (fun vs H Q E h => ?_) (fun cdv A outer s H vs Q E hr h => ?_)
  · obtain ⟨x, l, rfl, _⟩ := h
    rfl
  · obtain ⟨x, ⟨l1, l2, n⟩, rfl, ⟨a, rfl, ha⟩, q⟩ := h
    refine ⟨_, pss_cons (ps_if (PW.pt (pw_or (pt_not (pt_val (pe_callB call_isi (by rfl) T.isi boot_isinstance (pa_cons (pv 0) (pa_cons (pe_bltn (v := .ty "tuple") (by rfl) T.tuple (by decide +kernel) rfl) pa_nil)))))
        (pw_or1 (pt_cmpR op_ne (pe_callB call_len_seq (by rfl) T.len PySem.boot_len (pa_cons (pv 0) pa_nil)) pe_int (nomark _))))) (pss_one (ps_ret pe_bl)) pss_nil)
      (pss_cons (ps_asg (pv 0) (pg_tup rfl (pgs_cons (pg_name (i := 1) scLit.nd rfl (Or.inl rfl)) (pgs_cons (pg_name (i := 2) scLit.nd rfl (Or.inl rfl)) (pgs_cons (pg_name (i := 3) scLit.nd rfl (Or.inl rfl)) pgs_nil)))))
      (pss_one (ps_ret (pe_and (pe_callB call_isi (by rfl) T.isi boot_isinstance (pa_cons (pv 1) (pa_cons (pe_bltn (v := .ty "str") (by rfl) T.str (by decide +kernel) rfl) pa_nil)))
        (pe_and (pe_callB call_isi (by rfl) T.isi boot_isinstance (pa_cons (pv 2) (pa_cons (pe_bltn (v := .ty "str") (by rfl) T.str (by decide +kernel) rfl) pa_nil)))
        (pe_one (pe_call GI hr rfl W.m W.F.kp W.b .nil pass0 (pa_cons (pv 3) pa_nil)))))))), ?_⟩
    refine ⟨_, rfl, .ref a, .ty "tuple", _, _, true, rfl, .ty _, tyT ha, kit_ty (by decide +kernel), true, rfl, iteF ?_⟩
    refine ⟨_, rfl, a, _, rfl, .inr ha, rfl, _, rfl, ?_⟩
    refine iteF ?_
    refine ⟨_, rfl, a, _, rfl, ha, rfl, _, _, rfl, _, _, rfl, _, _, rfl, rfl, ?_⟩
    refine ⟨_, rfl, .str l1, .ty "str", _, _, true, rfl, .ty _, .base (.str l1), kit_ty (by decide +kernel), true, rfl, iteT ?_⟩
    refine ⟨_, rfl, .str l2, .ty "str", _, _, true, rfl, .ty _, .base (.str l2), kit_ty (by decide +kernel), true, rfl, iteT ?_⟩
    exact ⟨_, rfl, n, rfl, q⟩
def spLitT (K : PySem.W.Frag) : Sp := fun vs H Q _ => ∃ (x : V) (l : Lit), vs = [x] ∧ IsLit K H x l ∧ Short l.1 ∧ Short l.2.1 ∧ ∀ H', Same H H' → Q (.bl (isTerm l.1 && isTerm l.2.1)) H'
theorem scLitT : FnScope ["thing"] ["thing"] (defScope sLitT) := ⟨rfl, rfl, rfl, by decide +kernel, rfl, by decide +kernel, by decide +kernel⟩
theorem ok_litT {f g i t wd : Addr} {fd fdL fdI fdT fdW : FuncData} (F : Fs K mg "is_literal_over_terms" sLitT ["thing"] f fd) (L : Fs K mg "is_literal" sIsLit ["thing"] g fdL) (I : Fs K mg "is_integer" sIsInt ["thing"] i fdI)
    (Tm : Fs K mg "is_term" sIsTerm ["thing"] t fdT) (W : Fs K mg "is_word" sIsWord ["thing"] wd fdW) (T : Bx mg) : FnOk P w K mg base CX0 3 f fd ["thing"] (spLitT K) := by
  have GL : FnOk P w K mg base CX0 2 g fdL ["thing"] (spIsLit K) := ok_islit L I T
  have GT : FnOk P w K mg base CX0 2 t fdT ["thing"] spIsTerm := ok_isterm Tm W T
  refine F.F.ok scLitT (fun vs H Q E h => ?_) (fun cdv A outer s H vs Q E hr h => ?_)
  · obtain ⟨x, l, rfl, _⟩ := h
    rfl
  · obtain ⟨x, ⟨l1, l2, n⟩, rfl, ⟨a, rfl, ha⟩, sh1, sh2, q⟩ := h
    refine ⟨_, pss_one (ps_ret (pe_and (pe_call GL hr (by rfl) L.m L.F.kp L.b .nil pass0 (pa_cons (pv 0) pa_nil))
      (pe_and (pe_call GT hr (by rfl) Tm.m Tm.F.kp Tm.b .nil pass0 (pa_cons (pe_ix ix_tup (pv 0) pe_int (fun _ _ => rfl)) pa_nil))
      (pe_one (pe_call GT hr (by rfl) Tm.m Tm.F.kp Tm.b .nil pass0 (pa_cons (pe_ix ix_tup (pv 0) pe_int (fun _ _ => rfl)) pa_nil)))))), ?_⟩
    refine ⟨_, rfl, .ref a, (l1, l2, n), rfl, ⟨a, rfl, ha⟩, _, rfl, iteT ?_⟩
    refine ⟨_, rfl, a, _, _, .str l1, rfl, rfl, ha, rfl, l1, rfl, sh1, fun H4 s4 => ⟨_, rfl, ?_⟩⟩
    cases h3 : isTerm l1 with
    | false =>
      have q' := q H4 s4
      rw [show isTerm (l1, l2, n).1 = false from h3, Bool.false_and] at q'
      exact iteF q'
    | true =>
      refine iteT ⟨_, rfl, a, _, _, .str l2, rfl, rfl, SqT.same s4 ha, rfl, l2, rfl, sh2, fun H5 s5 => ?_⟩
      have q' := q H5 fun b u z => s5 _ _ (s4 _ _ z)
      rw [show isTerm (l1, l2, n).1 = true from h3, Bool.true_and] at q'
      exact q'
end
end Kx
namespace Kx
open PySem L2 PySem.Spec PyProof.Rows
structure Cl (K : PySem.W.Frag) (H : Hp) (a : Addr) (xs : List V) (c : List Lit) : Prop where
  sq : SqT K H a xs
  p : Paired (IsLit K H) xs c
  l1 : 1 ≤ c.length
  l2 : c.length ≤ 1000
theorem paired_same {K : PySem.W.Frag} {H H' : Hp} (s : Same H H') {xs : List V} {c : List Lit} (h : Paired (IsLit K H) xs c) : Paired (IsLit K H') xs c := L2.Paired.mapP h fun _ _ z => IsLit.same s z
theorem Cl.same {K : PySem.W.Frag} {H H' : Hp} {a : Addr} {xs : List V} {c : List Lit} (s : Same H H') (h : Cl K H a xs c) : Cl K H' a xs c := ⟨SqT.same s h.sq, paired_same s h.p, h.l1, h.l2⟩
theorem Cl.len {K : PySem.W.Frag} {H : Hp} {a : Addr} {xs : List V} {c : List Lit} (h : Cl K H a xs c) : xs.length = c.length := Paired.length h.p
def spIsCl (K : PySem.W.Frag) : Sp := fun vs H Q _ => ∃ (a : Addr) (xs : List V) (c : List Lit) (m : Int), vs = [.ref a, .int m] ∧ Cl K H a xs c ∧ ∀ H', Same H H' → Q (.bl (decide ((c.length : Int) ≤ m))) H'
def stands (c : List Lit) : Bool := decide ((c.length : Int) ≤ 2) && c.all fun l => isTerm l.1 && isTerm l.2.1
def spStand (K : PySem.W.Frag) : Sp := fun vs H Q _ => ∃ (a : Addr) (xs : List V) (c : List Lit), vs = [.ref a] ∧ Cl K H a xs c ∧ (∀ l ∈ c, Short l.1 ∧ Short l.2.1) ∧ ∀ H', Same H H' → Q (.bl (stands c)) H'
section
variable {P : Program} {w : World} {K : PySem.W.Frag} {mg : Str → Option Value} {base : Heap}
theorem scCl : FnScope ["thing", "most", "literal"] ["thing", "most"] (defScope sIsCl) := ⟨rfl, rfl, rfl, by decide +kernel, rfl, by decide +kernel, by decide +kernel⟩
theorem ok_iscl {f g i : Addr} {fd fdL fdI : FuncData} (F : Fs K mg "is_clause" sIsCl ["thing", "most"] f fd) (L : Fs K mg "is_literal" sIsLit ["thing"] g fdL) (I : Fs K mg "is_integer" sIsInt ["thing"] i fdI) (T : Bx mg) :
    FnOk P w K mg base CX0 3 f fd ["thing", "most"] (spIsCl K) := by
  have GL : FnOk P w K mg base CX0 2 g fdL ["thing"] (spIsLit K) := ok_islit L I T
  refine F.F.ok scCl (fun vs H Q E h => ?_) (fun cdv A outer s H vs Q E hr h => ?_)
  · obtain ⟨a, xs, c, m, rfl, _⟩ := h
    rfl
  · obtain ⟨a, xs, c, m, rfl, hc, q⟩ := h
    have hl := hc.len
    have h1 := hc.l1
    refine ⟨_, pss_cons (ps_if (PW.pt (pw_or (pt_not (pt_val (pe_callB call_isi (by rfl) T.isi boot_isinstance (pa_cons (pv 0) (pa_cons (pe_bltn (v := .ty "tuple") (by rfl) T.tuple (by decide +kernel) rfl) pa_nil)))))
        (pw_or1 (pt_not (pt_chain op_le op_le pe_int (pe_callB call_len_seq (by rfl) T.len PySem.boot_len (pa_cons (pv 0) pa_nil)) (pv 1)))))) (pss_one (ps_ret pe_bl)) pss_nil)
      (pss_one (ps_ret (pe_callB (cr_all rfl) (by rfl) T.all (by decide +kernel) (pa_cons
        (pe_lc (own := [("literal", 2)]) (g := gName 2) (tt := tYes) rfl scCl.nd (pi_tup (pv 0)) (blkOk_by (N := ["thing", "most", "literal"]) (sc := defScope sIsCl) (by decide +kernel))
          (fun _ _ _ _ _ => pg_name (i := 2) scCl.nd rfl (Or.inl rfl)) (fun _ _ _ _ _ => pts_nil)
          (fun _ _ _ _ _ => pe_call GL hr rfl L.m L.F.kp L.b .nil pass0 (pa_cons (pv 2) pa_nil))) pa_nil)))), ?_⟩
    refine ⟨_, rfl, .ref a, .ty "tuple", _, _, true, rfl, .ty _, tyT hc.sq, kit_ty (by decide +kernel), true, rfl, iteF ?_⟩
    refine ⟨_, rfl, a, xs, rfl, .inr hc.sq, _, _, rfl, rfl, _, rfl, ?_⟩
    rw [decide_eq_true (by rw [hl]; omega)]
    refine iteT ⟨_, rfl, _, _, rfl, rfl, _, rfl, ?_⟩
    rw [hl]
    by_cases h2 : (c.length : Int) ≤ m
    case neg =>
      rw [decide_eq_false h2] at q ⊢
      exact iteT (q H fun _ _ z => z)
    case pos =>
    rw [decide_eq_true h2] at q ⊢
    refine iteF ⟨_, rfl, a, rfl, ⟨_, hc.sq⟩, fun D hD => ?_⟩
    refine lc_it (walk_tup (xs := xs)) (fun i H2 => Same H H2 ∧ H2 D = some (.lst ((List.replicate i true).map V.bl))) ⟨new_same hD, upd_same⟩ (fun i H2 _ h => SqT.same h.1 hc.sq) ?_ ?_
    · rintro i x H2 H3 hi ⟨s2, gD⟩ ⟨rfl, hx⟩
      obtain ⟨l, hcl, hx'⟩ := paired_get hc.p hx
      refine ⟨rfl, yes_of ⟨_, rfl, x, l, rfl, IsLit.same s2 hx', _, gD, small1000 (by rw [List.length_map, List.length_replicate]; have := hc.l2; omega), same_upd hD s2, ?_⟩⟩
      rw [upd_same, List.replicate_succ', List.map_append]
      rfl
    · rintro H2 ⟨s2, gD⟩
      refine ⟨D, List.replicate xs.length true, rfl, SqL.of gD, ?_⟩
      have e : (List.replicate xs.length true).all id = true := List.all_eq_true.mpr fun b hb => by rw [(List.mem_replicate.mp hb).2]; rfl
      rw [e]
      exact q H2 s2
theorem scStand : FnScope ["thing", "literal"] ["thing"] (defScope sStand) := ⟨rfl, rfl, rfl, by decide +kernel, rfl, by decide +kernel, by decide +kernel⟩
theorem ok_stand {f g i c' t wd lt : Addr} {fd fdL fdI fdC fdT fdW fdLT : FuncData} (F : Fs K mg "_can_stand" sStand ["thing"] f fd) (C : Fs K mg "is_clause" sIsCl ["thing", "most"] c' fdC) (L : Fs K mg "is_literal" sIsLit ["thing"] g fdL) (I : Fs K mg "is_integer" sIsInt ["thing"] i fdI)
    (Tm : Fs K mg "is_term" sIsTerm ["thing"] t fdT) (W : Fs K mg "is_word" sIsWord ["thing"] wd fdW) (LT : Fs K mg "is_literal_over_terms" sLitT ["thing"] lt fdLT) (T : Bx mg) (hM : ∃ k, mg "MOST_LITERALS" = some (.int 2 k)) :
    FnOk P w K mg base CX0 4 f fd ["thing"] (spStand K) := by
  obtain ⟨tk, hM⟩ := hM
  have GC : FnOk P w K mg base CX0 3 c' fdC ["thing", "most"] (spIsCl K) := ok_iscl C L I T
  have GT : FnOk P w K mg base CX0 3 lt fdLT ["thing"] (spLitT K) := ok_litT LT L I Tm W T
  refine F.F.ok scStand (fun vs H Q E h => ?_) (fun cdv A outer s H vs Q E hr h => ?_)
  · obtain ⟨a, xs, c, rfl, _⟩ := h
    rfl
  · obtain ⟨a, xs, c, rfl, hc, hs, q⟩ := h
    have hl := hc.len
    refine ⟨_, pss_one (ps_ret (pe_and (pe_call GC hr (by rfl) C.m C.F.kp C.b .nil pass0 (pa_cons (pv 0) (pa_cons (pe_glob (v := .int 2) (by rfl) hM ⟨_, rfl⟩) pa_nil)))
      (pe_one (pe_callB (cr_all rfl) (by rfl) T.all (by decide +kernel) (pa_cons
        (pe_lc (own := [("literal", 1)]) (g := gName 1) (tt := tYes) rfl scStand.nd (pi_tup (pv 0)) (blkOk_by (N := ["thing", "literal"]) (sc := defScope sStand) (by decide +kernel))
          (fun _ _ _ _ _ => pg_name (i := 1) scStand.nd rfl (Or.inl rfl)) (fun _ _ _ _ _ => pts_nil)
          (fun _ _ _ _ _ => pe_call GT hr (by rfl) LT.m LT.F.kp LT.b .nil pass0 (pa_cons (pv 1) pa_nil))) pa_nil))))), ?_⟩
    refine ⟨_, rfl, a, xs, c, 2, rfl, hc, fun H1 s1 => ⟨_, rfl, ?_⟩⟩
    by_cases h2 : (c.length : Int) ≤ 2
    case neg =>
      rw [decide_eq_false h2]
      have e : stands c = false := by
        unfold stands
        rw [decide_eq_false h2, Bool.false_and]
      rw [e] at q
      exact iteF (q H1 s1)
    case pos =>
    rw [decide_eq_true h2]
    have e : stands c = c.all fun l => isTerm l.1 && isTerm l.2.1 := by
      unfold stands
      rw [decide_eq_true h2, Bool.true_and]
    rw [e] at q
    have hc1 := Cl.same s1 hc
    refine iteT ⟨_, rfl, a, rfl, ⟨_, hc1.sq⟩, fun D hD => ?_⟩
    refine lc_it (walk_tup (xs := xs)) (fun i H2 => Same H1 H2 ∧ H2 D = some (.lst ((c.take i).map fun l => .bl (isTerm l.1 && isTerm l.2.1)))) ⟨new_same hD, upd_same⟩ (fun i H2 _ h => SqT.same h.1 hc1.sq) ?_ ?_
    · rintro i x H2 H3 hi ⟨s2, gD⟩ ⟨rfl, hx⟩
      obtain ⟨l, hcl, hx'⟩ := paired_get hc1.p hx
      obtain ⟨sh1, sh2⟩ := hs l (List.mem_of_getElem? hcl)
      refine ⟨rfl, yes_of ⟨_, rfl, x, l, rfl, IsLit.same s2 hx', sh1, sh2, fun H4 s4 => ?_⟩⟩
      refine ⟨_, s4 _ _ gD, small1000 (by rw [List.length_map, List.length_take]; have := hc.l2; omega), same_upd hD (fun b u z => s4 _ _ (s2 _ _ z)), ?_⟩
      rw [upd_same, List.take_add_one, hcl, List.map_append]
      rfl
    · rintro H2 ⟨s2, gD⟩
      refine ⟨D, c.map fun l => isTerm l.1 && isTerm l.2.1, rfl, SqL.of ?_, ?_⟩
      · rw [gD, hl, List.take_of_length_le (Nat.le_refl _), List.map_map]
        rfl
      · have e : (c.all fun l => isTerm l.1 && isTerm l.2.1) = (c.map fun l => isTerm l.1 && isTerm l.2.1).all id := by
          rw [List.all_map]
          rfl
        rw [← e]
        exact q H2 fun b u z => s2 _ _ (s1 _ _ z)
end
end Kx
namespace Kx
open PySem L2 PySem.Spec PyProof.Rows
def IsC (K : PySem.W.Frag) (H : Hp) (x : V) (c : List Lit) : Prop := ∃ a ys, x = .ref a ∧ Cl K H a ys c
theorem IsC.same {K : PySem.W.Frag} {H H' : Hp} {x : V} {c : List Lit} (s : Same H H') (h : IsC K H x c) : IsC K H' x c := let ⟨a, ys, e, q⟩ := h; ⟨a, ys, e, Cl.same s q⟩
/-- a tuple of clauses -/
structure Cs (K : PySem.W.Frag) (H : Hp) (a : Addr) (xs : List V) (cs : List (List Lit)) : Prop where
  sq : SqT K H a xs
  p : Paired (IsC K H) xs cs
  l : cs.length ≤ 1000
theorem pairedC_same {K : PySem.W.Frag} {H H' : Hp} (s : Same H H') {xs : List V} {cs : List (List Lit)} (h : Paired (IsC K H) xs cs) : Paired (IsC K H') xs cs := L2.Paired.mapP h fun _ _ z => IsC.same s z
theorem Cs.same {K : PySem.W.Frag} {H H' : Hp} {a : Addr} {xs : List V} {cs : List (List Lit)} (s : Same H H') (h : Cs K H a xs cs) : Cs K H' a xs cs := ⟨SqT.same s h.sq, pairedC_same s h.p, h.l⟩
def shortC (cs : List (List Lit)) : Prop := ∀ c ∈ cs, ∀ l ∈ c, Short l.1 ∧ Short l.2.1
/-- where clauses are refused, from the i-th on, d of two literals before -/
def wrongAt : Nat → Nat → List (List Lit) → Option Int
  | _, _, [] => none
  | i, d, c :: r => if stands c = true then if (if c.length = 2 then d + 1 else d) = 2 then some (i : Int) else wrongAt (i + 1) (if c.length = 2 then d + 1 else d) r else some (i : Int)
def firstWrong (cs : List (List Lit)) : Option Int := if 4 < cs.length then some (-1) else wrongAt 0 0 cs
def optV : Option Int → V
  | none => .non
  | some i => .int i
def spFirst (K : PySem.W.Frag) : Sp := fun vs H Q _ => ∃ (a : Addr) (xs : List V) (cs : List (List Lit)), vs = [.ref a] ∧ Cs K H a xs cs ∧ shortC cs ∧ ∀ H', Same H H' → Q (optV (firstWrong cs)) H'
/-- the package's own defs, as they are bound -/
structure Forms (K : PySem.W.Frag) (mg : Str → Option Value) : Prop where
  T : Bx mg
  mL : ∃ k, mg "MOST_LITERALS" = some (.int 2 k)
  mC : ∃ k, mg "MOST_CLAUSES" = some (.int 4 k)
  int : ∃ f fd, Fs K mg "is_integer" sIsInt ["thing"] f fd
  word : ∃ f fd, Fs K mg "is_word" sIsWord ["thing"] f fd
  term : ∃ f fd, Fs K mg "is_term" sIsTerm ["thing"] f fd
  lit : ∃ f fd, Fs K mg "is_literal" sIsLit ["thing"] f fd
  cl : ∃ f fd, Fs K mg "is_clause" sIsCl ["thing", "most"] f fd
  stand : ∃ f fd, Fs K mg "_can_stand" sStand ["thing"] f fd
  litT : ∃ f fd, Fs K mg "is_literal_over_terms" sLitT ["thing"] f fd
section
variable {P : Program} {w : World} {K : PySem.W.Frag} {mg : Str → Option Value} {base : Heap}
theorem scFirst : FnScope ["clauses", "doubles", "at", "clause"] ["clauses"] (defScope sFirst) := ⟨rfl, rfl, rfl, by decide +kernel, rfl, by decide +kernel, by decide +kernel⟩
theorem ok_first {f : Addr} {fd : FuncData} (F : Fa K mg "first_wrong_conditions" "_first_wrong" sFirst ["clauses"] f fd) (M : Forms K mg) : FnOk P w K mg base CX0 5 f fd ["clauses"] (spFirst K) := by
  obtain ⟨tk, hM⟩ := M.mC
  obtain ⟨_, _, dI⟩ := M.int
  obtain ⟨_, _, dW⟩ := M.word
  obtain ⟨_, _, dT⟩ := M.term
  obtain ⟨_, _, dL⟩ := M.lit
  obtain ⟨_, _, dC⟩ := M.cl
  obtain ⟨_, _, dS⟩ := M.stand
  obtain ⟨_, _, dLT⟩ := M.litT
  have T := M.T
  have GS : FnOk P w K mg base CX0 4 _ _ ["thing"] (spStand K) := ok_stand dS dC dL dI dT dW dLT T M.mL
  refine F.F.ok scFirst (fun vs H Q E h => ?_) (fun cdv A outer s H vs Q E hr h => ?_)
  · obtain ⟨a, xs, cs, rfl, _⟩ := h
    rfl
  · obtain ⟨a, xs, cs, rfl, hc, hs, q⟩ := h
    have hl : xs.length = cs.length := Paired.length hc.p
    refine ⟨_, pss_cons (ps_if (pt_cmpR op_gt (pe_callB call_len_seq (by rfl) T.len PySem.boot_len (pa_cons (pv 0) pa_nil)) (pe_glob (v := .int 4) (by rfl) hM ⟨_, rfl⟩) (nomark _)) (pss_one (ps_ret (pe_un un_neg pe_int))) pss_nil)
      (pss_cons (ps_set (i := 1) scFirst.nd rfl (Or.inl rfl) pe_int)
      (pss_cons (ps_for PassesOwn.never rfl (pi_enumT (by rfl) T.enum (pa_cons (pv 0) pa_nil)) (pg_tup rfl (pgs_cons (pg_name (i := 2) scFirst.nd rfl (Or.inl rfl)) (pgs_cons (pg_name (i := 3) scFirst.nd rfl (Or.inl rfl)) pgs_nil)))
        (pss_cons (ps_if (pt_not (pt_val (pe_call GS hr (by rfl) dS.m dS.F.kp dS.b .nil pass0 (pa_cons (pv 3) pa_nil)))) (pss_one (ps_ret (pv 2))) pss_nil)
        (pss_cons (ps_if (pt_cmpR op_eq (pe_callB call_len_seq (by rfl) T.len PySem.boot_len (pa_cons (pv 3) pa_nil)) pe_int (nomark _)) (pss_one (ps_aug (i := 1) scFirst.nd rfl (Or.inl rfl) pe_int ip_add)) pss_nil)
        (pss_one (ps_if (pt_cmpR op_eq (pv 1) pe_int (nomark _)) (pss_one (ps_ret (pv 2))) pss_nil)))))
      (pss_one (ps_ret pe_non)))), ?_⟩
    refine ⟨_, rfl, a, xs, rfl, .inr hc.sq, _, _, rfl, rfl, _, rfl, ?_⟩
    rw [hl]
    by_cases h4 : (4 : Int) < (cs.length : Int)
    case pos =>
      rw [decide_eq_true h4]
      have e : firstWrong cs = some (-1) := by
        unfold firstWrong
        rw [if_pos (by omega)]
      rw [e] at q
      exact iteT ⟨_, rfl, q H fun _ _ z => z⟩
    case neg =>
    rw [decide_eq_false h4]
    have e : firstWrong cs = wrongAt 0 0 cs := by
      unfold firstWrong
      rw [if_neg (by omega)]
    rw [e] at q
    obtain ⟨R, hR⟩ : ∃ R, wrongAt 0 0 cs = R := ⟨_, rfl⟩
    rw [hR] at q
    refine iteF ?_
    refine ⟨_, rfl, a, xs, rfl, hc.sq, ?_⟩
    refine for_enumT (xs := xs) (fun i σ H2 => Same H H2 ∧ ∃ (d : Nat) (v2 v3 : Option V), σ = [some (.ref a), some (.int d), v2, v3] ∧ d < 2 ∧ wrongAt i d (cs.drop i) = R) ⟨fun _ _ z => z, 0, none, none, rfl, by decide, hR⟩
      (fun i σ H2 _ h => SqT.same h.1 hc.sq) ?_ ?_
    · rintro i x σ H2 t hx ⟨s2, d, v2, v3, rfl, hd, hw⟩ ht
      obtain ⟨c, hcl, y, ys, rfl, hy⟩ := paired_get hc.p hx
      have hdrop : cs.drop i = c :: cs.drop (i + 1) := (List.drop_eq_getElem?_toList_append).trans (by rw [hcl]; rfl)
      rw [hdrop] at hw
      have s3 : Same H (upd H2 t (.tup [.int (i : Nat), .ref y])) := fun b u z => new_same ht b u (s2 b u z)
      have hy3 := Cl.same s3 hy
      refine ⟨t, _, rfl, SqT.of upd_same, rfl, _, _, rfl, _, _, rfl, rfl, ?_⟩
      refine ⟨_, rfl, y, ys, c, rfl, hy3, fun l hm => hs c (List.mem_of_getElem? hcl) l hm, fun H4 s4 => ⟨_, rfl, ?_⟩⟩
      have s14 : Same H H4 := fun b u z => s4 b u (s3 b u z)
      have hy4 := Cl.same s14 hy
      unfold wrongAt at hw
      cases hst : stands c with
      | false =>
        rw [hst, if_neg Bool.false_ne_true] at hw
        rw [← hw] at q
        exact iteT ⟨_, rfl, q H4 s14⟩
      | true =>
        rw [hst, if_pos rfl] at hw
        refine iteF ?_
        refine ⟨_, rfl, y, ys, rfl, .inr hy4.sq, rfl, _, rfl, ?_⟩
        rw [hy4.len]
        by_cases h2 : c.length = 2
        case pos =>
          rw [if_pos h2] at hw
          have e2 : decide (V.int (c.length : Int) = V.int 2) = true := by rw [h2]; exact decide_eq_true rfl
          rw [e2]
          refine iteT ⟨_, rfl, _, _, rfl, rfl, ?_⟩
          refine ⟨_, rfl, rfl, _, rfl, ?_⟩
          by_cases h5 : d + 1 = 2
          case pos =>
            rw [if_pos h5] at hw
            have e5 : decide (V.int ((d : Int) + 1) = V.int 2) = true := by
              have : d = 1 := by omega
              rw [this]
              exact decide_eq_true rfl
            rw [e5]
            rw [← hw] at q
            exact iteT ⟨_, rfl, q H4 s14⟩
          case neg =>
            rw [if_neg h5] at hw
            have e5 : decide (V.int ((d : Int) + 1) = V.int 2) = false := decide_eq_false fun z => h5 (by have := V.int.inj z; omega)
            rw [e5]
            exact iteF ⟨s14, d + 1, _, _, rfl, by omega, hw⟩
        case neg =>
          rw [if_neg h2] at hw
          have e2 : decide (V.int (c.length : Int) = V.int 2) = false := decide_eq_false fun z => h2 (by have := V.int.inj z; omega)
          rw [e2]
          refine iteF ?_
          refine ⟨_, rfl, rfl, _, rfl, ?_⟩
          have h5 : ¬ d = 2 := by omega
          rw [if_neg h5] at hw
          have e5 : decide (V.int (d : Int) = V.int 2) = false := decide_eq_false fun z => h5 (by have := V.int.inj z; omega)
          rw [e5]
          exact iteF ⟨s14, d, _, _, rfl, hd, hw⟩
    · rintro σ H2 ⟨s2, d, v2, v3, rfl, hd, hw⟩
      rw [List.drop_of_length_le (by rw [hl]; exact Nat.le_refl _)] at hw
      rw [← hw] at q
      exact q H2 s2
end
end Kx
namespace Kx
open PySem L2 PySem.Spec PyProof.Rows
/-! the terms of clauses, gathered -/
abbrev noE (t : Str) : Bool := !decide (t = "")
def termsL (l : Lit) : List Str := [l.1, l.2.1].filter noE
def termsC (c : List Lit) : List Str := c.flatMap termsL
def termsOf (cs : List (List Lit)) : List Str := cs.flatMap termsC
structure Col (l ts : List Str) (n : Nat) : Prop where
  nd : l.Nodup
  mem : ∀ t, t ∈ l ↔ t ∈ ts
  len : l.length ≤ n
theorem Col.nil : Col [] [] 0 := ⟨List.nodup_nil, fun _ => Iff.rfl, Nat.le_refl _⟩
theorem put_nodup {l : List Str} {k : Str} (h : l.Nodup) : (put l k).Nodup := by
  unfold put
  by_cases hk : k ∈ l
  · rw [if_pos hk]; exact h
  · rw [if_neg hk]; exact List.nodup_cons.mpr ⟨hk, h⟩
theorem Col.put {l ts : List Str} {n : Nat} {k : Str} (C : Col l ts n) : Col (Kx.put l k) (ts ++ [k]) (n + 1) :=
  ⟨put_nodup C.nd, fun t => by rw [mem_put, List.mem_append, C.mem t, List.mem_singleton], Nat.le_trans put_len (Nat.succ_le_succ C.len)⟩
theorem Col.more {l ts : List Str} {n m : Nat} (C : Col l ts n) (h : n ≤ m) : Col l ts m := ⟨C.nd, C.mem, Nat.le_trans C.len h⟩
theorem walk_it {J : It} {n : Nat} {G : Hp → Prop} {Y : Nat → Hp → V → Hp → Prop} (w : Walk J n G Y) {g : TG} {tt : TT} {tb : TB} {vs : List Nat} {σ : L2.St} {H0 : Hp} {Qd : Hp → Prop} (Pv : Nat → Hp → Prop) (h0 : Pv 0 H0) (hG : ∀ i H, i ≤ n → Pv i H → G H)
    (hs : ∀ i x H H', i < n → Pv i H → Y i H x H' → g x (wipe σ vs) H' fun σ2 H2 => wipe σ2 vs = wipe σ vs ∧ tt σ2 H2 fun b H3 => if b = true then tb σ2 H3 (Pv (i + 1)) else Pv (i + 1) H3) (hd : ∀ H, Pv n H → Qd H) :
    ∃ W : Nat → Nat → Hp → Prop, (∃ m, W 0 m H0) ∧ ∀ i m H, W i m H → (J.stop i H ∧ Qd H) ∨ (J.go i H ∧ ∃ Nx : Hp → Prop, (∀ H', Nx H' → ∃ m', m' < m ∧ W (i + 1) m' H') ∧
      ∀ x H', J.yld i H x H' → g x (wipe σ vs) H' fun σ2 H2 => wipe σ2 vs = wipe σ vs ∧ tt σ2 H2 fun b H3 => if b = true then tb σ2 H3 Nx else Nx H3) := by
  refine ⟨fun i m H => m = n - i ∧ i ≤ n ∧ Pv i H, ⟨n, (Nat.sub_zero n).symm, Nat.zero_le _, h0⟩, ?_⟩
  rintro i m H ⟨rfl, hi, p⟩
  have q := hG i H hi p
  rcases Nat.lt_or_eq_of_le hi with hlt | e
  · exact .inr ⟨w.goes i H hlt q, Pv (i + 1), fun H' p' => ⟨n - (i + 1), by omega, rfl, hlt, p'⟩, fun x H' y => hs i x H H' hlt p (w.yields i H x H' hlt q y)⟩
  · subst e
    exact .inl ⟨w.stops H q, hd H p⟩
theorem SqT.ins {K : PySem.W.Frag} {H : Hp} {a b C dx : Addr} {fs : List (Str × V)} {u : HO} {xs : List V} (ha : H a = some (.ins C dx fs)) (h : SqT K H b xs) : SqT K (upd H a u) b xs := by
  rcases h with (h | ⟨o, h⟩) | h
  · exact .inl (.inl (by rw [upd_ne (fun e => by rw [e, ha] at h; cases h)]; exact h))
  · exact .inl (.inr ⟨o, by rw [upd_ne (fun e => by rw [e, ha] at h; cases h)]; exact h⟩)
  · exact .inr h
theorem Cl.ins {K : PySem.W.Frag} {H : Hp} {a b C dx : Addr} {fs : List (Str × V)} {u : HO} {xs : List V} {c : List Lit} (ha : H a = some (.ins C dx fs)) (h : Cl K H b xs c) : Cl K (upd H a u) b xs c :=
  ⟨SqT.ins ha h.sq, L2.Paired.mapP h.p fun _ _ ⟨e, z, q⟩ => ⟨e, z, SqT.ins ha q⟩, h.l1, h.l2⟩
theorem Cs.ins {K : PySem.W.Frag} {H : Hp} {a b C dx : Addr} {fs : List (Str × V)} {u : HO} {xs : List V} {cs : List (List Lit)} (ha : H a = some (.ins C dx fs)) (h : Cs K H b xs cs) : Cs K (upd H a u) b xs cs :=
  ⟨SqT.ins ha h.sq, L2.Paired.mapP h.p fun _ _ ⟨e, ys, z, q⟩ => ⟨e, ys, z, Cl.ins ha q⟩, h.l⟩
theorem stands_len {c : List Lit} (h : stands c = true) : c.length ≤ 2 := by
  unfold stands at h
  rw [Bool.and_eq_true, decide_eq_true_eq] at h
  omega
theorem wrong_none : ∀ {cs : List (List Lit)} {i d : Nat}, wrongAt i d cs = none → ∀ c ∈ cs, stands c = true
  | [], _, _, _, c, hc => nomatch hc
  | c0 :: r, i, d, h, c, hc => by
    unfold wrongAt at h
    by_cases hs : stands c0 = true
    · rw [if_pos hs] at h
      generalize hd : (if c0.length = 2 then d + 1 else d) = d2 at h
      by_cases h2 : d2 = 2
      · rw [if_pos h2] at h
        cases h
      · rw [if_neg h2] at h
        rcases List.mem_cons.mp hc with e | e
        · rw [e]; exact hs
        · exact wrong_none h c e
    · rw [if_neg hs] at h
      cases h
theorem first_none {cs : List (List Lit)} (h : firstWrong cs = none) : cs.length ≤ 4 ∧ ∀ c ∈ cs, stands c = true := by
  unfold firstWrong at h
  by_cases h4 : 4 < cs.length
  · rw [if_pos h4] at h
    cases h
  · rw [if_neg h4] at h
    exact ⟨by omega, wrong_none h⟩
theorem Col.same {l ts ts' : List Str} {n : Nat} (C : Col l ts n) (e : ts = ts') : Col l ts' n := e ▸ C
theorem filt (r : List Str) (t : Str) : (r ++ [t]).filter noE = r.filter noE ++ (if t = "" then [] else [t]) := by
  rw [List.filter_append]
  by_cases h : t = ""
  · rw [if_pos h, List.filter_cons_of_neg (by simp [h])]
    rfl
  · rw [if_neg h, List.filter_cons_of_pos (by simp [h])]
    rfl
abbrev mth (i : Nat) : Stmt := inClass (top 31) i
abbrev sInit : Stmt := mth 0
abbrev nI : List Str := ["self", "clauses", "wrong", "clause", "one", "term"]
structure Cnd (K : PySem.W.Frag) (mg : Str → Option Value) (C : Addr) : Prop where
  cls : Cls K C
  nc : NoAttr K C "clauses"
  nt : NoAttr K C "terms"
  gC : mg "Cond" = some (.ref C)
  first : ∃ f fd, Fa K mg "first_wrong_conditions" "_first_wrong" sFirst ["clauses"] f fd
  M : Forms K mg
/-- what Cond's own attributes tell -/
structure CondF (K : PySem.W.Frag) (H : Hp) (a C dx p q : Addr) (cs : List (List Lit)) (ys : List Str) : Prop where
  ins : H a = some (.ins C dx (putF "terms" (.ref q) (putF "clauses" (.ref p) [])))
  cl : ∃ xs, Cs K H p xs cs
  tm : SqT K H q (ys.map V.str)
  so : sortedS ys = true
  nd : ys.Nodup
  mem : ∀ t, t ∈ ys ↔ t ∈ termsOf cs
def raiseI : Stmt := match defBody sInit with
  | _ :: .If _ [r] _ _ :: _ => r
  | _ => .Pass ⟨0, 0, 0, 0⟩
def spInitB (K : PySem.W.Frag) (C : Addr) (F : Hp → Int → Prop) : Sp := fun vs H Q _ => ∃ (a dx p : Addr) (xs : List V) (cs : List (List Lit)), vs = [.ref a, .ref p] ∧ H a = some (.ins C dx []) ∧ Cs K H p xs cs ∧ shortC cs ∧
  (firstWrong cs = none → ∀ H' q ys, CondF K H' a C dx p q cs ys → (∀ b u, b ≠ a → H b = some u → H' b = some u) → Q .non H') ∧ ∀ i, firstWrong cs = some i → ∀ H1, Same H H1 → F H1 i
section
variable {P : Program} {w : World} {K : PySem.W.Frag} {mg : Str → Option Value} {base : Heap}
theorem scI : FnScope nI (([("self" : PySem.Str)] : List PySem.Str) ++ [("clauses" : PySem.Str)]) (defScope sInit) := ⟨rfl, rfl, rfl, by decide +kernel, rfl, by decide +kernel, by decide +kernel⟩
theorem body_init {f C : Addr} (D : Cnd K mg C) {CX : CXT} (cdv : Value) (A : Around) (outer : List Env) (s : Shared) (H : Hp) (vs : List V) (Q : VK) (E : XK) (F : Hp → Int → Prop) (hr : Room 5 (A.deeper (envOfC "Cond.__init__" (defScope sInit) s.heap.objs.size f cdv))) {tR : TS}
    (hR : PS (cxOf CX P w K mg base nI "Cond.__init__" (defScope sInit) f cdv A outer s H E) raiseI tR) (hF : ∀ (D' : Ends) v0 v1 i v3 v4 v5 H1, Same H H1 → F H1 i → tR D' [v0, v1, some (.int i), v3, v4, v5] H1) (h : spInitB K C F vs H Q E) :
    ∃ t, PSs (cxOf CX P w K mg base nI "Cond.__init__" (defScope sInit) f cdv A outer s H E) (defBody sInit) t ∧ t { nx := fun _ H' => Q .non H', rt := Q } (start nI vs) H := by
  obtain ⟨_, _, dF⟩ := D.first
  have GF : FnOk P w K mg base CX0 5 _ _ ["clauses"] (spFirst K) := ok_first dF D.M
  have T := D.M.T
  obtain ⟨a, dx, p, xs, cs, rfl, ha, hc, hsh, qn, qf⟩ := h
  refine ⟨_, pss_cons (ps_set (i := 2) scI.nd rfl (Or.inl rfl) (pe_call GF hr (by rfl) dF.m dF.F.kp dF.b .nil pass0 (pa_cons (pv 1) pa_nil)))
    (pss_cons (ps_if (pt_cmpR op_notN (pv 2) pe_non (nomark _)) (pss_one hR) pss_nil)
    (pss_cons (ps_fld (pv 0) (pv 1) (by rfl))
    (pss_one (ps_fld (pv 0) (pe_tupleOf (by rfl) T.tuple (pe_callB (cr_sortedX rfl) (by rfl) T.sorted (by decide +kernel) (pa_cons
      (pe_sc3 (own := [("clause", 3), ("one", 4), ("term", 5)]) (vs1 := [4, 5]) (vs2 := [5]) (g0 := gName 3) (g1 := gName 4) (g2 := gName 5) (tt0 := tYes) (tt1 := tYes) (w1 := iTup K (tVar 3)) (w2 := iTup K (tSl (rSlA K) (tVar 4) tNoPart (tPart (tC (.int 2))))) (tt2 := tTest (tOp rNe (tVar 5) (tC (.str "")))) (te := tVar 5) rfl scI.nd (pi_tup (pv 1)) (blkOk_by (N := nI) (sc := defScope sInit) (by decide +kernel)) (by decide) (by decide)
        (fun _ _ _ _ _ => pg_name (i := 3) scI.nd rfl (Or.inl rfl)) (fun _ _ _ _ _ => pts_nil)
        (fun _ _ _ _ _ => pi_tup (pv 3)) (fun _ _ _ _ _ => pg_name (i := 4) scI.nd rfl (Or.inl rfl)) (fun _ _ _ _ _ => pts_nil)
        (fun _ _ _ _ _ => pi_tup (pe_slice sl_tupA (pv 4) po_none (po_some pe_int))) (fun _ _ _ _ _ => pg_name (i := 5) scI.nd rfl (Or.inl rfl)) (fun _ _ _ _ _ => pts_one (pt_cmpR op_ne (pv 5) pe_str (nomark _)))
        (fun _ _ _ _ _ => pv 5)) pa_nil))) (by rfl))))), ?_⟩
  have bound : (64 : Nat) < scanBound := by decide
  have hl : xs.length = cs.length := Paired.length hc.p
  refine ⟨_, rfl, p, xs, cs, rfl, hc, hsh, fun H1 s1 => ?_⟩
  cases hw : firstWrong cs with
  | some i => exact ⟨_, rfl, rfl, _, rfl, iteT (hF _ _ _ _ _ _ _ _ s1 (qf i hw H1 s1))⟩
  | none =>
  have q := qn hw
  obtain ⟨n4, hst⟩ := first_none hw
  refine ⟨_, rfl, rfl, _, rfl, iteF ?_⟩
  refine ⟨_, rfl, _, rfl, a, C, dx, [], rfl, s1 _ _ ha, D.cls, D.nc, by decide, ?_⟩
  obtain ⟨H2, e2⟩ : ∃ H2, upd H1 a (.ins C dx (putF "clauses" (.ref p) [])) = H2 := ⟨_, rfl⟩
  have ha2 : H2 a = some (.ins C dx (putF "clauses" (.ref p) [])) := by rw [← e2]; exact upd_same
  have hc2 : Cs K H2 p xs cs := by rw [← e2]; exact Cs.ins (s1 _ _ ha) (Cs.same s1 hc)
  have k2 : ∀ b u, b ≠ a → H b = some u → H2 b = some u := fun b u nb z => by rw [← e2, upd_ne nb]; exact s1 _ _ z
  rw [e2]
  refine ⟨_, rfl, p, rfl, ⟨_, hc2.sq⟩, fun Ds hD => ?_⟩
  refine walk_it (walk_tup (xs := xs)) (fun i H3 => Same H2 H3 ∧ ∃ l, H3 Ds = some (SetX P w Ds l) ∧ Col l (termsOf (cs.take i)) (4 * i)) ⟨new_same hD, [], upd_same, Col.nil⟩ (fun i H3 _ h => SqT.same h.1 hc2.sq) ?_ ?_
  · rintro i x H3 H4 hi ⟨s3, l, gD, hC⟩ ⟨rfl, hx⟩
    obtain ⟨c, hcl, b, ys, rfl, hb⟩ := paired_get hc2.p hx
    have hcm : c ∈ cs := List.mem_of_getElem? hcl
    have c2 := stands_len (hst c hcm)
    have hi4 : i < 4 := by omega
    have hyl : ys.length = c.length := hb.len
    refine ⟨rfl, yes_of ⟨_, rfl, b, rfl, ⟨_, SqT.same s3 hb.sq⟩, ?_⟩⟩
    refine walk_it (walk_tup (xs := ys)) (fun j H5 => Same H2 H5 ∧ ∃ l, H5 Ds = some (SetX P w Ds l) ∧ Col l (termsOf (cs.take i) ++ termsC (c.take j)) (4 * i + 2 * j)) ⟨s3, l, gD, hC.same (List.append_nil _).symm⟩ (fun j H5 _ h => SqT.same h.1 hb.sq) ?_ ?_
    · rintro j x H5 H6 hj ⟨s5, l5, g5, hC5⟩ ⟨rfl, hx5⟩
      obtain ⟨lt, hlt, e, rfl, he⟩ := paired_get hb.p hx5
      obtain ⟨t1, t2, n⟩ := lt
      have he5 := SqT.same s5 he
      refine ⟨rfl, yes_of ?_⟩
      refine ⟨_, rfl, _, rfl, e, _, rfl, he5, fun z => absurd z.2 (by show ¬ HT.sIx 3 3 (some 2) = 3; decide), fun _ q5 hq5 => ?_⟩
      have s6 := same_upd hq5 (fun b u z => z : Same H6 H6) (o := .tup [.str t1, .str t2])
      have nq : q5 ≠ Ds := fun z => by
        rw [z, g5] at hq5
        cases hq5
      refine ⟨q5, rfl, ⟨_, SqT.of upd_same⟩, ?_⟩
      refine walk_it (walk_tup (xs := [V.str t1, V.str t2])) (fun k H7 => Same H2 H7 ∧ H7 q5 = some (.tup [.str t1, .str t2]) ∧ ∃ l, H7 Ds = some (SetX P w Ds l) ∧ Col l (termsOf (cs.take i) ++ termsC (c.take j) ++ ([t1, t2].take k).filter noE) (4 * i + 2 * j + k))
        ⟨fun b u z => s6 _ _ (s5 _ _ z), upd_same, l5, (by rw [upd_ne (Ne.symm nq)]; exact g5), hC5.same (List.append_nil _).symm⟩ (fun k H7 _ h => SqT.of h.2.1) ?_ ?_
      · rintro k x H7 H8 hk ⟨s7, g7, l7, gD7, hC7⟩ ⟨rfl, hx7⟩
        obtain ⟨t, ht, rfl⟩ : ∃ t, [t1, t2][k]? = some t ∧ x = .str t := by
          have e : [V.str t1, V.str t2] = [t1, t2].map V.str := rfl
          rw [e, List.getElem?_map] at hx7
          obtain ⟨t, h1, h2⟩ := Option.map_eq_some_iff.mp hx7
          exact ⟨t, h1, h2.symm⟩
        have hk2 : k < 2 := hk
        have et : ([t1, t2].take (k + 1)).filter noE = ([t1, t2].take k).filter noE ++ (if t = "" then [] else [t]) := by
          rw [List.take_add_one, ht]
          exact filt _ t
        refine ⟨rfl, _, rfl, rfl, _, rfl, ?_⟩
        by_cases hz : t = ""
        · have e : (!decide (V.str t = V.str "")) = false := by rw [hz]; decide
          rw [e, et, if_pos hz]
          exact iteF ⟨s7, g7, l7, gD7, (hC7.same (by rw [List.append_nil])).more (Nat.le_succ _)⟩
        · have e : (!decide (V.str t = V.str "")) = true := by
            rw [decide_eq_false fun z => hz (V.str.inj z)]
            rfl
          rw [e, et, if_neg hz]
          refine iteT ⟨_, rfl, l7, t, rfl, gD7, by have := hC7.len; omega, same_upd hD s7, by rw [upd_ne nq]; exact g7, _, upd_same, ?_⟩
          exact (hC7.put (k := t)).same (List.append_assoc _ _ _)
      · rintro H7 ⟨s7, g7, l7, gD7, hC7⟩
        refine ⟨s7, l7, gD7, (hC7.same ?_).more (by show 4 * i + 2 * j + 2 ≤ _; omega)⟩
        rw [List.take_add_one, hlt]
        unfold termsC
        rw [List.flatMap_append, List.append_assoc]
        simp [termsL]
    · rintro H5 ⟨s5, l5, g5, hC5⟩
      refine ⟨s5, l5, g5, (hC5.same ?_).more (by omega)⟩
      rw [hyl, List.take_of_length_le (Nat.le_refl _), List.take_add_one, hcl]
      unfold termsOf
      rw [List.flatMap_append]
      simp
  · rintro H3 ⟨s3, l, gD, hC⟩
    rw [hl, List.take_of_length_le (Nat.le_refl _)] at hC
    refine ⟨Ds, l, rfl, gD, by have := hC.len; omega, fun zs p3 hso hpm hp3 => .inl ⟨p3, _, rfl, SqL.of upd_same, fun q4 hq4 => ?_⟩⟩
    have s5 : Same H2 (upd (upd H3 p3 (.lst (zs.map V.str))) q4 (.tup (zs.map V.str))) := fun b u z => new_same hq4 _ _ (new_same hp3 _ _ (s3 _ _ z))
    have ha5 := s5 _ _ ha2
    have hc5 := Cs.same s5 hc2
    refine ⟨_, rfl, a, C, dx, _, rfl, ha5, D.cls, D.nt, (by show 1 < 1000; decide), ?_⟩
    refine q _ q4 zs ⟨upd_same, ⟨xs, Cs.ins ha5 hc5⟩, SqT.ins ha5 (SqT.of upd_same), hso, hpm.nodup_iff.mpr hC.nd, fun t => hpm.mem_iff.trans (hC.mem t)⟩ fun b u nb z => ?_
    rw [upd_ne nb]
    exact s5 _ _ (k2 b u nb z)
end
end Kx
namespace Kx
open PySem L2 PySem.Spec PyProof.Rows

/-! the classes of errors: what the walk asks of each -/
abbrev veL : List Value := [.type "ValueError", .type "Exception", .type "BaseException", .type "object"]
theorem ve_ok (B : Addr) : PySem.HandSPX.refsVE (.ref B :: veL) = true := by
  show PySem.HandSPX.refsVE veL = true
  decide +kernel
structure Ct (K : PySem.W.Frag) (B C : Addr) : Prop where
  cls : ∃ nm q N bs sn sub ab col dd k0 k1 k2 k3 k5, K.lookup C = some (excClassObj nm q C N bs (.ref B :: veL) true sn sub ab col dd k0 k1 k2 k3 k5 "ValueError.__new__")
  sa : PySem.W.findIn K (.ref C) "__setattr__" = some (some (.builtin "object.__setattr__"))
  ga : PySem.W.findIn K (.ref C) "__getattribute__" = some (some (.builtin "BaseException.__getattribute__"))
  gg : PySem.W.findIn K (.ref C) "__getattr__" = some none
  tyC : PySem.W.typeIn K (.ref C) = some (.type "type")
  kC : PySem.W.keepIn K (.ref C) = true
  hdC : PySem.W.hasDictIn K C = true
  ha : PySem.W.findIn K (.ref C) "__class__" = some (some (.builtin "object.__class__"))
structure Gt (K : PySem.W.Frag) (B : Addr) : Prop where
  hn : PySem.W.specialIn K (.builtin "object.__class__") "__get__" = some (some (.builtin "getset_descriptor.__get__"))
  ht : PySem.W.takesIn K (.builtin "object.__class__") = some true
  isB : (PySem.W.clsIn K B).isSome = true
  tyB : PySem.W.typeIn K (.ref B) = some (.type "type")
  bsB : PySem.W.subIn K (.ref B) (.type "BaseException") = some true
  hdB : PySem.W.hasDictIn K B = true
section
variable {K : PySem.W.Frag} {B C D : Addr}
theorem Ct.cd (T : Ct K B C) : ∃ cd, PySem.W.clsIn K C = some cd ∧ cd.mro = .ref C :: .ref B :: veL := by
  obtain ⟨nm, q, N, bs, sn, sub, ab, col, dd, k0, k1, k2, k3, k5, h⟩ := T.cls
  exact ⟨_, by unfold PySem.W.clsIn; rw [h] <;> rfl, rfl⟩
theorem Ct.mro (T : Ct K B C) (v : Value) : PySem.W.mroIn K C v = some ((.ref C :: .ref B :: veL : List Value).contains v) := by
  obtain ⟨cd, h, e⟩ := T.cd
  unfold PySem.W.mroIn
  rw [h, Option.bind_some, e] <;> rfl
theorem Ct.base (T : Ct K B C) : PySem.W.subIn K (.ref C) (.type "BaseException") = some true := by
  show PySem.W.mroIn K C _ = _
  rw [T.mro]
  rfl
theorem Ct.isC (T : Ct K B C) : (PySem.W.clsIn K C).isSome = true := by
  obtain ⟨cd, h, _⟩ := T.cd
  rw [h]; rfl
theorem Ct.oex (T : Ct K B C) : OexC K C := by
  obtain ⟨nm, q, N, bs, sn, sub, ab, col, dd, k0, k1, k2, k3, k5, h⟩ := T.cls
  exact ⟨⟨nm, q, N, bs, _, sn, sub, ab, col, dd, k0, k1, k2, k3, k5, h, ve_ok B⟩, T.sa, T.base, T.tyC, T.kC⟩
theorem Ct.xf (T : Ct K B C) : XfC K C := ⟨T.ga, T.gg, T.base, T.hdC⟩
theorem kit_ref (T : Ct K B C) {b : Bool} (hD : (PySem.W.clsIn K D).isSome = true) (tD : PySem.W.typeIn K (.ref D) = some (.type "type")) (hb : (.ref C :: .ref B :: veL : List Value).contains (.ref D) = b) : PySem.W.kitOne K (.ref C) (.ref D) = some b := by
  unfold PySem.W.kitOne
  by_cases h : ((Value.ref C == Value.ref D) = true)
  · rw [if_pos h]
    have e : Value.ref C = Value.ref D := beq_iff_eq.mp h
    rw [← hb, ← e]
    simp
  · rw [if_neg h]
    show (if ((PySem.W.clsIn K D).isSome && PySem.W.typeIn K (.ref D) == some (.type "type")) = true then PySem.W.subIn K (.ref C) (.ref D) else none) = _
    rw [hD, tD, if_pos (by rfl)]
    show PySem.W.mroIn K C _ = _
    rw [T.mro, hb]
theorem kit_yes (T : Ct K B C) : PySem.W.kitOne K (.ref C) (.ref C) = some true := kit_ref T T.isC T.tyC (by simp)
theorem kit_no (T : Ct K B C) (S : Ct K B D) (h1 : D ≠ C) (h2 : D ≠ B) : PySem.W.kitOne K (.ref C) (.ref D) = some false := kit_ref T S.isC S.tyC (by simp [h1, h2])
theorem kit_b (T : Ct K B C) (G : Gt K B) : PySem.W.kitOne K (.ref C) (.ref B) = some true := kit_ref T G.isB G.tyB (by simp)
theorem kit_ve (T : Ct K B C) : PySem.W.kitOne K (.ref C) (.type "ValueError") = some true := by
  unfold PySem.W.kitOne
  rw [if_neg (by simp)]
  show (if PySem.W.kitMeta "ValueError" = true then PySem.W.subIn K (.ref C) (.type "ValueError") else none) = _
  rw [if_pos (by decide +kernel)]
  show PySem.W.mroIn K C _ = _
  rw [T.mro]
  rfl
end

/-! an error of a class as it stands: with its fields, or without any -/
def HasF (H : Hp) (a C : Addr) (fs : List (Str × V)) : Prop := ∃ d, d ≠ a ∧ H a = some (exo a C (some d)) ∧ H d = some (exd d fs)
def Bare (H : Hp) (a C : Addr) : Prop := H a = some (ExO (.ref C) a)
def ErrAt (H : Hp) (a C : Addr) : Prop := (∃ fs, HasF H a C fs) ∨ Bare H a C

section
variable {X : Cx} {pins : List (Addr × Obj)} {σ : L2.St} {H : Hp} {s : Shared} {a B C : Addr}
theorem err_inst (I : Inv X pins σ H s) (h : ErrAt H a C) : ∃ ox od, PySem.W.InstAt s.heap a ox C od := by
  rcases h with ⟨fs, d, _, h1, h2⟩ | h
  · obtain ⟨t1, e1⟩ := exo_at I.hok h1
    obtain ⟨mA, hn, _⟩ := exd_at I.hok h2
    obtain ⟨od, e2, _⟩ := lookIn_ns hn
    exact ⟨_, some od, ⟨e1, rfl, rfl, e2⟩⟩
  · obtain ⟨⟨oe, vs, e1, hz, hd, _⟩, _, _⟩ := I.hok a _ h
    obtain ⟨oc, odd, oda, osl⟩ := oe
    obtain ⟨z1, z2⟩ := hz
    dsimp only at z1 z2 hd
    subst z1 z2 hd
    exact ⟨_, none, ⟨e1, rfl, rfl, trivial⟩⟩
/-- isinstance(e, c), e an error that stands -/
def rIsErr (K : PySem.W.Frag) (B : Addr) : List V → Hp → VK → Prop := fun xs H Q => ∃ (a C : Addr) (c : V) (u : Value) (b : Bool), xs = [.ref a, c] ∧ ErrAt H a C ∧ Ct K B C ∧ ClsV c u ∧ PySem.W.kitOne K (.ref C) u = some b ∧ Q (.bl b) H
theorem call_isErr (G : Gt X.K B) : CallR X (.builtin "isinstance") (rIsErr X.K B) := by
  intro pins s σ H xs us Q I r h
  obtain ⟨a, C, c, u, b, rfl, he, T, k, e, q⟩ := h
  obtain ⟨u1, u2, rfl, r1, r2⟩ := vals2 r
  have z1 : u1 = Value.ref a := r1
  subst z1
  have e2 := k.eq r2
  subst e2
  obtain ⟨ox, od, J⟩ := err_inst I he
  exact PySem.W.kia_one (PySem.W.kitx_exc T.isC T.ga T.gg T.base T.ha G.hn G.ht (by rw [T.mro]; rfl)) I.kIn J e (fun z => nomatch z) fun tk => ⟨.bl b, H, I.tok tk, rfl, q⟩
/-- e.f, e an error that stands -/
theorem pe_errF {e : Expr} {te : TE} {pos : Pos} {n : Str} (he : PE X e te) (hb : attributeBase e n X.env (eval e X.env) = eval e X.env := by rfl) :
    PE X (.Attribute e n pos) (fun σ H Q => te σ H fun x H1 => ∃ (a B C : Addr) (fs : List (Str × V)) (v : V), x = .ref a ∧ Ct X.K B C ∧ PySem.W.findIn X.K (.ref C) n = some none ∧ HasF H1 a C fs ∧ fs.lookup n = some v ∧ Q v H1) := by
  refine ⟨fun pins s σ H Q I h => ?_⟩
  refine attr_of hb (thn (he.run pins s σ H _ I h) fun u s1 hh => ?_)
  obtain ⟨x, H1, I1, rx, a, B, C, fs, v, ex, T, hno, ⟨d, _, h1, h2⟩, l, q⟩ := hh
  subst ex
  obtain rfl : u = Value.ref a := rx
  obtain ⟨t1, e1⟩ := exo_at I1.hok h1
  obtain ⟨mA, hns, hr⟩ := exd_at I1.hok h2
  obtain ⟨od, ho, hl⟩ := lookIn_ns hns
  obtain ⟨u, hu, ru⟩ := RelO.some_of (v := v) (o := mA n) (by rw [← l]; exact hr n)
  have J : PySem.W.InstAt s1.heap a _ C (some od) := ⟨e1, rfl, rfl, ho⟩
  exact HandSPX.exc_get I1.kIn J T.ga T.gg T.base (PySem.W.findObj_own T.hdC hno rfl (by rw [hl, hu])) (handed_of ru) ⟨v, H1, I1.tok _, ru, q⟩
end

/-! how an error is made: its __init__ stores each argument under its own name -/
def spI (K : PySem.W.Frag) (ns : List Str) : Sp := fun vs H Q _ => ∃ (a B C : Addr) (ws : List V), vs = .ref a :: ws ∧ ws.length = ns.length ∧ Ct K B C ∧ (∀ f ∈ ns, PySem.W.findIn K (.ref C) f = some none) ∧ H a = some (exo a C none) ∧
  ∀ dx H', H dx = none → dx ≠ a → H' a = some (exo a C (some dx)) → H' dx = some (exd dx (ns.zip ws).reverse) → (∀ b, b ≠ a → b ≠ dx → H' b = H b) → Q .non H'
section
variable {X : Cx} {e : Expr} {es : List Expr} {ta : TA} {p pos : Pos}
/-- C(e, ..) as a value: a new error with its fields -/
theorem pe_err {CX : CXT} {x : Str} {B C fI : Addr} {k : Nat} {fd : FuncData} {ps : List Str} {ns : List Str} (T : Ct X.K B C) (hno : ∀ f ∈ ns, PySem.W.findIn X.K (.ref C) f = some none) (iC : PySem.W.findIn X.K (.ref C) "__init__" = some (some (.ref fI))) (tI : PySem.W.typeIn X.K (.ref fI) = some (.type "function"))
    (F1 : FnOk X.prog X.w X.K X.mg X.base CX k fI fd ps (spI X.K ns)) (hr : Room (k + 1) X.A) (hb : Binds X.K fd ps []) (hx : Passes CX X (fun _ _ _ => False)) (hm : X.mg x = some (.ref C)) (ha : PA X (e :: es) ta) (hg : Gl X x := by rfl)
    (hdb : (x == ("__debug__" : Str)) = false := by decide) (he : starEach (e :: es) X.env = (false, eval e X.env) :: starEach es X.env := by rfl) (hpl : (backTo pos (starEach es X.env)).any (·.1) = false := by rfl) :
    PE X (.Call (.Name x p) (e :: es) [] pos) (fun σ H Q => ta σ H fun vs H1 => vs.length = ns.length ∧ ns.length ≤ 100 ∧ ∀ a H2, H1 a = none → HasF H2 a C (ns.zip vs).reverse → Same H1 H2 → Q (.ref a) H2) := by
  refine ⟨fun pins s σ H Q I h => ?_⟩
  obtain ⟨nm, q, N, bs, sn, sub, ab, col, dd, k0, k1, k2, k3, k5, hC⟩ := T.cls
  refine wpAny_Call_Name_kw (ld_glob I hg hm ?_ hdb)
  refine PySem.W.callWith_K (h₀ := X.base) I.ok.mod.kin T.kC (thn (ha.run pos pins s σ H _ I h) fun us s1 ⟨vs, H1, I1, r1, hz, hz2, q1⟩ => ⟨I1.kIn, ?_⟩) he hpl
  show wpAny _ _ (call (.ref C) us) _ _ _
  obtain ⟨hp, g, dr, tk, os⟩ := s1
  have hsz : hp.objs.size ≤ hp.objs.size + 1 := Nat.le_succ _
  have hn : H1 (hp.objs.size + 1) = none := I1.hok.fresh hsz
  have kk : ∀ b o, hp.get? b = some o → ((hp.push (PySem.W.kdv_tup us)).push (PySem.HandSPX.excO C hp.objs.size)).get? b = some o := fun b o z => Heap.get?_push_of_some _ (Heap.get?_push_of_some _ z)
  have hget : ((hp.push (PySem.W.kdv_tup us)).push (PySem.HandSPX.excO C hp.objs.size)).get? (hp.objs.size + 1) = some (PySem.HandSPX.excO C hp.objs.size) := by heap_get
  have I2 := I1.laid (t' := tk) (a := hp.objs.size + 1) (o := exo (hp.objs.size + 1) C none) (h' := (hp.push (PySem.W.kdv_tup us)).push (PySem.HandSPX.excO C hp.objs.size)) kk hsz (exo_ok hget)
  have r2 : Vals (V.ref (hp.objs.size + 1) :: vs) (Value.ref (hp.objs.size + 1) :: us) := .cons rfl r1
  have hq : spI X.K ns (V.ref (hp.objs.size + 1) :: vs) (upd H1 (hp.objs.size + 1) (exo (hp.objs.size + 1) C none)) (fun v H2 => v = .non ∧ Q (.ref (hp.objs.size + 1)) H2) (fun _ _ _ => False) := by
    refine ⟨_, B, C, vs, rfl, hz, T, hno, upd_same, fun dx H' n1 n2 e1 e2 e3 => ⟨rfl, q1 _ H' hn ⟨dx, n2, e1, e2⟩ fun b o z => ?_⟩⟩
    have nb : b ≠ hp.objs.size + 1 := ne_of_none z hn
    have n3 : H1 dx = none := by rw [← upd_ne (H := H1) (o := exo (hp.objs.size + 1) C none) n2]; exact n1
    rw [e3 b nb (ne_of_none z n3), upd_ne nb]
    exact z
  have hl : (Value.ref (hp.objs.size + 1) :: us).length = ps.length := by
    have z := r2.length
    rw [F1.len _ _ _ _ hq] at z
    exact z.symm
  have hus : us.length ≤ sizeLine := by
    rw [← Paired.length r1, sizeLine_eq]
    omega
  have hbs := hb ⟨(hp.push (PySem.W.kdv_tup us)).push (PySem.HandSPX.excO C hp.objs.size), g, dr, tk, os⟩ (Value.ref (hp.objs.size + 1) :: us) I2.kIn (by rw [List.append_nil]; exact hl)
  rw [List.append_nil] at hbs
  refine wpAny_call (PySem.HandSPX.call_own F.excBase_ValueError (fun Y => PySem.HandSPX.refsVE_contains Y _ (ve_ok B)) (I1.kIn _ _ hC) (PySem.W.looks_findIn I1.kIn iC) (fun self => PySem.W.bind_fn I1.kIn self tI) hus
    (codeAny_mono (F1.run _ X.stack _ _ ⟨Value.ref (hp.objs.size + 1) :: us, []⟩ (Value.ref (hp.objs.size + 1) :: us) _ _ (fun _ _ _ => False) (hr.make C us []) (I2.env0.make C us []) hbs r2 hq) fun r s' hq' => ?_))
  cases r with
  | error er => exact hx pins σ _ _ er s' I2 hq'
  | ok fl =>
    cases fl with
    | ret u =>
      obtain ⟨v, H2, os2, bare2, un2, hok2, rv, ev, q2⟩ := hq'
      subst ev
      exact ⟨rv, .ref (hp.objs.size + 1), H2, I2.call' (ch := []) os2 un2 hok2 bare2 (fun b z => absurd z (by simp)), rfl, q2⟩
    | next => exact False.elim hq'
    | brk => exact False.elim hq'
    | cont => exact False.elim hq'
end
end Kx
namespace Kx
open PySem L2 PySem.Spec PyProof.Rows
open StX (fn_star cxUp_none bind_star1 pe_makeR tMakeR run_makeR star_any pa_star CXUp)
theorem takesN0 {X : Cx} : L2N.Takes X (fun _ _ _ _ => False) := fun _ _ x => by
  obtain ⟨_, _, _, _, _, _, _, _, _, _, _, _, _, _, _, _, z⟩ := x
  exact z.elim
section
variable {X : Cx} {e : Expr} {te : TE}
theorem pmkN_err {K : PySem.W.Frag} {H0 : Hp} (hK : X.K = K) (hH : X.H_0 = H0) (hx : X.ex = []) (he : PE X e te) : L2N.PMk X e (fun σ H Q => te σ H fun x H1 => ∃ a B C d : Addr, x = .ref a ∧ Ct K B C ∧ H1 a = some (exo a C (some d)) ∧ Fr0 H0 a ∧ Q (.ref C) (some d) (delH H1 a)) := by
  subst hK hH
  intro pins s σ H Q I h
  refine thn (he.run pins s σ H _ I h) fun u s1 ⟨v, H1, I1, r1, a, B, C, d, ev, T, ha, h0, q⟩ => ?_
  subst ev
  obtain rfl : u = Value.ref a := r1
  obtain ⟨t1, ho⟩ := exo_at I1.hok ha
  obtain ⟨G, gs, ga, J⟩ := I1.untrack (show H1 a = some (.ext _) from ha) h0 hx
  exact ⟨a, _, _, { s1 with heap := G }, delH H1 a, .ref C, some d, rfl, J, gs, ga, ho, ⟨rfl, rfl, fun vs z => by cases z; rfl⟩, rfl, rfl, delH_same, rfl, I1.bare, raises_own T.base T.tyC, q⟩
end
section
variable {P : Program} {w : World} {K : PySem.W.Frag} {mg : Str → Option Value} {base : Heap}
theorem sc_BadCond : FnScope ["self", "clause"] ["self", "clause"] (defScope (inClass (top 3) 0)) := ⟨rfl, rfl, rfl, by decide +kernel, rfl, by decide +kernel, by decide +kernel⟩
theorem ok_BadCond {f : Addr} {fd : FuncData} (F : Fun K "__init__" "BadCond.__init__" (inClass (top 3) 0) f fd) : FnOk P w K mg base CX0 1 f fd ["self", "clause"] (spI K ["clause"]) := by
  refine F.ok sc_BadCond (fun vs H Q E h => ?_) (fun cdv A outer s H vs Q E hr h => ?_)
  · obtain ⟨a, B, C, ws, rfl, hl, _⟩ := h
    show ws.length + 1 = 2
    rw [hl] <;> rfl
  · obtain ⟨a, B, C, ws, rfl, hl, T, hno, ha, k⟩ := h
    obtain ⟨v0, rfl⟩ : ∃ v0, ws = [v0] := match ws, hl with | [v0], _ => ⟨v0, rfl⟩
    refine ⟨_, pss_one (ps_ost (pv 0) (pv 1)), ?_⟩
    refine ⟨_, rfl, _, rfl, a, C, rfl, T.oex, hno _ (by simp), .inl ⟨ha, fun dx n1 n2 => ?_⟩⟩
    exact k dx _ n1 n2 upd_same (by rw [upd_ne n2, upd_same]; rfl) (fun b h1 h2 => by rw [upd_ne h1, upd_ne h2])
end
theorem del_keep {H H1 : Hp} {a : Addr} (s : Same H H1) (n : H a = none) : Same H (delH H1 a) := fun b o e => by
  rw [delH_ne (ne_of_none e n)]
  exact s b o e
theorem cxUpN {P : Program} {w : World} : CXUp (L2N.CX P w) := by
  rintro outer s H s2 H2 E e s' un kp ho ⟨a, B, H', cls, d, ea, fl, hok, ub, na, os, ag, he⟩
  refine ⟨a, B, H', cls, d, ea, fl, hok, ⟨fun b o q n hb => ub.keep b o (kp b o q) (un.free b o q n (by simp)) hb, fun b o q hb => ub.slot b o (kp b o q) hb, fun b o q n => ub.free b o (kp b o q) (un.free b o q n (by simp)), fun b o q hb => ub.there b o (kp b o q) hb,
    fun b xs q => ub.tups b xs (un.tups b xs q), fun b o xs q => ub.frzs b o xs (un.frzs b o xs q), fun b ps q => ?_⟩, na, os.trans ho, ag, he⟩
  obtain ⟨m1, z1⟩ := un.tbls b ps q
  obtain ⟨m2, z2⟩ := ub.tbls b _ z1
  exact ⟨m1 ++ m2, by rw [z2, Array.append_assoc]⟩
/-- what is told of a refusal: its class and where -/
def refusal (CB : Addr) (E : XK) : Hp → Int → Prop := fun H1 i => ∀ d H', Same H1 H' → H' d = some (exd d [("clause", .int i)]) → E (.ref CB) (some d) H'
def spInit (K : PySem.W.Frag) (C : Addr) (F : XK → Hp → Int → Prop) : Sp := fun vs H Q E => ∃ ws rest, vs = ws ++ rest ∧ ws.length = ([("self" : PySem.Str)] : List PySem.Str).length ∧ rest.length ≤ sizeLine ∧ ∀ p, H p = Option.none → spInitB K C (F E) (ws ++ [V.ref p]) (upd H p (.tup rest)) Q E
structure Bad (K : PySem.W.Frag) (mg : Str → Option Value) (B CB fB : Addr) (fdB : FuncData) : Prop where
  T : Ct K B CB
  no : ∀ x ∈ ([("clause" : PySem.Str)] : List PySem.Str), PySem.W.findIn K (.ref CB) x = some none
  iC : PySem.W.findIn K (.ref CB) "__init__" = some (some (.ref fB))
  tI : PySem.W.typeIn K (.ref fB) = some (.type "function")
  F : Fun K "__init__" "BadCond.__init__" (inClass (top 3) 0) fB fdB
  b : Binds K fdB ["self", "clause"] []
  gm : mg "BadCond" = some (.ref CB)
section
variable {P : Program} {w : World} {K : PySem.W.Frag} {mg : Str → Option Value} {base : Heap}
theorem fnR_init0 {f C : Addr} {fd : FuncData} (F : Fun K "__init__" "Cond.__init__" sInit f fd) (D : Cnd K mg C) : FnR P w K mg base CX0 6 f (spInit K C fun _ _ _ => False) := by
  obtain ⟨oc, od, kV, doc, pm, an, cdv, ct, osl, rfl, lk, hcd⟩ := F.ex
  refine fn_star (sp := fun vs H Q E => spInitB K C (fun _ _ => False) vs H Q E) lk hcd scI cxUp_none (bind_star1 (B := fun xs => bindArgs (PySem.W.fnOf "__init__" "Cond.__init__" (defArgs sInit) (defBody sInit) (defScope sInit) .none kV doc pm an cdv ct) ⟨xs, []⟩) (p1 := "self") (pv := "clauses") (fun a => by rfl) (fun a r rs => by rfl)) (fun A outer s H vs Q E hr h => ?_)
  exact body_init (f := f) (tR := tNever) D cdv A outer s H vs Q E _ hr ps_never (fun _ _ _ _ _ _ _ _ _ z => z) h
theorem fnR_init {f C B CB fB : Addr} {fd fdB : FuncData} (F : Fun K "__init__" "Cond.__init__" sInit f fd) (D : Cnd K mg C) (W : Bad K mg B CB fB fdB) : FnR P w K mg base (L2N.CX P w) 6 f (spInit K C (refusal CB)) := by
  obtain ⟨oc, od, kV, doc, pm, an, cdv, ct, osl, rfl, lk, hcd⟩ := F.ex
  refine fn_star (sp := fun vs H Q E => spInitB K C (refusal CB E) vs H Q E) lk hcd scI cxUpN (bind_star1 (B := fun xs => bindArgs (PySem.W.fnOf "__init__" "Cond.__init__" (defArgs sInit) (defBody sInit) (defScope sInit) .none kV doc pm an cdv ct) ⟨xs, []⟩) (p1 := "self") (pv := "clauses") (fun a => by rfl) (fun a r rs => by rfl)) (fun A outer s H vs Q E hr h => ?_)
  have tk : L2N.Takes (cxOf (L2N.CX P w) P w K mg base nI "Cond.__init__" (defScope sInit) f cdv A outer s H E) (fun cls d _ H => E cls d H) := L2N.takes_of rfl rfl rfl rfl
  refine body_init (f := f) D cdv A outer s H vs Q E _ hr (L2N.ps_raise rfl tk (by exact (pmkN_err (X := cxOf (L2N.CX P w) P w K mg base nI "Cond.__init__" (defScope sInit) f cdv A outer s H E) (K := K) (H0 := H) rfl rfl rfl
    (pe_err (ns := ["clause"]) (X := cxOf (L2N.CX P w) P w K mg base nI "Cond.__init__" (defScope sInit) f cdv A outer s H E) W.T W.no W.iC W.tI (ok_BadCond W.F) (hr.mono (by decide)) W.b pass0 W.gm (pa_cons (pv 2) pa_nil))))) (fun D' v0 v1 i v3 v4 v5 H1 s1 z => ?_) h
  refine ⟨_, rfl, rfl, (by show 1 ≤ 100; decide), fun e H2 n2 h2 s2 => ?_⟩
  obtain ⟨d, hne, h2a, h2d⟩ := h2
  exact ⟨e, B, CB, d, rfl, W.T, h2a, fr0_none (s1.free n2), z d _ (del_keep s2 n2) ((delH_ne hne).trans h2d)⟩
end
end Kx
namespace Kx
open PySem L2 PySem.Spec PyProof.Rows
open StX (fn_star cxUp_none bind_star1 pe_makeR tMakeR run_makeR star_any pa_star CXUp)
section
variable {X : Cx} {CX : CXT} {k : Nat} {f C : Addr} {sp : Sp} {E : XK} {x : Str} {e : Expr} {te : TE} {p pos sp_ : Pos}
/-- C(*y) -/
theorem pe_makeS (M : Mk X.K C f) (F : FnR X.prog X.w X.K X.mg X.base CX k f sp) (hr : Room (k + 1) X.A) (hg : Gl X x) (hm : X.mg x = some (.ref C)) (hx : Passes CX X E) (he : PE X e te) (hd : (x == ("__debug__" : Str)) = false := by decide)
    (hst : starEach [.Starred e sp_] X.env = [(true, eval e X.env)] := by rfl) :
    PE X (.Call (.Name x p) [.Starred e sp_] [] pos) (fun σ H Q => te σ H fun y H1 => ∃ a xs, y = V.ref a ∧ (SqT X.K H1 a xs ∨ SqL X.K H1 a xs) ∧ ∀ x dx, H1 x = none → H1 dx = none → dx ≠ x →
      sp (V.ref x :: xs) (upd (upd H1 dx (.own x)) x (.ins C dx [])) (fun v H2 => v = .non ∧ Q (.ref x) H2) E) := by
  refine ⟨fun pins s σ H Q I h => ?_⟩
  refine wpAny_Call_Name_kw (ld_glob I hg hm ?_ hd)
  refine PySem.W.callWith_S (h₀ := X.base) I.ok.mod.kin M.kp (thn (he.run pins s σ H _ I h) fun v s1 ⟨y, H1, I1, ry, a, xs, ey, hxs, q⟩ => ?_) hst
  subst ey
  obtain rfl : v = Value.ref a := ry
  exact star_any I1 hxs fun us s2 I2 rv => ⟨I2.kIn, run_makeR M F hr hx I2 rv q⟩
/-- C() -/
theorem pe_makeZ (M : Mk X.K C f) (F : FnR X.prog X.w X.K X.mg X.base CX k f sp) (hr : Room (k + 1) X.A) (hg : Gl X x) (hm : X.mg x = some (.ref C)) (hx : Passes CX X E) (hd : (x == ("__debug__" : Str)) = false := by decide) :
    PE X (.Call (.Name x p) [] [] pos) (tMakeR C sp E tNil) := by
  refine ⟨fun pins s σ H Q I h => ?_⟩
  refine wpAny_Call_Name_kw (ld_glob I hg hm ?_ hd)
  exact PySem.W.callWith_K0 I.kIn M.kp (run_makeR (us := []) (vs := []) M F hr hx I .nil h)
/-- one op other, both of the class C, by its own method -/
def rOwn (C : Addr) (sp : Sp) (E : XK) : R2 := fun x y H Q => ∃ (a b dx dy : Addr) (fs gs : List (Str × V)), x = .ref a ∧ y = .ref b ∧ H a = some (.ins C dx fs) ∧ H b = some (.ins C dy gs) ∧ sp [.ref a, .ref b] H Q E
theorem op_own {op : Operator} {fd : FuncData} {ps : List Str} (hc : PySem.W.selfFirst X.K C = true) (hs : PySem.W.findIn X.K (.ref C) (PySem.dunder op.info.2) = some (some (.ref f))) (hf : PySem.W.isFn X.K (.ref f) = true)
    (F : FnOk X.prog X.w X.K X.mg X.base CX k f fd ps sp) (hr : Room k X.A) (hb : Binds X.K fd ps []) (hx : Passes CX X E) : OpR X (binaryOp op) (rOwn C sp E) := by
  intro pins s σ H x y v u Q I rx ry h
  obtain ⟨a, b, dx, dy, fs, gs, rfl, rfl, ha, hb', q⟩ := h
  obtain rfl : v = Value.ref a := rx
  obtain rfl : u = Value.ref b := ry
  obtain ⟨m, fr⟩ := I.fr
  obtain ⟨_, O1, _⟩ := ins_get I.hok ha
  obtain ⟨o1, J1, _⟩ := O1.look
  obtain ⟨_, O2, _⟩ := ins_get I.hok hb'
  obtain ⟨o2, J2, _⟩ := O2.look
  refine PySem.W.binop_K fr I.ok.mod.kin J1 J2.type hc hs hf ?_
  refine thn (run_fn (us := [.ref a, .ref b]) (vs := [.ref a, .ref b]) F hr hb .nil hx I (.cons rfl (.cons rfl .nil)) q) fun z s' ⟨zv, H', I', rz, q'⟩ => ?_
  cases z <;> first | exact ⟨zv, H', I', rz, q'⟩ | (cases zv <;> first | (obtain ⟨_, z⟩ := rz; cases z) | cases rz)
end
end Kx
namespace Kx
open PySem L2 PySem.Spec PyProof.Rows
/-! clauses as data -/
def litD (l : Lit) : PyData := .tuple [.str l.1, .str l.2.1, .int l.2.2]
def clD (c : List Lit) : PyData := .tuple (c.map litD)
theorem dp_lit {K : PySem.W.Frag} {H : Hp} {x : V} {l : Lit} (h : IsLit K H x l) : Dp K H x (litD l) := by
  obtain ⟨a, rfl, q⟩ := h
  exact .tup q (.cons (.str _) (.cons (.str _) (.cons (.int _) .nil)))
theorem dp_all {K : PySem.W.Frag} {H : Hp} {α : Type} {R : V → α → Prop} {f : α → PyData} (hf : ∀ x y, R x y → Dp K H x (f y)) : ∀ {xs : List V} {ys : List α}, Paired R xs ys → DpAll K H xs (ys.map f)
  | _, _, .nil => .nil
  | _, _, .cons h t => .cons (hf _ _ h) (dp_all hf t)
theorem dp_cl {K : PySem.W.Frag} {H : Hp} {x : V} {c : List Lit} (h : IsC K H x c) : Dp K H x (clD c) := by
  obtain ⟨a, ys, rfl, q⟩ := h
  exact .tup q.sq (dp_all (fun _ _ z => dp_lit z) q.p)
theorem eqv_lit (l m : Lit) : PyData.eqv (litD l) (litD m) = decide (l = m) := by
  obtain ⟨a, b, c⟩ := l
  obtain ⟨a', b', c'⟩ := m
  simp only [litD, PyData.eqv, PyData.eqvAll, Bool.and_true]
  rw [Bool.eq_iff_iff]
  simp [Prod.ext_iff]
theorem eqv_lits : ∀ (c d : List Lit), PyData.eqvAll (c.map litD) (d.map litD) = decide (c = d)
  | [], [] => by simp [PyData.eqvAll]
  | [], _ :: _ => by simp [PyData.eqvAll]
  | _ :: _, [] => by simp [PyData.eqvAll]
  | l :: c, m :: d => by
    simp only [List.map_cons, PyData.eqvAll]
    rw [eqv_lit, eqv_lits c d]
    rw [Bool.eq_iff_iff]
    simp
theorem eqv_cl (c d : List Lit) : PyData.eqv (clD c) (clD d) = decide (c = d) := by
  show PyData.eqvAll _ _ = _
  exact eqv_lits c d
def okC (cs : List (List Lit)) : Prop := ∀ c ∈ cs, ∀ l ∈ c, PyData.strOk l.1 = true ∧ PyData.strOk l.2.1 = true
theorem lay_lits : ∀ {c : List Lit}, (∀ l ∈ c, PyData.strOk l.1 = true ∧ PyData.strOk l.2.1 = true) → PyData.canLayAll0 (c.map litD) = true ∧ PyData.depthAll (c.map litD) ≤ 1
  | [], _ => ⟨rfl, Nat.zero_le _⟩
  | l :: c, h => by
    obtain ⟨h1, h2⟩ := h l List.mem_cons_self
    obtain ⟨r1, r2⟩ := lay_lits (c := c) fun m hm => h m (List.mem_cons_of_mem _ hm)
    refine ⟨?_, ?_⟩
    · simp only [List.map_cons, PyData.canLayAll0, litD, PyData.canLay0, h1, h2, r1, Bool.and_self]
    · simp only [List.map_cons, PyData.depthAll, litD, PyData.depth]
      omega
theorem lay_cls : ∀ {cs : List (List Lit)}, okC cs → PyData.canLayAll0 (cs.map clD) = true ∧ PyData.depthAll (cs.map clD) ≤ 2
  | [], _ => ⟨rfl, Nat.zero_le _⟩
  | c :: cs, h => by
    obtain ⟨h1, h2⟩ := lay_lits (h c List.mem_cons_self)
    obtain ⟨r1, r2⟩ := lay_cls (cs := cs) fun m hm => h m (List.mem_cons_of_mem _ hm)
    refine ⟨?_, ?_⟩
    · simp only [List.map_cons, PyData.canLayAll0, clD, PyData.canLay0, h1, r1, Bool.and_self]
    · simp only [List.map_cons, PyData.depthAll, clD, PyData.depth]
      omega
theorem shaped_list {cs : List (List Lit)} (h : okC cs) : SeqAt.shaped (.list (cs.map clD)) = true := by
  obtain ⟨h1, h2⟩ := lay_cls h
  unfold SeqAt.shaped
  rw [Bool.and_eq_true, decide_eq_true_eq]
  exact ⟨h1, by show PyData.depthAll _ + 1 ≤ 64; omega⟩
theorem shaped_tup {cs : List (List Lit)} (h : okC cs) : SeqAt.shaped (.tuple (cs.map clD)) = true := shaped_list h
theorem shaped_cl {c : List Lit} (h : ∀ l ∈ c, PyData.strOk l.1 = true ∧ PyData.strOk l.2.1 = true) : SeqAt.shaped (clD c) = true := by
  obtain ⟨h1, h2⟩ := lay_lits h
  unfold SeqAt.shaped
  rw [Bool.and_eq_true, decide_eq_true_eq]
  exact ⟨h1, by show PyData.depthAll _ + 1 ≤ 64; omega⟩
theorem eqv_cls : ∀ (c d : List (List Lit)), PyData.eqvAll (c.map clD) (d.map clD) = decide (c = d)
  | [], [] => by simp [PyData.eqvAll]
  | [], _ :: _ => by simp [PyData.eqvAll]
  | _ :: _, [] => by simp [PyData.eqvAll]
  | l :: c, m :: d => by
    simp only [List.map_cons, PyData.eqvAll]
    rw [eqv_cl, eqv_cls c d]
    rw [Bool.eq_iff_iff]
    simp
theorem any_cl (cs : List (List Lit)) (c : List Lit) : ((cs.map clD).any fun z => PyData.eqv z (clD c)) = decide (c ∈ cs) := by
  rw [List.any_map, Bool.eq_iff_iff, List.any_eq_true, decide_eq_true_eq]
  constructor
  · rintro ⟨d, hd, e⟩
    have e' : PyData.eqv (clD d) (clD c) = true := e
    rw [eqv_cl, decide_eq_true_eq] at e'
    exact e' ▸ hd
  · intro h
    exact ⟨c, h, by show PyData.eqv (clD c) (clD c) = true; rw [eqv_cl]; exact decide_eq_true rfl⟩
/-- clauses put together, each once -/
def merge : List (List Lit) → List (List Lit) → List (List Lit)
  | m, [] => m
  | m, c :: r => merge (if c ∈ m then m else m ++ [c]) r
end Kx
namespace Kx
open PySem L2 PySem.Spec PyProof.Rows
abbrev sAnd : Stmt := mth 2
abbrev nA : List Str := ["self", "other", "merged", "clause"]
structure CondAll (K : PySem.W.Frag) (mg : Str → Option Value) (B CB fB C fI : Addr) (fdB fdI : FuncData) : Prop where
  D : Cnd K mg C
  W : Bad K mg B CB fB fdB
  I : Fun K "__init__" "Cond.__init__" sInit fI fdI
  mkI : Mk K C fI
  ty : ∀ H a dx fs, H a = some (.ins C dx fs) → TyX K H (.ref a) (.ref C)
  kit : PySem.W.kitOne K (.ref C) (.ref C) = some true
def spAnd (K : PySem.W.Frag) (C CB : Addr) : Sp := fun vs H Q E => ∃ (a b dx dy p q p' q' : Addr) (cs cs' : List (List Lit)) (ys ys' : List Str), vs = [.ref a, .ref b] ∧ CondF K H a C dx p q cs ys ∧ CondF K H b C dy p' q' cs' ys' ∧ shortC (cs ++ cs') ∧ okC (cs ++ cs') ∧ (cs ++ cs').length ≤ 1000 ∧
  (firstWrong (merge [] (cs ++ cs')) = none → ∀ r dz p2 q2 zs H', CondF K H' r C dz p2 q2 (merge [] (cs ++ cs')) zs → Same H H' → H r = none → Q (.ref r) H') ∧ ∀ i, firstWrong (merge [] (cs ++ cs')) = some i → refusal CB E H i
theorem catA_of {K : PySem.W.Frag} {H : Hp} {a b : Addr} {xs ys : List V} {Q : VK} (h1 : SqT K H a xs) (h2 : SqT K H b ys) (hz : xs.length + ys.length ≤ sizeLine) (go : ∀ t H2, Same H H2 → SqT K H2 t (xs ++ ys) → Q (.ref t) H2) : rCatA K (.ref a) (.ref b) H Q := by
  refine ⟨a, b, xs, ys, rfl, rfl, h1, h2, hz, fun e => ?_, fun _ e => ?_, fun _ _ p hp => ?_⟩
  · exact go b H (fun _ _ z => z) (by rw [e]; exact h2)
  · exact go a H (fun _ _ z => z) (by rw [e, List.append_nil]; exact h1)
  · exact go p _ (new_same hp) (SqT.of upd_same)
theorem SqT.lst {K : PySem.W.Frag} {H : Hp} {a b : Addr} {ms : List V} {u : HO} {xs : List V} (ha : H a = some (.lst ms)) (h : SqT K H b xs) : SqT K (upd H a u) b xs := by
  rcases h with (h | ⟨o, h⟩) | h
  · exact .inl (.inl (by rw [upd_ne (fun e => by rw [e, ha] at h; cases h)]; exact h))
  · exact .inl (.inr ⟨o, by rw [upd_ne (fun e => by rw [e, ha] at h; cases h)]; exact h⟩)
  · exact .inr h
theorem IsC.lst {K : PySem.W.Frag} {H : Hp} {a : Addr} {ms : List V} {u : HO} {x : V} {c : List Lit} (ha : H a = some (.lst ms)) (h : IsC K H x c) : IsC K (upd H a u) x c := by
  obtain ⟨b, ys, e, q⟩ := h
  exact ⟨b, ys, e, SqT.lst ha q.sq, L2.Paired.mapP q.p fun _ _ ⟨d, z, r⟩ => ⟨d, z, SqT.lst ha r⟩, q.l1, q.l2⟩
theorem merge_snoc (c : List Lit) : ∀ (l m : List (List Lit)), merge m (l ++ [c]) = if c ∈ merge m l then merge m l else merge m l ++ [c]
  | [], m => rfl
  | d :: l, m => by
    show merge (if d ∈ m then m else m ++ [d]) (l ++ [c]) = _
    rw [merge_snoc c l]
    rfl
theorem merge_sub : ∀ (l m : List (List Lit)) (c : List Lit), c ∈ merge m l → c ∈ m ∨ c ∈ l
  | [], m, c, h => .inl h
  | d :: l, m, c, h => by
    have h' : c ∈ merge (if d ∈ m then m else m ++ [d]) l := h
    rcases merge_sub l _ c h' with z | z
    · by_cases hd : d ∈ m
      · rw [if_pos hd] at z
        exact .inl z
      · rw [if_neg hd] at z
        rcases List.mem_append.mp z with z | z
        · exact .inl z
        · exact .inr (by rw [List.mem_singleton.mp z]; exact List.mem_cons_self)
    · exact .inr (List.mem_cons_of_mem _ z)
theorem merge_len : ∀ (l m : List (List Lit)), (merge m l).length ≤ m.length + l.length
  | [], m => Nat.le_refl _
  | d :: l, m => by
    have h := merge_len l (if d ∈ m then m else m ++ [d])
    have e : (if d ∈ m then m else m ++ [d]).length ≤ m.length + 1 := by
      by_cases hd : d ∈ m
      · rw [if_pos hd]; exact Nat.le_succ _
      · rw [if_neg hd, List.length_append]; exact Nat.le_refl _
    show (merge (if d ∈ m then m else m ++ [d]) l).length ≤ m.length + (l.length + 1)
    omega
theorem paired_app {α β : Type} {R : α → β → Prop} : ∀ {xs : List α} {ys : List β} {xs' : List α} {ys' : List β}, Paired R xs ys → Paired R xs' ys' → Paired R (xs ++ xs') (ys ++ ys')
  | _, _, _, _, .nil, h => h
  | _, _, _, _, .cons a t, h => .cons a (paired_app t h)
section
variable {P : Program} {w : World} {K : PySem.W.Frag} {mg : Str → Option Value} {base : Heap} {B CB fB C fI : Addr} {fdB fdI : FuncData}
theorem scAnd : FnScope nA ["self", "other"] (defScope sAnd) := ⟨rfl, rfl, rfl, by decide +kernel, rfl, by decide +kernel, by decide +kernel⟩
theorem ok_and {f : Addr} {fd : FuncData} (F : Fun K "__and__" "Cond.__and__" sAnd f fd) (M : CondAll K mg B CB fB C fI fdB fdI) : FnOk P w K mg base (L2N.CX P w) 8 f fd ["self", "other"] (spAnd K C CB) := by
  obtain ⟨oc, od, kV, doc, pm, an, cdv, ct, osl, rfl, lk, hcd⟩ := F.ex
  have D := M.D
  have T := D.M.T
  have GI : FnR P w K mg base (L2N.CX P w) 6 fI (spInit K C (refusal CB)) := fnR_init M.I D M.W
  refine fn_of lk hcd scAnd (fun vs H Q E h => ?_) fun A outer s H vs Q E hr h => ?_
  · obtain ⟨a, b, dx, dy, p, q, p', q', cs, cs', ys, ys', rfl, _⟩ := h
    rfl
  · obtain ⟨a, b, dx, dy, p, q, p', q', cs, cs', ys, ys', rfl, ha, hb, hsh, hok, hlen, qn, qf⟩ := h
    have tk : L2N.Takes (cxOf (L2N.CX P w) P w K mg base nA "Cond.__and__" (defScope sAnd) f cdv A outer s H E) (fun cls d _ H => E cls d H) := L2N.takes_of rfl rfl rfl rfl
    have hx : Passes (L2N.CX P w) (cxOf (L2N.CX P w) P w K mg base nA "Cond.__and__" (defScope sAnd) f cdv A outer s H E) E := L2N.passes_call tk (fun _ _ _ _ z => z)
    have hu : (cxOf (L2N.CX P w) P w K mg base nA "Cond.__and__" (defScope sAnd) f cdv A outer s H E).A.units + 65 < cLine := by
      have := hr.un
      show (A.deeper (envOfC "Cond.__and__" (defScope sAnd) s.heap.objs.size f cdv)).units + 65 < cLine
      omega
    refine ⟨_, pss_cons (ps_if (pt_not (pt_val (pe_callB call_isi (by rfl) T.isi boot_isinstance (pa_cons (pv 1) (pa_cons (pe_glob (v := .ref C) (by rfl) D.gC rfl) pa_nil))))) (pss_one ps_never) pss_nil)
      (pss_cons (ps_set (i := 2) scAnd.nd rfl (Or.inl rfl) (pe_lst pa_nil))
      (pss_cons (ps_for (passes_of rfl) rfl (pi_tup (pe_op op_catA (pe_fld (pv 0) (by rfl)) (pe_fld (pv 1) (by rfl)))) (pg_name (i := 3) scAnd.nd rfl (Or.inl rfl))
        (pss_one (ps_if (pt_cmpR (op_notInD hu) (pv 3) (pv 2) (by with_unfolding_all rfl)) (pss_one (ps_expr (pe_bm PySem.F.plainAttrs_list PySem.F.slot_list_append PySem.F.type_list_append mt_append (pv 2) (pa_cons (pv 3) pa_nil)))) pss_nil)))
      (pss_one (ps_ret (pe_makeS (k := 6) M.mkI GI hr (by rfl) D.gC hx (pv 2)))))), ?_⟩
    obtain ⟨xs, hc⟩ := ha.cl
    obtain ⟨xs', hc'⟩ := hb.cl
    have hp := paired_app hc.p hc'.p
    have hpl : (xs ++ xs').length = (cs ++ cs').length := Paired.length hp
    refine ⟨_, rfl, .ref b, .ref C, _, _, true, rfl, .own C, M.ty _ b dy _ hb.ins, M.kit, true, rfl, iteF ?_⟩
    refine ⟨by show 0 ≤ sizeLine; decide, fun m hm => ?_⟩
    have s1 : Same H (upd H m (.lst [])) := new_same hm
    refine ⟨_, rfl, a, C, dx, _, .ref p, rfl, s1 _ _ ha.ins, D.cls, D.nc, rfl, _, rfl, b, C, dy, _, .ref p', rfl, s1 _ _ hb.ins, D.cls, D.nc, rfl, ?_⟩
    refine catA_of (SqT.same s1 hc.sq) (SqT.same s1 hc'.sq) (by rw [← List.length_append, hpl]; exact Nat.le_of_lt (small1000 hlen)) fun t H2 s2 ht => ?_
    refine ⟨t, rfl, ⟨_, ht⟩, ?_⟩
    refine for_tup (xs := xs ++ xs') (fun i σ H3 => (∃ v3, σ = [some (.ref a), some (.ref b), some (.ref m), v3]) ∧ Same H H3 ∧ SqT K H3 t (xs ++ xs') ∧ ∃ ms, H3 m = some (.lst ms) ∧ Paired (IsC K H3) ms (merge [] ((cs ++ cs').take i)))
      ⟨⟨none, rfl⟩, fun b u z => s2 _ _ (s1 _ _ z), ht, [], s2 _ _ upd_same, .nil⟩ (fun i σ H3 _ h => h.2.2.1) ?_ ?_
    · rintro i x σ H3 hx ⟨⟨v3, rfl⟩, s3, ht3, ms, gm, hms⟩
      obtain ⟨c, hcl, hxc⟩ := paired_get hp hx
      have hcm : c ∈ cs ++ cs' := List.mem_of_getElem? hcl
      have hx3 := IsC.same s3 hxc
      have hlm : ms.length ≤ 1000 := by
        have e1 : ms.length = (merge [] ((cs ++ cs').take i)).length := Paired.length hms
        have e2 := merge_len ((cs ++ cs').take i) []
        rw [List.length_take] at e2
        have e3 : ([] : List (List Lit)).length = 0 := rfl
        omega
      have okm : okC (merge [] ((cs ++ cs').take i)) := fun d hd => by
        rcases merge_sub _ _ _ hd with z | z
        · cases z
        · exact hok d (List.mem_of_mem_take z)
      have em : merge [] ((cs ++ cs').take (i + 1)) = if c ∈ merge [] ((cs ++ cs').take i) then merge [] ((cs ++ cs').take i) else merge [] ((cs ++ cs').take i) ++ [c] := by
        rw [List.take_add_one, hcl]
        exact merge_snoc c _ _
      refine ⟨_, rfl, _, rfl, clD c, _, dp_cl hx3, .lst (SqL.of gm) (dp_all (fun _ _ z => dp_cl z) hms), shaped_cl (hok c hcm), shaped_list okm, _, rfl, ?_⟩
      rw [any_cl]
      by_cases hin : c ∈ merge [] ((cs ++ cs').take i)
      case pos =>
        rw [decide_eq_true hin]
        rw [if_pos hin] at em
        exact iteF ⟨⟨_, rfl⟩, s3, ht3, ms, gm, by rw [em]; exact hms⟩
      case neg =>
        rw [decide_eq_false hin]
        rw [if_neg hin] at em
        refine iteT ?_
        refine ⟨_, rfl, .inl ⟨rfl, ms, SqL.of gm⟩, _, rfl, m, ms, x, rfl, rfl, gm, small1000 hlm, ?_⟩
        refine ⟨⟨_, rfl⟩, same_upd hm s3, SqT.lst gm ht3, _, upd_same, ?_⟩
        rw [em]
        exact paired_app (L2.Paired.mapP hms fun _ _ z => IsC.lst gm z) (.cons (IsC.lst gm hx3) .nil)
    · rintro σ H3 ⟨⟨v3, rfl⟩, s3, ht3, ms, gm, hms⟩
      rw [hpl, List.take_of_length_le (Nat.le_refl _)] at hms
      have hl : (merge [] (cs ++ cs')).length ≤ 1000 := Nat.le_trans (merge_len _ _) (by show 0 + (cs ++ cs').length ≤ 1000; omega)
      have hml : ms.length = (merge [] (cs ++ cs')).length := Paired.length hms
      refine ⟨_, rfl, m, ms, rfl, .inr (SqL.of gm), fun r dz hr0 hdz hne => ⟨[.ref r], ms, rfl, rfl, Nat.le_of_lt (small1000 (by omega)), fun p2 hp2 => ?_⟩⟩
      have s5 : Same H3 (upd (upd H3 dz (.own r)) r (.ins C dz [])) := same_upd hr0 (new_same hdz)
      have s6 : Same H3 (upd (upd (upd H3 dz (.own r)) r (.ins C dz [])) p2 (.tup ms)) := fun b u z => new_same hp2 _ _ (s5 _ _ z)
      have hrp : r ≠ p2 := fun z => by
        rw [← z, upd_same] at hp2
        cases hp2
      refine ⟨r, dz, p2, ms, merge [] (cs ++ cs'), rfl, (by rw [upd_ne hrp]; exact upd_same), ⟨SqT.of upd_same, pairedC_same s6 hms, hl⟩, fun c hcm l hlm => ?_, fun hw H' q2 zs hF hk => ⟨rfl, ?_⟩, fun i hw H1 s7 => ?_⟩
      · rcases merge_sub _ _ _ hcm with z | z
        · cases z
        · exact hsh c z l hlm
      · refine qn hw r dz p2 q2 zs H' hF (fun b u z => hk b u (fun e => ?_) (s6 _ _ (s3 _ _ z))) (Same.free s3 hr0)
        rw [e, Same.free s3 hr0] at z
        cases z
      · exact fun d H' s8 z => qf i hw d H' (fun b u y => s8 _ _ (s7 _ _ (s6 _ _ (s3 _ _ y)))) z
end
end Kx
namespace Kx
open PySem L2
abbrev sWell : Stmt := top 126
abbrev sDraw : Stmt := top 127
abbrev sOne : Stmt := top 128

/-- a source of draws as it stands: three whole numbers, the last one small -/
def WellAt (H : Hp) (p : Addr) (n : Int) : Prop := ∃ a b c : Int, H p = some (.lst [.int a, .int b, .int c]) ∧ 0 ≤ b ∧ b < 4294967296 ∧ 0 ≤ c ∧ c ≤ n
def spWell : Sp := fun vs H Q _ => ∃ c : Int, vs = [.int c] ∧ ∀ p H', H p = none → Same H H' → WellAt H' p 0 → Q (.ref p) H'
def spDraw : Sp := fun vs H Q _ => ∃ (p : Addr) (m n : Int), vs = [.ref p, .int m] ∧ WellAt H p n ∧ n ≤ 1000000 ∧ 0 < m ∧ m < 1000000 ∧
  ∀ (r : Int) (xs : List V), 0 ≤ r → r < m → WellAt (upd H p (.lst xs)) p (n + 1) → Q (.int r) (upd H p (.lst xs))
def spOne (K : PySem.W.Frag) : Sp := fun vs H Q _ => ∃ (p q : Addr) (n : Int) (ys : List V), vs = [.ref p, .ref q] ∧ WellAt H p n ∧ n ≤ 1000000 ∧ p ≠ q ∧ SqL K H q ys ∧ 0 < ys.length ∧ ys.length < 1000000 ∧
  ∀ (r : Nat) (v : V) (xs : List V), ys[r]? = some v → WellAt (upd H p (.lst xs)) p (n + 1) → Q v (upd H p (.lst xs))

structure Bl (mg : Str → Option Value) : Prop where
  int : mg "int" = none
  len : mg "len" = none

section
variable {P : Program} {w : World} {K : PySem.W.Frag} {mg : Str → Option Value} {base : Heap}
theorem scW : FnScope ["_law_cell"] ["_law_cell"] (defScope sWell) := ⟨rfl, rfl, rfl, by decide +kernel, rfl, by decide +kernel, by decide +kernel⟩
theorem ok_well {f : Addr} {fd : FuncData} (F : Fun K "_law_well" "_law_well" sWell f fd) (T : Bl mg) : FnOk P w K mg base CX0 1 f fd ["_law_cell"] spWell := by
  refine F.ok scW (fun vs H Q E h => ?_) (fun cdv A outer s H vs Q E hr h => ?_)
  · obtain ⟨c, rfl, _⟩ := h
    rfl
  · obtain ⟨c, rfl, k⟩ := h
    have hu := hu_of hr
    refine ⟨_, pss_one (ps_ret (pe_lst (pa_cons (pe_op op_mul (pv 0) (pe_callTy call_int1 (by rfl) T.int (by decide +kernel) (pa_cons (pe_cmpR op_ge (pv 0) (pe_op op_pow pe_int pe_int) (nomark _)) pa_nil)))
      (pa_cons (pe_op op_mod (pe_callTy call_int1 (by rfl) T.int (by decide +kernel) (pa_cons (pv 0) pa_nil)) pe_int) (pa_cons pe_int pa_nil))))), ?_⟩
    refine ⟨_, rfl, _, rfl, _, _, rfl, rfl, ⟨by decide, by decide, by decide⟩, _, _, rfl, rfl, .inr ⟨_, rfl, _, _, rfl, rfl, .inr ?_, _, rfl, .inl ⟨_, rfl, _, _, rfl, rfl, (by show (0 : Int) < 2147483629; decide), (by show 3 ≤ sizeLine; decide), fun p hp => ?_⟩⟩⟩
    · split <;> omega
    · refine k p _ hp (fun b o e => ?_) ⟨_, _, 0, upd_same, Int.emod_nonneg _ (by decide), ?_, Int.le_refl _, Int.le_refl _⟩
      · rw [upd_ne (ne_of_none e hp)]
        exact e
      · have := Int.emod_lt_of_pos c (show (0 : Int) < 2147483629 by decide)
        omega
theorem ml (x : Int) : -(2 ^ 64) < x % 2147483647 ∧ x % 2147483647 < 2 ^ 64 := by omega
theorem scD : FnScope ["_law_well_here", "_law_base", "_law_digit", "_law_number"] ["_law_well_here", "_law_base"] (defScope sDraw) := ⟨rfl, rfl, rfl, by decide +kernel, rfl, by decide +kernel, by decide +kernel⟩
theorem ok_draw {f : Addr} {fd : FuncData} (F : Fun K "_law_draw" "_law_draw" sDraw f fd) (T : Bl mg) : FnOk P w K mg base CX0 1 f fd ["_law_well_here", "_law_base"] spDraw := by
  refine F.ok scD (fun vs H Q E h => ?_) (fun cdv A outer s H vs Q E hr h => ?_)
  · obtain ⟨p, m, n, rfl, _⟩ := h
    rfl
  · obtain ⟨p, m, n, rfl, ⟨a, b, c, hp, hb0, hb1, hc0, hcn⟩, hn, hm0, hm1, k⟩ := h
    have hu := hu_of hr
    refine ⟨_, pss_cons (ps_if (pt_cmpR op_gt (pe_ix ix_list (pv 0) pe_int (fun _ _ => rfl)) pe_int (nomark _))
        (pss_cons (ps_set (i := 2) scD.nd rfl (Or.inl rfl) (pe_op op_mod (pe_callTy call_int1 (by rfl) T.int (by decide +kernel) (pa_cons (pe_ix ix_list (pv 0) pe_int (fun _ _ => rfl)) pa_nil)) (pv 1)))
        (pss_cons (ps_asg (pe_op op_fdivW (pe_ix ix_list (pv 0) pe_int (fun _ _ => rfl)) (pv 1)) (pg_sub (pv 0) pe_int set_list))
        (pss_one (ps_ret (pv 2))))) pss_nil)
      (pss_cons (ps_asg (pe_op op_add (pe_ix ix_list (pv 0) pe_int (fun _ _ => rfl)) pe_int) (pg_sub (pv 0) pe_int set_list))
      (pss_cons (ps_set (i := 3) scD.nd rfl (Or.inl rfl) (pe_op op_mod (pe_callTy call_int1 (by rfl) T.int (by decide +kernel) (pa_cons (pe_op op_mul (pe_callTy call_int1 (by rfl) T.int (by decide +kernel) (pa_cons
          (pe_op op_add (pe_op op_add (pe_ix ix_list (pv 0) pe_int (fun _ _ => rfl)) (pe_op op_mul pe_int (pe_ix ix_list (pv 0) pe_int (fun _ _ => rfl)))) pe_int) pa_nil)) pe_int) pa_nil)) pe_int))
      (pss_cons (ps_set (i := 3) scD.nd rfl (Or.inl rfl) (pe_op op_mod (pe_callTy call_int1 (by rfl) T.int (by decide +kernel) (pa_cons (pe_op op_mul (pv 3) (pe_op op_add (pe_op op_fdiv (pv 3) pe_int) pe_int)) pa_nil)) pe_int))
      (pss_one (ps_ret (pe_op op_mod (pe_callTy call_int1 (by rfl) T.int (by decide +kernel) (pa_cons (pe_op op_mod (pe_callTy call_int1 (by rfl) T.int (by decide +kernel) (pa_cons (pe_op op_mul (pv 3) (pe_op op_add (pe_op op_fdiv (pv 3) pe_int) pe_int)) pa_nil)) pe_int) pa_nil)) (pv 1))))))), ?_⟩
    have g0 : ∀ (x y z : V), atI [x, y, z] 0 = some x := fun _ _ _ => rfl
    have g1 : ∀ (x y z : V), atI [x, y, z] 1 = some y := fun _ _ _ => rfl
    have g2 : ∀ (x y z : V), atI [x, y, z] 2 = some z := fun _ _ _ => rfl
    have hc1 : c + 1 ≤ n + 1 := by omega
    refine ⟨_, rfl, p, _, _, _, rfl, rfl, SqL.of hp, g0 _ _ _, _, _, rfl, rfl, _, rfl, ?_⟩
    refine ite2 (fun _ => ?_) (fun _ => ?_)
    · refine ⟨_, rfl, p, _, _, _, rfl, rfl, SqL.of hp, g0 _ _ _, .inl ⟨_, rfl, _, rfl, _, _, rfl, rfl, hm0, ?_⟩⟩
      refine ⟨_, rfl, p, _, _, _, rfl, rfl, SqL.of hp, g0 _ _ _, _, rfl, _, _, rfl, rfl, wide_div (b := 20) hm0 (by omega) (by decide) (by decide), _, rfl, p, _, _, 0, rfl, rfl, hp, rfl, _, rfl, ?_⟩
      exact k _ _ (Int.emod_nonneg _ (by omega)) (Int.emod_lt_of_pos _ hm0) ⟨_, b, c, upd_same, hb0, hb1, hc0, by omega⟩
    · refine ⟨_, rfl, p, _, _, _, rfl, rfl, SqL.of hp, g2 _ _ _, _, _, rfl, rfl, _, rfl, p, _, _, 2, rfl, rfl, hp, rfl, ?_⟩
      have e2 : (upd H p (.lst [.int a, .int b, .int (c + 1)])) p = some (.lst [.int a, .int b, .int (c + 1)]) := upd_same
      refine ⟨_, rfl, p, _, _, _, rfl, rfl, SqL.of e2, g1 _ _ _, _, rfl, p, _, _, _, rfl, rfl, SqL.of e2, g2 _ _ _, _, _, rfl, rfl, .inl ⟨by decide, by decide⟩, _, _, rfl, rfl, _, _, rfl, rfl,
        .inl ⟨_, rfl, _, _, rfl, rfl, .inr ⟨by decide, by decide⟩, .inl ⟨_, rfl, _, _, rfl, rfl, (by show (0 : Int) < 2147483647; decide), ?_⟩⟩⟩
      refine ⟨_, rfl, _, rfl, _, _, rfl, rfl, ⟨by decide, by decide⟩, _, _, rfl, rfl, _, _, rfl, rfl, .inl (ml _), .inl ⟨_, rfl, _, _, rfl, rfl, (by show (0 : Int) < 2147483647; decide), ?_⟩⟩
      refine ⟨_, rfl, _, rfl, _, _, rfl, rfl, ⟨by decide, by decide⟩, _, _, rfl, rfl, _, _, rfl, rfl, .inl (ml _), .inl ⟨_, rfl, _, _, rfl, rfl, (by show (0 : Int) < 2147483399; decide), .inl ⟨_, rfl, _, rfl, _, _, rfl, rfl, hm0, ?_⟩⟩⟩
      exact k _ _ (Int.emod_nonneg _ (by omega)) (Int.emod_lt_of_pos _ hm0) ⟨a, b, c + 1, upd_same, hb0, hb1, by omega, by omega⟩
theorem scO : FnScope ["_law_well_here", "_law_some"] ["_law_well_here", "_law_some"] (defScope sOne) := ⟨rfl, rfl, rfl, by decide +kernel, rfl, by decide +kernel, by decide +kernel⟩
theorem ok_one {f g : Addr} {fd fdD : FuncData} (F : Fun K "_law_one" "_law_one" sOne f fd) (T : Bl mg) (FD : Fun K "_law_draw" "_law_draw" sDraw g fdD) (bD : Binds K fdD ["_law_well_here", "_law_base"] []) (mD : mg "_law_draw" = some (.ref g)) : FnOk P w K mg base CX0 2 f fd ["_law_well_here", "_law_some"] (spOne K) := by
  have GD : FnOk P w K mg base CX0 1 g fdD ["_law_well_here", "_law_base"] spDraw := ok_draw FD T
  refine F.ok scO (fun vs H Q E h => ?_) (fun cdv A outer s H vs Q E hr h => ?_)
  · obtain ⟨p, q, n, ys, rfl, _⟩ := h
    rfl
  · obtain ⟨p, q, n, ys, rfl, hW, hn, hne, hq, h0, h1, k⟩ := h
    refine ⟨_, pss_one (ps_ret (pe_ix ix_list (pv 1) (pe_call GD hr rfl mD FD.kp bD .nil pass0 (pa_cons (pv 0) (pa_cons (pe_callB call_len_seq (by rfl) T.len PySem.boot_len (pa_cons (pv 1) pa_nil)) pa_nil))) (fun _ _ => rfl))), ?_⟩
    refine ⟨_, rfl, _, rfl, _, rfl, q, ys, rfl, .inl hq, p, _, n, rfl, hW, hn, by omega, by omega, fun r xs r0 r1 hW' => ?_⟩
    have hr2 : r.toNat < ys.length := by omega
    have e1 : ys[r.toNat]? = some ys[r.toNat] := by simp [hr2]
    refine ⟨q, ys, r, _, rfl, rfl, ?_, at_of (j := r.toNat) (by omega) e1, k r.toNat _ xs e1 hW'⟩
    rcases hq with (z | ⟨o, z⟩) | z
    · exact .inl (.inl (by rw [upd_ne (fun e => hne e.symm)]; exact z))
    · exact .inl (.inr ⟨o, by rw [upd_ne (fun e => hne e.symm)]; exact z⟩)
    · exact .inr z
end
end Kx
set_option linter.all false
namespace Kx
open PySem L2 PySem.Spec PyProof.Rows
/-! draws among things that are told by OD -/
def KeepB (p : Addr) (H H' : Hp) : Prop := ∀ b u, b ≠ p → H b = some u → H' b = some u
theorem KeepB.trans {p : Addr} {H1 H2 H3 : Hp} (a : KeepB p H1 H2) (b : KeepB p H2 H3) : KeepB p H1 H3 := fun x u n z => b x u n (a x u n z)
theorem KeepB.of {p : Addr} {H1 H2 : Hp} (a : Same H1 H2) : KeepB p H1 H2 := fun x u _ z => a x u z
theorem KeepB.at {p : Addr} {H : Hp} {o : HO} : KeepB p H (upd H p o) := fun x u n z => by rw [upd_ne n]; exact z
theorem WellAt.mono {H : Hp} {p : Addr} {n m : Int} (h : WellAt H p n) (l : n ≤ m) : WellAt H p m := let ⟨a, b, c, e, h0, h1, h2, h3⟩ := h; ⟨a, b, c, e, h0, h1, h2, by omega⟩
theorem WellAt.same {H H' : Hp} {p : Addr} {n : Int} (h : WellAt H p n) (s : Same H H') : WellAt H' p n := let ⟨a, b, c, e, r⟩ := h; ⟨a, b, c, s _ _ e, r⟩
theorem WellAt.lst {H : Hp} {p : Addr} {n : Int} (h : WellAt H p n) : ∃ ms, H p = some (.lst ms) := let ⟨_, _, _, e, _⟩ := h; ⟨_, e⟩
theorem WellAt.ne {H : Hp} {p q : Addr} {n : Int} (h : WellAt H p n) (e : H q = none) : q ≠ p := fun z => by
  obtain ⟨_, g⟩ := h.lst
  rw [z, g] at e
  cases e
theorem le_sz {n : Nat} (h : n ≤ 100) : n ≤ sizeLine := by rw [sizeLine_eq]; omega
structure Drw (K : PySem.W.Frag) (mg : PySem.Str → Option Value) : Prop where
  T : Bl mg
  well : ∃ f fd, Fs K mg "_law_well" sWell ["_law_cell"] f fd
  draw : ∃ f fd, Fs K mg "_law_draw" sDraw ["_law_well_here", "_law_base"] f fd
  one : ∃ f fd, Fs K mg "_law_one" sOne ["_law_well_here", "_law_some"] f fd
mutual
/-- no list within -/
def noL : OD → Prop
  | .fl _ => True
  | .tup xs => noLs xs
  | .lst _ => False
  | .obj _ xs => noLs xs
def noLs : List OD → Prop
  | [] => True
  | x :: xs => noL x ∧ noLs xs
end
theorem noL_lst : ∀ {d : OD}, noL d → noLst d
  | .fl _, _ => trivial
  | .tup _, _ => trivial
  | .obj _ _, _ => trivial
  | .lst _, h => h
theorem SqT.keepB {K : PySem.W.Frag} {H H' : Hp} {p a : Addr} {ms xs : List V} (hp : H p = some (.lst ms)) (k : KeepB p H H') (h : SqT K H a xs) : SqT K H' a xs := by
  rcases h with (h | ⟨o, h⟩) | h
  · exact .inl (.inl (k _ _ (fun z => by rw [z, hp] at h; cases h) h))
  · exact .inl (.inr ⟨o, k _ _ (fun z => by rw [z, hp] at h; cases h) h⟩)
  · exact .inr h
section
variable {K : PySem.W.Frag} {cl : Nat → OCls} {S : Nat → List OD → Prop}
mutual
theorem Oh.keepB {H H' : Hp} {p : Addr} {ms : List V} (hp : H p = some (.lst ms)) (k : KeepB p H H') : ∀ (d : OD) (v : V), noL d → Oh K cl H d v → Oh K cl H' d v
  | .fl _, _, _, h => h
  | .tup ds, _, n, ⟨a, xs, e, h, q⟩ => ⟨a, xs, e, SqT.keepB hp k h, OhAll.keepB hp k ds xs n q⟩
  | .lst ds, _, n, _ => n.elim
  | .obj _ ds, _, n, ⟨a, dx, fs, xs, e, h, l, q⟩ => ⟨a, dx, fs, xs, e, k _ _ (fun z => by rw [z, hp] at h; cases h) h, l, OhAll.keepB hp k ds xs n q⟩
theorem OhAll.keepB {H H' : Hp} {p : Addr} {ms : List V} (hp : H p = some (.lst ms)) (k : KeepB p H H') : ∀ (ds : List OD) (xs : List V), noLs ds → OhAll K cl H ds xs → OhAll K cl H' ds xs
  | [], _, _, h => h
  | d :: ds, _, n, ⟨v, ys, e, h, q⟩ => ⟨v, ys, e, Oh.keepB hp k d v n.1 h, OhAll.keepB hp k ds ys n.2 q⟩
end
theorem ext_of {H H' : Hp} (s : Same H H') : Ext H H' := fun a o h => s a o h
theorem Oh.same {H H' : Hp} (s : Same H H') {d : OD} {v : V} (h : Oh K cl H d v) : Oh K cl H' d v := Oh.ext (ext_of s) d v h
theorem OhAll.same {H H' : Hp} (s : Same H H') {d : List OD} {v : List V} (h : OhAll K cl H d v) : OhAll K cl H' d v := OhAll.ext (ext_of s) d v h
theorem noLs_get : ∀ {ds : List OD}, noLs ds → ∀ {i : Nat} {d : OD}, ds[i]? = some d → noL d
  | [], _, i, d, h => by simp at h
  | x :: xs, n, 0, d, h => by simp at h; subst h; exact n.1
  | x :: xs, n, i + 1, d, h => noLs_get n.2 (i := i) (by simpa using h)
theorem one_od {H : Hp} {p q : Addr} {n : Int} {ys : List V} {ds : List OD} {Q : VK} {E : XK}
    (W : WellAt H p n) (hn : n ≤ 1000000) (hq : H q = none) (ha : OhAll K cl H ds ys) (nl : noLs ds) (h0 : 0 < ys.length) (h1 : ys.length < 1000000) (k : ∀ d v H', d ∈ ds → noL d → Oh K cl H' d v → KeepB p H H' → WellAt H' p (n + 1) → Q v H') : spOne K [.ref p, .ref q] (upd H q (.lst ys)) Q E := by
  refine ⟨p, q, n, ys, rfl, W.same (new_same hq), hn, (W.ne hq).symm, SqL.of upd_same, h0, h1, fun r v xs hv W2 => ?_⟩
  have k2 : KeepB p H (upd (upd H q (.lst ys)) p (.lst xs)) := (KeepB.of (new_same hq)).trans KeepB.at
  obtain ⟨d, hd, od⟩ := ohAll_get ds ys r v ha hv
  obtain ⟨ms, hp⟩ := W.lst
  exact k d v _ (List.mem_of_getElem? hd) (noLs_get nl hd) (Oh.keepB hp k2 d v (noLs_get nl hd) od) k2 W2
theorem oh_str {H : Hp} (z : Str) : Oh K cl H (.fl (.str z)) (.str z) := ⟨rfl, rfl⟩
theorem oh_int {H : Hp} (z : Int) : Oh K cl H (.fl (.int z)) (.int z) := ⟨rfl, rfl⟩
theorem oh_non {H : Hp} : Oh K cl H (.fl .non) .non := ⟨rfl, rfl⟩
theorem oh_tup {H : Hp} {a : Addr} {xs : List V} {ds : List OD} (h : SqT K H a xs) (q : OhAll K cl H ds xs) : Oh K cl H (.tup ds) (.ref a) := ⟨a, xs, rfl, h, q⟩
theorem oh_nil {H : Hp} : OhAll K cl H [] [] := rfl
theorem oh_cons {H : Hp} {d : OD} {v : V} {ds : List OD} {vs : List V} (h : Oh K cl H d v) (q : OhAll K cl H ds vs) : OhAll K cl H (d :: ds) (v :: vs) := ⟨v, vs, rfl, h, q⟩
end
/-! what the own == of a class promises -/
def spOwn (K : PySem.W.Frag) (cl : Nat → OCls) (S : Nat → List OD → Prop) (k : Nat) : Sp := fun vs H Q _ => ∃ (a : Addr) (ds : List OD) (e : OD) (y : V), vs = [.ref a, y] ∧ Oh K cl H (.obj k ds) (.ref a) ∧ Oh K cl H e y ∧ S k ds ∧ okAll S ds ∧ okO S e ∧ ∀ H', Ext H H' → Q (.bl (eqo (.obj k ds) e)) H'
theorem own_run {X : Cx} {cl : Nat → OCls} {S : Nat → List OD → Prop} {CX : CXT} {E : XK} {fd : FuncData} {ps : List Str} {k : Nat} (F : FnOk X.prog X.w X.K X.mg X.base CX (cl k).lv (cl k).f fd ps (spOwn X.K cl S k)) (hb : L2.Binds X.K fd ps []) (hx : Passes CX X E)
    {ds : List OD} (hk : S k ds) {A : Around} {pins : List (Addr × Obj)} {s : Shared} {σ : L2.St} {H : Hp} {a : Addr} {e : OD} {y : V} {v : Value} (sb : Sub X (cl k).lv A) (I : L2.Inv X pins σ H s) (ry : RelV y v) (h : Oh X.K cl H (.obj k ds) (.ref a)) (he : Oh X.K cl H e y) (oD : okAll S ds) (oE : okO S e) :
    wpAny (model X.prog X.w) A (call (.ref (cl k).f) [.ref a, v]) (fun r s' => r = .bool (eqo (.obj k ds) e) ∧ ∃ H', L2.Inv X pins σ H' s' ∧ Ext H H') X.xe s := by
  have hsp : spOwn X.K cl S k [.ref a, y] H (fun v H' => v = .bl (eqo (.obj k ds) e) ∧ Ext H H') E := ⟨a, ds, e, y, rfl, h, he, hk, oD, oE, fun H' e => ⟨rfl, e⟩⟩
  have e0 : Env0 X.prog X.w X.K X.mg X.base A X.stack s H := by
    have e := I.env0
    exact ⟨by rw [sb.fr]; exact e.frames, e.mod, e.bs, e.bsz, e.funs, e.frf, e.hok, e.bare⟩
  have hl := F.len _ _ _ _ hsp
  have r2 : Vals [V.ref a, y] [Value.ref a, v] := .cons rfl (.cons ry .nil)
  refine wpAny_call (codeAny_mono (F.run A X.stack s H ⟨[.ref a, v], []⟩ [.ref a, v] [.ref a, y] _ E sb.room e0 (by
    have := hb s [.ref a, v] I.kIn (by simpa using hl)
    simpa using this) r2 hsp) fun r s' hq => ?_)
  cases r with
  | error e => exact hx pins σ H s e s' I hq
  | ok fl =>
    cases fl with
    | ret w =>
      obtain ⟨z, H', I', rz, ez, ex⟩ := I.after hq
      subst ez
      cases rz
      exact ⟨rfl, H', I', ex⟩
    | next => exact False.elim hq
    | brk => exact False.elim hq
    | cont => exact False.elim hq
/-! isinstance of what OD tells -/
structure Kits (K : PySem.W.Frag) (cl : Nat → OCls) (n : Nat) : Prop where
  kc : ∀ k, k < n → ∃ cd, PySem.W.clsIn K (cl k).C = some cd
  kt : ∀ k, k < n → PySem.W.typeIn K (.ref (cl k).C) = some (.type "type")
  ty : ∀ k, k < n → ∀ (H : Hp) (a dx : Addr) (fs : List (Str × V)), H a = some (.ins (cl k).C dx fs) → TyX K H (.ref a) (.ref (cl k).C)
theorem kitN {K : PySem.W.Frag} {C : Addr} {t : Value} {cd : ClassData} (kc : PySem.W.clsIn K C = some cd) (kt : PySem.W.typeIn K (.ref C) = some (.type "type")) (ks : PySem.W.subIn K t (.ref C) = some false) (hn : (t == .ref C) = false) : PySem.W.kitOne K t (.ref C) = some false := by
  unfold PySem.W.kitOne
  rw [if_neg (by rw [hn]; exact Bool.false_ne_true)]
  unfold PySem.W.kitCls
  dsimp only
  rw [kc, kt, ks]
  simp
theorem kitY {K : PySem.W.Frag} {C : Addr} {t : Value} {cd : ClassData} (kc : PySem.W.clsIn K C = some cd) (kt : PySem.W.typeIn K (.ref C) = some (.type "type")) (ks : PySem.W.subIn K t (.ref C) = some true) : PySem.W.kitOne K t (.ref C) = some true := by
  unfold PySem.W.kitOne
  split
  · rfl
  · unfold PySem.W.kitCls
    dsimp only
    rw [kc, kt, ks]
    simp
theorem kitS {K : PySem.W.Frag} {C : Addr} : PySem.W.kitOne K (.ref C) (.ref C) = some true := by
  unfold PySem.W.kitOne
  rw [if_pos (beq_self_eq_true _)]
end Kx
set_option linter.all false
namespace Kx
open PySem L2 PySem.Spec PyProof.Rows
/-! the three classes: Cond, Method, ClassDef -/
def nm : Nat → List Str
  | 0 => ["clauses", "terms"]
  | 1 => ["name", "params", "result", "pre", "post", "body"]
  | _ => ["name", "bases", "fields", "where", "methods"]
abbrev clk (C f : Nat → Addr) (k : Nat) : OCls := ⟨C k, f k, nm k, if k = 0 then 4 else if k = 1 then 5 else 7⟩
/-- m parts, each of S, with no list in it, and no deeper than n -/
def Shp (cl : Nat → OCls) (S : Nat → List OD → Prop) (n m : Nat) (ds : List OD) : Prop := ds.length = m ∧ ∀ d ∈ ds, okO S d ∧ noL d ∧ need cl d ≤ n
abbrev Sn : Nat → List OD → Prop := fun _ _ => False
def S0 (cl : Nat → OCls) (k : Nat) (ds : List OD) : Prop := k = 0 ∧ Shp cl Sn 3 2 ds
def S1 (cl : Nat → OCls) (k : Nat) (ds : List OD) : Prop := S0 cl k ds ∨ (k = 1 ∧ Shp cl (S0 cl) 4 6 ds)
def S2 (cl : Nat → OCls) (k : Nat) (ds : List OD) : Prop := S1 cl k ds ∨ (k = 2 ∧ Shp cl (S1 cl) 6 5 ds)
section
variable {cl : Nat → OCls} {k : Nat} {ds : List OD}
theorem s0_lt (h : S0 cl k ds) : k < 3 := by rw [h.1]; decide
theorem s1_lt (h : S1 cl k ds) : k < 3 := by
  rcases h with h | ⟨rfl, _⟩
  · exact s0_lt h
  · decide
theorem s2_lt (h : S2 cl k ds) : k < 3 := by
  rcases h with h | ⟨rfl, _⟩
  · exact s1_lt h
  · decide
theorem s1_0 (h : S1 cl 0 ds) : Shp cl Sn 3 2 ds := by
  rcases h with h | ⟨z, _⟩
  · exact h.2
  · cases z
theorem s2_0 (h : S2 cl 0 ds) : Shp cl Sn 3 2 ds := by
  rcases h with h | ⟨z, _⟩
  · exact s1_0 h
  · cases z
theorem s1_1 (h : S1 cl 1 ds) : Shp cl (S0 cl) 4 6 ds := by
  rcases h with ⟨z, _⟩ | ⟨_, h⟩
  · cases z
  · exact h
theorem s2_1 (h : S2 cl 1 ds) : Shp cl (S0 cl) 4 6 ds := by
  rcases h with h | ⟨z, _⟩
  · exact s1_1 h
  · cases z
theorem s2_2 (h : S2 cl 2 ds) : Shp cl (S1 cl) 6 5 ds := by
  rcases h with (⟨z, _⟩ | ⟨z, _⟩) | ⟨_, h⟩
  · cases z
  · cases z
  · exact h
end
theorem isi_no {K : PySem.W.Frag} {cl : Nat → OCls} {S : Nat → List OD → Prop} {k : Nat} {e : OD} {y : V} {H : Hp} (hS : ∀ l es, S l es → l < 3) (KT : Kits K cl 3) (W : OwnCls K cl S) (hk : Dm S k) (he : Oh K cl H e y) (oE : okO S e) (hne : ∀ es, e ≠ .obj k es) : ∃ t, TyX K H y t ∧ PySem.W.kitOne K t (.ref (cl k).C) = some false := by
  have k6 : k < 3 := let ⟨ds, h⟩ := hk; hS k ds h
  obtain ⟨cd, kc⟩ := KT.kc k k6
  have kt := KT.kt k k6
  have no : ∀ T, T ∈ ["NoneType", "bool", "int", "str", "tuple", "list"] → PySem.W.kitOne K (.type T) (.ref (cl k).C) = some false := fun T hT => kitN kc kt (W.sT k hk T hT).1 (by simp)
  cases e with
  | fl v =>
    obtain ⟨rfl, h⟩ := he
    cases y with
    | non => exact ⟨_, .base .non, no _ (by decide)⟩
    | bl b => exact ⟨_, .base (.bl b), no _ (by decide)⟩
    | int b => exact ⟨_, .base (.int b), no _ (by decide)⟩
    | str b => exact ⟨_, .base (.str b), no _ (by decide)⟩
    | _ => cases h
  | tup ds =>
    obtain ⟨a, xs, rfl, h, _⟩ := he
    exact ⟨_, tyT h, no _ (by decide)⟩
  | lst ds =>
    obtain ⟨a, xs, rfl, h, _⟩ := he
    exact ⟨_, .base (.lst h), no _ (by decide)⟩
  | obj l es =>
    obtain ⟨a, dx, fs, xs, rfl, h, _, _⟩ := he
    have hl : k ≠ l := fun z => hne es (by rw [z])
    refine ⟨_, KT.ty l (hS l es oE.1) H a dx fs h, kitN kc kt (W.sub k l hk ⟨_, oE.1⟩ hl) ?_⟩
    have : (cl l).C ≠ (cl k).C := fun z => hl (W.inj k l hk ⟨_, oE.1⟩ z.symm)
    simpa using this
theorem eqo_ne {k : Nat} {ds : List OD} {e : OD} (hne : ∀ es, e ≠ .obj k es) : eqo (.obj k ds) e = false := by
  cases e with
  | fl v => exact eqo_obj_fl
  | tup v => exact eqo_obj_tup
  | lst v => exact eqo_obj_lst
  | obj l es =>
    have hl : k ≠ l := fun z => hne es (by rw [z])
    show (k == l && eqoAll ds es) = false
    rw [beq_eq_false_iff_ne.mpr hl, Bool.false_and]
theorem ohx {K : PySem.W.Frag} {cl : Nat → OCls} {H : Hp} {ds : List OD} {xs : List V} {a : Option V} {as : List (Option V)} (h : a :: as = xs.map some) (q : OhAll K cl H ds xs) : ∃ d ds' v xs', ds = d :: ds' ∧ xs = v :: xs' ∧ a = some v ∧ Oh K cl H d v ∧ as = xs'.map some ∧ OhAll K cl H ds' xs' := by
  match xs, h with
  | v :: xs, h =>
    injection h with h1 h2
    match ds, q with
    | d :: ds, ⟨_, _, e, h, q⟩ =>
      cases e
      exact ⟨d, ds, v, xs, rfl, rfl, h1, h, h2, q⟩
    | [], q => cases q
theorem oh0 {K : PySem.W.Frag} {cl : Nat → OCls} {H : Hp} {ds : List OD} {xs : List V} (h : ([] : List (Option V)) = xs.map some) (q : OhAll K cl H ds xs) : ds = [] := by
  match xs, h with
  | [], _ =>
    match ds, q with
    | [], _ => rfl
    | _ :: _, ⟨_, _, e, _⟩ => cases e

theorem oh1 {K : PySem.W.Frag} {cl : Nat → OCls} {H : Hp} {ds : List OD} {xs : List V} {a0 : Option V} (h : [a0] = xs.map some) (q : OhAll K cl H ds xs) : ∃ d0 v0, ds = [d0] ∧ a0 = some v0 ∧ Oh K cl H d0 v0 := by
  obtain ⟨d0, r0, v0, x0, rfl, rfl, e0, o0, h0, q0⟩ := ohx h q
  have := oh0 h0 q0
  subst this
  exact ⟨d0, v0, rfl, e0, o0⟩
theorem oh5 {K : PySem.W.Frag} {cl : Nat → OCls} {H : Hp} {ds : List OD} {xs : List V} {a0 a1 a2 a3 a4 : Option V} (h : [a0, a1, a2, a3, a4] = xs.map some) (q : OhAll K cl H ds xs) : ∃ d0 d1 d2 d3 d4 v0 v1 v2 v3 v4, ds = [d0, d1, d2, d3, d4] ∧ a0 = some v0 ∧ a1 = some v1 ∧ a2 = some v2 ∧ a3 = some v3 ∧ a4 = some v4 ∧ Oh K cl H d0 v0 ∧ Oh K cl H d1 v1 ∧ Oh K cl H d2 v2 ∧ Oh K cl H d3 v3 ∧ Oh K cl H d4 v4 := by
  obtain ⟨d0, r0, v0, x0, rfl, rfl, e0, o0, h0, q0⟩ := ohx h q
  obtain ⟨d1, r1, v1, x1, rfl, rfl, e1, o1, h1, q1⟩ := ohx h0 q0
  obtain ⟨d2, r2, v2, x2, rfl, rfl, e2, o2, h2, q2⟩ := ohx h1 q1
  obtain ⟨d3, r3, v3, x3, rfl, rfl, e3, o3, h3, q3⟩ := ohx h2 q2
  obtain ⟨d4, r4, v4, x4, rfl, rfl, e4, o4, h4, q4⟩ := ohx h3 q3
  have := oh0 h4 q4
  subst this
  exact ⟨d0, d1, d2, d3, d4, v0, v1, v2, v3, v4, rfl, e0, e1, e2, e3, e4, o0, o1, o2, o3, o4⟩
theorem oh6 {K : PySem.W.Frag} {cl : Nat → OCls} {H : Hp} {ds : List OD} {xs : List V} {a0 a1 a2 a3 a4 a5 : Option V} (h : [a0, a1, a2, a3, a4, a5] = xs.map some) (q : OhAll K cl H ds xs) : ∃ d0 d1 d2 d3 d4 d5 v0 v1 v2 v3 v4 v5, ds = [d0, d1, d2, d3, d4, d5] ∧ a0 = some v0 ∧ a1 = some v1 ∧ a2 = some v2 ∧ a3 = some v3 ∧ a4 = some v4 ∧ a5 = some v5 ∧ Oh K cl H d0 v0 ∧ Oh K cl H d1 v1 ∧ Oh K cl H d2 v2 ∧ Oh K cl H d3 v3 ∧ Oh K cl H d4 v4 ∧ Oh K cl H d5 v5 := by
  obtain ⟨d0, r0, v0, x0, rfl, rfl, e0, o0, h0, q0⟩ := ohx h q
  obtain ⟨d1, r1, v1, x1, rfl, rfl, e1, o1, h1, q1⟩ := ohx h0 q0
  obtain ⟨d2, r2, v2, x2, rfl, rfl, e2, o2, h2, q2⟩ := ohx h1 q1
  obtain ⟨d3, r3, v3, x3, rfl, rfl, e3, o3, h3, q3⟩ := ohx h2 q2
  obtain ⟨d4, r4, v4, x4, rfl, rfl, e4, o4, h4, q4⟩ := ohx h3 q3
  obtain ⟨d5, r5, v5, x5, rfl, rfl, e5, o5, h5, q5⟩ := ohx h4 q4
  have := oh0 h5 q5
  subst this
  exact ⟨d0, d1, d2, d3, d4, d5, v0, v1, v2, v3, v4, v5, rfl, e0, e1, e2, e3, e4, e5, o0, o1, o2, o3, o4, o5⟩
/-- what the text has of these classes -/
structure Txt (K : PySem.W.Frag) (mg : Str → Option Value) (C f : Nat → Addr) : Prop where
  W : OwnCls K (clk C f) (S2 (clk C f))
  KT : Kits K (clk C f) 3
  cls : ∀ k, k < 3 → Cls K (C k)
  no : ∀ k, k < 3 → ∀ x ∈ nm k, NoAttr K (C k) x
  isi : mg "isinstance" = none
theorem own_up {K : PySem.W.Frag} {cl : Nat → OCls} {S S' : Nat → List OD → Prop} (W : OwnCls K cl S) (h : ∀ k ds, S' k ds → S k ds) : OwnCls K cl S' := by
  have up : ∀ k, Dm S' k → Dm S k := fun k ⟨ds, z⟩ => ⟨ds, h k ds z⟩
  exact ⟨fun k h => W.eqf k (up k h), fun k h => W.isf k (up k h), fun k l h h' => W.inj k l (up k h) (up l h'), fun k l h h' => W.sub k l (up k h) (up l h'), fun k h => W.sT k (up k h)⟩
abbrev GivesAll (P : Program) (w : World) (K : PySem.W.Frag) (mg : Str → Option Value) (base : Heap) (cl : Nat → OCls) (S : Nat → List OD → Prop) : Prop := ∀ X : Cx, X.prog = P → X.w = w → X.K = K → X.mg = mg → X.base = base → OwnGives X cl S
theorem givesN {P : Program} {w : World} {K : PySem.W.Frag} {mg : Str → Option Value} {base : Heap} {cl : Nat → OCls} : GivesAll P w K mg base cl Sn := fun X _ _ _ _ _ k ds h => h.elim
section
variable {P : Program} {w : World} {K : PySem.W.Frag} {mg : Str → Option Value} {base : Heap} {C fe : Nat → Addr}
end
end Kx
set_option linter.all false
namespace Kx
open PySem L2 PySem.Spec PyProof.Rows
open StX (pe_makeR tMakeR)
/-! conditions as data; a Cond made -/
abbrev litO (l : Lit) : OD := .tup [.fl (.str l.1), .fl (.str l.2.1), .fl (.int l.2.2)]
abbrev clO (c : List Lit) : OD := .tup (c.map litO)
abbrev strsO (l : List Str) : OD := .tup (l.map fun t => .fl (.str t))
abbrev cO (cs : List (List Lit)) (ys : List Str) : OD := .obj 0 [.tup (cs.map clO), strsO ys]
section
variable {K : PySem.W.Frag} {cl : Nat → OCls} {H : Hp}
theorem lit_od {x : V} {l : Lit} (h : IsLit K H x l) : Oh K cl H (litO l) x := by
  obtain ⟨a, rfl, q⟩ := h
  exact oh_tup q (oh_cons (oh_str _) (oh_cons (oh_str _) (oh_cons (oh_int _) oh_nil)))
theorem lits_od : ∀ {xs : List V} {c : List Lit}, Paired (IsLit K H) xs c → OhAll K cl H (c.map litO) xs
  | _, _, .nil => rfl
  | _, _, .cons h q => oh_cons (lit_od h) (lits_od q)
theorem cl_od {x : V} {c : List Lit} (h : IsC K H x c) : Oh K cl H (clO c) x := by
  obtain ⟨a, ys, rfl, q⟩ := h
  exact oh_tup q.sq (lits_od q.p)
theorem cls_od : ∀ {xs : List V} {cs : List (List Lit)}, Paired (IsC K H) xs cs → OhAll K cl H (cs.map clO) xs
  | _, _, .nil => rfl
  | _, _, .cons h q => oh_cons (cl_od h) (cls_od q)
theorem ok_lits {S : Nat → List OD → Prop} : ∀ (c : List Lit), okAll S (c.map litO) ∧ noLs (c.map litO) ∧ needAll cl (c.map litO) ≤ 1
  | [] => ⟨trivial, trivial, Nat.zero_le _⟩
  | l :: c => let ⟨a, b, d⟩ := ok_lits c; ⟨⟨⟨trivial, trivial, trivial, trivial⟩, a⟩, ⟨⟨trivial, trivial, trivial, trivial⟩, b⟩, Nat.max_le.mpr ⟨by show max 0 (max 0 (max 0 0)) + 1 ≤ 1; decide, d⟩⟩
theorem ok_cls {S : Nat → List OD → Prop} : ∀ (cs : List (List Lit)), okAll S (cs.map clO) ∧ noLs (cs.map clO) ∧ needAll cl (cs.map clO) ≤ 2
  | [] => ⟨trivial, trivial, Nat.zero_le _⟩
  | c :: cs => let ⟨a, b, d⟩ := ok_cls cs; let ⟨e, f, g⟩ := ok_lits (cl := cl) (S := S) c; ⟨⟨e, a⟩, ⟨f, b⟩, Nat.max_le.mpr ⟨Nat.succ_le_succ g, d⟩⟩
theorem ok_strs {S : Nat → List OD → Prop} : ∀ (l : List Str), okAll S (l.map fun t => .fl (.str t)) ∧ noLs (l.map fun t => .fl (.str t)) ∧ needAll cl (l.map fun t => .fl (.str t)) ≤ 0
  | [] => ⟨trivial, trivial, Nat.le_refl _⟩
  | l :: c => let ⟨a, b, d⟩ := ok_strs c; ⟨⟨trivial, a⟩, ⟨trivial, b⟩, Nat.max_le.mpr ⟨Nat.le_refl _, d⟩⟩
theorem strs_od : ∀ {l : List Str}, OhAll K cl H (l.map fun t => .fl (.str t)) (l.map V.str)
  | [] => rfl
  | t :: _ => oh_cons (oh_str t) strs_od
theorem od_strs : ∀ {l : List Str} {xs : List V}, OhAll K cl H (l.map fun t => .fl (.str t)) xs → xs = l.map V.str
  | [], _, h => h
  | t :: l, _, ⟨v, ys, e, ⟨h, _⟩, q⟩ => by rw [e, h, od_strs q] <;> rfl
theorem ok_cO (cs : List (List Lit)) (ys : List Str) : okO (S0 cl) (cO cs ys) ∧ noL (cO cs ys) := by
  obtain ⟨a, b, d⟩ := ok_cls (cl := cl) (S := Sn) cs
  obtain ⟨a', b', d'⟩ := ok_cls (cl := cl) (S := S0 cl) cs
  obtain ⟨e, f, g⟩ := ok_strs (cl := cl) (S := Sn) ys
  obtain ⟨e', f', g'⟩ := ok_strs (cl := cl) (S := S0 cl) ys
  refine ⟨⟨⟨rfl, rfl, fun x hx => ?_⟩, a', e', trivial⟩, b, f, trivial⟩
  simp only [List.mem_cons, List.not_mem_nil, or_false] at hx
  rcases hx with rfl | rfl
  · exact ⟨a, b, Nat.succ_le_succ d⟩
  · exact ⟨e, f, Nat.le_trans (Nat.succ_le_succ g) (by decide)⟩
end
theorem need_cO {C f : Nat → Addr} (cs : List (List Lit)) (ys : List Str) : need (clk C f) (cO cs ys) ≤ 4 := Nat.le_refl _
theorem cond_od {K : PySem.W.Frag} {C f : Nat → Addr} {H : Hp} {r dz p q : Addr} {cs : List (List Lit)} {ys : List Str} (h : CondF K H r (C 0) dz p q cs ys) : Oh K (clk C f) H (cO cs ys) (.ref r) := by
  obtain ⟨xs, hc⟩ := h.cl
  exact ⟨r, dz, _, [.ref p, .ref q], rfl, h.ins, rfl, oh_cons (oh_tup hc.sq (cls_od hc.p)) (oh_cons (oh_tup h.tm strs_od) oh_nil)⟩
theorem cond0_od {K : PySem.W.Frag} {C f : Nat → Addr} {H : Hp} {r dz p q : Addr} {ys : List Str} (h : CondF K H r (C 0) dz p q [] ys) : Oh K (clk C f) H (cO [] []) (.ref r) := by
  have e : ys = [] := by
    cases ys with
    | nil => rfl
    | cons y ys => exact absurd ((h.mem y).mp List.mem_cons_self) (by simp [termsOf])
  subst e
  exact cond_od h
/-- None gives way to Cond() -/
def fill : OD → OD
  | .fl .non => cO [] []
  | d => d
theorem oh_nn {K : PySem.W.Frag} {cl : Nat → OCls} {H : Hp} {d : OD} {v : V} (h : Oh K cl H d v) : (v = .non ∧ d = .fl .non) ∨ (v ≠ .non ∧ fill d = d) := by
  cases d with
  | fl w =>
    obtain ⟨rfl, _⟩ := h
    by_cases z : v = .non
    · subst z; exact .inl ⟨rfl, rfl⟩
    · refine .inr ⟨z, ?_⟩
      cases v with
      | non => exact absurd rfl z
      | _ => rfl
  | tup ds => obtain ⟨_, _, rfl, _⟩ := h; exact .inr ⟨nofun, rfl⟩
  | lst ds => obtain ⟨_, _, rfl, _⟩ := h; exact .inr ⟨nofun, rfl⟩
  | obj k ds => obtain ⟨_, _, _, _, rfl, _⟩ := h; exact .inr ⟨nofun, rfl⟩
/-- what holds of a part and of Cond() holds of the part filled -/
theorem fill_p {P : OD → Prop} {d : OD} (h : P d) (h0 : P (cO [] [])) : P (fill d) := by
  unfold fill
  split
  · exact h0
  · exact h
mutual
theorem Oh.keepC {K : PySem.W.Frag} {cl : Nat → OCls} {S : Nat → List OD → Prop} {H H' : Hp} {a C dx : Addr} {fs : List (Str × V)} (hk : ∀ k ds, S k ds → (cl k).C ≠ C) (hp : H a = some (.ins C dx fs)) (kb : KeepB a H H') : ∀ (d : OD) (v : V), okO S d → Oh K cl H d v → Oh K cl H' d v
  | .fl _, _, _, h => h
  | .tup ds, _, o, ⟨b, xs, e, h, q⟩ => ⟨b, xs, e, by
      rcases h with (h | ⟨z, h⟩) | h
      · exact .inl (.inl (kb _ _ (fun z => by rw [z, hp] at h; cases h) h))
      · exact .inl (.inr ⟨z, kb _ _ (fun z => by rw [z, hp] at h; cases h) h⟩)
      · exact .inr h, OhAll.keepC hk hp kb ds xs o q⟩
  | .lst ds, _, o, ⟨b, xs, e, h, q⟩ => ⟨b, xs, e, kb _ _ (fun z => by rw [z, hp] at h; cases h) h, OhAll.keepC hk hp kb ds xs o q⟩
  | .obj k ds, _, o, ⟨b, dx', fs', xs, e, h, l, q⟩ => ⟨b, dx', fs', xs, e, kb _ _ (fun z => by
      rw [z, hp] at h
      injection h with h
      injection h with h _ _
      exact hk k ds o.1 h.symm) h, l, OhAll.keepC hk hp kb ds xs o.2 q⟩
theorem OhAll.keepC {K : PySem.W.Frag} {cl : Nat → OCls} {S : Nat → List OD → Prop} {H H' : Hp} {a C dx : Addr} {fs : List (Str × V)} (hk : ∀ k ds, S k ds → (cl k).C ≠ C) (hp : H a = some (.ins C dx fs)) (kb : KeepB a H H') : ∀ (ds : List OD) (xs : List V), okAll S ds → OhAll K cl H ds xs → OhAll K cl H' ds xs
  | [], _, _, h => h
  | d :: ds, _, o, ⟨v, ys, e, h, q⟩ => ⟨v, ys, e, Oh.keepC hk hp kb d v o.1 h, OhAll.keepC hk hp kb ds ys o.2 q⟩
end
abbrev NoF : XK → Hp → Int → Prop := fun _ _ _ => False
theorem init_ok {K : PySem.W.Frag} {H H1 : Hp} {C : Addr} {vs : List V} {cs : List (List Lit)} {Q : VK} {E : XK} (s1 : Same H H1) (hp : Paired (IsC K H1) vs cs) (hsh : shortC cs) (hl : cs.length ≤ 1000) (hw : firstWrong cs = none)
    (k : ∀ r dz p q ys H', CondF K H' r C dz p q cs ys → Same H H' → H r = none → Q (.ref r) H') : ∀ x dx, H1 x = none → H1 dx = none → dx ≠ x →
      spInit K C NoF (V.ref x :: vs) (upd (upd H1 dx (.own x)) x (.ins C dx [])) (fun v H2 => v = .non ∧ Q (.ref x) H2) E := by
  intro r dz hr0 hdz hne
  have hml : vs.length = cs.length := Paired.length hp
  refine ⟨[.ref r], vs, rfl, rfl, Nat.le_of_lt (small1000 (by omega)), fun p2 hp2 => ?_⟩
  have s5 : Same H1 (upd (upd H1 dz (.own r)) r (.ins C dz [])) := same_upd hr0 (new_same hdz)
  have s6 : Same H1 (upd (upd (upd H1 dz (.own r)) r (.ins C dz [])) p2 (.tup vs)) := fun b u z => new_same hp2 _ _ (s5 _ _ z)
  have hrp : r ≠ p2 := fun z => by
    rw [← z, upd_same] at hp2
    cases hp2
  refine ⟨r, dz, p2, vs, cs, rfl, (by rw [upd_ne hrp]; exact upd_same), ⟨SqT.of upd_same, pairedC_same s6 hp, hl⟩, hsh, fun _ H' q2 zs hF hk => ⟨rfl, ?_⟩, fun i z => ?_⟩
  · refine k r dz p2 q2 zs H' hF (fun b u z => hk b u (fun e => ?_) (s6 _ _ (s1 _ _ z))) (Same.free s1 hr0)
    rw [e, Same.free s1 hr0] at z
    cases z
  · rw [hw] at z
    cases z
theorem makeZ_go {K : PySem.W.Frag} {H : Hp} {C : Addr} {Q : VK} {E : XK} {σ : L2.St}
    (k : ∀ r dz p q ys H', CondF K H' r C dz p q [] ys → Same H H' → H r = none → Q (.ref r) H') : tMakeR C (spInit K C NoF) E tNil σ H Q :=
  init_ok (fun _ _ z => z) .nil (fun _ z => nomatch z) (by decide) rfl k
theorem isC_new {K : PySem.W.Frag} {H : Hp} {t u : Addr} {a b : Str} {n : Int} (ht : H t = none) (hu : (upd H t (.tup [.str a, .str b, .int n])) u = none) :
    IsC K (upd (upd H t (.tup [.str a, .str b, .int n])) u (.tup [.ref t])) (.ref u) [(a, b, n)] ∧ Same H (upd (upd H t (.tup [.str a, .str b, .int n])) u (.tup [.ref t])) :=
  ⟨⟨u, [.ref t], rfl, SqT.of upd_same, .cons ⟨t, rfl, SqT.same (new_same hu) (SqT.of upd_same)⟩ .nil, by show 1 ≤ 1; decide, by show 1 ≤ 1000; decide⟩, fun b o z => new_same hu _ _ (new_same ht _ _ z)⟩
theorem shE : Short "" := ⟨by decide +kernel, by decide +kernel, by decide +kernel⟩
theorem shX : Short "x" := ⟨by decide +kernel, by decide +kernel, by decide +kernel⟩
structure CondMk (K : PySem.W.Frag) (mg : Str → Option Value) (C fI : Addr) (fdI : FuncData) : Prop where
  D : Cnd K mg C
  I : Fun K "__init__" "Cond.__init__" sInit fI fdI
  M : Mk K C fI
/-! more about data -/
theorem noLs_of : ∀ {ds : List OD}, (∀ d ∈ ds, noL d) → noLs ds
  | [], _ => trivial
  | d :: ds, h => ⟨h d List.mem_cons_self, noLs_of fun e he => h e (List.mem_cons_of_mem _ he)⟩
section
variable {K : PySem.W.Frag} {cl : Nat → OCls} {H1 : Hp} {xs : List V} {ds : List OD} {Q : VK}
/-- a new tuple -/
theorem tup_new {p : Addr} (hp : H1 p = none) (hx : OhAll K cl H1 ds xs) : Oh K cl (upd H1 p (.tup xs)) (.tup ds) (.ref p) ∧ Same H1 (upd H1 p (.tup xs)) := ⟨oh_tup (SqT.of upd_same) (OhAll.ext (ext_of (new_same hp)) ds xs hx), new_same hp⟩
/-- a draw -/
theorem od_pick {p q : Addr} {n m : Int} {r : Nat} {v : V} {zs : List V} (W : WellAt H1 p n) (hq : H1 q = none) (ha : OhAll K cl H1 ds xs) (nl : noLs ds) (hv : xs[r]? = some v) (W2 : WellAt (upd (upd H1 q (.lst xs)) p (.lst zs)) p m) :
    ∃ H', upd (upd H1 q (.lst xs)) p (.lst zs) = H' ∧ KeepB p H1 H' ∧ WellAt H' p m ∧ ∃ d, d ∈ ds ∧ noL d ∧ Oh K cl H' d v := by
  have k2 : KeepB p H1 (upd (upd H1 q (.lst xs)) p (.lst zs)) := (KeepB.of (new_same hq)).trans KeepB.at
  obtain ⟨d, hd, od⟩ := ohAll_get ds xs r v ha hv
  obtain ⟨ms, hp⟩ := W.lst
  exact ⟨_, rfl, k2, W2, d, List.mem_of_getElem? hd, noLs_get nl hd, Oh.keepB hp k2 d v (noLs_get nl hd) od⟩
theorem same_make {x dx C : Addr} {H H' : Hp} (nx : H x = none) (ndx : H dx = none) (k : KeepB x (upd (upd H dx (.own x)) x (.ins C dx [])) H') : Same H H' := fun b u e => by
  have hb : b ≠ x := fun z => by rw [z, nx] at e; cases e
  have hd : b ≠ dx := fun z => by rw [z, ndx] at e; cases e
  exact k b u hb (by rw [upd_ne hb, upd_ne hd]; exact e)
theorem Oh.sm {H H' : Hp} (s : Same H H') {d : OD} {v : V} (h : Oh K cl H d v) : Oh K cl H' d v := Oh.ext (ext_of s) d v h
theorem OhAll.sm {H H' : Hp} (s : Same H H') {d : List OD} {v : List V} (h : OhAll K cl H d v) : OhAll K cl H' d v := OhAll.ext (ext_of s) d v h
end
mutual
theorem okO_mono {S S' : Nat → List OD → Prop} (h : ∀ k ds, S k ds → S' k ds) : ∀ (d : OD), okO S d → okO S' d
  | .fl _, _ => trivial
  | .tup xs, o => okAll_mono h xs o
  | .lst xs, o => okAll_mono h xs o
  | .obj k xs, o => ⟨h k xs o.1, okAll_mono h xs o.2⟩
theorem okAll_mono {S S' : Nat → List OD → Prop} (h : ∀ k ds, S k ds → S' k ds) : ∀ (ds : List OD), okAll S ds → okAll S' ds
  | [], _ => trivial
  | d :: ds, o => ⟨okO_mono h d o.1, okAll_mono h ds o.2⟩
end
abbrev rMk (K : PySem.W.Frag) (C : Addr) (t : TA) : TE := tMakeR C (spInit K C NoF) E0 t
end Kx
set_option linter.all false
namespace Kx
open PySem L2 PySem.Spec PyProof.Rows
open StX (pe_makeR tMakeR)
/-! Method and ClassDef made -/
abbrev sInM : Stmt := inClass (top 33) 0
abbrev sInC : Stmt := inClass (top 34) 0
abbrev pM : List Str := ["self", "name", "params", "result", "pre", "post", "body"]
abbrev pC : List Str := ["self", "name", "bases", "fields", "where", "methods"]
abbrev FunM (K : PySem.W.Frag) (f : Addr) (fd : FuncData) : Prop := FunD K "__init__" "Method.__init__" (defArgs sInM) (defBody sInM) (defScope sInM) [] [("pre", .non), ("post", .non)] f fd
abbrev FunC (K : PySem.W.Frag) (e0 e1 e2 : Addr) (f : Addr) (fd : FuncData) : Prop := FunD K "__init__" "ClassDef.__init__" (defArgs sInC) (defBody sInC) (defScope sInC) [.ref e0] [("fields", .ref e1), ("where", .non), ("methods", .ref e2)] f fd
/-- parts with Cond() in the place of None at some places -/
def fullK (ks : List Nat) (ds : List OD) : List OD := ks.foldl (fun ds k => ds.set k (fill (ds.getD k (.fl .non)))) ds
structure NeC (C : Nat → Addr) : Prop where
  a : C 0 ≠ C 1
  b : C 0 ≠ C 2
  c : C 1 ≠ C 2
theorem hk1 {C f : Nat → Addr} (N : NeC C) : ∀ k ds, S0 (clk C f) k ds → (clk C f k).C ≠ C 1 := fun k ds h => by
  obtain ⟨rfl, _⟩ := h
  exact N.a
theorem hk2 {C f : Nat → Addr} (N : NeC C) : ∀ k ds, S1 (clk C f) k ds → (clk C f k).C ≠ C 2 := fun k ds h => by
  rcases h with ⟨rfl, _⟩ | ⟨rfl, _⟩
  · exact N.b
  · exact N.c
theorem ohl_c {K : PySem.W.Frag} {cl : Nat → OCls} {H : Hp} {ds : List OD} {xs : List V} {n : Nat} (h : ds.length = n + 1) (q : OhAll K cl H ds xs) : ∃ d ds' v xs', ds = d :: ds' ∧ xs = v :: xs' ∧ ds'.length = n ∧ Oh K cl H d v ∧ OhAll K cl H ds' xs' := by
  match ds, h, q with
  | d :: ds, h, ⟨v, ys, e, o, q⟩ => exact ⟨d, ds, v, ys, rfl, e, by simpa using h, o, q⟩
theorem ohl_n {K : PySem.W.Frag} {cl : Nat → OCls} {H : Hp} {ds : List OD} {xs : List V} (h : ds.length = 0) (q : OhAll K cl H ds xs) : ds = [] ∧ xs = [] := by
  match ds, h, q with
  | [], _, q => exact ⟨rfl, q⟩
theorem ohl5 {K : PySem.W.Frag} {cl : Nat → OCls} {H : Hp} {ds : List OD} {xs : List V} (h : ds.length = 5) (q : OhAll K cl H ds xs) : ∃ d0 d1 d2 d3 d4 v0 v1 v2 v3 v4, ds = [d0, d1, d2, d3, d4] ∧ xs = [v0, v1, v2, v3, v4] ∧ Oh K cl H d0 v0 ∧ Oh K cl H d1 v1 ∧ Oh K cl H d2 v2 ∧ Oh K cl H d3 v3 ∧ Oh K cl H d4 v4 := by
  obtain ⟨d0, r0, v0, x0, rfl, rfl, h0, o0, q0⟩ := ohl_c (n := 4) h q
  obtain ⟨d1, r1, v1, x1, rfl, rfl, h1, o1, q1⟩ := ohl_c (n := 3) h0 q0
  obtain ⟨d2, r2, v2, x2, rfl, rfl, h2, o2, q2⟩ := ohl_c (n := 2) h1 q1
  obtain ⟨d3, r3, v3, x3, rfl, rfl, h3, o3, q3⟩ := ohl_c (n := 1) h2 q2
  obtain ⟨d4, r4, v4, x4, rfl, rfl, h4, o4, q4⟩ := ohl_c (n := 0) h3 q3
  obtain ⟨rfl, rfl⟩ := ohl_n h4 q4
  exact ⟨d0, d1, d2, d3, d4, v0, v1, v2, v3, v4, rfl, rfl, o0, o1, o2, o3, o4⟩
theorem ohl6 {K : PySem.W.Frag} {cl : Nat → OCls} {H : Hp} {ds : List OD} {xs : List V} (h : ds.length = 6) (q : OhAll K cl H ds xs) : ∃ d0 d1 d2 d3 d4 d5 v0 v1 v2 v3 v4 v5, ds = [d0, d1, d2, d3, d4, d5] ∧ xs = [v0, v1, v2, v3, v4, v5] ∧ Oh K cl H d0 v0 ∧ Oh K cl H d1 v1 ∧ Oh K cl H d2 v2 ∧ Oh K cl H d3 v3 ∧ Oh K cl H d4 v4 ∧ Oh K cl H d5 v5 := by
  obtain ⟨d0, r0, v0, x0, rfl, rfl, h0, o0, q0⟩ := ohl_c (n := 5) h q
  obtain ⟨d1, r1, v1, x1, rfl, rfl, h1, o1, q1⟩ := ohl_c (n := 4) h0 q0
  obtain ⟨d2, r2, v2, x2, rfl, rfl, h2, o2, q2⟩ := ohl_c (n := 3) h1 q1
  obtain ⟨d3, r3, v3, x3, rfl, rfl, h3, o3, q3⟩ := ohl_c (n := 2) h2 q2
  obtain ⟨d4, r4, v4, x4, rfl, rfl, h4, o4, q4⟩ := ohl_c (n := 1) h3 q3
  obtain ⟨d5, r5, v5, x5, rfl, rfl, h5, o5, q5⟩ := ohl_c (n := 0) h4 q4
  obtain ⟨rfl, rfl⟩ := ohl_n h5 q5
  exact ⟨d0, d1, d2, d3, d4, d5, v0, v1, v2, v3, v4, v5, rfl, rfl, o0, o1, o2, o3, o4, o5⟩
def spIn (K : PySem.W.Frag) (cl : Nat → OCls) (k n m : Nat) (S : Nat → List OD → Prop) (ks : List Nat) : Sp := fun vs H Q _ => ∃ (a dx : Addr) (ds : List OD) (xs : List V), vs = .ref a :: xs ∧ H a = some (.ins (cl k).C dx []) ∧ OhAll K cl H ds xs ∧ Shp cl S n m ds ∧ ∀ H', KeepB a H H' → Oh K cl H' (.obj k (fullK ks ds)) (.ref a) → Q .non H'
theorem fill_go {K : PySem.W.Frag} {C f : Nat → Addr} {H : Hp} {σ : L2.St} {Q : VK} {i : Nat} {d : OD} {v : V} (hσ : σ[i]? = some (some v)) (o : Oh K (clk C f) H d v) (k : ∀ u H', Oh K (clk C f) H' (fill d) u → Same H H' → Q u H') :
    if decide (v = .non) = true then rMk K (C 0) tNil σ H Q else tVar i σ H Q := by
  rcases oh_nn o with ⟨rfl, rfl⟩ | ⟨hv, e⟩
  · rw [decide_eq_true rfl]
    refine iteT (makeZ_go (K := K) (C := C 0) (E := E0) (σ := σ) (Q := Q) fun r dz p q ys H' hF s _ => ?_)
    exact k _ _ (cond0_od hF) s
  · rw [decide_eq_false hv]
    refine iteF ⟨v, hσ, k v H ?_ fun _ _ z => z⟩
    rw [e]
    exact o
section
variable {P : Program} {w : World} {K : PySem.W.Frag} {mg : PySem.Str → Option Value} {base : Heap} {C fe : Nat → Addr} {fI e0 e1 e2 : Addr} {fdI : FuncData}
theorem scInM : FnScope pM pM (defScope sInM) := ⟨rfl, rfl, rfl, by decide +kernel, rfl, by decide +kernel, by decide +kernel⟩
theorem ok_inM {f : Addr} {fd : FuncData} (F : FunM K f fd) (T : Txt K mg C fe) (N : NeC C) (M : CondMk K mg (C 0) fI fdI) : FnOk P w K mg base CX0 8 f fd pM (spIn K (clk C fe) 1 4 6 (S0 (clk C fe)) [3, 4]) := by
  have GI : FnR P w K mg base CX0 6 fI (spInit K (C 0) NoF) := fnR_init0 M.I M.D
  refine F.ok scInM (fun vs H Q E h => ?_) (fun cdv A outer s H vs Q E hr h => ?_)
  · obtain ⟨a, dx, ds, xs, rfl, _, hx, hl, _⟩ := h
    show xs.length + 1 = 7
    rw [← OhAll.length ds xs hx, hl.1] <;> rfl
  · obtain ⟨a, dx, ds, xs, rfl, ha, hx, hl, q⟩ := h
    obtain ⟨d0, d1, d2, d3, d4, d5, v0, v1, v2, v3, v4, v5, rfl, rfl, o0, o1, o2, o3, o4, o5⟩ := ohl6 hl.1 hx
    have c0 := T.cls 1 (by decide)
    have n0 := T.no 1 (by decide)
    refine ⟨_, pss_cons (ps_fld (pv 0) (pv 1) (by rfl)) (pss_cons (ps_fld (pv 0) (pv 2) (by rfl)) (pss_cons (ps_fld (pv 0) (pv 3) (by rfl)) (pss_cons (ps_fld (pv 0) (pe_ifExp (pt_cmpR op_isN (pv 4) pe_non (nomark _)) (pe_makeZ (k := 6) (E := E0) M.M GI hr (by rfl) M.D.gC pass0) (pv 4)) (by rfl)) (pss_cons (ps_fld (pv 0) (pe_ifExp (pt_cmpR op_isN (pv 5) pe_non (nomark _)) (pe_makeZ (k := 6) (E := E0) M.M GI hr (by rfl) M.D.gC pass0) (pv 5)) (by rfl)) (pss_one (ps_fld (pv 0) (pv 6) (by rfl))))))), ?_⟩
    refine ⟨_, rfl, _, rfl, a, C 1, dx, [], rfl, ha, c0, n0 _ (by decide), (by show 0 < 1000; decide), ?_⟩
    have k0 : KeepB a H (upd H a (.ins (C 1) dx (putF "name" v0 []))) := KeepB.at
    have i0 : (upd H a (.ins (C 1) dx (putF "name" v0 []))) a = some (.ins (C 1) dx (putF "name" v0 [])) := upd_same
    obtain ⟨J0, eJ0⟩ : ∃ J, upd H a (.ins (C 1) dx (putF "name" v0 [])) = J := ⟨_, rfl⟩
    rw [eJ0] at k0 i0 ⊢
    refine ⟨_, rfl, _, rfl, a, C 1, dx, (putF "name" v0 []), rfl, i0, c0, n0 _ (by decide), (by show 1 < 1000; decide), ?_⟩
    have k1 : KeepB a J0 (upd J0 a (.ins (C 1) dx (putF "params" v1 (putF "name" v0 [])))) := KeepB.at
    have i1 : (upd J0 a (.ins (C 1) dx (putF "params" v1 (putF "name" v0 [])))) a = some (.ins (C 1) dx (putF "params" v1 (putF "name" v0 []))) := upd_same
    obtain ⟨J1, eJ1⟩ : ∃ J, upd J0 a (.ins (C 1) dx (putF "params" v1 (putF "name" v0 []))) = J := ⟨_, rfl⟩
    rw [eJ1] at k1 i1 ⊢
    refine ⟨_, rfl, _, rfl, a, C 1, dx, (putF "params" v1 (putF "name" v0 [])), rfl, i1, c0, n0 _ (by decide), (by show 2 < 1000; decide), ?_⟩
    have k2 : KeepB a J1 (upd J1 a (.ins (C 1) dx (putF "result" v2 (putF "params" v1 (putF "name" v0 []))))) := KeepB.at
    have i2 : (upd J1 a (.ins (C 1) dx (putF "result" v2 (putF "params" v1 (putF "name" v0 []))))) a = some (.ins (C 1) dx (putF "result" v2 (putF "params" v1 (putF "name" v0 [])))) := upd_same
    obtain ⟨J2, eJ2⟩ : ∃ J, upd J1 a (.ins (C 1) dx (putF "result" v2 (putF "params" v1 (putF "name" v0 [])))) = J := ⟨_, rfl⟩
    rw [eJ2] at k2 i2 ⊢
    refine ⟨_, rfl, rfl, _, rfl, fill_go (f := fe) (by rfl) (Oh.keepC (hk1 N) ha ((k0.trans k1).trans k2) _ _ (hl.2 d3 (by simp)).1 o3) fun u3 G3 w3 s3 => ?_⟩
    have j3 := s3 _ _ i2
    refine ⟨_, rfl, a, C 1, dx, (putF "result" v2 (putF "params" v1 (putF "name" v0 []))), rfl, j3, c0, n0 _ (by decide), (by show 3 < 1000; decide), ?_⟩
    have k3 : KeepB a G3 (upd G3 a (.ins (C 1) dx (putF "pre" u3 (putF "result" v2 (putF "params" v1 (putF "name" v0 [])))))) := KeepB.at
    have i3 : (upd G3 a (.ins (C 1) dx (putF "pre" u3 (putF "result" v2 (putF "params" v1 (putF "name" v0 [])))))) a = some (.ins (C 1) dx (putF "pre" u3 (putF "result" v2 (putF "params" v1 (putF "name" v0 []))))) := upd_same
    obtain ⟨J3, eJ3⟩ : ∃ J, upd G3 a (.ins (C 1) dx (putF "pre" u3 (putF "result" v2 (putF "params" v1 (putF "name" v0 []))))) = J := ⟨_, rfl⟩
    rw [eJ3] at k3 i3 ⊢
    refine ⟨_, rfl, rfl, _, rfl, fill_go (f := fe) (by rfl) (Oh.keepC (hk1 N) ha ((((k0.trans k1).trans k2).trans (KeepB.of s3)).trans k3) _ _ (hl.2 d4 (by simp)).1 o4) fun u4 G4 w4 s4 => ?_⟩
    have j4 := s4 _ _ i3
    refine ⟨_, rfl, a, C 1, dx, (putF "pre" u3 (putF "result" v2 (putF "params" v1 (putF "name" v0 [])))), rfl, j4, c0, n0 _ (by decide), (by show 4 < 1000; decide), ?_⟩
    have k4 : KeepB a G4 (upd G4 a (.ins (C 1) dx (putF "post" u4 (putF "pre" u3 (putF "result" v2 (putF "params" v1 (putF "name" v0 []))))))) := KeepB.at
    have i4 : (upd G4 a (.ins (C 1) dx (putF "post" u4 (putF "pre" u3 (putF "result" v2 (putF "params" v1 (putF "name" v0 []))))))) a = some (.ins (C 1) dx (putF "post" u4 (putF "pre" u3 (putF "result" v2 (putF "params" v1 (putF "name" v0 [])))))) := upd_same
    obtain ⟨J4, eJ4⟩ : ∃ J, upd G4 a (.ins (C 1) dx (putF "post" u4 (putF "pre" u3 (putF "result" v2 (putF "params" v1 (putF "name" v0 [])))))) = J := ⟨_, rfl⟩
    rw [eJ4] at k4 i4 ⊢
    refine ⟨_, rfl, _, rfl, a, C 1, dx, (putF "post" u4 (putF "pre" u3 (putF "result" v2 (putF "params" v1 (putF "name" v0 []))))), rfl, i4, c0, n0 _ (by decide), (by show 5 < 1000; decide), ?_⟩
    have k5 : KeepB a J4 (upd J4 a (.ins (C 1) dx (putF "body" v5 (putF "post" u4 (putF "pre" u3 (putF "result" v2 (putF "params" v1 (putF "name" v0 [])))))))) := KeepB.at
    have i5 : (upd J4 a (.ins (C 1) dx (putF "body" v5 (putF "post" u4 (putF "pre" u3 (putF "result" v2 (putF "params" v1 (putF "name" v0 [])))))))) a = some (.ins (C 1) dx (putF "body" v5 (putF "post" u4 (putF "pre" u3 (putF "result" v2 (putF "params" v1 (putF "name" v0 []))))))) := upd_same
    obtain ⟨J5, eJ5⟩ : ∃ J, upd J4 a (.ins (C 1) dx (putF "body" v5 (putF "post" u4 (putF "pre" u3 (putF "result" v2 (putF "params" v1 (putF "name" v0 []))))))) = J := ⟨_, rfl⟩
    rw [eJ5] at k5 i5 ⊢
    exact q _ (((((((k0.trans k1).trans k2).trans (KeepB.of s3)).trans k3).trans (KeepB.of s4)).trans k4).trans k5) ⟨a, dx, (putF "body" v5 (putF "post" u4 (putF "pre" u3 (putF "result" v2 (putF "params" v1 (putF "name" v0 [])))))), [v0, v1, v2, u3, u4, v5], rfl, i5, rfl, (oh_cons (Oh.keepC (hk1 N) ha (((((((k0.trans k1).trans k2).trans (KeepB.of s3)).trans k3).trans (KeepB.of s4)).trans k4).trans k5) _ _ (hl.2 d0 (by simp)).1 o0) (oh_cons (Oh.keepC (hk1 N) ha (((((((k0.trans k1).trans k2).trans (KeepB.of s3)).trans k3).trans (KeepB.of s4)).trans k4).trans k5) _ _ (hl.2 d1 (by simp)).1 o1) (oh_cons (Oh.keepC (hk1 N) ha (((((((k0.trans k1).trans k2).trans (KeepB.of s3)).trans k3).trans (KeepB.of s4)).trans k4).trans k5) _ _ (hl.2 d2 (by simp)).1 o2) (oh_cons (Oh.keepC (hk1 N) j3 (((k3.trans (KeepB.of s4)).trans k4).trans k5) _ _ (fill_p (P := fun x => okO (S0 (clk C fe)) x) (hl.2 d3 (by simp)).1 (ok_cO (cl := clk C fe) [] []).1) w3) (oh_cons (Oh.keepC (hk1 N) j4 (k4.trans k5) _ _ (fill_p (P := fun x => okO (S0 (clk C fe)) x) (hl.2 d4 (by simp)).1 (ok_cO (cl := clk C fe) [] []).1) w4) (oh_cons (Oh.keepC (hk1 N) ha (((((((k0.trans k1).trans k2).trans (KeepB.of s3)).trans k3).trans (KeepB.of s4)).trans k4).trans k5) _ _ (hl.2 d5 (by simp)).1 o5) oh_nil))))))⟩
theorem scInC : FnScope pC pC (defScope sInC) := ⟨rfl, rfl, rfl, by decide +kernel, rfl, by decide +kernel, by decide +kernel⟩
theorem ok_inC {f : Addr} {fd : FuncData} (F : FunC K e0 e1 e2 f fd) (T : Txt K mg C fe) (N : NeC C) (M : CondMk K mg (C 0) fI fdI) : FnOk P w K mg base CX0 8 f fd pC (spIn K (clk C fe) 2 6 5 (S1 (clk C fe)) [3]) := by
  have GI : FnR P w K mg base CX0 6 fI (spInit K (C 0) NoF) := fnR_init0 M.I M.D
  refine F.ok scInC (fun vs H Q E h => ?_) (fun cdv A outer s H vs Q E hr h => ?_)
  · obtain ⟨a, dx, ds, xs, rfl, _, hx, hl, _⟩ := h
    show xs.length + 1 = 6
    rw [← OhAll.length ds xs hx, hl.1] <;> rfl
  · obtain ⟨a, dx, ds, xs, rfl, ha, hx, hl, q⟩ := h
    obtain ⟨d0, d1, d2, d3, d4, v0, v1, v2, v3, v4, rfl, rfl, o0, o1, o2, o3, o4⟩ := ohl5 hl.1 hx
    have c0 := T.cls 2 (by decide)
    have n0 := T.no 2 (by decide)
    refine ⟨_, pss_cons (ps_fld (pv 0) (pv 1) (by rfl)) (pss_cons (ps_fld (pv 0) (pv 2) (by rfl)) (pss_cons (ps_fld (pv 0) (pv 3) (by rfl)) (pss_cons (ps_fld (pv 0) (pe_ifExp (pt_cmpR op_isN (pv 4) pe_non (nomark _)) (pe_makeZ (k := 6) (E := E0) M.M GI hr (by rfl) M.D.gC pass0) (pv 4)) (by rfl)) (pss_one (ps_fld (pv 0) (pv 5) (by rfl)))))), ?_⟩
    refine ⟨_, rfl, _, rfl, a, C 2, dx, [], rfl, ha, c0, n0 _ (by decide), (by show 0 < 1000; decide), ?_⟩
    have k0 : KeepB a H (upd H a (.ins (C 2) dx (putF "name" v0 []))) := KeepB.at
    have i0 : (upd H a (.ins (C 2) dx (putF "name" v0 []))) a = some (.ins (C 2) dx (putF "name" v0 [])) := upd_same
    obtain ⟨J0, eJ0⟩ : ∃ J, upd H a (.ins (C 2) dx (putF "name" v0 [])) = J := ⟨_, rfl⟩
    rw [eJ0] at k0 i0 ⊢
    refine ⟨_, rfl, _, rfl, a, C 2, dx, (putF "name" v0 []), rfl, i0, c0, n0 _ (by decide), (by show 1 < 1000; decide), ?_⟩
    have k1 : KeepB a J0 (upd J0 a (.ins (C 2) dx (putF "bases" v1 (putF "name" v0 [])))) := KeepB.at
    have i1 : (upd J0 a (.ins (C 2) dx (putF "bases" v1 (putF "name" v0 [])))) a = some (.ins (C 2) dx (putF "bases" v1 (putF "name" v0 []))) := upd_same
    obtain ⟨J1, eJ1⟩ : ∃ J, upd J0 a (.ins (C 2) dx (putF "bases" v1 (putF "name" v0 []))) = J := ⟨_, rfl⟩
    rw [eJ1] at k1 i1 ⊢
    refine ⟨_, rfl, _, rfl, a, C 2, dx, (putF "bases" v1 (putF "name" v0 [])), rfl, i1, c0, n0 _ (by decide), (by show 2 < 1000; decide), ?_⟩
    have k2 : KeepB a J1 (upd J1 a (.ins (C 2) dx (putF "fields" v2 (putF "bases" v1 (putF "name" v0 []))))) := KeepB.at
    have i2 : (upd J1 a (.ins (C 2) dx (putF "fields" v2 (putF "bases" v1 (putF "name" v0 []))))) a = some (.ins (C 2) dx (putF "fields" v2 (putF "bases" v1 (putF "name" v0 [])))) := upd_same
    obtain ⟨J2, eJ2⟩ : ∃ J, upd J1 a (.ins (C 2) dx (putF "fields" v2 (putF "bases" v1 (putF "name" v0 [])))) = J := ⟨_, rfl⟩
    rw [eJ2] at k2 i2 ⊢
    refine ⟨_, rfl, rfl, _, rfl, fill_go (f := fe) (by rfl) (Oh.keepC (hk2 N) ha ((k0.trans k1).trans k2) _ _ (hl.2 d3 (by simp)).1 o3) fun u3 G3 w3 s3 => ?_⟩
    have j3 := s3 _ _ i2
    refine ⟨_, rfl, a, C 2, dx, (putF "fields" v2 (putF "bases" v1 (putF "name" v0 []))), rfl, j3, c0, n0 _ (by decide), (by show 3 < 1000; decide), ?_⟩
    have k3 : KeepB a G3 (upd G3 a (.ins (C 2) dx (putF "where" u3 (putF "fields" v2 (putF "bases" v1 (putF "name" v0 [])))))) := KeepB.at
    have i3 : (upd G3 a (.ins (C 2) dx (putF "where" u3 (putF "fields" v2 (putF "bases" v1 (putF "name" v0 [])))))) a = some (.ins (C 2) dx (putF "where" u3 (putF "fields" v2 (putF "bases" v1 (putF "name" v0 []))))) := upd_same
    obtain ⟨J3, eJ3⟩ : ∃ J, upd G3 a (.ins (C 2) dx (putF "where" u3 (putF "fields" v2 (putF "bases" v1 (putF "name" v0 []))))) = J := ⟨_, rfl⟩
    rw [eJ3] at k3 i3 ⊢
    refine ⟨_, rfl, _, rfl, a, C 2, dx, (putF "where" u3 (putF "fields" v2 (putF "bases" v1 (putF "name" v0 [])))), rfl, i3, c0, n0 _ (by decide), (by show 4 < 1000; decide), ?_⟩
    have k4 : KeepB a J3 (upd J3 a (.ins (C 2) dx (putF "methods" v4 (putF "where" u3 (putF "fields" v2 (putF "bases" v1 (putF "name" v0 []))))))) := KeepB.at
    have i4 : (upd J3 a (.ins (C 2) dx (putF "methods" v4 (putF "where" u3 (putF "fields" v2 (putF "bases" v1 (putF "name" v0 []))))))) a = some (.ins (C 2) dx (putF "methods" v4 (putF "where" u3 (putF "fields" v2 (putF "bases" v1 (putF "name" v0 [])))))) := upd_same
    obtain ⟨J4, eJ4⟩ : ∃ J, upd J3 a (.ins (C 2) dx (putF "methods" v4 (putF "where" u3 (putF "fields" v2 (putF "bases" v1 (putF "name" v0 [])))))) = J := ⟨_, rfl⟩
    rw [eJ4] at k4 i4 ⊢
    exact q _ (((((k0.trans k1).trans k2).trans (KeepB.of s3)).trans k3).trans k4) ⟨a, dx, (putF "methods" v4 (putF "where" u3 (putF "fields" v2 (putF "bases" v1 (putF "name" v0 []))))), [v0, v1, v2, u3, v4], rfl, i4, rfl, (oh_cons (Oh.keepC (hk2 N) ha (((((k0.trans k1).trans k2).trans (KeepB.of s3)).trans k3).trans k4) _ _ (hl.2 d0 (by simp)).1 o0) (oh_cons (Oh.keepC (hk2 N) ha (((((k0.trans k1).trans k2).trans (KeepB.of s3)).trans k3).trans k4) _ _ (hl.2 d1 (by simp)).1 o1) (oh_cons (Oh.keepC (hk2 N) ha (((((k0.trans k1).trans k2).trans (KeepB.of s3)).trans k3).trans k4) _ _ (hl.2 d2 (by simp)).1 o2) (oh_cons (Oh.keepC (hk2 N) j3 (k3.trans k4) _ _ (fill_p (P := fun x => okO (S1 (clk C fe)) x) (hl.2 d3 (by simp)).1 (okO_mono (fun _ _ z => .inl z) _ (ok_cO (cl := clk C fe) [] []).1)) w3) (oh_cons (Oh.keepC (hk2 N) ha (((((k0.trans k1).trans k2).trans (KeepB.of s3)).trans k3).trans k4) _ _ (hl.2 d4 (by simp)).1 o4) oh_nil)))))⟩
end
/-! how calls of them bind -/
theorem kb_m {K : PySem.W.Frag} {f : Addr} {fd : FuncData} (F : FunM K f fd) : ∃ mv : List Value, KBn K fd pM 4 ["pre", "post", "body"] (fun us ws => us ++ ws) (fun vs zs => vs ++ zs) := by
  obtain ⟨mv, h⟩ := FunD.kbinds0 (ps := pM) F 4 ["pre", "post", "body"] [] (fun us _ ws => us ++ ws) (by simp) (fun q hq => nomatch hq) (fun r _ z => r.append z)
    (fun D doc pm an cdv ct us mv ws h1 h2 h3 => match us, mv, ws, h1, h2, h3 with | [_, _, _, _], [], [_, _, _], _, _, _ => rfl)
  exact ⟨mv, h⟩
theorem kb_m1 {K : PySem.W.Frag} {f : Addr} {fd : FuncData} (F : FunM K f fd) : ∃ mv : List Value, KBn K fd pM 4 ["body"] (fun us ws => us ++ (mv ++ ws)) (fun vs zs => vs ++ ([.non, .non] ++ zs)) := by
  obtain ⟨mv, h⟩ := FunD.kbinds0 (ps := pM) F 4 ["body"] [("pre", .non), ("post", .non)] (fun us ms ws => us ++ (ms ++ ws)) (by simp) (fun q hq => hq) (fun r m z => r.append (m.append z))
    (fun D doc pm an cdv ct us mv ws h1 h2 h3 => match us, mv, ws, h1, h2, h3 with | [_, _, _, _], [_, _], [_], _, _, _ => ⟨_, _, _, _, _, _, rfl, rfl, ⟨_, _, _, _, _, _, rfl, rfl, rfl⟩⟩)
  exact ⟨mv, h⟩
theorem kb_c {K : PySem.W.Frag} {f e0 e1 e2 : Addr} {fd : FuncData} (F : FunC K e0 e1 e2 f fd) : KBn K fd pC 3 ["fields", "where", "methods"] (fun us ws => us ++ ws) (fun vs zs => vs ++ zs) := by
  obtain ⟨its, mv, h⟩ := FunD.kbinds (ps := pC) F 3 ["fields", "where", "methods"] [] (fun us _ _ ws => us ++ ws) (by simp) (by simp) (fun q hq => nomatch hq) (fun r _ _ z => r.append z)
    (fun T D doc pm an cdv ct us its mv ws h1 h2 h3 h4 => match us, its, mv, ws, h1, h2, h3, h4 with | [_, _, _], [_], [], [_, _, _], _, _, _, _ => ⟨_, rfl, rfl⟩)
  exact h
theorem kb_c2 {K : PySem.W.Frag} {f e0 e1 e2 : Addr} {fd : FuncData} (F : FunC K e0 e1 e2 f fd) : ∃ mv : List Value, KBn K fd pC 3 ["fields", "methods"] (fun us ws => us ++ (ws.take 1 ++ (mv ++ ws.drop 1))) (fun vs zs => vs ++ (zs.take 1 ++ ([.non] ++ zs.drop 1))) := by
  obtain ⟨its, mv, h⟩ := FunD.kbinds (ps := pC) F 3 ["fields", "methods"] [("where", .non)] (fun us _ ms ws => us ++ (ws.take 1 ++ (ms ++ ws.drop 1))) (by simp) (by simp) (fun q hq => by rw [List.mem_singleton.mp hq]; simp) (fun r _ m z => r.append ((z.take 1).append (m.append (z.drop 1))))
    (fun T D doc pm an cdv ct us its mv ws h1 h2 h3 h4 => match us, its, mv, ws, h1, h2, h3, h4 with | [_, _, _], [_], [_], [_, _], _, _, _, _ => ⟨_, rfl, ⟨_, _, _, _, _, _, rfl, rfl, rfl⟩⟩)
  exact ⟨mv, h⟩
theorem kb_c0 {K : PySem.W.Frag} {f e0 e1 e2 : Addr} {fd : FuncData} (F : FunC K e0 e1 e2 f fd) : ∃ ds, Vals ([V.ref e0, .ref e1, .non, .ref e2]) ds ∧ Binds K fd pC ds :=
  FunD.binds (ps := pC) F 2 0 (by simp) rfl (fun T D doc pm an cdv ct us its ks h1 h2 h3 => match us, its, ks, h1, h2, h3 with | [_, _], [_], [_, _, _], _, _, _ => ⟨_, rfl, ⟨_, _, _, _, _, _, rfl, rfl, ⟨_, _, _, _, _, _, rfl, rfl, ⟨_, _, _, _, _, _, rfl, rfl, rfl⟩⟩⟩⟩) (by simp)
end Kx
set_option linter.all false
namespace Kx
open PySem L2 PySem.Spec PyProof.Rows
/-! x in o, x not in o, o[x] by a class's own def -/
structure OwnIn (K : PySem.W.Frag) (C f : Addr) : Prop where
  inf : PySem.W.findIn K (.ref C) "__contains__" = some (some (.ref f))
  isf : PySem.W.isFn K (.ref f) = true
structure OwnIx (K : PySem.W.Frag) (C f : Addr) : Prop where
  ixf : PySem.W.findIn K (.ref C) "__getitem__" = some (some (.ref f))
  isf : PySem.W.isFn K (.ref f) = true
  fn : PySem.W.fnIn K f = true
def rOwnIn (C : Addr) (sp : Sp) (E : XK) : R2 := fun x y H Q => ∃ (a dx : Addr) (fs : List (Str × V)), y = .ref a ∧ H a = some (.ins C dx fs) ∧ sp [y, x] H (fun v H' => ∃ b, v = .bl b ∧ Q (.bl b) H') E
def rOwnNotIn (C : Addr) (sp : Sp) (E : XK) : R2 := fun x y H Q => ∃ (a dx : Addr) (fs : List (Str × V)), y = .ref a ∧ H a = some (.ins C dx fs) ∧ sp [y, x] H (fun v H' => ∃ b, v = .bl b ∧ Q (.bl (!b)) H') E
def rOwnIx (C : Addr) (sp : Sp) (E : XK) : R2 := fun x y H Q => ∃ (a dx : Addr) (fs : List (Str × V)), x = .ref a ∧ H a = some (.ins C dx fs) ∧ sp [x, y] H Q E
section
variable {X : Cx} {CX : CXT} {k : Nat} {f C : Addr} {fd : FuncData} {ps : List Str} {sp : Sp} {E : XK}
theorem run_ownA (F : FnOk X.prog X.w X.K X.mg X.base CX k f fd ps sp) (hb : L2.Binds X.K fd ps []) (hx : Passes CX X E) {A : Around} (hr : Room k A) (hf : A.frames = X.A.frames) {pins : List (Addr × Obj)} {s : Shared} {σ : L2.St} {H : Hp} {us : List Value} {vs : List V} {Q : VK}
    (I : L2.Inv X pins σ H s) (r2 : Vals vs us) (hsp : sp vs H Q E) : wpAny (model X.prog X.w) A (call (.ref f) us) (fun u s' => ∃ v H', L2.Inv X pins σ H' s' ∧ L2.RelV v u ∧ Q v H') X.xe s := by
  have e0 : Env0 X.prog X.w X.K X.mg X.base A X.stack s H := by
    have e := I.env0
    exact ⟨by rw [hf]; exact e.frames, e.mod, e.bs, e.bsz, e.funs, e.frf, e.hok, e.bare⟩
  have hl := F.len _ _ _ _ hsp
  refine wpAny_call (codeAny_mono (F.run A X.stack s H ⟨us, []⟩ us vs _ E hr e0 (by
    have := hb s us I.kIn (by rw [List.append_nil, ← r2.length]; exact hl)
    simpa using this) r2 hsp) fun r s' hq => ?_)
  cases r with
  | error e => exact hx pins σ H s e s' I hq
  | ok fl =>
    cases fl with
    | ret w =>
      obtain ⟨z, H', I', rz, q⟩ := I.after hq
      exact ⟨z, H', I', rz, q⟩
    | next => exact False.elim hq
    | brk => exact False.elim hq
    | cont => exact False.elim hq
theorem op_ownIn (M : OwnIn X.K C f) (F : FnOk X.prog X.w X.K X.mg X.base CX k f fd ps sp) (hr : Room k X.A) (hb : L2.Binds X.K fd ps []) (hx : Passes CX X E) : OpR X (compareOp .In) (rOwnIn C sp E) := by
  intro pins s σ H x y v u Q I rx ry h
  obtain ⟨a, dx, fs, rfl, ha, q⟩ := h
  obtain rfl : u = Value.ref a := ry
  obtain ⟨_, O1, _⟩ := ins_get I.hok ha
  obtain ⟨o1, J1, _⟩ := O1.look
  obtain ⟨m, hF⟩ := I.fr
  refine PySem.W.in_K hF I.ok.mod.kin J1 M.inf M.isf (wpAny_mono (run_ownA (vs := [.ref a, x]) (us := [.ref a, v]) F hb hx hr rfl I (.cons rfl (.cons rx .nil)) q) (fun z s' hz => ?_) fun _ _ e => e)
  obtain ⟨zv, H', I', rz, b, rfl, q'⟩ := hz
  obtain rfl : z = Value.bool b := rz
  exact wpAny_truthy_bool ⟨.bl b, H', I', rfl, q'⟩
theorem op_ownNotIn (M : OwnIn X.K C f) (F : FnOk X.prog X.w X.K X.mg X.base CX k f fd ps sp) (hr : Room k X.A) (hb : L2.Binds X.K fd ps []) (hx : Passes CX X E) : OpR X (compareOp .NotIn) (rOwnNotIn C sp E) := by
  intro pins s σ H x y v u Q I rx ry h
  obtain ⟨a, dx, fs, rfl, ha, q⟩ := h
  obtain rfl : u = Value.ref a := ry
  obtain ⟨_, O1, _⟩ := ins_get I.hok ha
  obtain ⟨o1, J1, _⟩ := O1.look
  obtain ⟨m, hF⟩ := I.fr
  refine PySem.W.notIn_K hF I.ok.mod.kin J1 M.inf M.isf (wpAny_mono (run_ownA (vs := [.ref a, x]) (us := [.ref a, v]) F hb hx hr rfl I (.cons rfl (.cons rx .nil)) q) (fun z s' hz => ?_) fun _ _ e => e)
  obtain ⟨zv, H', I', rz, b, rfl, q'⟩ := hz
  obtain rfl : z = Value.bool b := rz
  exact wpAny_truthy_bool ⟨.bl (!b), H', I', rfl, q'⟩
theorem pe_ownIx {a b : Expr} {ta tb : TE} {pos : Pos} (M : OwnIx X.K C f) (F : FnOk X.prog X.w X.K X.mg X.base CX k f fd ps sp) (hr : Room (k + 1) X.A) (hb : L2.Binds X.K fd ps []) (hx : Passes CX X E) (ha : PE X a ta) (hb' : PE X b tb)
    (hsl : ∀ o i, subscripted b true o i = runValue (.builtin "lifetime.subscript" ⟨[o, i], []⟩) := by intro _ _; rfl) : PE X (.Subscript a b pos) (tOp (rOwnIx C sp E) ta tb) := by
  refine ⟨fun pins s σ H Q I h => ?_⟩
  refine Subscript_ (binT ha hb' I h fun v u s2 x y H2 I2 rx ry q => ?_)
  obtain ⟨p, dx, fs, rfl, hp, q⟩ := q
  obtain rfl : v = Value.ref p := rx
  obtain ⟨_, O1, _⟩ := ins_get I2.hok hp
  obtain ⟨o1, J1, _⟩ := O1.look
  obtain ⟨m, hF⟩ := I2.fr
  exact PySem.W.sub_K hF I2.ok.mod.kin J1 M.ixf M.fn M.isf (run_ownA (vs := [.ref p, y]) (us := [.ref p, u]) F hb hx hr.in1 rfl I2 (.cons rfl (.cons ry .nil)) q) (hsl _ _)
end
end Kx
set_option linter.all false
namespace Kx
open PySem L2 PySem.Spec PyProof.Rows PySem.Froz
/-! set(a list of texts) -/
section
variable {P : Program} {w : World} {A : Around} {E : Value → Shared → Prop} {s : Shared}
theorem tx_put {a : Addr} {l : List Str} {k : Str} {u : Tok} {Q : Bool → Shared → Prop} (R : TxAt P w s.heap a l) (room : l.length + 1 < scanBound)
    (hQ : ∀ (b : Bool) (h' : Heap), Heap.SameBut a s.heap h' → TxAt P w h' a (put l k) → Q b { s with heap := h', toks := s.toks + 1 }) :
    wpAny (model P w) A (setAdd a (.str k u)) Q E s := by
  obtain ⟨D, ho, G⟩ := R
  unfold setAdd
  refine wpAny_holding (wpAny_bind ((strKind P w).pyHash (is_str k u) ?_))
  by_cases hk : k ∈ l
  · exact add_old (s := { s with toks := s.toks + 1 }) ho G.tx hk (by omega) (hQ _ s.heap (Heap.SameBut.refl a s.heap) ⟨D, ho, by unfold put; rw [if_pos hk]; exact G⟩)
  · exact add_x (s := { s with toks := s.toks + 1 }) ho G.tx hk room (hQ _ _ (Heap.SameBut.update s.heap a (fun _ => sObj "set" (addTx (hashStr w k) (.str k u) D))) ⟨_, get_upd _ ho rfl, by unfold put; rw [if_neg hk]; exact G.add u hk⟩)
theorem strsAre_get : ∀ {vs : List Value} {ts : List Str} {i : Nat} {v : Value}, StrsAre vs ts → vs[i]? = some v → ∃ x t, ts[i]? = some x ∧ v = Value.str x t
  | _, _, _, _, .nil, h => by simp at h
  | _, _, 0, _, .cons x t _, h => ⟨x, t, rfl, by simp at h; exact h.symm⟩
  | _, _, i + 1, _, .cons _ _ r, h => by
    obtain ⟨x, t, e1, e2⟩ := strsAre_get (i := i) r (by simpa using h)
    exact ⟨x, t, by simpa using e1, e2⟩
theorem TxAt.at {h h' : Heap} {a : Addr} {l : List Str} (R : TxAt P w h a l) (e : ∀ o, h.get? a = some o → h'.get? a = some o) : TxAt P w h' a l := let ⟨D, ho, G⟩ := R; ⟨D, e _ ho, G⟩
theorem up_loop {R : Result → Shared → Prop} {It : Addr} {fp wr : List Addr} {G : Array GenState → Array GenState → Prop} {n : Nat} {Pp : Nat → Value → Prop} {St : Nat → Shared → Prop} (W : WalksS P w A.in1 It fp wr G n Pp St) {S : Addr} (hS : S ∉ fp) {ts : List Str}
    (hv : ∀ i v, Pp i v → ∃ x t, ts[i]? = some x ∧ v = Value.str x t) (hl : ts.length = n) (hn : n + 1 < scanBound) :
    ∀ (k i : Nat) (s : Shared) (l : List Str), i + k = n → St i s → TxAt P w s.heap S l → l.length ≤ i → l.Nodup → (∀ x, x ∈ l ↔ x ∈ ts.take i) →
      (∀ s' l', Moved (S :: wr) G s s' → TxAt P w s'.heap S l' → l'.length ≤ n → l'.Nodup → (∀ x, x ∈ l' ↔ x ∈ ts) → R (.ok (.ret .none)) s') →
      codeAny (model P w) A (.builtin "set.update.loop" ⟨[.ref S, .ref It], []⟩) R s := by
  have off : S ∉ wr := fun z => hS (W.sub _ z)
  have more : ∀ {a b : Shared}, Moved wr G a b → Moved (S :: wr) G a b := fun m => m.mono fun _ z => List.mem_cons_of_mem _ z
  intro k
  induction k with
  | zero =>
    intro i s l hi st T le nd mem fin
    obtain rfl : i = n := hi
    refine codeAny_builtin PyProof.Rows.F.entry_set_update_loop ?_
    rw [Around.under_plainId PyProof.Rows.F.plain_set_update_loop _]
    show wpAny (model P w) A.in1 (pyNext (.ref It) >>= fun r => _) _ _ s
    refine wpAny_bind (W.done s _ _ st fun s1 m => ?_)
    have e : ts.take i = ts := List.take_of_length_le (by omega)
    rw [e] at mem
    exact wpAny_pure (fin s1 l (more m) (T.at fun o z => m.heap S o off z) le nd mem)
  | succ k ih =>
    intro i s l hi st T le nd mem fin
    have lt : i < n := by omega
    refine codeAny_builtin PyProof.Rows.F.entry_set_update_loop ?_
    rw [Around.under_plainId PyProof.Rows.F.plain_set_update_loop _]
    show wpAny (model P w) A.in1 (pyNext (.ref It) >>= fun r => _) _ _ s
    refine wpAny_bind (W.item i s _ _ lt st fun v s1 pv st1 m => ?_)
    obtain ⟨x, t, hx, rfl⟩ := hv i v pv
    have T1 := T.at fun o z => m.heap S o off z
    show wpAny (model P w) A.in1 (holding [Value.str x t] (setAdd S (.str x t)) >>= fun r => _) _ _ s1
    refine wpAny_bind (wpAny_holding (tx_put T1 (by omega) fun b h' sb T2 => ?_))
    refine wpAny_pure ⟨plainId_quiet PyProof.Rows.F.plain_set_update_loop _, ih (i + 1) _ (put l x) (by omega) (W.frame _ s1 _ _ st1 (Nat.le_succ _) fun c hc o z => (sb.2 c fun y => hS (y ▸ hc)).trans z) T2 (Nat.le_trans put_len (Nat.succ_le_succ le)) (put_nodup nd) (fun y => ?_) fun s2 l' m2 T3 le3 nd3 mem3 => ?_⟩
    · rw [mem_put, mem y, List.take_add_one, hx]
      show _ ↔ y ∈ ts.take i ++ [x]
      rw [List.mem_append, List.mem_singleton]
    · exact fin s2 l' (Moved.trans W.gtrans ((more m).then_heap (Nat.le_succ _) fun c o nc z => (sb.2 c fun y => nc (y ▸ List.mem_cons_self)).trans z) m2) T3 le3 nd3 mem3
theorem call_setTx {a : Addr} {items : Array Value} {ts : List Str} {Q : Value → Shared → Prop} (hh : A.handled = none) (hl : s.heap.IsList a items) (hi : StrsAre items.toList ts) (hn : ts.length + 1 < scanBound)
    (h : ∀ (h' : Heap) (tk : Nat) (l : List Str), TxAt P w h' s.heap.objs.size l → l.Nodup → l.length ≤ ts.length → (∀ x, x ∈ l ↔ x ∈ ts) → (∀ b o, s.heap.get? b = some o → h'.get? b = some o) → Q (.ref s.heap.objs.size) { s with heap := h', toks := tk }) :
    wpAny (model P w) A (call (.type "set") [.ref a]) Q E s := by
  have hz : items.size = ts.length := by
    have e := StrsAre.len_eq hi
    rw [Array.length_toList] at e
    exact e
  obtain ⟨_, _, mro⟩ := PySem.F.called_set.mro
  have made := PySem.F.called_set.made
  have self := PySem.F.called_set.sub
  refine wpAny_call (codeAny_of_tree (show wpAny _ _ (callAny (.type "set") _) _ _ _ from wpAny_pure ⟨Code.quiet_builtin _ (by decide +kernel), codeAny_builtin PySem.F.entry_type_call ?_⟩))
  rw [Around.under_plain (weight_type_call_type "set" [.ref a] []) rfl]
  have noT := PySem.F.called_set.notType
  have can := PySem.F.called_set.canCreate
  have chk := PySem.F.typeCall_set_1 (.ref a)
  repeat' (first | assumption | wp_step)
  refine codeAny_mono (code_set_led1 (P := P) (w := w) (.ref a) (E := E) (Q₁ := fun obj s1 => obj = .ref s.heap.objs.size ∧ s1 = { s with heap := s.heap.push { cls := .type "set", dict := none, data := .set #[] 0 (.fresh 0 0 (!w.params.followText "set-order")) } }) ⟨rfl, rfl⟩) fun r s1 h1 => ?_
  rcases r with e | fl
  · exact h1
  cases fl with
  | next => exact h1.elim
  | brk => exact h1.elim
  | cont => exact h1.elim
  | ret obj =>
  obtain ⟨rfl, rfl⟩ := h1
  obtain ⟨ol, hol, hcl, nl, hdl⟩ := hl
  have hS : (s.heap.push { cls := .type "set", dict := none, data := .set #[] 0 (.fresh 0 0 (!w.params.followText "set-order")) }).get? s.heap.objs.size = some { cls := .type "set", dict := none, data := .set #[] 0 (.fresh 0 0 (!w.params.followText "set-order")) } := Heap.get?_push_size _ rfl
  have hlt : a < s.heap.objs.size := Heap.lt_size hol
  generalize hH : s.heap.push { cls := .type "set", dict := none, data := .set #[] 0 (.fresh 0 0 (!w.params.followText "set-order")) } = hp at hS ⊢
  have hsz : hp.objs.size = s.heap.objs.size + 1 := by rw [← hH]; exact Heap.size_push ..
  have keep : ∀ b o, s.heap.get? b = some o → hp.get? b = some o := fun b o e => by rw [← hH]; exact Heap.get?_push_of_some _ e
  have T0 : TxAt P w hp s.heap.objs.size [] := by rw [← hH]; exact txAt_new
  have hol1 := keep a ol hol
  have hl1 : hp.IsList a items := ⟨ol, hol1, hcl, nl, hdl⟩
  have f4 : Shared.TypeIs { s with heap := hp } (.ref s.heap.objs.size) "set" := ⟨_, hS, rfl⟩
  have look := PySem.F.called_set.init.lookup
  have bnd := PySem.F.called_set.init.bind (.ref s.heap.objs.size)
  repeat' (first | assumption | wp_step)
  refine codeAny_mono (codeAny_call_builtin (R := wants (fun r s2 => r = .none ∧ ∃ h' tk l, s2 = { s with heap := h', toks := tk } ∧ TxAt P w h' s.heap.objs.size l ∧ l.Nodup ∧ l.length ≤ ts.length ∧ (∀ x, x ∈ l ↔ x ∈ ts) ∧
    ∀ b o, s.heap.get? b = some o → h'.get? b = some o) E) PySem.F.called_set.init.plain PySem.F.entry_set_init (check_set_init_1 f4 ?_)) fun r2 s2 h2 => ?_
  · obtain ⟨ocls, odict, odata, oslots⟩ := ol
    dsimp only at hcl hdl
    subst hcl hdl
    have f1 := PySem.F.sub_list_set
    have f2 := PySem.F.sub_list_frozenset
    have f3 : (Value.type "list" == Value.type "dict") = false := by decide
    unfold Builtin.«set.__init__»
    unfold noKeywords Builtin.Frozenset.updateFrom
    generalize hI : pyIter = It
    wp_walk
    subst hI
    refine wpAny_pyIter_list hl1 ?_
    refine wpAny_bind (wpAny_runValue ?_)
    have ne1 : a ≠ hp.objs.size := Nat.ne_of_lt (Nat.lt_of_lt_of_eq (Nat.lt_succ_of_lt hlt) hsz.symm)
    have off : s.heap.objs.size ∉ [hp.objs.size, a] := by
      rw [List.mem_cons, List.mem_singleton]
      exact fun z => z.elim (Nat.ne_of_lt (Nat.lt_of_lt_of_eq (Nat.lt_succ_self _) hsz.symm)) (Nat.ne_of_gt hlt)
    have hv : ∀ (i : Nat) (v : Value), items[i]? = some v → ∃ x t, ts[i]? = some x ∧ v = Value.str x t := fun i v e => by
      exact strsAre_get hi (by rw [Array.getElem?_toList]; exact e)
    refine up_loop ((Walks.list (by simp [hh]) _ a ne1 items).toS) off (ts := ts) hv hz.symm (by omega) items.size 0 _ [] (Nat.zero_add _) ⟨⟨_, Heap.get?_push_size _ rfl, rfl, rfl⟩, hl1.push _⟩
      (T0.at fun o e => Heap.get?_push_of_some _ e) (Nat.le_refl _) List.nodup_nil (fun x => by simp) fun s3 l m T le nd mem => ?_
    refine wpAny_pure ?_
    show wpAny _ _ (ret Value.none) _ _ _
    obtain ⟨h3, g3, d3, t3, o3⟩ := s3
    obtain rfl : g3 = s.gens := m.gens
    obtain rfl : d3 = s.drawn := m.drawn
    obtain rfl : o3 = s.os := m.os
    refine wpAny_pure ⟨rfl, h3, t3, l, rfl, T, nd, by omega, mem, fun b o e => ?_⟩
    have lt := Heap.lt_size e
    refine m.heap b o ?_ (Heap.get?_push_of_some _ (keep b o e))
    rw [List.mem_cons, List.mem_singleton]
    exact fun z => z.elim (Nat.ne_of_lt lt) (Nat.ne_of_lt (Nat.lt_of_lt_of_eq (Nat.lt_succ_of_lt lt) hsz.symm))
  · rcases r2 with e | fl
    · exact h2
    cases fl with
    | next => exact h2.elim
    | brk => exact h2.elim
    | cont => exact h2.elim
    | ret r =>
    obtain ⟨rfl, h', tk, l, rfl, T, nd, le, mem, kp⟩ := h2
    repeat' (first | assumption | wp_step)
    exact h h' tk l T nd le mem kp
end
section
variable {P : Program} {w : World} {A : Around} {E : Value → Shared → Prop} {s : Shared}
theorem call_setTt {a : Addr} {items : Array Value} {ts : List Str} {Q : Value → Shared → Prop} (hh : A.handled = none) (hl : s.heap.IsTuple a items) (hi : StrsAre items.toList ts) (hn : ts.length + 1 < scanBound)
    (h : ∀ (h' : Heap) (tk : Nat) (l : List Str), TxAt P w h' s.heap.objs.size l → l.Nodup → l.length ≤ ts.length → (∀ x, x ∈ l ↔ x ∈ ts) → (∀ b o, s.heap.get? b = some o → h'.get? b = some o) → Q (.ref s.heap.objs.size) { s with heap := h', toks := tk }) :
    wpAny (model P w) A (call (.type "set") [.ref a]) Q E s := by
  have hz : items.size = ts.length := by
    have e := StrsAre.len_eq hi
    rw [Array.length_toList] at e
    exact e
  obtain ⟨_, _, mro⟩ := PySem.F.called_set.mro
  have made := PySem.F.called_set.made
  have self := PySem.F.called_set.sub
  refine wpAny_call (codeAny_of_tree (show wpAny _ _ (callAny (.type "set") _) _ _ _ from wpAny_pure ⟨Code.quiet_builtin _ (by decide +kernel), codeAny_builtin PySem.F.entry_type_call ?_⟩))
  rw [Around.under_plain (weight_type_call_type "set" [.ref a] []) rfl]
  have noT := PySem.F.called_set.notType
  have can := PySem.F.called_set.canCreate
  have chk := PySem.F.typeCall_set_1 (.ref a)
  repeat' (first | assumption | wp_step)
  refine codeAny_mono (code_set_led1 (P := P) (w := w) (.ref a) (E := E) (Q₁ := fun obj s1 => obj = .ref s.heap.objs.size ∧ s1 = { s with heap := s.heap.push { cls := .type "set", dict := none, data := .set #[] 0 (.fresh 0 0 (!w.params.followText "set-order")) } }) ⟨rfl, rfl⟩) fun r s1 h1 => ?_
  rcases r with e | fl
  · exact h1
  cases fl with
  | next => exact h1.elim
  | brk => exact h1.elim
  | cont => exact h1.elim
  | ret obj =>
  obtain ⟨rfl, rfl⟩ := h1
  obtain ⟨ol, hol, hcl, nl, hdl⟩ := hl
  have hS : (s.heap.push { cls := .type "set", dict := none, data := .set #[] 0 (.fresh 0 0 (!w.params.followText "set-order")) }).get? s.heap.objs.size = some { cls := .type "set", dict := none, data := .set #[] 0 (.fresh 0 0 (!w.params.followText "set-order")) } := Heap.get?_push_size _ rfl
  have hlt : a < s.heap.objs.size := Heap.lt_size hol
  generalize hH : s.heap.push { cls := .type "set", dict := none, data := .set #[] 0 (.fresh 0 0 (!w.params.followText "set-order")) } = hp at hS ⊢
  have hsz : hp.objs.size = s.heap.objs.size + 1 := by rw [← hH]; exact Heap.size_push ..
  have keep : ∀ b o, s.heap.get? b = some o → hp.get? b = some o := fun b o e => by rw [← hH]; exact Heap.get?_push_of_some _ e
  have T0 : TxAt P w hp s.heap.objs.size [] := by rw [← hH]; exact txAt_new
  have hol1 := keep a ol hol
  have hl1 : hp.IsTuple a items := ⟨ol, hol1, hcl, nl, hdl⟩
  have f4 : Shared.TypeIs { s with heap := hp } (.ref s.heap.objs.size) "set" := ⟨_, hS, rfl⟩
  have look := PySem.F.called_set.init.lookup
  have bnd := PySem.F.called_set.init.bind (.ref s.heap.objs.size)
  repeat' (first | assumption | wp_step)
  refine codeAny_mono (codeAny_call_builtin (R := wants (fun r s2 => r = .none ∧ ∃ h' tk l, s2 = { s with heap := h', toks := tk } ∧ TxAt P w h' s.heap.objs.size l ∧ l.Nodup ∧ l.length ≤ ts.length ∧ (∀ x, x ∈ l ↔ x ∈ ts) ∧
    ∀ b o, s.heap.get? b = some o → h'.get? b = some o) E) PySem.F.called_set.init.plain PySem.F.entry_set_init (check_set_init_1 f4 ?_)) fun r2 s2 h2 => ?_
  · obtain ⟨ocls, odict, odata, oslots⟩ := ol
    dsimp only at hcl hdl
    subst hcl hdl
    have f1 := PySem.F.sub_tuple_set
    have f2 := PySem.F.sub_tuple_frozenset
    have f3 : (Value.type "tuple" == Value.type "dict") = false := by decide
    unfold Builtin.«set.__init__»
    unfold noKeywords Builtin.Frozenset.updateFrom
    generalize hI : pyIter = It
    wp_walk
    subst hI
    refine wpAny_pyIter_tuple hl1 ?_
    refine wpAny_bind (wpAny_runValue ?_)
    have ne1 : a ≠ hp.objs.size := Nat.ne_of_lt (Nat.lt_of_lt_of_eq (Nat.lt_succ_of_lt hlt) hsz.symm)
    have off : s.heap.objs.size ∉ [hp.objs.size, a] := by
      rw [List.mem_cons, List.mem_singleton]
      exact fun z => z.elim (Nat.ne_of_lt (Nat.lt_of_lt_of_eq (Nat.lt_succ_self _) hsz.symm)) (Nat.ne_of_gt hlt)
    have hv : ∀ (i : Nat) (v : Value), items[i]? = some v → ∃ x t, ts[i]? = some x ∧ v = Value.str x t := fun i v e => by
      exact strsAre_get hi (by rw [Array.getElem?_toList]; exact e)
    refine up_loop ((Walks.tuple (by simp [hh]) _ a ne1 items).toS) off (ts := ts) hv hz.symm (by omega) items.size 0 _ [] (Nat.zero_add _) ⟨⟨_, Heap.get?_push_size _ rfl, rfl, rfl⟩, hl1.push _⟩
      (T0.at fun o e => Heap.get?_push_of_some _ e) (Nat.le_refl _) List.nodup_nil (fun x => by simp) fun s3 l m T le nd mem => ?_
    refine wpAny_pure ?_
    show wpAny _ _ (ret Value.none) _ _ _
    obtain ⟨h3, g3, d3, t3, o3⟩ := s3
    obtain rfl : g3 = s.gens := m.gens
    obtain rfl : d3 = s.drawn := m.drawn
    obtain rfl : o3 = s.os := m.os
    refine wpAny_pure ⟨rfl, h3, t3, l, rfl, T, nd, by omega, mem, fun b o e => ?_⟩
    have lt := Heap.lt_size e
    refine m.heap b o ?_ (Heap.get?_push_of_some _ (keep b o e))
    rw [List.mem_cons, List.mem_singleton]
    exact fun z => z.elim (Nat.ne_of_lt lt) (Nat.ne_of_lt (Nat.lt_of_lt_of_eq (Nat.lt_succ_of_lt lt) hsz.symm))
  · rcases r2 with e | fl
    · exact h2
    cases fl with
    | next => exact h2.elim
    | brk => exact h2.elim
    | cont => exact h2.elim
    | ret r =>
    obtain ⟨rfl, h', tk, l, rfl, T, nd, le, mem, kp⟩ := h2
    repeat' (first | assumption | wp_step)
    exact h h' tk l T nd le mem kp
end
/-- set(xs), xs a list of texts -/
def rSetTx (K : PySem.W.Frag) (P : Program) (w : World) : List V → Hp → VK → Prop := fun vs H Q => ∃ (a : Addr) (ts : List Str), vs = [.ref a] ∧ SqL K H a (ts.map V.str) ∧ ts.length ≤ 60 ∧
  ∀ (p : Addr) (l : List Str), H p = none → l.Nodup → l.length ≤ ts.length → (∀ x, x ∈ l ↔ x ∈ ts) → Q (.ref p) (upd H p (SetX P w p l))
section
variable {X : Cx}
theorem strsAre_of : ∀ {ts : List Str} {us : List Value}, Vals (ts.map V.str) us → StrsAre us ts
  | [], _, .nil => .nil
  | t :: ts, _, .cons h r => by
    obtain ⟨k, e⟩ := h
    subst e
    exact .cons t k (strsAre_of r)
theorem cr_setTx (hc : X.calm = true) : CallR X (.type "set") (rSetTx X.K X.prog X.w) := by
  intro pins s σ H xs us Q I r h
  obtain ⟨a, ts, rfl, ha, hn, q⟩ := h
  rw [Vals.ref1 r]
  obtain ⟨its, rv, pl, _⟩ := I.list ha
  have lim : scanBound > 64 := by decide
  refine call_setTx (P := X.prog) (w := X.w) (I.ok.hd hc) pl.isList (strsAre_of rv) (by omega) fun h' tk l T nd le mem kp => ?_
  exact ⟨.ref s.heap.objs.size, _, I.laid (t' := tk) (o := SetX X.prog X.w s.heap.objs.size l) kp (Nat.le_refl _) (setX_new T), rfl, q _ l (I.hok.fresh (Nat.le_refl _)) nd le mem⟩
end
end Kx
set_option linter.all false
namespace Kx
open PySem L2 PySem.Spec PyProof.Rows
/-- set(t), t a tuple of texts -/
def rSetTt (K : PySem.W.Frag) (P : Program) (w : World) : List V → Hp → VK → Prop := fun vs H Q => ∃ (a : Addr) (ts : List Str), vs = [.ref a] ∧ SqT K H a (ts.map V.str) ∧ ts.length ≤ 60 ∧
  ∀ (p : Addr) (l : List Str), H p = none → l.Nodup → l.length ≤ ts.length → (∀ x, x ∈ l ↔ x ∈ ts) → Q (.ref p) (upd H p (SetX P w p l))
def rLenX (P : Program) (w : World) : List V → Hp → VK → Prop := fun vs H Q => ∃ (a : Addr) (l : List Str), vs = [.ref a] ∧ H a = some (SetX P w a l) ∧ l.length ≤ 1000 ∧ Q (.int l.length) H
section
variable {X : Cx}
theorem cr_setTt (hc : X.calm = true) : CallR X (.type "set") (rSetTt X.K X.prog X.w) := by
  intro pins s σ H xs us Q I r h
  obtain ⟨a, ts, rfl, ha, hn, q⟩ := h
  rw [Vals.ref1 r]
  obtain ⟨its, rv, pl, _⟩ := I.tuple ha
  obtain ⟨o, ho, hcl, n, hd⟩ := pl
  have lim : scanBound > 64 := by decide
  refine call_setTt (P := X.prog) (w := X.w) (I.ok.hd hc) ⟨o, ho, hcl, n, hd⟩ (strsAre_of rv) (by omega) fun h' tk l T nd le mem kp => ?_
  exact ⟨.ref s.heap.objs.size, _, I.laid (t' := tk) (o := SetX X.prog X.w s.heap.objs.size l) kp (Nat.le_refl _) (setX_new T), rfl, q _ l (I.hok.fresh (Nat.le_refl _)) nd le mem⟩
theorem call_lenX : CallR X (.builtin "len") (rLenX X.prog X.w) := by
  intro pins s σ H xs us Q I r h
  obtain ⟨a, l, rfl, ha, hl, q⟩ := h
  rw [Vals.ref1 r]
  obtain ⟨D, ho, G⟩ := setX_get I ha
  obtain ⟨es, ep, t⟩ := D
  have hz : es.size = l.length := G.tx.sz
  refine Calls.call_function_entry PySem.kind_len PySem.plain_len PySem.entry_len (PySem.args_len1 _) ?_
  exact wpAny_len_body_set (es := es) (ep := ep) (t := t) ho ⟨rfl, rfl, rfl⟩ rfl G.tx.fit (by omega) ⟨.int l.length, H, I.tok _, ⟨_, by rw [hz]⟩, q⟩
end
end Kx
set_option linter.all false
namespace Kx
open PySem L2 PySem.Spec PyProof.Rows
/-! comprehensions that change nothing but their own list -/
section
variable {J : It} {n : Nat} {G : Hp → Prop} {Y : Nat → Hp → V → Hp → Prop}
theorem same_D {H1 H4 : Hp} {D : Addr} {o : HO} (hD : H1 D = none) (s : Same H1 H4) : Same H1 (upd H4 D o) := fun b u e => by
  have hb : b ≠ D := fun z => by rw [z, hD] at e; cases e
  rw [upd_ne hb]; exact s _ _ e
theorem lc_map (w : Walk J n G Y) {g : TG} {te : TE} {vs : List Nat} {σ : L2.St} {H1 : Hp} {D : Addr} {Qd : Hp → Prop} (f : Nat → V) (hD : H1 D = none) (hn : n ≤ 1000) (hG : ∀ H, Same H1 H → G H)
    (hs : ∀ i x H H' (R : VK), i < n → Same H1 H → Y i H x H' → (∀ H3, Same H H3 → R (f i) H3) → g x (wipe σ vs) H' fun σ2 H2 => wipe σ2 vs = wipe σ vs ∧ te σ2 H2 R)
    (hd : ∀ H, Same H1 H → H D = some (.lst ((List.range n).map f)) → Qd H) :
    ∃ W : Nat → Nat → Hp → Prop, (∃ m, W 0 m (upd H1 D (.lst []))) ∧ ∀ i m H, W i m H →
      (J.stop i H ∧ Qd H) ∨ (J.go i H ∧ ∃ Nx : Hp → Prop, (∀ H', Nx H' → ∃ m', m' < m ∧ W (i + 1) m' H') ∧ ∀ x H', J.yld i H x H' → g x (wipe σ vs) H' fun σ2 H2 => wipe σ2 vs = wipe σ vs ∧ tYes σ2 H2 fun b H3 =>
        if b = true then te σ2 H3 fun y H4 => ∃ acc, H4 D = some (.lst acc) ∧ acc.length < sizeLine ∧ Nx (upd H4 D (.lst (acc ++ [y]))) else Nx H3) := by
  refine lc_it w (tt := tYes) (fun i H => Same H1 H ∧ H D = some (.lst ((List.range i).map f))) ⟨new_same hD, upd_same⟩ (fun i H _ h => hG H h.1) (fun i x H H' hi ⟨s, gD⟩ hy => ?_) (fun H ⟨s, gD⟩ => hd H s gD)
  have := hs i x H H' (fun y H4 => ∃ acc, H4 D = some (.lst acc) ∧ acc.length < sizeLine ∧ (fun H => Same H1 H ∧ H D = some (.lst ((List.range (i + 1)).map f))) (upd H4 D (.lst (acc ++ [y])))) hi s hy fun H3 s3 =>
    ⟨_, s3 _ _ gD, small1000 (by rw [List.length_map, List.length_range]; omega), same_D hD (s.trans s3), by rw [upd_same, List.range_succ, List.map_append]; rfl⟩
  exact this
theorem lc_fil (w : Walk J n G Y) {g : TG} {tt : TT} {te : TE} {vs : List Nat} {σ : L2.St} {H1 : Hp} {D : Addr} {Qd : Hp → Prop} (f : Nat → V) (c : Nat → Bool) (hD : H1 D = none) (hn : n ≤ 1000) (hG : ∀ H, Same H1 H → G H)
    (hs : ∀ i x H H' (R : Bool → Hp → Prop) (R2 : VK), i < n → Same H1 H → Y i H x H' → (∀ H3, Same H H3 → R (c i) H3) → (c i = true → ∀ H3, Same H H3 → R2 (f i) H3) → g x (wipe σ vs) H' fun σ2 H2 => wipe σ2 vs = wipe σ vs ∧ tt σ2 H2 R ∧ ∀ H3, Same H H3 → c i = true → te σ2 H3 R2)
    (mono : ∀ σ H Q Q', (∀ b H1, Q b H1 → Q' b H1) → tt σ H Q → tt σ H Q') (gmono : ∀ x σ H Q Q', (∀ σ2 H1, Q σ2 H1 → Q' σ2 H1) → g x σ H Q → g x σ H Q')
    (hd : ∀ H, Same H1 H → H D = some (.lst (((List.range n).filter c).map f)) → Qd H) :
    ∃ W : Nat → Nat → Hp → Prop, (∃ m, W 0 m (upd H1 D (.lst []))) ∧ ∀ i m H, W i m H →
      (J.stop i H ∧ Qd H) ∨ (J.go i H ∧ ∃ Nx : Hp → Prop, (∀ H', Nx H' → ∃ m', m' < m ∧ W (i + 1) m' H') ∧ ∀ x H', J.yld i H x H' → g x (wipe σ vs) H' fun σ2 H2 => wipe σ2 vs = wipe σ vs ∧ tt σ2 H2 fun b H3 =>
        if b = true then te σ2 H3 fun y H4 => ∃ acc, H4 D = some (.lst acc) ∧ acc.length < sizeLine ∧ Nx (upd H4 D (.lst (acc ++ [y]))) else Nx H3) := by
  refine lc_it w (fun i H => Same H1 H ∧ H D = some (.lst (((List.range i).filter c).map f))) ⟨new_same hD, upd_same⟩ (fun i H _ h => hG H h.1) (fun i x H H' hi ⟨s, gD⟩ hy => ?_) (fun H ⟨s, gD⟩ => hd H s gD)
  refine gmono _ _ _ _ _ ?_ (hs i x H H' (fun b H3 => b = c i ∧ Same H H3) (fun y H4 => ∃ acc, H4 D = some (.lst acc) ∧ acc.length < sizeLine ∧ Same H1 (upd H4 D (.lst (acc ++ [y]))) ∧ (upd H4 D (.lst (acc ++ [y]))) D = some (.lst (((List.range (i + 1)).filter c).map f))) hi s hy (fun H3 s3 => ⟨rfl, s3⟩) fun hc H3 s3 =>
    ⟨_, s3 _ _ gD, small1000 (by rw [List.length_map]; exact Nat.le_trans (List.length_filter_le _ _) (by rw [List.length_range]; omega)), same_D hD (s.trans s3), by rw [upd_same, List.range_succ, List.filter_append, List.map_append, show List.filter c [i] = [i] by simp [hc]]; rfl⟩)
  rintro σ2 H2 ⟨e, ht, he⟩
  refine ⟨e, mono _ _ _ _ ?_ ht⟩
  rintro b H3 ⟨rfl, s3⟩
  cases hc : c i with
  | false =>
    refine iteF ⟨s.trans s3, ?_⟩
    rw [s3 _ _ gD, List.range_succ, List.filter_append, List.map_append, show List.filter c [i] = [] by simp [hc]]
    simp
  | true =>
    refine iteT ?_
    exact he H3 s3 hc
theorem range_getD {α β : Type} (l : List α) (d : α) (h : α → β) : (List.range l.length).map (fun i => h (l.getD i d)) = l.map h := by
  refine List.ext_getElem (by simp) fun i h1 h2 => ?_
  have hi : i < l.length := by simpa using h1
  simp [List.getD, hi]
theorem get_str {l : List Str} {i : Nat} {x : V} (h : (l.map V.str)[i]? = some x) : x = .str (l.getD i "") ∧ l.getD i "" ∈ l := by
  rw [List.getElem?_map] at h
  cases e : l[i]? with
  | none => rw [e] at h; cases h
  | some t =>
    rw [e] at h
    have e2 : l.getD i "" = t := by simp [List.getD, e]
    rw [e2]
    exact ⟨(Option.some.inj h).symm, List.mem_of_getElem? e⟩
theorem flat_strs (l : List Str) : (l.map V.str).all flatV = true := by
  rw [List.all_eq_true]
  intro v hv
  obtain ⟨t, _, rfl⟩ := List.mem_map.mp hv
  rfl
end
end Kx
set_option linter.all false
namespace Kx
open PySem L2 PySem.Spec PyProof.Rows
/-! rules with the words' K written out: for what stands within a comprehension -/
section
variable {X : Cx} {K : PySem.W.Frag} {e o : Expr} {te : TE} {ta : TA} {pos p : Pos} {tg : Expr} {f : Str}
theorem ix_listK (h : X.K = K) : IxR X (rIxL K) := h ▸ ix_list
theorem ix_tupK (h : X.K = K) : IxR X (rIxT K) := h ▸ ix_tup
theorem sl_listK (h : X.K = K) : SlR X (rSlL K) := h ▸ sl_list
theorem sl_tupAK (h : X.K = K) : SlR X (rSlA K) := h ▸ sl_tupA
theorem op_catAK (h : X.K = K) : OpR X (binaryOp .Add) (rCatA K) := h ▸ op_catA
theorem op_in_seqK (h : X.K = K) : OpR X (compareOp .In) (rIn K false) := h ▸ op_in_seq
theorem op_notIn_seqK (h : X.K = K) : OpR X (compareOp .NotIn) (rIn K true) := h ▸ op_notIn_seq
theorem op_neDK (h : X.K = K) (hu : X.A.units + 64 < cLine) : OpR X (compareOp .NotEq) (rNeD K) := h ▸ op_neD hu
theorem op_eqDK (h : X.K = K) (hu : X.A.units + 64 < cLine) : OpR X (compareOp .Eq) (rEqD K) := h ▸ op_eqD hu
theorem pe_fldK (h : X.K = K) (he : PE X e te) (hb : attributeBase e f X.env (eval e X.env) = eval e X.env) : PE X (.Attribute e f pos) (tFld K te f) := h ▸ pe_fld he hb
theorem pi_listK (h : X.K = K) (he : PE X e te) : PI X tg e (iList K te) := h ▸ pi_list he
theorem pi_tupK (h : X.K = K) (he : PE X e te) : PI X tg e (iTup K te) := h ▸ pi_tup he
theorem call_isiK (h : X.K = K) : CallR X (.builtin "isinstance") (rIsi K) := h ▸ call_isi
def rLen (K : PySem.W.Frag) : List V → Hp → VK → Prop := fun xs H Q => ∃ p ys, xs = [.ref p] ∧ (SqL K H p ys ∨ SqT K H p ys) ∧ Q (.int ys.length) H
theorem call_lenK (h : X.K = K) : CallR X (.builtin "len") (rLen K) := h ▸ call_len_seq
theorem pt_truthK {a : Expr} (h : X.K = K) (ha : PE X a te) (he : ∀ whole, isTrue a X.env whole = (do let v ← whole; standAt a.pos; holding [v] (truthy v))) : PT X a (fun σ H Q => te σ H fun x H2 => ∃ k, TruV K x H2 k ∧ Q k H2) := h ▸ pt_truth ha he
theorem pe_tupK (h : X.K = K) {es : List Expr} {kk : Nat} (hp : PA X es ta) : PE X (.Tuple es kk pos) (tTup ta) := pe_tup hp
end
theorem SqL.same {K : PySem.W.Frag} {H H' : Hp} {a : Addr} {xs : List V} (s : Same H H') (h : SqL K H a xs) : SqL K H' a xs := by
  rcases h with (h | ⟨z, h⟩) | h
  · exact .inl (.inl (s _ _ h))
  · exact .inl (.inr ⟨z, s _ _ h⟩)
  · exact .inr h
end Kx
set_option linter.all false
namespace Kx
open PySem L2 PySem.Spec PyProof.Rows
/-! a set comprehension of two clauses -/
section
variable {elt t0 i0 t1 i1 : Expr} {f0 f1 : List Expr} {scope : Scope} {cp : Pos}
abbrev c2 (elt t0 i0 t1 i1 : Expr) (f0 f1 : List Expr) (scope : Scope) (cp : Pos) : Expr := .SetComp elt [⟨t0, i0, f0, 0⟩, ⟨t1, i1, f1, 0⟩] scope cp
theorem start2_1 (acc : Value) (env : Env) : StartOk (c2 elt t0 i0 t1 i1 f0 f1 scope cp) 1 acc env := by
  intro P w A R s it h0 h
  refine codeAny_of_tree ?_
  show wpAny _ _ ((compStart (c2 elt t0 i0 t1 i1 f0 f1 scope cp) 1 it acc env).onRaise (fun x => do noteFrame x env; standAt theWindowsPlace)) _ _ s
  refine wpAny_notedAt ?_
  unfold compStart
  show wpAny _ _ (ask >>= _) _ _ s
  refine wpAny_bind (wpAny_askSetting (wpAny_ite ?_))
  split
  · first
      | exact wpAny_bind (wpAny_pure (wpAny_pure (And.intro rfl h0)))
      | exact wpAny_pure (And.intro rfl h0)
  · refine wpAny_bind (wpAny_rule ?_)
    show wpAny _ _ (standAt i1.pos >>= _) _ _ s
    exact wpAny_bind (wpAny_standAt (wpAny_bind (thn (h _) fun it' s' h' => wpAny_pure (And.intro rfl h'))))
theorem turn2_0 (it D : Addr) (env : Env) : compTurn (c2 elt t0 i0 t1 i1 f0 f1 scope cp) 0 (.ref it) (.ref D) env = turnOf t0 i0.pos f0 (bNest (c2 elt t0 i0 t1 i1 f0 f1 scope cp) 1 i1 D env) (c2 elt t0 i0 t1 i1 f0 f1 scope cp) 0 (.ref it) (.ref D) env := by
  have e : compTurn (c2 elt t0 i0 t1 i1 f0 f1 scope cp) 0 (.ref it) (.ref D) env = (do
      standAt i0.pos
      match ← pyNext (.ref it) with
      | none => pure (.done .next)
      | some v =>
        letOwnedTupleGo t0 (.ref it) v
        assign t0 env v
        let mut ok := true
        for c in f0 do
          if ok then ok ← isTrue c env (eval c env)
        if ok then
          let x ← eval i1 env
          standAt i1.pos
          let x ← foldedSetIterable i1 env x
          let _ ← runOwn (.compStart (c2 elt t0 i0 t1 i1 f0 f1 scope cp) 1 (← holding [x] (pyIter x)) (.ref D) env) env
        again (.compLoop (c2 elt t0 i0 t1 i1 f0 f1 scope cp) 0 (.ref it) (.ref D) env)) := by rfl
  rw [e]
  unfold turnOf
  simp only [bind_assoc, pure_bind]
  all_goals rfl
theorem turn2_1 (it D : Addr) (env : Env) : compTurn (c2 elt t0 i0 t1 i1 f0 f1 scope cp) 1 (.ref it) (.ref D) env = turnOf t1 i1.pos f1 (bElt elt D env) (c2 elt t0 i0 t1 i1 f0 f1 scope cp) 1 (.ref it) (.ref D) env := by rfl
end
section
variable {X : Cx} {elt t0 i0 t1 i1 : Expr} {f0 f1 : List Expr} {scope : Scope} {own : List (PySem.Str × Nat)} {cp : Pos} {w0 w1 : TI} {g0 g1 : TG} {tt0 tt1 : TT} {te : TE} {vs1 : List Nat}
theorem pe_sc2 (hc : X.calm = true) (hN : X.N.Nodup) (hi : PI X t0 i0 w0) (ok : BlkOk X.N X.env.scope scope own) (h1 : ∀ i ∈ vs1, i ∈ own.map (·.2))
    (hg0 : ∀ (s : Shared) (H : Hp) (C : Addr) (cl : List (PySem.Str × Addr)) (fp : List Addr), PG (X.blk s H scope (compEnvC scope cl C X.env) fp) t0 g0)
    (ht0 : ∀ (s : Shared) (H : Hp) (C : Addr) (cl : List (PySem.Str × Addr)) (fp : List Addr), PTs (X.blk s H scope (compEnvC scope cl C X.env) fp) f0 tt0)
    (hi1 : ∀ (s : Shared) (H : Hp) (C : Addr) (cl : List (PySem.Str × Addr)) (fp : List Addr), PI (X.blk s H scope (compEnvC scope cl C X.env) fp) t1 i1 w1)
    (hg1 : ∀ (s : Shared) (H : Hp) (C : Addr) (cl : List (PySem.Str × Addr)) (fp : List Addr), PG (X.blk s H scope (compEnvC scope cl C X.env) fp) t1 g1)
    (ht1 : ∀ (s : Shared) (H : Hp) (C : Addr) (cl : List (PySem.Str × Addr)) (fp : List Addr), PTs (X.blk s H scope (compEnvC scope cl C X.env) fp) f1 tt1)
    (he : ∀ (s : Shared) (H : Hp) (C : Addr) (cl : List (PySem.Str × Addr)) (fp : List Addr), PE (X.blk s H scope (compEnvC scope cl C X.env) fp) elt te)
    (hs : ∀ x, foldedSetIterable i0 X.env x = pure x := by intro _; rfl) (hs1 : ∀ env x, foldedSetIterable i1 env x = pure x := by intro _ _; rfl) :
    PE X (c2 elt t0 i0 t1 i1 f0 f1 scope cp) (tScN X.prog X.w w0 g0 tt0 (fun D => tNest w1 g1 tt1 (tElt X.prog X.w te D) vs1) (own.map (·.2))) :=
  pe_scN (gs := [⟨t1, i1, f1, 0⟩]) (body := fun D env => bNest (c2 elt t0 i0 t1 i1 f0 f1 scope cp) 1 i1 D env) hc hN hi ok h1 hg0 ht0
    (fun s H C cl fp D => pb_nest (ee := elt) (gs := [⟨t0, i0, f0, 0⟩, ⟨t1, i1, f1, 0⟩]) (scope := scope) (cp := cp) (Y := X.blk s H scope (compEnvC scope cl C X.env) fp) (vs' := []) (fun i z => nomatch z) hc rfl (hi1 s H C cl fp) (hg1 s H C cl fp) (ht1 s H C cl fp)
      (pb_elt (Y := X.blk s H scope (compEnvC scope cl C X.env) fp) rfl (he s H C cl fp)) (hs1 _) (fun it => turn2_1 it D _) (start2_1 _ _))
    (fun it D env => turn2_0 it D env) hs
end
/-! what is never reached -/
theorem ps_dead {X : Cx} {st : Stmt} : PS X st (fun _ _ _ => False) := ⟨fun _ _ _ _ _ _ h => h.elim⟩
theorem pe_dead {X : Cx} {e : Expr} : PE X e (fun _ _ _ => False) := ⟨fun _ _ _ _ _ _ h => h.elim⟩
theorem pt_dead {X : Cx} {e : Expr} : PT X e (fun _ _ _ => False) := ⟨fun _ _ _ _ _ _ h => h.elim⟩
end Kx
set_option linter.all false
namespace Kx
open PySem L2 PySem.Spec PyProof.Rows
/-! names -/
abbrev sIsN : Stmt := top 15
abbrev nIsN : List Str := ["thing"]
theorem scIsN : FnScope nIsN ["thing"] (defScope sIsN) := ⟨rfl, rfl, rfl, by decide +kernel, rfl, by decide +kernel, by decide +kernel⟩
abbrev sAreN : Stmt := top 16
abbrev nAreN : List Str := ["things", "most", "one"]
theorem scAreN : FnScope nAreN ["things", "most"] (defScope sAreN) := ⟨rfl, rfl, rfl, by decide +kernel, rfl, by decide +kernel, by decide +kernel⟩
def noNames : List Str := ["as", "ask", "body", "call", "class", "else", "field", "halt", "if", "int", "let", "method", "next", "none", "post", "pre", "result", "return", "self", "try", "where", "zero"]
def isName (t : Str) : Bool := isWord t && !(inV (.str t) (noNames.map V.str))
def areN (l : List Str) (m : Int) : Bool := decide ((l.length : Int) ≤ m) && (l.all isName && decide l.Nodup)
def spIsN : Sp := fun vs H Q _ => ∃ t : Str, vs = [.str t] ∧ t.length ≤ 1000 ∧ ∀ H', Same H H' → Q (.bl (isName t)) H'
def spAreN (K : PySem.W.Frag) : Sp := fun vs H Q _ => ∃ (a : Addr) (l : List Str) (m : Int), vs = [.ref a, .int m] ∧ SqT K H a (l.map V.str) ∧ l.length ≤ 60 ∧ (∀ t ∈ l, t.length ≤ 1000) ∧ ∀ H', Same H H' → Q (.bl (areN l m)) H'
theorem nodup_len {l m : List Str} (nd : l.Nodup) (h : ∀ x, x ∈ l ↔ x ∈ m) : l.length = m.length ↔ m.Nodup := by
  constructor
  · intro e
    exact (perm_of_sub nd (fun x hx => (h x).mp hx) e.symm).symm.nodup nd
  · intro md
    have p : l.Perm m := (List.perm_ext_iff_of_nodup nd md).mpr h
    exact p.length_eq
section
variable {P : Program} {w : World} {K : PySem.W.Frag} {mg : Str → Option Value} {base : Heap}
theorem ok_isN {f g NN : Addr} {fd fdW : FuncData} (F : Fs K mg "is_name" sIsN ["thing"] f fd) (dW : Fs K mg "is_word" sIsWord ["thing"] g fdW) (T : Bx mg) (hN : mg "NO_NAMES" = some (.ref NN)) (zN : ∀ H, SqT K H NN (noNames.map V.str)) : FnOk P w K mg base CX0 2 f fd ["thing"] spIsN := by
  have GW : FnOk P w K mg base CX0 1 g fdW ["thing"] spIsWord := ok_isword dW T
  refine F.F.ok scIsN (fun vs H Q E h => ?_) (fun cdv A outer s H vs Q E hr h => ?_)
  · obtain ⟨t, rfl, _⟩ := h
    rfl
  · obtain ⟨t, rfl, ht, q⟩ := h
    have hr1 := hr.mono (j := 1) (by decide)
    refine ⟨_, (pss_one (ps_ret (pe_and (pe_call GW hr1 (by rfl) dW.m dW.F.kp dW.b .nil pass0 (pa_cons (pv 0) pa_nil)) (pe_one (pe_cmpR op_notIn_seq (pv 0) (pe_glob (v := .ref NN) (by rfl) hN rfl) (by with_unfolding_all rfl)))))), ?_⟩
    refine ⟨_, rfl, t, rfl, ht, fun H1 s1 => ⟨_, rfl, ?_⟩⟩
    cases hw : isWord t with
    | false =>
      have e : isName t = false := by unfold isName; rw [hw]; rfl
      have := q H1 s1
      rw [e] at this
      exact iteF this
    | true =>
      have e : isName t = !(inV (.str t) (noNames.map V.str)) := by unfold isName; rw [hw]; rfl
      have := q H1 s1
      rw [e] at this
      exact iteT ⟨_, rfl, NN, _, rfl, .inr (zN H1), rfl, flat_strs _, this⟩
theorem ok_areN {f g g2 NN : Addr} {fd fdN fdW : FuncData} (F : Fs K mg "are_names" sAreN ["things", "most"] f fd) (dN : Fs K mg "is_name" sIsN ["thing"] g fdN) (dW : Fs K mg "is_word" sIsWord ["thing"] g2 fdW) (T : Bx mg) (hN : mg "NO_NAMES" = some (.ref NN)) (zN : ∀ H, SqT K H NN (noNames.map V.str)) (hst : mg "set" = none) : FnOk P w K mg base CX0 3 f fd ["things", "most"] (spAreN K) := by
  have GN : FnOk P w K mg base CX0 2 g fdN ["thing"] spIsN := ok_isN dN dW T hN zN
  refine F.F.ok scAreN (fun vs H Q E h => ?_) (fun cdv A outer s H vs Q E hr h => ?_)
  · obtain ⟨a, l, m, rfl, _⟩ := h
    rfl
  · obtain ⟨a, l, m, rfl, ha, h60, hsh, q⟩ := h
    refine ⟨_, (pss_cons (ps_if (PW.pt (pw_or (pt_not (pt_val (pe_callB call_isi (by rfl) T.isi boot_isinstance (pa_cons (pv 0) (pa_cons (pe_bltn (v := .ty "tuple") (by rfl) T.tuple (by decide +kernel) rfl) pa_nil))))) (pw_or (pt_cmpR op_gt (pe_callB call_len_seq (by rfl) T.len PySem.boot_len (pa_cons (pv 0) pa_nil)) (pv 1) (nomark _)) (pw_or1 (pt_not (pt_val (pe_callB (cr_all rfl) (by rfl) T.all (by decide +kernel) (pa_cons (pe_lc (own := [("one", 2)]) (g := gName 2) (tt := tYes) rfl scAreN.nd (pi_tup (pv 0)) (blkOk_by (N := nAreN) (sc := defScope sAreN) (by decide +kernel)) (fun _ _ _ _ _ => (pg_name (i := 2) scAreN.nd rfl (Or.inl rfl))) (fun _ _ _ _ _ => pts_nil) (fun _ _ _ _ _ => (pe_call GN hr (by rfl) dN.m dN.F.kp dN.b .nil pass0 (pa_cons (pv 2) pa_nil)))) pa_nil)))))))) (pss_one (ps_ret pe_bl)) pss_nil) (pss_one (ps_ret (pe_cmpR op_eq (pe_callB call_lenX (by rfl) T.len PySem.boot_len (pa_cons (pe_callTy (cr_setTt rfl) (by rfl) hst (by decide +kernel) (pa_cons (pv 0) pa_nil)) pa_nil)) (pe_callB call_len_seq (by rfl) T.len PySem.boot_len (pa_cons (pv 0) pa_nil)) (nomark _))))), ?_⟩
    refine ⟨_, rfl, .ref a, .ty "tuple", _, _, true, rfl, .ty _, tyT ha, kit_ty (by decide +kernel), true, rfl, iteF ?_⟩
    refine ⟨_, rfl, a, _, rfl, .inr ha, _, rfl, _, _, rfl, rfl, _, rfl, ?_⟩
    rw [List.length_map]
    by_cases h2 : (l.length : Int) ≤ m
    case neg =>
      rw [decide_eq_true (by omega)]
      have e : areN l m = false := by unfold areN; rw [decide_eq_false h2]; rfl
      have := q H fun _ _ z => z
      rw [e] at this
      exact iteT (iteT this)
    case pos =>
    rw [decide_eq_false (by omega)]
    refine iteF ⟨_, rfl, a, rfl, ⟨_, ha⟩, fun D hD => ?_⟩
    refine lc_map (walk_tup (xs := l.map V.str)) (fun i => .bl (isName (l.getD i ""))) hD (by rw [List.length_map]; omega) (fun H' s' => SqT.same s' ha) (fun i x H1 H2 R hi s1 ⟨e1, hx⟩ k => ?_) fun H1 s1 gD => ?_
    · subst e1
      obtain ⟨rfl, hm⟩ := get_str hx
      exact ⟨rfl, _, rfl, _, rfl, hsh _ hm, k⟩
    · rw [List.length_map] at gD
      refine ⟨D, (List.range l.length).map fun i => isName (l.getD i ""), rfl, SqL.of (by rw [gD, List.map_map]; rfl), _, rfl, ?_⟩
      rw [range_getD, List.all_map, show (id ∘ isName) = isName from rfl]
      cases h3 : l.all isName with
      | false =>
        have e : areN l m = false := by unfold areN; rw [h3, Bool.false_and, Bool.and_false]
        have := q H1 s1
        rw [e] at this
        exact iteT this
      | true =>
        have e : areN l m = decide l.Nodup := by unfold areN; rw [h3, decide_eq_true h2]; rfl
        refine iteF ?_
        refine ⟨_, rfl, a, l, rfl, SqT.same s1 ha, h60, fun p l' hp nd le mem => ?_⟩
        have s2 := new_same (o := SetX P w p l') hp
        refine ⟨p, l', rfl, upd_same, by omega, _, rfl, a, _, rfl, .inr (SqT.same (s1.trans s2) ha), rfl, ?_⟩
        rw [List.length_map]
        have q' := q _ (s1.trans s2)
        rw [e] at q'
        have e3 : decide l.Nodup = decide (V.int l'.length = V.int l.length) := by
          rw [decide_eq_decide, ← nodup_len nd mem]
          constructor
          · intro z; rw [z]
          · intro z; injection z with z; omega
        rw [e3] at q'
        exact q'
end
end Kx
set_option linter.all false
namespace Kx
open PySem L2 PySem.Spec PyProof.Rows
/-! xs.extend(t), t a tuple -/
abbrev lstO (xs : Array Value) (n : Nat) : Obj := { cls := .type "list", dict := none, data := .seq xs n, slots := #[] }
def rExtendT (K : PySem.W.Frag) : V → List V → Hp → VK → Prop := fun x vs H Q => ∃ l b xs zs, x = .ref l ∧ vs = [.ref b] ∧ H l = some (.lst xs) ∧ SqT K H b zs ∧ xs.length + zs.length ≤ sizeLine ∧ Q .non (upd H l (.lst (xs ++ zs)))
theorem extT_meets {l b : Addr} {xs ys : Array Value} {n m : Nat} {dd : Option Addr} {sl : Array (Option Value)} (c0 : ¬(!xs.isEmpty && Builtin.List.listTooLong (xs.size + ys.size)) = true) (c1 : xs.size ≤ sizeLine) (c2 : xs.size + ys.size ≤ sizeLine + 1) :
    Meets (Builtin.«list.extend» ⟨[.ref l, .ref b], []⟩) (fun _ R s => s.heap.get? l = some (lstO xs n) ∧ s.heap.get? b = some ⟨.type "tuple", dd, .seq ys m, sl⟩ ∧
      R (.ok (.ret Value.none)) { s with heap := s.heap.update l (Obj.mapSeq fun x => x ++ ys) }) :=
  .of_wp fun prog w A R s h => by
    obtain ⟨hp, g, d, tk, os⟩ := s
    obtain ⟨h1, h2, q⟩ := h
    have z : (xs ++ ys).size ≤ sizeLine + 1 := Nat.le_trans (Nat.le_of_eq Array.size_append) c2
    wp_walk using (wpAny_updateSeq h1 rfl (hz := c1) (_hz' := z)), AutoSeq1.wpAny_loadPart' h1, AutoSeq1.wpAny_loadPart' h2
    exact ⟨_, rfl, q⟩
theorem mt_extendT {X : Cx} : MtM X "list.extend" (rExtendT X.K) := by
  intro pins s σ H x vs v us Q I rx rv h
  obtain ⟨l, b, xs, zs, rfl, rfl, hH, hB, hz, q⟩ := h
  cases rx
  obtain ⟨u, rfl, ru⟩ := rv.one
  cases ru
  obtain ⟨z, its, n, r, hl, e⟩ := I.lstM hH
  obtain ⟨its2, r2, ⟨⟨cls, dd, data, sl⟩, ho, hc, n2, hd⟩, hs⟩ := I.tuple hB
  simp only at hc hd
  subst hc hd
  have l2 := r2.length
  have hsz : its.toArray.size + its2.toArray.size ≤ sizeLine := by rw [List.size_toArray, List.size_toArray]; omega
  have hlong : ¬ (!its.toArray.isEmpty && Builtin.List.listTooLong (its.toArray.size + its2.toArray.size)) = true := by
    rw [notLongL hsz, Bool.and_false]
    exact Bool.false_ne_true
  refine call_meets F.slot_list_extend ⟨_, e, rfl⟩ F.entry_list_extend (F.args_list_extend_2 _ _)
    (extT_meets hlong (by rw [List.size_toArray]; omega) (by omega)) ⟨e, ho, ?_⟩
  refine ⟨.non, _, I.lset (its' := its ++ its2) hH e (by simp) (r.append r2) ?_, rfl, q⟩
  rw [List.length_append]
  omega
end Kx
set_option linter.all false
namespace Kx
open PySem L2 PySem.Spec PyProof.Rows
/-! the bases of classes -/
abbrev Bs := List (Str × List Str)
def look (bs : Bs) (n : Str) : Option (List Str) := (bs.find? fun b => decide (b.1 = n)).map (·.2)
inductive Up (bs : Bs) : Str → Str → Prop where
  | one {x y : Str} {l : List Str} (h : look bs x = some l) (m : y ∈ l) : Up bs x y
  | more {x y z : Str} {l : List Str} (u : Up bs x y) (h : look bs y = some l) (m : z ∈ l) : Up bs x z
/-- a dict from names to tuples of names -/
def BasesAt (K : PySem.W.Frag) (H : Hp) (D : Addr) (bs : Bs) : Prop := ∃ kvs : List (Key × V), Rd H D (.dK kvs) ∧ Paired (fun (kv : Key × V) (b : Str × List Str) => kv.1 = .inr b.1 ∧ ∃ a, kv.2 = .ref a ∧ SqT K H a (b.2.map V.str)) kvs bs
theorem rd_same {H H' : Hp} {D : Addr} {u : HO} (s : Same H H') (h : Rd H D u) : Rd H' D u := h.imp (fun e => s _ _ e) fun ⟨o, e⟩ => ⟨o, s _ _ e⟩
theorem BasesAt.same {K : PySem.W.Frag} {H H' : Hp} {D : Addr} {bs : Bs} (s : Same H H') (h : BasesAt K H D bs) : BasesAt K H' D bs := by
  obtain ⟨kvs, r, p⟩ := h
  exact ⟨kvs, rd_same s r, L2.Paired.mapP p fun kv b ⟨e, a, e2, q⟩ => ⟨e, a, e2, SqT.same s q⟩⟩
theorem pair_look {K : PySem.W.Frag} {H : Hp} {n : Str} {l : List Str} : ∀ {kvs : List (Key × V)} {bs : Bs}, Paired (fun (kv : Key × V) (b : Str × List Str) => kv.1 = .inr b.1 ∧ ∃ a, kv.2 = .ref a ∧ SqT K H a (b.2.map V.str)) kvs bs → look bs n = some l → ∃ a, valV kvs (.inr n) = some (.ref a) ∧ SqT K H a (l.map V.str)
  | _, _, .nil, h => by cases h
  | kv :: kvs, b :: bs, .cons ⟨e, a, e2, q⟩ r, h => by
    by_cases z : b.1 = n
    · have e3 : look (b :: bs) n = some b.2 := by simp [look, List.find?_cons, z]
      rw [e3] at h
      cases h
      exact ⟨a, by rw [valV_pos (by rw [e, z]), e2], q⟩
    · have e3 : look (b :: bs) n = look bs n := by simp [look, List.find?_cons, z]
      rw [e3] at h
      obtain ⟨a', h1, h2⟩ := pair_look r h
      exact ⟨a', by rw [valV_neg (by rw [e]; intro y; injection y with y; exact z y)]; exact h1, h2⟩
theorem BasesAt.get {K : PySem.W.Frag} {H : Hp} {D : Addr} {bs : Bs} {n : Str} {l : List Str} (h : BasesAt K H D bs) (e : look bs n = some l) : ∃ a, DGet H D (.str n) (some (.ref a)) ∧ SqT K H a (l.map V.str) := by
  obtain ⟨kvs, r, p⟩ := h
  obtain ⟨a, h1, h2⟩ := pair_look p e
  exact ⟨a, .inl ⟨kvs, .inr n, r, rfl, h1.symm⟩, h2⟩
/-- all bases are there, and few -/
structure BsOk (bs : Bs) : Prop where
  clo : ∀ n l, look bs n = some l → ∀ y ∈ l, (look bs y).isSome
  few : ∀ n l, look bs n = some l → l.length ≤ 3
  len : bs.length ≤ 31
theorem look_mem {bs : Bs} {n : Str} (h : (look bs n).isSome) : n ∈ bs.map (·.1) := by
  unfold look at h
  rw [Option.isSome_map] at h
  obtain ⟨b, hb⟩ := Option.isSome_iff_exists.mp h
  have := List.find?_some hb
  exact List.mem_map.mpr ⟨b, List.mem_of_find?_eq_some hb, of_decide_eq_true this⟩
theorem sub_len : ∀ {l m : List Str}, l.Nodup → (∀ x ∈ l, x ∈ m) → l.length ≤ m.length
  | [], _, _, _ => Nat.zero_le _
  | a :: l, m, nd, h => by
    obtain ⟨h1, h2⟩ := List.nodup_cons.mp nd
    have : l.length ≤ (m.erase a).length := sub_len h2 fun x hx => (List.mem_erase_of_ne (fun z => h1 (by rw [← z]; exact hx))).mpr (h x (List.mem_cons_of_mem _ hx))
    rw [List.length_erase_of_mem (h a List.mem_cons_self)] at this
    have := List.length_pos_of_mem (h a List.mem_cons_self)
    simp only [List.length_cons]
    omega
def seenK (ss : List Str) : List (Key × V) := ss.map fun t => (.inr t, .bl true)
theorem seen_val {n : Str} : ∀ {ss : List Str}, (valV (seenK ss) (.inr n)).isSome = decide (n ∈ ss)
  | [] => rfl
  | t :: ss => by
    by_cases z : t = n
    · subst z
      have e : valV (seenK (t :: ss)) (.inr t) = some (.bl true) := valV_pos (p := ((.inr t : Key), V.bl true)) rfl
      rw [e, decide_eq_true List.mem_cons_self]
      rfl
    · have e : valV (seenK (t :: ss)) (.inr n) = valV (seenK ss) (.inr n) := valV_neg (p := ((.inr t : Key), V.bl true)) (by intro y; injection y with y; exact z y)
      rw [e, seen_val, decide_eq_decide]
      exact ⟨List.mem_cons_of_mem _, fun h => (List.mem_cons.mp h).resolve_left (fun y => z y.symm)⟩
theorem seen_put {n : Str} {ss : List Str} (h : n ∉ ss) : putK (seenK ss) (.inr n) (.bl true) = seenK (ss ++ [n]) := by
  unfold putK
  rw [if_neg]
  · show ss.map _ ++ [_] = (ss ++ [n]).map _
    rw [List.map_append]
    rfl
  · intro z
    obtain ⟨kv, hk, e⟩ := List.any_eq_true.mp z
    obtain ⟨t, ht, rfl⟩ := List.mem_map.mp hk
    have e := of_decide_eq_true e
    injection e with e
    exact h (by rw [← e]; exact ht)

abbrev sAbv : Stmt := top 86
abbrev nAbv : List Str := ["bases", "name", "seen", "waiting", "above"]
theorem scAbv : FnScope nAbv ["bases", "name"] (defScope sAbv) := ⟨rfl, rfl, rfl, by decide +kernel, rfl, by decide +kernel, by decide +kernel⟩
def spAbv (K : PySem.W.Frag) : Sp := fun vs H Q _ => ∃ (D : Addr) (bs : Bs) (n : Str), vs = [.ref D, .str n] ∧ BasesAt K H D bs ∧ BsOk bs ∧ (look bs n).isSome ∧ ∀ b H', (b = true ↔ Up bs n n) → Same H H' → Q (.bl b) H'
/-- what is kept while the way up is gone -/
structure AbvI (bs : Bs) (n : Str) (ss ws : List Str) : Prop where
  up : ∀ x, x ∈ ss ∨ x ∈ ws → Up bs n x
  cl : ∀ x ∈ ss, ∀ l, look bs x = some l → ∀ y ∈ l, y ∈ ss ∨ y ∈ ws
  st : ∀ l, look bs n = some l → ∀ y ∈ l, y ∈ ss ∨ y ∈ ws
  nd : ss.Nodup
  bw : ∀ x, x ∈ ss ∨ x ∈ ws → (look bs x).isSome
theorem AbvI.few {bs : Bs} {n : Str} {ss ws : List Str} (h : AbvI bs n ss ws) : ss.length ≤ bs.length := by
  have := sub_len h.nd (m := bs.map (·.1)) fun x hx => look_mem (h.bw x (.inl hx))
  rwa [List.length_map] at this
theorem AbvI.fin {bs : Bs} {n : Str} {ss : List Str} (h : AbvI bs n ss []) : n ∈ ss ↔ Up bs n n := by
  constructor
  · exact fun z => h.up n (.inl z)
  · have all : ∀ x y, Up bs x y → x = n → y ∈ ss := by
      intro x y u
      induction u with
      | one hl m => intro e; subst e; exact (h.st _ hl _ m).resolve_right (fun z => by cases z)
      | more u hl m ih => intro e; exact (h.cl _ (ih e) _ hl _ m).resolve_right (fun z => by cases z)
    exact fun u => all n n u rfl
theorem AbvI.step {bs : Bs} {n t : Str} {ss ws lt : List Str} (I : AbvI bs n ss (ws ++ [t])) (ht : t ∉ ss) (e : look bs t = some lt) (b : ∀ y ∈ lt, (look bs y).isSome) : AbvI bs n (ss ++ [t]) (ws ++ lt) := by
  have go : ∀ y, (y ∈ ss ∨ y ∈ ws ++ [t]) → y ∈ ss ++ [t] ∨ y ∈ ws ++ lt := fun y h => by
    rcases h with h | h
    · exact .inl (List.mem_append_left _ h)
    · rcases List.mem_append.mp h with h | h
      · exact .inr (List.mem_append_left _ h)
      · exact .inl (List.mem_append_right _ h)
  have back : ∀ x, x ∈ ss ++ [t] ∨ x ∈ ws ++ lt → (x ∈ ss ∨ x ∈ ws ++ [t]) ∨ x ∈ lt := fun x h => by
    rcases h with h | h
    · rcases List.mem_append.mp h with h | h
      · exact .inl (.inl h)
      · exact .inl (.inr (List.mem_append_right _ h))
    · rcases List.mem_append.mp h with h | h
      · exact .inl (.inr (List.mem_append_left _ h))
      · exact .inr h
  refine ⟨fun x hx => ?_, fun x hx l hl y hy => ?_, fun l hl y hy => go y (I.st l hl y hy), ?_, fun x hx => ?_⟩
  · rcases back x hx with h | h
    · exact I.up x h
    · exact .more (I.up t (.inr (by simp))) e h
  · rcases List.mem_append.mp hx with h | h
    · exact go y (I.cl x h l hl y hy)
    · rw [List.mem_singleton.mp h, e] at hl
      cases hl
      exact .inr (List.mem_append_right _ hy)
  · refine List.nodup_append.mpr ⟨I.nd, by simp, fun a ha b hb => ?_⟩
    rw [List.mem_singleton.mp hb]
    exact fun z => ht (z ▸ ha)
  · rcases back x hx with h | h
    · exact I.bw x h
    · exact b x h
theorem drop1 {ss ws : List Str} {t y : Str} (ht : t ∈ ss) (h : y ∈ ss ∨ y ∈ ws ++ [t]) : y ∈ ss ∨ y ∈ ws := by
  rcases h with h | h
  · exact .inl h
  · rcases List.mem_append.mp h with h | h
    · exact .inr h
    · rw [List.mem_singleton.mp h]; exact .inl ht
section
variable {P : Program} {w : World} {K : PySem.W.Frag} {mg : Str → Option Value} {base : Heap}
theorem ok_abv {f : Addr} {fd : FuncData} (F : Fs K mg "is_above_itself" sAbv ["bases", "name"] f fd) (ls : mg "list" = none) : FnOk P w K mg base CX0 1 f fd ["bases", "name"] (spAbv K) := by
  refine F.F.ok scAbv (fun vs H Q E h => ?_) (fun cdv A outer s H vs Q E hr h => ?_)
  · obtain ⟨D, bs, n, rfl, _⟩ := h
    rfl
  · obtain ⟨D, bs, n, rfl, hD, ok, hn, q⟩ := h
    have hu := hu_of hr
    obtain ⟨l0, el0⟩ := Option.isSome_iff_exists.mp hn
    refine ⟨_, (pss_cons (ps_set (i := 2) scAbv.nd rfl (Or.inl rfl) pe_dnewK) (pss_cons (ps_set (i := 3) scAbv.nd rfl (Or.inl rfl) (pe_callTy call_list_of (by rfl) ls (by decide +kernel) (pa_cons (pe_dget hu (pv 0) (pv 1) (fun _ _ => rfl)) pa_nil))) (pss_cons (ps_while PassesOwn.never (pt_truth (pv 3) (by intro _; rfl)) (pss_cons (ps_set (i := 4) scAbv.nd rfl (Or.inl rfl) (pe_bm0 PySem.F.plainAttrs_list PySem.F.slot_list_pop PySem.F.type_list_pop mt_pop (pv 3))) (pss_one (ps_if (pt_cmp (pc_dnotin hu (pv 4) (pv 2)) (by with_unfolding_all rfl)) (pss_cons (ps_asg pe_bl (pg_sub (pv 2) (pv 4) (set_dict hu))) (pss_one (ps_expr (pe_bm PySem.F.plainAttrs_list PySem.F.slot_list_extend PySem.F.type_list_extend mt_extendT (pv 3) (pa_cons (pe_dget hu (pv 0) (pv 4) (fun _ _ => rfl)) pa_nil))))) pss_nil)))) (pss_one (ps_ret (pe_cmp (pc_din hu (pv 1) (pv 2)) (by with_unfolding_all rfl))))))), ?_⟩
    intro S hS
    have s1 := new_same (o := .dK []) hS
    have gS : (upd H S (.dK [])) S = some (.dK []) := upd_same
    obtain ⟨H1, e1⟩ : ∃ G, upd H S (.dK []) = G := ⟨_, rfl⟩
    rw [e1] at s1 gS ⊢
    obtain ⟨a0, g0, t0⟩ := (hD.same s1).get el0
    refine ⟨_, rfl, _, rfl, D, _, rfl, g0, a0, _, rfl, .inr t0, fun W hW => ?_⟩
    have hW0 : H W = none := by
      cases z : H W with
      | none => rfl
      | some u => rw [s1 _ _ z] at hW; cases hW
    have s2 := s1.trans (new_same (o := .lst (l0.map V.str)) hW)
    have nSW : S ≠ W := fun z => by rw [z, hW] at gS; cases gS
    refine ⟨fun m σ H' => ∃ ss ws v, m = 4 * (bs.length - ss.length) + ws.length ∧ σ = [some (.ref D), some (.str n), some (.ref S), some (.ref W), v] ∧ AbvI bs n ss ws ∧ ws.length ≤ 3 + 3 * ss.length ∧ Same H H' ∧ H' S = some (.dK (seenK ss)) ∧ H' W = some (.lst (ws.map V.str)), ⟨_, [], l0, none, rfl, rfl, ?_, ?_, s2, ?_, upd_same⟩, ?_⟩
    · refine ⟨fun x hx => ?_, fun x hx => (nomatch hx), fun l hl y hy => ?_, List.nodup_nil, fun x hx => ?_⟩
      · exact .one el0 (hx.resolve_left (fun z => by cases z))
      · rw [el0] at hl; cases hl; exact .inr hy
      · exact ok.clo _ _ el0 _ (hx.resolve_left (fun z => by cases z))
    · exact ok.few _ _ el0
    · rw [upd_ne nSW]; exact gS
    · rintro m σ H2 ⟨ss, ws, v, rfl, rfl, I, hl, s3, gS2, gW2⟩
      have hk := I.few
      have hb := ok.len
      refine ⟨_, rfl, !(ws.map V.str).isEmpty, .inl ⟨_, SqL.of gW2, rfl⟩, ?_⟩
      by_cases hw : ws = []
      · subst hw
        refine iteF ?_
        refine ⟨_, rfl, _, rfl, S, _, rfl, DGet.k (k := .inr n) gS2, ?_⟩
        rw [seen_val]
        exact q _ _ (by rw [decide_eq_true_iff]; exact I.fin) s3
      · obtain ⟨ws', t, rfl⟩ : ∃ ws' t, ws = ws' ++ [t] := ⟨ws.dropLast, ws.getLast hw, (List.dropLast_concat_getLast hw).symm⟩
        rw [show (!((ws' ++ [t]).map V.str).isEmpty) = true by simp]
        refine iteT ⟨fun σ' H' => ∃ m', m' < 4 * (bs.length - ss.length) + (ws' ++ [t]).length ∧ ∃ ss2 ws2 v, m' = 4 * (bs.length - ss2.length) + ws2.length ∧ σ' = [some (.ref D), some (.str n), some (.ref S), some (.ref W), v] ∧ AbvI bs n ss2 ws2 ∧ ws2.length ≤ 3 + 3 * ss2.length ∧ Same H H' ∧ H' S = some (.dK (seenK ss2)) ∧ H' W = some (.lst (ws2.map V.str)), fun σ' H' z => z, ?_⟩
        have hx := I.bw t (.inr (by simp))
        obtain ⟨lt, elt⟩ := Option.isSome_iff_exists.mp hx
        refine ⟨_, rfl, .inl ⟨rfl, _, SqL.of gW2⟩, W, _, .str t, rfl, rfl, gW2, by simp, ?_⟩
        have ed : ((ws' ++ [t]).map V.str).dropLast = ws'.map V.str := by simp
        rw [ed]
        have nW2 : H W = none := hW0
        have s4 : Same H (upd H2 W (.lst (ws'.map V.str))) := same_D nW2 s3
        have gS3 : (upd H2 W (.lst (ws'.map V.str))) S = some (.dK (seenK ss)) := by rw [upd_ne nSW]; exact gS2
        have gW3 : (upd H2 W (.lst (ws'.map V.str))) W = some (.lst (ws'.map V.str)) := upd_same
        obtain ⟨H3, e3⟩ : ∃ G, upd H2 W (.lst (ws'.map V.str)) = G := ⟨_, rfl⟩
        rw [e3] at s4 gS3 gW3 ⊢
        refine ⟨_, rfl, _, rfl, S, _, rfl, DGet.k (k := .inr t) gS3, ?_⟩
        rw [seen_val]
        by_cases ht : t ∈ ss
        · rw [decide_eq_true ht]
          refine ⟨_, rfl, iteF ?_⟩
          exact ⟨_, by simp only [List.length_append, List.length_singleton]; exact Nat.lt_succ_self _, ss, ws', _, rfl, rfl, ⟨fun x hx => I.up x (hx.imp_right fun z => List.mem_append_left _ z), fun x hx l hl y hy => drop1 ht (I.cl x hx l hl y hy), fun l hl y hy => drop1 ht (I.st l hl y hy), I.nd, fun x hx => I.bw x (hx.imp_right fun z => List.mem_append_left _ z)⟩, by simp only [List.length_append, List.length_singleton] at hl; omega, s4, gS3, gW3⟩
        · rw [decide_eq_false ht]
          refine ⟨_, rfl, iteT ?_⟩
          refine ⟨_, rfl, _, rfl, S, _, rfl, DPut.k (k := .inr t) gS3 ?_, ?_⟩
          · rw [show (seenK ss).length = ss.length from List.length_map ..]
            exact small1000 (by omega)
          rw [seen_put ht]
          have s5 : Same H (upd H3 S (.dK (seenK (ss ++ [t])))) := same_D hS s4
          have gS4 : (upd H3 S (.dK (seenK (ss ++ [t])))) S = some (.dK (seenK (ss ++ [t]))) := upd_same
          have gW4 : (upd H3 S (.dK (seenK (ss ++ [t])))) W = some (.lst (ws'.map V.str)) := by rw [upd_ne (Ne.symm nSW)]; exact gW3
          obtain ⟨H4, e4⟩ : ∃ G, upd H3 S (.dK (seenK (ss ++ [t]))) = G := ⟨_, rfl⟩
          rw [e4] at s5 gS4 gW4 ⊢
          obtain ⟨a1, g1, t1⟩ := (hD.same s5).get elt
          have fw := ok.few _ _ elt
          refine ⟨_, rfl, .inl ⟨rfl, _, SqL.of gW4⟩, _, rfl, _, rfl, D, _, rfl, g1, W, a1, _, _, rfl, rfl, gW4, t1, ?_, ?_⟩
          · rw [List.length_map, List.length_map]
            simp only [List.length_append, List.length_singleton] at hl
            exact le_sz (by omega)
          · have I2 : AbvI bs n (ss ++ [t]) (ws' ++ lt) := I.step ht elt (fun y hy => ok.clo _ _ elt y hy)
            have f2 := I2.few
            refine ⟨_, ?_, ss ++ [t], ws' ++ lt, _, rfl, rfl, I2, ?_, same_D hW0 s5, ?_, ?_⟩
            · simp only [List.length_append, List.length_singleton] at f2 ⊢
              omega
            · simp only [List.length_append, List.length_singleton] at hl ⊢
              omega
            · rw [upd_ne nSW]; exact gS4
            · rw [upd_same, List.map_append]
end

end Kx
set_option linter.all false
namespace Kx
open PySem L2 PySem.Spec PyProof.Rows
/-! texts in rows -/
theorem inV_str {t : Str} : ∀ {l : List Str}, inV (.str t) (l.map V.str) = decide (t ∈ l)
  | [] => rfl
  | x :: l => by
    show (eqV (.str x) (.str t) || inV (.str t) (l.map V.str)) = _
    rw [inV_str, Bool.eq_iff_iff, Bool.or_eq_true, decide_eq_true_iff, decide_eq_true_iff, List.mem_cons]
    show (x == t) = true ∨ _ ↔ _
    rw [beq_iff_eq]
    exact ⟨fun h => h.imp_left Eq.symm, fun h => h.imp_left Eq.symm⟩
theorem eqv_strs : ∀ {l m : List Str}, PyData.eqvAll (l.map .str) (m.map .str) = decide (l = m)
  | [], [] => rfl
  | [], y :: m => rfl
  | x :: l, [] => rfl
  | x :: l, y :: m => by
    show ((x == y) && PyData.eqvAll (l.map .str) (m.map .str)) = _
    rw [eqv_strs, Bool.eq_iff_iff, Bool.and_eq_true, decide_eq_true_iff, decide_eq_true_iff, beq_iff_eq]
    exact ⟨fun ⟨a, b⟩ => by rw [a, b], fun h => by injection h with a b; exact ⟨a, b⟩⟩
def OkS (l : List Str) : Prop := ∀ t ∈ l, PyData.strOk t = true
theorem lay_strs : ∀ {l : List Str}, OkS l → PyData.canLayAll0 (l.map .str) = true ∧ PyData.depthAll (l.map .str) = 0
  | [], _ => ⟨rfl, rfl⟩
  | x :: l, h => by
    obtain ⟨a, b⟩ := lay_strs (l := l) fun t ht => h t (List.mem_cons_of_mem _ ht)
    refine ⟨?_, ?_⟩
    · show (PyData.canLay0 (.str x) && PyData.canLayAll0 (l.map .str)) = true
      rw [a, Bool.and_true]
      exact h x List.mem_cons_self
    · show max (PyData.depth (.str x)) (PyData.depthAll (l.map .str)) = 0
      rw [b]
      rfl
theorem shaped_strs {l : List Str} (h : OkS l) : SeqAt.shaped (.list (l.map .str)) = true := by
  obtain ⟨a, b⟩ := lay_strs h
  unfold SeqAt.shaped
  show (PyData.canLayAll0 (l.map .str) && decide (PyData.depthAll (l.map .str) + 1 ≤ 64)) = true
  rw [a, b]
  rfl
theorem dpAll_strs {K : PySem.W.Frag} {H : Hp} : ∀ {l : List Str}, DpAll K H (l.map V.str) (l.map .str)
  | [] => .nil
  | x :: l => .cons (.str x) dpAll_strs
/-- x != y of two lists of texts -/
theorem ne_strs {K : PySem.W.Frag} {H : Hp} {Q : VK} {a b : Addr} {l m : List Str} (o1 : OkS l) (o2 : OkS m) (h1 : SqL K H a (l.map V.str)) (h2 : SqL K H b (m.map V.str)) (q : Q (.bl (!decide (l = m))) H) : rNeD K (.ref a) (.ref b) H Q :=
  ⟨_, _, .lst h1 dpAll_strs, .lst h2 dpAll_strs, shaped_strs o1, shaped_strs o2, by rw [show PyData.eqv (.list (l.map .str)) (.list (m.map .str)) = PyData.eqvAll (l.map .str) (m.map .str) by rfl, eqv_strs]; exact q⟩
theorem at0 {x : V} {xs : List V} : atI (x :: xs) 0 = some x := by
  unfold atI ixN
  rw [if_pos (by decide), if_pos (by simp only [List.length_cons]; omega)]
  rfl
theorem cutV_lo {xs : List V} {k : Nat} (h : k ≤ xs.length) : cutV xs none (some (k : Int)) = xs.take k := by
  unfold cutV
  rw [HT.sIx_nat, HT.sIx_none, List.drop_zero, Nat.sub_zero, Nat.min_eq_left h]
theorem cutV_hi {xs : List V} {k : Nat} : cutV xs (some (k : Int)) none = xs.drop k := by
  unfold cutV
  rw [HT.sIx_nat, HT.sIx_none]
  by_cases h : k ≤ xs.length
  · rw [Nat.min_eq_left h, List.take_of_length_le]
    rw [List.length_drop]
    omega
  · rw [Nat.min_eq_right (by omega), List.drop_eq_nil_of_le (Nat.le_refl _), List.drop_eq_nil_of_le (by omega), List.take_nil]
/-- a list of lists of texts -/
def RowsAt (K : PySem.W.Frag) (H : Hp) (R : Addr) (rows : List (List Str)) : Prop := ∃ vs, SqL K H R vs ∧ Paired (fun v r => ∃ a, v = .ref a ∧ SqL K H a (r.map V.str)) vs rows
theorem RowsAt.same {K : PySem.W.Frag} {H H' : Hp} {R : Addr} {rows : List (List Str)} (s : Same H H') (h : RowsAt K H R rows) : RowsAt K H' R rows := by
  obtain ⟨vs, r, p⟩ := h
  exact ⟨vs, SqL.same s r, L2.Paired.mapP p fun v b ⟨a, e, q⟩ => ⟨a, e, SqL.same s q⟩⟩
def freeIn (rows : List (List Str)) (h : Str) : Bool := !rows.any fun o => decide (h ∈ o.drop 1)
def nextOf (rows : List (List Str)) : Option Str := (rows.find? fun r => freeIn rows (r.headD "")).map (·.headD "")
def osV : Option Str → V
  | none => .non
  | some t => .str t
def spNx (K : PySem.W.Frag) : Sp := fun vs H Q _ => ∃ (R : Addr) (rows : List (List Str)), vs = [.ref R] ∧ RowsAt K H R rows ∧ (∀ r ∈ rows, r ≠ []) ∧ rows.length ≤ 30 ∧ (∀ r ∈ rows, r.length ≤ 100) ∧ ∀ H', Same H H' → Q (osV (nextOf rows)) H'

abbrev sNx : Stmt := top 90
abbrev nNx : List Str := ["rows", "row", "other"]
theorem scNx : FnScope nNx ["rows"] (defScope sNx) := ⟨rfl, rfl, rfl, by decide +kernel, rfl, by decide +kernel, by decide +kernel⟩
section
variable {P : Program} {w : World} {K : PySem.W.Frag} {mg : Str → Option Value} {base : Heap}
theorem ok_nx {f : Addr} {fd : FuncData} (F : Fs K mg "_next_of" sNx ["rows"] f fd) (hany : mg "any" = none) : FnOk P w K mg base CX0 1 f fd ["rows"] (spNx K) := by
  refine F.F.ok scNx (fun vs H Q E h => ?_) (fun cdv A outer s H vs Q E hr h => ?_)
  · obtain ⟨R, rows, rfl, _⟩ := h
    rfl
  · obtain ⟨R, rows, rfl, hR, ne, l30, l100, q⟩ := h
    obtain ⟨vs, hv, hp⟩ := hR
    have hlen : vs.length = rows.length := Paired.length hp
    refine ⟨_, (pss_cons (ps_for PassesOwn.never rfl (pi_list (pv 0)) (pg_name (i := 1) scNx.nd rfl (Or.inr rfl)) (pss_one (ps_if (pt_not (pt_val (pe_callB (cr_any rfl) (by rfl) hany (by decide +kernel) (pa_cons (pe_lc (own := [("other", 2)]) (g := gName 2) (tt := tYes) rfl scNx.nd (pi_list (pv 0)) (blkOk_by (N := nNx) (sc := defScope sNx) (by decide +kernel)) (fun _ _ _ _ _ => (pg_name (i := 2) scNx.nd rfl (Or.inl rfl))) (fun _ _ _ _ _ => pts_nil) (fun _ _ _ _ _ => (pe_cmpR (op_in_seqK (K := K) rfl) (pe_ix (ix_listK (K := K) rfl) (pv 1) pe_int (fun _ _ => rfl)) (pe_slice (sl_listK (K := K) rfl) (pv 2) (po_some pe_int) po_none) (by with_unfolding_all rfl)))) pa_nil)))) (pss_one (ps_ret (pe_ix ix_list (pv 1) pe_int (fun _ _ => rfl)))) pss_nil))) (pss_one (ps_ret pe_non))), ?_⟩
    refine ⟨_, rfl, R, rfl, ⟨_, hv⟩, for_list (K := K) (a := R) (xs := vs) (fun i σ H' => ∃ v1 v2, σ = [some (.ref R), v1, v2] ∧ Same H H' ∧ ∀ j r, j < i → rows[j]? = some r → freeIn rows (r.headD "") = false) ⟨none, none, rfl, fun _ _ z => z, fun j _ z => absurd z (Nat.not_lt_zero _)⟩ (fun i σ H' _ ⟨_, _, _, s, _⟩ => SqL.same s hv) ?_ ?_⟩
    · rintro i x σ H' hi ⟨v1, v2, rfl, s1, hb⟩
      obtain ⟨r, er, a, rfl, ha⟩ := paired_get hp hi
      have hr0 := ne r (List.mem_of_getElem? er)
      obtain ⟨h0, r', rfl⟩ := List.exists_cons_of_ne_nil hr0
      refine ⟨_, rfl, R, rfl, ⟨_, SqL.same s1 hv⟩, fun D hD => ?_⟩
      refine lc_map (walk_list (xs := vs)) (fun j => .bl (decide (h0 ∈ (rows.getD j []).drop 1))) hD (by omega) (fun H2 s2 => SqL.same (s1.trans s2) hv) (fun j x H2 H3 RR hj s2 ⟨e2, hx⟩ k => ?_) fun H2 s2 gD => ?_
      · subst e2
        obtain ⟨o, eo, b, rfl, hb2⟩ := paired_get hp hx
        have eo2 : rows.getD j [] = o := by simp [List.getD, eo]
        have l1 := l100 o (List.mem_of_getElem? eo)
        refine ⟨rfl, _, rfl, a, _, _, .str h0, rfl, rfl, SqL.same (s1.trans s2) ha, at0, ?_⟩
        refine ⟨_, rfl, _, rfl, b, _, rfl, SqL.same (s1.trans s2) hb2, fun p hp2 => ?_⟩
        have e4 : cutV (o.map V.str) (some 1) none = (o.drop 1).map V.str := by rw [show (1 : Int) = ((1 : Nat) : Int) from rfl, cutV_hi, List.map_drop]
        rw [e4]
        refine ⟨p, _, rfl, .inl (SqL.of upd_same), rfl, flat_strs _, ?_⟩
        rw [inV_str]
        have := k _ (new_same (o := .lst ((o.drop 1).map V.str)) hp2)
        rw [eo2] at this
        exact this
      · refine ⟨D, (List.range rows.length).map fun j => decide (h0 ∈ (rows.getD j []).drop 1), rfl, SqL.of (by rw [gD, hlen, List.map_map]; rfl), _, rfl, ?_⟩
        rw [range_getD rows [] (fun o => decide (h0 ∈ o.drop 1))]
        have ef : ((rows.map fun o => decide (h0 ∈ o.drop 1)).any id) = !freeIn rows h0 := by unfold freeIn; rw [List.any_map, Bool.not_not]; rfl
        rw [ef]
        cases hf : freeIn rows h0 with
        | false =>
          refine iteF ⟨_, _, rfl, s1.trans s2, fun j r hj er2 => ?_⟩
          by_cases z : j = i
          · subst z; rw [er] at er2; cases er2; exact hf
          · exact hb j r (by omega) er2
        | true =>
          refine iteT ⟨_, rfl, a, _, _, .str h0, rfl, rfl, SqL.same (s1.trans s2) ha, at0, ?_⟩
          have e : nextOf rows = some h0 := by
            unfold nextOf
            have e5 : rows.find? (fun r => freeIn rows (r.headD "")) = some (h0 :: r') := by
              rw [List.find?_eq_some_iff_getElem]
              obtain ⟨hlt, eg⟩ := List.getElem?_eq_some_iff.mp er
              refine ⟨hf, i, hlt, eg, fun j hj => ?_⟩
              have hj2 : j < rows.length := by omega
              rw [hb j _ hj (List.getElem?_eq_getElem hj2)]
              rfl
            rw [e5]
            rfl
          have := q _ (s1.trans s2)
          rw [e] at this
          exact this
    · rintro σ H' ⟨v1, v2, rfl, s1, hb⟩
      have e : nextOf rows = none := by
        unfold nextOf
        rw [List.find?_eq_none.mpr]
        · rfl
        · intro r hr
          obtain ⟨j, hj, e⟩ := List.getElem_of_mem hr
          rw [hb j r (by rw [hlen]; exact hj) (by rw [List.getElem?_eq_getElem hj, e])]
          exact Bool.false_ne_true
      have := q H' s1
      rw [e] at this
      exact this
end

end Kx
set_option linter.all false
namespace Kx
open PySem L2 PySem.Spec PyProof.Rows
/-! rows merged -/
def stripR (t : Str) (rest : List (List Str)) : List (List Str) := (rest.filter fun r => !decide (r = [t])).map fun r => r.filter fun o => !decide (o = t)
def mergeF : Nat → List (List Str) → Option (List Str)
  | 0, _ => some []
  | k + 1, rest => if rest = [] then some [] else match nextOf rest with
    | none => none
    | some t => (mergeF k (stripR t rest)).map (t :: ·)
def tot (rest : List (List Str)) : Nat := (rest.map List.length).sum
def merged (rows : List (List Str)) : Option (List Str) := mergeF (tot (rows.filter fun r => !r.isEmpty) + 1) (rows.filter fun r => !r.isEmpty)
structure RowOk (r : List Str) : Prop where
  ne : r ≠ []
  nd : r.Nodup
  ok : OkS r
  len : r.length ≤ 100
theorem RowOk.strip {t : Str} {r : List Str} (h : RowOk r) (n : r ≠ [t]) : RowOk (r.filter fun o => !decide (o = t)) := by
  refine ⟨fun z => ?_, h.nd.filter _, fun x hx => h.ok x (List.mem_filter.mp hx).1, Nat.le_trans (List.length_filter_le _ _) h.len⟩
  have all : ∀ x ∈ r, x = t := fun x hx => by
    have := List.filter_eq_nil_iff.mp z x hx
    simpa using this
  obtain ⟨a, r', rfl⟩ := List.exists_cons_of_ne_nil h.ne
  have ha := all a List.mem_cons_self
  cases r' with
  | nil => exact n (by rw [ha])
  | cons b r'' =>
    have hb := all b (by simp)
    have := (List.nodup_cons.mp h.nd).1
    exact this (by rw [ha, hb]; exact List.mem_cons_self)
theorem next_mem {rest : List (List Str)} {t : Str} (h : nextOf rest = some t) : ∃ r ∈ rest, r.headD "" = t := by
  unfold nextOf at h
  obtain ⟨r, hr, e⟩ := Option.map_eq_some_iff.mp h
  exact ⟨r, List.mem_of_find?_eq_some hr, e⟩
theorem tot_strip {t : Str} : ∀ {rest : List (List Str)}, tot (stripR t rest) ≤ tot rest ∧ (∀ r ∈ rest, t ∈ r → tot (stripR t rest) < tot rest)
  | [] => ⟨Nat.le_refl _, fun r hr => nomatch hr⟩
  | r :: rest => by
    obtain ⟨h1, h2⟩ := tot_strip (t := t) (rest := rest)
    have hl := List.length_filter_le (fun o => !decide (o = t)) r
    have hlt : t ∈ r → (r.filter fun o => !decide (o = t)).length < r.length := fun hm => by
      refine Nat.lt_of_le_of_ne hl fun e => ?_
      have := List.length_filter_eq_length_iff.mp e t hm
      simp at this
    by_cases z : r = [t]
    · have e : tot (stripR t (r :: rest)) = tot (stripR t rest) := by unfold stripR; rw [List.filter_cons_of_neg (by simp [z])]
      have e2 : tot (r :: rest) = 1 + tot rest := by rw [z]; rfl
      rw [e, e2]
      exact ⟨by omega, fun _ _ _ => by omega⟩
    · have e : tot (stripR t (r :: rest)) = (r.filter fun o => !decide (o = t)).length + tot (stripR t rest) := by unfold stripR; rw [List.filter_cons_of_pos (by simp [z])]; rfl
      have e2 : tot (r :: rest) = r.length + tot rest := rfl
      rw [e, e2]
      refine ⟨by omega, fun r2 hr2 ht => ?_⟩
      rcases List.mem_cons.mp hr2 with rfl | hr2
      · have := hlt ht; omega
      · have := h2 r2 hr2 ht; omega
theorem tot_le : ∀ {rest : List (List Str)}, (∀ r ∈ rest, r.length ≤ 100) → tot rest ≤ 100 * rest.length
  | [], _ => Nat.le_refl _
  | r :: rest, h => by
    have h1 := tot_le (rest := rest) fun x hx => h x (List.mem_cons_of_mem _ hx)
    have h2 := h r List.mem_cons_self
    have e2 : tot (r :: rest) = r.length + tot rest := rfl
    rw [e2, List.length_cons]
    omega
theorem small1000' {n : Nat} (h : n ≤ 3001) : n < sizeLine := by rw [sizeLine_eq]; omega
def LstAt (K : PySem.W.Frag) (H : Hp) (v : V) (r : List Str) : Prop := ∃ a, v = .ref a ∧ SqL K H a (r.map V.str)
theorem LstAt.same {K : PySem.W.Frag} {H H' : Hp} {v : V} {r : List Str} (s : Same H H') : LstAt K H v r → LstAt K H' v r := fun ⟨a, e, q⟩ => ⟨a, e, SqL.same s q⟩
theorem paired_snoc {α β : Type} {R : α → β → Prop} : ∀ {xs : List α} {ys : List β} {x : α} {y : β}, Paired R xs ys → R x y → Paired R (xs ++ [x]) (ys ++ [y])
  | _, _, _, _, .nil, h => .cons h .nil
  | _, _, _, _, .cons a p, h => .cons a (paired_snoc p h)
theorem pmem {α β : Type} {R S : α → β → Prop} : ∀ {xs : List α} {ys : List β}, Paired R xs ys → (∀ x y, x ∈ xs → R x y → S x y) → Paired S xs ys
  | _, _, .nil, _ => .nil
  | _, _, .cons a p, h => .cons (h _ _ List.mem_cons_self a) (pmem p fun x y m => h x y (List.mem_cons_of_mem _ m))
theorem take_snoc {α : Type} {l : List α} {i : Nat} {x : α} (h : l[i]? = some x) : l.take (i + 1) = l.take i ++ [x] := by
  obtain ⟨hl, e⟩ := List.getElem?_eq_some_iff.mp h
  rw [List.take_succ_eq_append_getElem hl, e]
theorem strip_snoc {t : Str} {l : List (List Str)} {r : List Str} : stripR t (l ++ [r]) = stripR t l ++ (if r = [t] then [] else [r.filter fun o => !decide (o = t)]) := by
  unfold stripR
  rw [List.filter_append, List.map_append]
  congr 1
  by_cases z : r = [t]
  · simp [z]
  · simp [z]
/-- a list that stays as it is while M changes -/
def SqLN (K : PySem.W.Frag) (H : Hp) (M a : Addr) (xs : List V) : Prop := ∀ o, SqL K (upd H M o) a xs
theorem upd_upd {H : Hp} {M : Addr} {o o' : HO} : upd (upd H M o) M o' = upd H M o' := by
  funext b
  by_cases z : b = M
  · rw [z, upd_same, upd_same]
  · rw [upd_ne z, upd_ne z, upd_ne z]
theorem upd_self {H : Hp} {M : Addr} {o : HO} (h : H M = some o) : upd H M o = H := by
  funext b
  by_cases z : b = M
  · rw [z, upd_same, h]
  · rw [upd_ne z]
theorem SqLN.of {K : PySem.W.Frag} {H : Hp} {M a : Addr} {xs : List V} (hM : H M = none) (h : SqL K H a xs) : SqLN K H M a xs := fun o => SqL.same (new_same hM) h
theorem SqLN.same {K : PySem.W.Frag} {H H' : Hp} {M a : Addr} {xs : List V} (s : Same H H') (h : SqLN K H M a xs) : SqLN K H' M a xs := fun o => SqL.same (fun b u e => by
  by_cases z : b = M
  · rw [z, upd_same] at e ⊢; exact e
  · rw [upd_ne z] at e ⊢; exact s _ _ e) (h o)
theorem SqLN.at {K : PySem.W.Frag} {H : Hp} {M a : Addr} {xs : List V} {o : HO} (h : SqLN K H M a xs) (e : H M = some o) : SqL K H a xs := by
  have := h o
  rwa [upd_self e] at this
theorem SqLN.upd {K : PySem.W.Frag} {H : Hp} {M a : Addr} {xs : List V} {o : HO} (h : SqLN K H M a xs) : SqLN K (upd H M o) M a xs := fun o' => by
  rw [upd_upd]; exact h o'
theorem SqLN.new {K : PySem.W.Frag} {H : Hp} {M a : Addr} {xs : List V} (n : a ≠ M) (e : H a = some (.lst xs)) : SqLN K H M a xs := fun o => SqL.of (by rw [upd_ne n]; exact e)
def RowsN (K : PySem.W.Frag) (H : Hp) (M R : Addr) (rows : List (List Str)) : Prop := ∃ vs, SqLN K H M R vs ∧ Paired (fun v r => ∃ a, v = .ref a ∧ SqLN K H M a (r.map V.str)) vs rows
theorem RowsN.same {K : PySem.W.Frag} {H H' : Hp} {M R : Addr} {rows : List (List Str)} (s : Same H H') (h : RowsN K H M R rows) : RowsN K H' M R rows :=
  let ⟨vs, a, b⟩ := h; ⟨vs, a.same s, L2.Paired.mapP b fun _ _ ⟨a, e, q⟩ => ⟨a, e, q.same s⟩⟩
theorem RowsN.upd {K : PySem.W.Frag} {H : Hp} {M R : Addr} {rows : List (List Str)} {o : HO} (h : RowsN K H M R rows) : RowsN K (upd H M o) M R rows :=
  let ⟨vs, a, b⟩ := h; ⟨vs, a.upd, L2.Paired.mapP b fun _ _ ⟨a, e, q⟩ => ⟨a, e, q.upd⟩⟩
theorem RowsN.at {K : PySem.W.Frag} {H : Hp} {M R : Addr} {rows : List (List Str)} {o : HO} (h : RowsN K H M R rows) (e : H M = some o) : RowsAt K H R rows :=
  let ⟨vs, a, b⟩ := h; ⟨vs, a.at e, L2.Paired.mapP b fun _ _ ⟨a, e', q⟩ => ⟨a, e', q.at e⟩⟩
/-- what merging answers with -/
def spMg (K : PySem.W.Frag) : Sp := fun vs H Q _ => ∃ (R : Addr) (rows : List (List Str)), vs = [.ref R] ∧ RowsAt K H R rows ∧ (∀ r ∈ rows, r ≠ [] → RowOk r) ∧ rows.length ≤ 30 ∧
  (merged rows = none → ∀ H', Same H H' → Q .non H') ∧ ∀ l, merged rows = some l → ∀ M H', H M = none → Same H H' → H' M = some (.lst (l.map V.str)) → Q (.ref M) H'

abbrev sMg : Stmt := top 89
abbrev nMg : List Str := ["rows", "merged", "rest", "taken", "row", "one"]
theorem scMg : FnScope nMg ["rows"] (defScope sMg) := ⟨rfl, rfl, rfl, by decide +kernel, rfl, by decide +kernel, by decide +kernel⟩
def mgLc0 : Scope := match defBody sMg with
  | _ :: _ :: .While _ b _ _ :: _ => (match b.getLast? with
    | some (.Assign _ (.ListComp _ _ sc _) _) => sc
    | _ => defScope sMg)
  | _ => defScope sMg
def mgLc : Scope := relabel mgLc0 (envOfC "_merged" (defScope sMg) 0 0 .none)
section
variable {P : Program} {w : World} {K : PySem.W.Frag} {mg : Str → Option Value} {base : Heap}
theorem ok_mg {f g : Addr} {fd fdN : FuncData} (F : Fs K mg "_merged" sMg ["rows"] f fd) (dN : Fs K mg "_next_of" sNx ["rows"] g fdN) (hany : mg "any" = none) : FnOk P w K mg base CX0 2 f fd ["rows"] (spMg K) := by
  have GN : FnOk P w K mg base CX0 1 g fdN ["rows"] (spNx K) := ok_nx dN hany
  refine F.F.ok scMg (fun vs H Q E h => ?_) (fun cdv A outer s H vs Q E hr h => ?_)
  · obtain ⟨R, rows, rfl, _⟩ := h
    rfl
  · obtain ⟨R, rows, rfl, ⟨vs, hv, hp⟩, ok, l30, q0, q1⟩ := h
    have hlen : vs.length = rows.length := Paired.length hp
    refine ⟨_, (pss_cons (ps_set (i := 1) scMg.nd rfl (Or.inl rfl) (pe_lst pa_nil)) (pss_cons (ps_setLc (i := 2) (own := [("row", 4)]) (g := gName 4) rfl scMg.nd rfl rfl (sw_true rfl rfl rfl rfl) (pi_list (pv 0)) (blkOk_by (N := nMg) (sc := defScope sMg) (by decide +kernel)) (fun _ _ _ _ _ => (pg_name (i := 4) scMg.nd rfl (Or.inl rfl))) (fun _ _ _ _ _ => (pts_one (pt_truthK (K := K) rfl (pv 4) (by intro _; rfl)))) (fun _ _ _ _ _ => (pv 4))) (pss_cons (ps_while PassesOwn.never (pt_truth (pv 2) (by intro _; rfl)) (pss_cons (ps_set (i := 3) scMg.nd rfl (Or.inr rfl) (pe_call GN hr (by rfl) dN.m dN.F.kp dN.b .nil pass0 (pa_cons (pv 2) pa_nil))) (pss_cons (ps_if (pt_cmpR op_isN (pv 3) pe_non (nomark _)) (pss_one (ps_ret pe_non)) pss_nil) (pss_cons (ps_expr (pe_bm PySem.F.plainAttrs_list PySem.F.slot_list_append PySem.F.type_list_append mt_append (pv 1) (pa_cons (pv 3) pa_nil))) (pss_one (ps_setLc (i := 2) (own := [("row", 4)]) (g := gName 4) rfl scMg.nd rfl rfl (sw_true rfl rfl rfl rfl) (pi_list (pv 2)) (blkOk_by (N := nMg) (sc := defScope sMg) (by decide +kernel)) (fun _ _ _ _ _ => (pg_name (i := 4) scMg.nd rfl (Or.inl rfl))) (fun _ _ _ _ _ => (pts_one (pt_cmpR (op_neDK (K := K) rfl hr.units) (pv 4) (pe_lst (pa_cons (pv 3) pa_nil)) (nomark _)))) (fun _ _ _ _ _ => (pe_lc (own := [("one", 5)]) (g := gName 5) rfl scMg.nd (pi_listK (K := K) rfl (pv 4)) (blkOk_by (N := nMg) (sc := mgLc) (by decide +kernel)) (fun _ _ _ _ _ => (pg_name (i := 5) scMg.nd rfl (Or.inl rfl))) (fun _ _ _ _ _ => (pts_one (pt_cmpR op_ne (pv 5) (pv 3) (nomark _)))) (fun _ _ _ _ _ => (pv 5)))))))))) (pss_one (ps_ret (pv 1)))))), ?_⟩
    refine ⟨le_sz (Nat.le_of_ble_eq_true rfl), fun M hM => ?_⟩
    have s1 := new_same (o := .lst []) hM
    have gM : (upd H M (.lst [])) M = some (.lst []) := upd_same
    obtain ⟨H1, e1⟩ : ∃ G, upd H M (.lst []) = G := ⟨_, rfl⟩
    rw [e1] at s1 gM ⊢
    refine ⟨_, rfl, R, rfl, ⟨_, SqL.same s1 hv⟩, fun D hD => ?_⟩
    refine lc_it (walk_list (xs := vs)) (g := gName 4) (vs := [4]) (σ := [some (.ref R), some (.ref M), none, none, none, none]) (tt := fun σ H Q => tVar 4 σ H fun x H2 => ∃ k, TruV K x H2 k ∧ Q k H2) (te := tVar 4) (fun i H2 => Same H1 H2 ∧ ∃ acc, H2 D = some (.lst acc) ∧ acc.length ≤ i ∧ Paired (fun v r => ∃ a, v = .ref a ∧ SqLN K H1 M a (r.map V.str)) acc ((rows.take i).filter fun r => !r.isEmpty)) ⟨new_same hD, [], upd_same, Nat.le_refl _, .nil⟩ (fun i H2 _ h => SqL.same (s1.trans h.1) hv) ?_ ?_
    · rintro i x H2 H3 hi ⟨s2, acc, gD, la, pa⟩ ⟨rfl, hx⟩
      obtain ⟨r, er, a, rfl, ha⟩ := paired_get hp hx
      have ha3 : SqLN K H1 M a (r.map V.str) := (SqLN.of hM ha).same s1
      have ha2 := SqL.same s1 ha
      have ts := take_snoc er
      refine ⟨rfl, _, rfl, !(r.map V.str).isEmpty, .inl ⟨_, SqL.same s2 ha2, rfl⟩, ?_⟩
      by_cases z : r = []
      · subst z
        refine iteF ⟨s2, acc, gD, Nat.le_succ_of_le la, ?_⟩
        rw [ts, List.filter_append]
        simpa using pa
      · have zb : r.isEmpty = false := by cases r with | nil => exact absurd rfl z | cons _ _ => rfl
        rw [show (!(r.map V.str).isEmpty) = true by rw [List.isEmpty_map, zb]; rfl]
        refine iteT ⟨_, rfl, acc, gD, small1000 (by omega), same_D hD s2, _, upd_same, by rw [List.length_append]; simp only [List.length_singleton]; omega, ?_⟩
        rw [ts, List.filter_append, show [r].filter (fun r => !r.isEmpty) = [r] by simp [zb]]
        exact paired_snoc pa ⟨a, rfl, ha3⟩
    · rintro H2 ⟨s2, acc, gD, la, pa⟩
      rw [hlen, List.take_length] at pa
      have gM2 := s2 _ _ gM
      have nDM : D ≠ M := fun z => by rw [z, gM] at hD; cases hD
      have pa2 : Paired (fun v r => ∃ a, v = V.ref a ∧ SqLN K H2 M a (r.map V.str)) acc (rows.filter fun r => !r.isEmpty) := L2.Paired.mapP pa fun v r ⟨a, e, q⟩ => ⟨a, e, q.same s2⟩
      have rd : RowsN K H2 M D (rows.filter fun r => !r.isEmpty) := ⟨acc, .new nDM gD, pa2⟩
      refine ⟨fun m σ H' => ∃ R2 rest ms v3, σ = [some (.ref R), some (.ref M), some (.ref R2), v3, none, none] ∧ Same H H' ∧ H' M = some (.lst (ms.map V.str)) ∧ ms.length + m ≤ 3001 ∧ RowsN K H' M R2 rest ∧ (∀ r ∈ rest, RowOk r) ∧ rest.length ≤ 30 ∧ tot rest ≤ m ∧ merged rows = (mergeF m rest).map (ms ++ ·), ⟨_, D, _, [], none, rfl, s1.trans s2, gM2, ?_, rd, fun r hr => ?_, Nat.le_trans (List.length_filter_le _ _) l30, Nat.le_succ _, ?_⟩, ?_⟩
      · have h1 := tot_le (rest := rows.filter fun r => !r.isEmpty) fun r hr => by
          have := List.mem_filter.mp hr
          exact (ok r this.1 (fun z => by rw [z] at this; exact absurd this.2 (by decide))).len
        have h2 := List.length_filter_le (fun r : List Str => !r.isEmpty) rows
        show 0 + (tot _ + 1) ≤ 3001
        omega
      · have := List.mem_filter.mp hr
        exact ok r this.1 (fun z => by rw [z] at this; exact absurd this.2 (by decide))
      · unfold merged
        cases mergeF (tot (rows.filter fun r => !r.isEmpty) + 1) (rows.filter fun r => !r.isEmpty) <;> rfl
      · rintro m σ H3 ⟨R2, rest, ms, v3, rfl, s3, gM3, hms, rn, rok, rl, ht, hm⟩
        obtain ⟨vs2, hv2, hp2⟩ := id rn
        have hl2 : vs2.length = rest.length := Paired.length hp2
        refine ⟨_, rfl, !vs2.isEmpty, .inl ⟨_, hv2.at gM3, rfl⟩, ?_⟩
        cases rest with
        | nil =>
          have : vs2 = [] := List.eq_nil_of_length_eq_zero hl2
          subst this
          refine iteF ⟨_, rfl, ?_⟩
          refine q1 ms ?_ M H3 hM s3 gM3
          rw [hm]
          cases m with
          | zero => simp [mergeF]
          | succ k => simp [mergeF]
        | cons r0 rest' =>
          have nv : vs2.isEmpty = false := by cases vs2 with | nil => simp at hl2 | cons _ _ => rfl
          rw [nv]
          have hr0 := rok r0 List.mem_cons_self
          have hpos : 0 < tot (r0 :: rest') := by
            have : 0 < r0.length := List.length_pos_iff.mpr hr0.ne
            show 0 < r0.length + _
            omega
          obtain ⟨k, rfl⟩ : ∃ k, m = k + 1 := ⟨m - 1, by omega⟩
          refine iteT ⟨fun σ' H' => ∃ R2 rest ms v3, σ' = [some (.ref R), some (.ref M), some (.ref R2), v3, none, none] ∧ Same H H' ∧ H' M = some (.lst (ms.map V.str)) ∧ ms.length + k ≤ 3001 ∧ RowsN K H' M R2 rest ∧ (∀ r ∈ rest, RowOk r) ∧ rest.length ≤ 30 ∧ tot rest ≤ k ∧ merged rows = (mergeF k rest).map (ms ++ ·), fun σ' H' z => ⟨k, Nat.lt_succ_self _, z⟩, ?_⟩
          refine ⟨_, rfl, R2, _, rfl, rn.at gM3, fun r hr => (rok r hr).ne, rl, fun r hr => (rok r hr).len, fun H4 s4 => ?_⟩
          refine ⟨_, rfl, rfl, _, rfl, ?_⟩
          cases hn : nextOf (r0 :: rest') with
          | none =>
            refine iteT ?_
            exact q0 (by rw [hm]; simp [mergeF, hn]) H4 (s3.trans s4)
          | some t =>
            refine iteF ?_
            have gM4 := s4 _ _ gM3
            refine ⟨_, rfl, .inl ⟨rfl, _, SqL.of gM4⟩, _, rfl, M, _, _, rfl, rfl, gM4, small1000' (by rw [List.length_map]; omega), ?_⟩
            have e5 : upd H4 M (.lst (ms.map V.str ++ [osV (some t)])) = upd H4 M (.lst ((ms ++ [t]).map V.str)) := by rw [List.map_append]; rfl
            rw [e5]
            have s5 : Same H (upd H4 M (.lst ((ms ++ [t]).map V.str))) := same_D hM (s3.trans s4)
            have gM5 : (upd H4 M (.lst ((ms ++ [t]).map V.str))) M = some (.lst ((ms ++ [t]).map V.str)) := upd_same
            have rn5 := (rn.same s4).upd (o := .lst ((ms ++ [t]).map V.str))
            obtain ⟨H5, e6⟩ : ∃ G, upd H4 M (.lst ((ms ++ [t]).map V.str)) = G := ⟨_, rfl⟩
            rw [e6] at s5 gM5 rn5 ⊢
            obtain ⟨vs5, hv5, hp5⟩ := id rn5
            have hl5 : vs5.length = (r0 :: rest').length := Paired.length hp5
            refine ⟨_, rfl, R2, rfl, ⟨_, hv5.at gM5⟩, fun D2 hD2 => ?_⟩
            have nD2 : D2 ≠ M := fun z => by rw [z, gM5] at hD2; cases hD2
            have okt : OkS [t] := by
              obtain ⟨r, hr, e⟩ := next_mem hn
              obtain ⟨x, r', rfl⟩ := List.exists_cons_of_ne_nil (rok r hr).ne
              intro y hy
              rw [List.mem_singleton.mp hy, ← e]
              exact (rok _ hr).ok _ List.mem_cons_self
            refine lc_it (walk_list (xs := vs5)) (g := gName 4) (vs := [4]) (σ := [some (.ref R), some (.ref M), some (.ref R2), some (.str t), none, none]) (tt := tTest (tOp (rNeD K) (tVar 4) (tLst (tCons (tVar 3) tNil)))) (te := tLc (iList K (tVar 4)) (gName 5) (tTest (tOp rNe (tVar 5) (tVar 3))) (tVar 5) [5]) (fun i H6 => Same H5 H6 ∧ ∃ acc, H6 D2 = some (.lst acc) ∧ acc.length ≤ i ∧ (∀ v ∈ acc, v ≠ .ref D2) ∧ Paired (fun v r => ∃ a, v = V.ref a ∧ a ≠ M ∧ H6 a = some (.lst (r.map V.str))) acc (stripR t ((r0 :: rest').take i))) ⟨new_same hD2, [], upd_same, Nat.le_refl _, fun _ z => (nomatch z), .nil⟩ (fun i H6 _ h => SqL.same h.1 (hv5.at gM5)) ?_ ?_
            · rintro i x H6 H7 hi ⟨s6, acc6, gD6, la6, nn6, pa6⟩ ⟨rfl, hx⟩
              obtain ⟨r, er, a, rfl, ha⟩ := paired_get hp5 hx
              have rk := rok r (List.mem_of_getElem? er)
              have ts := take_snoc er
              refine ⟨rfl, _, rfl, ⟨_, rfl, le_sz (Nat.le_of_ble_eq_true rfl), fun p hp6 => ?_⟩⟩
              have sp := s6.trans (new_same (o := .lst [V.str t]) hp6)
              have sp0 := new_same (o := .lst [V.str t]) hp6
              have gp : (upd H7 p (.lst [V.str t])) p = some (.lst [V.str t]) := upd_same
              have haK := SqL.same sp (ha.at gM5)
              show rNeD K (V.ref a) (V.ref p) (upd H7 p (.lst [V.str t])) _
              obtain ⟨H8, e8⟩ : ∃ G, upd H7 p (.lst [V.str t]) = G := ⟨_, rfl⟩
              rw [e8] at sp sp0 gp haK ⊢
              have gD8 := sp0 _ _ gD6
              refine ne_strs (m := [t]) rk.ok okt haK (SqL.of gp) ⟨_, rfl, ?_⟩
              by_cases z : r = [t]
              · rw [decide_eq_true z]
                refine iteF ⟨sp, acc6, gD8, by omega, nn6, ?_⟩
                rw [ts, strip_snoc, if_pos z, List.append_nil]
                exact L2.Paired.mapP pa6 fun v r ⟨a, e, n, q⟩ => ⟨a, e, n, sp0 _ _ q⟩
              · rw [decide_eq_false z]
                refine iteT ⟨_, rfl, a, rfl, ⟨_, haK⟩, fun D3 hD3 => ?_⟩
                refine lc_it (walk_list (xs := r.map V.str)) (g := gName 5) (vs := [5]) (σ := [some (.ref R), some (.ref M), some (.ref R2), some (.str t), some (.ref a), none]) (tt := tTest (tOp rNe (tVar 5) (tVar 3))) (te := tVar 5) (fun j H9 => Same H8 H9 ∧ H9 D3 = some (.lst (((r.take j).filter fun o => !decide (o = t)).map V.str))) ⟨new_same hD3, upd_same⟩ (fun i H9 _ h => SqL.same h.1 haK) ?_ ?_
                · rintro j y H9 H10 hj ⟨s9, gD9⟩ ⟨rfl, hy⟩
                  obtain ⟨o, eo, rfl⟩ : ∃ o, r[j]? = some o ∧ y = V.str o := by
                    rw [List.getElem?_map] at hy
                    cases e : r[j]? with
                    | none => rw [e] at hy; cases hy
                    | some o => rw [e] at hy; exact ⟨o, rfl, (Option.some.inj hy).symm⟩
                  have ts2 := take_snoc eo
                  refine ⟨rfl, _, rfl, _, rfl, rfl, _, rfl, ?_⟩
                  by_cases y2 : o = t
                  · rw [decide_eq_true (by rw [y2])]
                    refine iteF ⟨s9, ?_⟩
                    rw [ts2, List.filter_append, show [o].filter (fun o => !decide (o = t)) = [] by simp [y2], List.append_nil]
                    exact gD9
                  · rw [decide_eq_false (fun e => y2 (by injection e))]
                    refine iteT ⟨_, rfl, _, gD9, small1000 ?_, same_D hD3 s9, ?_⟩
                    · rw [List.length_map]
                      exact Nat.le_trans (List.length_filter_le _ _) (by rw [List.length_take]; have := rk.len; omega)
                    · rw [upd_same, ts2, List.filter_append, show [o].filter (fun o => !decide (o = t)) = [o] by simp [y2], List.map_append]
                      rfl
                · rintro H9 ⟨s9, gD9⟩
                  rw [List.length_map, List.take_length] at gD9
                  have gD9b := s9 _ _ gD8
                  have n32 : D3 ≠ D2 := fun z => by rw [z, gD8] at hD3; cases hD3
                  have n3M : D3 ≠ M := fun z => by rw [z, sp _ _ gM5] at hD3; cases hD3
                  refine ⟨acc6, gD9b, small1000 (by have := List.length_take_le i (r0 :: rest'); omega), same_D hD2 (sp.trans s9), _, upd_same, by rw [List.length_append]; simp only [List.length_singleton]; omega, ?_, ?_⟩
                  · intro v hv
                    rcases List.mem_append.mp hv with h | h
                    · exact nn6 v h
                    · rw [List.mem_singleton.mp h]
                      exact fun z => n32 (by injection z)
                  · rw [ts, strip_snoc, if_neg z]
                    refine paired_snoc (pmem pa6 fun v r hv ⟨a, e, n, q⟩ => ⟨a, e, n, ?_⟩) ⟨D3, rfl, n3M, ?_⟩
                    · rw [upd_ne (fun z => nn6 v hv (by rw [e, z]))]
                      exact s9 _ _ (sp0 _ _ q)
                    · rw [upd_ne n32]; exact gD9
            · rintro H6 ⟨s6, acc6, gD6, la6, nn6, pa6⟩
              rw [hl5, List.take_length] at pa6
              have hlt : tot (stripR t (r0 :: rest')) < tot (r0 :: rest') := by
                obtain ⟨r, hr, e⟩ := next_mem hn
                obtain ⟨x, r', rfl⟩ := List.exists_cons_of_ne_nil (rok r hr).ne
                exact tot_strip.2 _ hr (by rw [← e]; exact List.mem_cons_self)
              refine ⟨D2, stripR t (r0 :: rest'), ms ++ [t], _, rfl, s5.trans s6, s6 _ _ gM5, by rw [List.length_append]; simp only [List.length_singleton]; omega, ⟨acc6, .new nD2 gD6, L2.Paired.mapP pa6 fun v r ⟨a, e, n, q⟩ => ⟨a, e, .new n q⟩⟩, fun r hr => ?_, ?_, by omega, ?_⟩
              · unfold stripR at hr
                obtain ⟨r2, h2, e⟩ := List.mem_map.mp hr
                obtain ⟨h3, h4⟩ := List.mem_filter.mp h2
                rw [← e]
                exact (rok r2 h3).strip (by simpa using h4)
              · unfold stripR
                rw [List.length_map]
                exact Nat.le_trans (List.length_filter_le _ _) rl
              · rw [hm]
                have e9 : mergeF (k + 1) (r0 :: rest') = (mergeF k (stripR t (r0 :: rest'))).map (t :: ·) := by
                  show (if (r0 :: rest') = [] then _ else _) = _
                  rw [if_neg (by simp), hn]
                rw [e9, Option.map_map]
                congr 1
                funext l
                simp
end

end Kx
set_option linter.all false
namespace Kx
open PySem L2 PySem.Spec PyProof.Rows
abbrev sPut : Stmt := top 88
abbrev nPut : List Str := ["bases", "name", "orders", "base", "rows", "behind"]
theorem scPut : FnScope nPut ["bases", "name", "orders"] (defScope sPut) := ⟨rfl, rfl, rfl, by decide +kernel, rfl, by decide +kernel, by decide +kernel⟩
abbrev sAllO : Stmt := top 87
abbrev nAllO : List Str := ["bases", "orders", "name"]
theorem scAllO : FnScope nAllO ["bases"] (defScope sAllO) := ⟨rfl, rfl, rfl, by decide +kernel, rfl, by decide +kernel, by decide +kernel⟩
/-! the orders of all classes -/
abbrev Ord := Str → Option (List Str)
def ordStep (o : Ord) (n : Str) (l : List Str) : Option (List Str) :=
  if (l.map o).any Option.isNone = true then none else (merged ((l.map fun b => (o b).getD []) ++ [l])).map (n :: ·)
structure OrdOk (bs : Bs) (o : Ord) (rk : Str → Nat) : Prop where
  eq : ∀ n l, look bs n = some l → o n = ordStep o n l
  ok : ∀ n l, o n = some l → RowOk l
  nd : ∀ n l, look bs n = some l → l ≠ [] → RowOk l
  rk : ∀ n l, look bs n = some l → ∀ y ∈ l, rk y < rk n
  nm : ∀ n, (look bs n).isSome → PyData.strOk n = true
def ValO (K : PySem.W.Frag) (H : Hp) (v : V) : Option (List Str) → Prop
  | none => v = .non
  | some l => ∃ a, v = .ref a ∧ SqL K H a (l.map V.str)
theorem ValO.same {K : PySem.W.Frag} {H H' : Hp} {v : V} {r : Option (List Str)} (s : Same H H') (h : ValO K H v r) : ValO K H' v r := by
  cases r with
  | none => exact h
  | some l => obtain ⟨a, e, q⟩ := h; exact ⟨a, e, SqL.same s q⟩
theorem SqL.updK {K : PySem.W.Frag} {H : Hp} {O a : Addr} {kvs : List (Key × V)} {o : HO} {xs : List V} (hO : H O = some (.dK kvs)) (h : SqL K H a xs) : SqL K (upd H O o) a xs := by
  rcases h with (h | ⟨z, h⟩) | h
  · exact .inl (.inl (by rw [upd_ne (fun e => by rw [e, hO] at h; cases h)]; exact h))
  · exact .inl (.inr ⟨z, by rw [upd_ne (fun e => by rw [e, hO] at h; cases h)]; exact h⟩)
  · exact .inr h
theorem ValO.updK {K : PySem.W.Frag} {H : Hp} {O : Addr} {kvs : List (Key × V)} {o : HO} {v : V} {r : Option (List Str)} (hO : H O = some (.dK kvs)) (h : ValO K H v r) : ValO K (upd H O o) v r := by
  cases r with
  | none => exact h
  | some l => obtain ⟨a, e, q⟩ := h; exact ⟨a, e, SqL.updK hO q⟩
/-- a dict from some names to their orders -/
def EntO (K : PySem.W.Frag) (H : Hp) (o : Ord) (kvs : List (Key × V)) (ns : List Str) : Prop := Paired (fun (kv : Key × V) n => kv.1 = .inr n ∧ ValO K H kv.2 (o n)) kvs ns
theorem entO_look {K : PySem.W.Frag} {H : Hp} {o : Ord} {n : Str} : ∀ {kvs : List (Key × V)} {ns : List Str}, EntO K H o kvs ns → ((valV kvs (.inr n)).isSome = decide (n ∈ ns)) ∧ (n ∈ ns → ∃ v, valV kvs (.inr n) = some v ∧ ValO K H v (o n))
  | _, _, .nil => ⟨rfl, fun h => nomatch h⟩
  | kv :: kvs, m :: ns, .cons ⟨e, q⟩ r => by
    obtain ⟨h1, h2⟩ := entO_look (n := n) r
    by_cases z : m = n
    · subst z
      have ev : valV (kv :: kvs) (.inr m) = some kv.2 := valV_pos e
      rw [ev, decide_eq_true List.mem_cons_self]
      exact ⟨rfl, fun _ => ⟨_, rfl, q⟩⟩
    · have ev : valV (kv :: kvs) (.inr n) = valV kvs (.inr n) := valV_neg (by rw [e]; intro y; injection y with y; exact z y)
      rw [ev, h1, decide_eq_decide]
      exact ⟨⟨List.mem_cons_of_mem _, fun h => (List.mem_cons.mp h).resolve_left (fun y => z y.symm)⟩, fun h => h2 ((List.mem_cons.mp h).resolve_left (fun y => z y.symm))⟩
theorem entO_map {K : PySem.W.Frag} {H : Hp} {o : Ord} {n : Str} {v : V} (hv : ValO K H v (o n)) : ∀ {kvs : List (Key × V)} {ns : List Str}, EntO K H o kvs ns → EntO K H o (kvs.map fun kv => if kv.1 = .inr n then (kv.1, v) else kv) ns
  | _, _, .nil => .nil
  | kv :: kvs, m :: ns, .cons ⟨e, q⟩ r => by
    refine .cons ?_ (entO_map hv r)
    dsimp only
    by_cases z : kv.1 = .inr n
    · rw [if_pos z]
      rw [e] at z
      injection z with z
      subst z
      exact ⟨e, hv⟩
    · rw [if_neg z]
      exact ⟨e, q⟩
theorem entO_put {K : PySem.W.Frag} {H : Hp} {o : Ord} {kvs : List (Key × V)} {ns : List Str} {n : Str} {v : V} (h : EntO K H o kvs ns) (hv : ValO K H v (o n)) : EntO K H o (putK kvs (.inr n) v) (if n ∈ ns then ns else ns ++ [n]) := by
  unfold putK
  by_cases hn : n ∈ ns
  · rw [if_pos hn, if_pos]
    · exact entO_map hv h
    · obtain ⟨i, hi, e⟩ := List.getElem_of_mem hn
      have hl : kvs.length = ns.length := Paired.length h
      obtain ⟨m, em, e3, _⟩ := paired_get h (List.getElem?_eq_getElem (by omega : i < kvs.length))
      rw [List.getElem?_eq_getElem hi, e] at em
      cases em
      exact List.any_eq_true.mpr ⟨_, List.getElem_mem (by omega : i < kvs.length), decide_eq_true e3⟩
  · rw [if_neg hn, if_neg]
    · exact paired_snoc h ⟨rfl, hv⟩
    · intro z
      obtain ⟨kv, hk, e⟩ := List.any_eq_true.mp z
      have e := of_decide_eq_true e
      obtain ⟨i, hi, e2⟩ := List.getElem_of_mem hk
      obtain ⟨m, em, e3, _⟩ := paired_get h (show kvs[i]? = some kv by rw [List.getElem?_eq_getElem hi, e2])
      rw [e3] at e
      injection e with e
      exact hn (by rw [← e]; exact List.mem_of_getElem? em)
def dO : Option (List Str) → PyData
  | none => .none
  | some l => .list (l.map .str)
theorem ValO.dp {K : PySem.W.Frag} {H : Hp} {v : V} {r : Option (List Str)} (h : ValO K H v r) : Dp K H v (dO r) := by
  cases r with
  | none => rw [show v = .non from h]; exact .non
  | some l => obtain ⟨a, rfl, q⟩ := h; exact .lst q dpAll_strs
theorem dpAll_map {K : PySem.W.Frag} {H : Hp} {α : Type} {f : α → V} {g : α → PyData} : ∀ {l : List α}, (∀ x ∈ l, Dp K H (f x) (g x)) → DpAll K H (l.map f) (l.map g)
  | [], _ => .nil
  | x :: l, h => .cons (h x List.mem_cons_self) (dpAll_map fun y hy => h y (List.mem_cons_of_mem _ hy))
theorem shaped_O {o : Ord} (h : ∀ n l, o n = some l → OkS l) : ∀ {l : List Str}, PyData.canLayAll0 (l.map fun b => dO (o b)) = true ∧ PyData.depthAll (l.map fun b => dO (o b)) ≤ 1
  | [] => ⟨rfl, Nat.zero_le _⟩
  | x :: l => by
    obtain ⟨a, b⟩ := shaped_O h (l := l)
    refine ⟨?_, ?_⟩
    · show (PyData.canLay0 (dO (o x)) && PyData.canLayAll0 (l.map fun b => dO (o b))) = true
      rw [a, Bool.and_true]
      cases e : o x with
      | none => rfl
      | some r => exact (lay_strs (h _ _ e)).1
    · show max (PyData.depth (dO (o x))) (PyData.depthAll (l.map fun b => dO (o b))) ≤ 1
      refine Nat.max_le.mpr ⟨?_, b⟩
      cases e : o x with
      | none => exact Nat.zero_le _
      | some r => show PyData.depthAll (r.map .str) + 1 ≤ 1; rw [(lay_strs (h _ _ e)).2]; decide
theorem any_none {o : Ord} : ∀ {l : List Str}, ((l.map fun b => dO (o b)).any fun z => PyData.eqv z .none) = (l.map o).any Option.isNone
  | [] => rfl
  | x :: l => by
    show (PyData.eqv (dO (o x)) .none || _) = (Option.isNone (o x) || _)
    rw [any_none]
    cases o x <;> rfl
theorem pair_map {α β γ : Type} {R : β → γ → Prop} {f : α → β} {g : α → γ} : ∀ {l : List α}, (∀ x ∈ l, R (f x) (g x)) → Paired R (l.map f) (l.map g)
  | [], _ => .nil
  | x :: l, h => .cons (h x List.mem_cons_self) (pair_map fun y hy => h y (List.mem_cons_of_mem _ hy))
def OrdAt (K : PySem.W.Frag) (H : Hp) (O : Addr) (o : Ord) (ns : List Str) : Prop := ∃ kvs, H O = some (.dK kvs) ∧ EntO K H o kvs ns
theorem OrdAt.same {K : PySem.W.Frag} {H H' : Hp} {O : Addr} {o : Ord} {ns : List Str} (s : Same H H') (h : OrdAt K H O o ns) : OrdAt K H' O o ns := by
  obtain ⟨kvs, a, b⟩ := h
  exact ⟨kvs, s _ _ a, L2.Paired.mapP b fun _ _ ⟨e, q⟩ => ⟨e, q.same s⟩⟩
theorem SqT.keepK {K : PySem.W.Frag} {H H' : Hp} {a O : Addr} {kvs : List (Key × V)} {xs : List V} (hO : H O = some (.dK kvs)) (s : KeepB O H H') (h : SqT K H a xs) : SqT K H' a xs := by
  rcases h with (h | ⟨z, h⟩) | h
  · exact .inl (.inl (s _ _ (fun e => by rw [e, hO] at h; cases h) h))
  · exact .inl (.inr ⟨z, s _ _ (fun e => by rw [e, hO] at h; cases h) h⟩)
  · exact .inr h
theorem SqL.updF {K : PySem.W.Frag} {H : Hp} {D a : Addr} {kvs : List (Key × V)} {od : Obj} {o : HO} {xs : List V} (hD : H D = some (.frz od (.dK kvs))) (h : SqL K H a xs) : SqL K (upd H D o) a xs := by
  rcases h with (h | ⟨z, h⟩) | h
  · exact .inl (.inl (by rw [upd_ne (fun e => by rw [e, hD] at h; cases h)]; exact h))
  · exact .inl (.inr ⟨z, by rw [upd_ne (fun e => by rw [e, hD] at h; cases h)]; exact h⟩)
  · exact .inr h
theorem ValO.updF {K : PySem.W.Frag} {H : Hp} {D : Addr} {kvs : List (Key × V)} {od : Obj} {o : HO} {v : V} {r : Option (List Str)} (hD : H D = some (.frz od (.dK kvs))) (h : ValO K H v r) : ValO K (upd H D o) v r := by
  cases r with
  | none => exact h
  | some l => obtain ⟨a, e, q⟩ := h; exact ⟨a, e, SqL.updF hD q⟩
theorem look_of {K : PySem.W.Frag} {H : Hp} {kvs : List (Key × V)} {bs : Bs} (p : Paired (fun (kv : Key × V) (b : Str × List Str) => kv.1 = .inr b.1 ∧ ∃ a, kv.2 = .ref a ∧ SqT K H a (b.2.map V.str)) kvs bs) {i : Nat} {k : Key} {v : V} (h : kvs[i]? = some (k, v)) : ∃ n, k = .inr n ∧ bs[i]?.map (·.1) = some n ∧ (look bs n).isSome := by
  obtain ⟨b, eb, e1, _⟩ := paired_get p h
  refine ⟨b.1, e1, by rw [eb]; rfl, ?_⟩
  unfold look
  rw [Option.isSome_map, List.find?_isSome]
  exact ⟨b, List.mem_of_getElem? eb, decide_eq_true rfl⟩
theorem BasesAt.keep {K : PySem.W.Frag} {H H' : Hp} {D O : Addr} {kvs : List (Key × V)} {bs : Bs} (n : D ≠ O) (hO : H O = some (.dK kvs)) (s : KeepB O H H') (h : BasesAt K H D bs) : BasesAt K H' D bs := by
  obtain ⟨ks, r, p⟩ := h
  refine ⟨ks, r.imp (fun e => s _ _ n e) fun ⟨o, e⟩ => ⟨o, s _ _ n e⟩, L2.Paired.mapP p fun kv b ⟨e, a, e2, q⟩ => ⟨e, a, e2, ?_⟩⟩
  rcases q with (h | ⟨z, h⟩) | h
  · exact .inl (.inl (s _ _ (fun e => by rw [e, hO] at h; cases h) h))
  · exact .inl (.inr ⟨z, s _ _ (fun e => by rw [e, hO] at h; cases h) h⟩)
  · exact .inr h
def spPut (K : PySem.W.Frag) (n : Nat) : Sp := fun vs H Q _ => ∃ (D O : Addr) (bs : Bs) (o : Ord) (rk : Str → Nat) (nm : Str) (ns : List Str), vs = [.ref D, .str nm, .ref O] ∧ D ≠ O ∧ BasesAt K H D bs ∧ BsOk bs ∧ OrdOk bs o rk ∧ (look bs nm).isSome ∧ rk nm < n ∧ OrdAt K H O o ns ∧ ns.Nodup ∧ (∀ x ∈ ns, (look bs x).isSome) ∧
  ∀ H' ns', OrdAt K H' O o ns' → ns'.Nodup → (∀ x ∈ ns', (look bs x).isSome) → (∀ x ∈ ns, x ∈ ns') → nm ∈ ns' → KeepB O H H' → Q .non H'

section
variable {P : Program} {w : World} {K : PySem.W.Frag} {mg : Str → Option Value} {base : Heap}
theorem ok_put0 {f : Addr} {fd : FuncData} (dP : Fs K mg "_put_order" sPut ["bases", "name", "orders"] f fd) : FnOk P w K mg base CX0 3 f fd ["bases", "name", "orders"] (spPut K 0) := by
  refine dP.F.ok scPut (fun vs H Q E h => ?_) (fun cdv A outer s H vs Q E hr h => ?_)
  · obtain ⟨_, _, _, _, _, _, _, _, _, _, _, _, _, hz, _⟩ := h
    exact absurd hz (Nat.not_lt_zero _)
  · obtain ⟨_, _, _, _, _, _, _, _, _, _, _, _, _, hz, _⟩ := h
    exact absurd hz (Nat.not_lt_zero _)
theorem ok_putS {n : Nat} {f g g2 : Addr} {fd fdM fdN : FuncData} (dP : Fs K mg "_put_order" sPut ["bases", "name", "orders"] f fd) (dM : Fs K mg "_merged" sMg ["rows"] g fdM) (dN : Fs K mg "_next_of" sNx ["rows"] g2 fdN) (hany : mg "any" = none) (ls : mg "list" = none)
    (GP : FnOk P w K mg base CX0 (3 + n) f fd ["bases", "name", "orders"] (spPut K n)) : FnOk P w K mg base CX0 (3 + (n + 1)) f fd ["bases", "name", "orders"] (spPut K (n + 1)) := by
  have GM : FnOk P w K mg base CX0 2 g fdM ["rows"] (spMg K) := ok_mg dM dN hany
  refine dP.F.ok scPut (fun vs H Q E h => ?_) (fun cdv A outer s H vs Q E hr h => ?_)
  · obtain ⟨_, _, _, _, _, _, _, rfl, _⟩ := h
    rfl
  · obtain ⟨D, O, bs, o, rk, nm, ns, rfl, nDO, hD, hB, hK, hn, hrk, hO, hnd, hin, q⟩ := h
    have hrn : Room (3 + n) (A.deeper (envOfC "_put_order" (defScope sPut) s.heap.objs.size f cdv)) := hr.mono (show 3 + n ≤ Nat.add 3 n from Nat.le_refl _)
    have hr2 : Room 2 (A.deeper (envOfC "_put_order" (defScope sPut) s.heap.objs.size f cdv)) := hr.mono (show 2 ≤ 3 + n by omega)
    have hu := hu_of hr2
    have hu65 : (A.deeper (envOfC "_put_order" (defScope sPut) s.heap.objs.size f cdv)).units + 65 < cLine := by have := hr2.un; omega
    refine ⟨_, (pss_cons (ps_if (pt_cmp (pc_din hu (pv 1) (pv 2)) (by with_unfolding_all rfl)) (pss_one ps_retN) pss_nil) (pss_cons (ps_for PassesOwn.never rfl (pi_tup (pe_dget hu (pv 0) (pv 1) (fun _ _ => rfl))) (pg_name (i := 3) scPut.nd rfl (Or.inl rfl)) (pss_one (ps_expr (pe_call GP hrn (by rfl) dP.m dP.F.kp dP.b .nil pass0 (pa_cons (pv 0) (pa_cons (pv 3) (pa_cons (pv 2) pa_nil))))))) (pss_cons (ps_setLc (i := 4) (own := [("base", 3)]) (g := gName 3) (tt := tYes) rfl scPut.nd rfl rfl (sw_true rfl rfl rfl rfl) (pi_tup (pe_dget hu (pv 0) (pv 1) (fun _ _ => rfl))) (blkOk_by (N := nPut) (sc := defScope sPut) (by decide +kernel)) (fun _ _ _ _ _ => (pg_name (i := 3) scPut.nd rfl (Or.inl rfl))) (fun _ _ _ _ _ => pts_nil) (fun _ _ _ _ _ => (pe_dget hu (pv 2) (pv 3) (fun _ _ => rfl)))) (pss_cons (ps_set (i := 5) scPut.nd rfl (Or.inl rfl) (pe_ifExp (pt_cmpR (op_inD hu65) pe_non (pv 4) (by with_unfolding_all rfl)) pe_non (pe_call GM hr2 (by rfl) dM.m dM.F.kp dM.b .nil pass0 (pa_cons (pe_op op_cat (pv 4) (pe_lst (pa_cons (pe_callTy call_list_of (by rfl) ls (by decide +kernel) (pa_cons (pe_dget hu (pv 0) (pv 1) (fun _ _ => rfl)) pa_nil)) pa_nil))) pa_nil)))) (pss_one (ps_asg (pe_ifExp (pt_cmpR op_isN (pv 5) pe_non (nomark _)) pe_non (pe_op op_cat (pe_lst (pa_cons (pv 1) pa_nil)) (pv 5))) (pg_sub (pv 2) (pv 1) (set_dict hu)))))))), ?_⟩
    obtain ⟨kvs, gO, en⟩ := id hO
    refine ⟨_, rfl, _, rfl, O, _, rfl, DGet.k (k := .inr nm) gO, ?_⟩
    rw [(entO_look en).1]
    by_cases hin2 : nm ∈ ns
    · rw [decide_eq_true hin2]
      refine ⟨_, rfl, iteT ?_⟩
      exact q H ns hO hnd hin (fun x hx => hx) hin2 (fun _ _ _ z => z)
    · rw [decide_eq_false hin2]
      refine ⟨_, rfl, iteF ?_⟩
      obtain ⟨l, el⟩ := Option.isSome_iff_exists.mp hn
      obtain ⟨a, ga, ta⟩ := hD.get el
      refine ⟨_, rfl, _, rfl, D, _, rfl, ga, a, rfl, ⟨_, ta⟩, for_tup (K := K) (a := a) (xs := l.map V.str) (fun i σ H2 => ∃ v ns2, σ = [some (.ref D), some (.str nm), some (.ref O), v, none, none] ∧ OrdAt K H2 O o ns2 ∧ ns2.Nodup ∧ (∀ x ∈ ns2, (look bs x).isSome) ∧ (∀ x ∈ ns, x ∈ ns2) ∧ (∀ x ∈ l.take i, x ∈ ns2) ∧ KeepB O H H2) ⟨none, ns, rfl, hO, hnd, hin, fun x hx => hx, fun x hx => (nomatch hx), fun _ _ _ z => z⟩ (fun i σ H2 _ ⟨_, _, _, _, _, _, _, _, k⟩ => SqT.keepK gO k ta) ?_ ?_⟩
      · rintro i x σ H2 hi ⟨v, ns2, rfl, hO2, nd2, in2, sub2, tk2, k2⟩
        obtain ⟨rfl, hm⟩ := get_str hi
        have rl := hK.rk _ _ el _ hm
        refine ⟨_, rfl, _, rfl, _, rfl, D, O, bs, o, rk, l.getD i "", ns2, rfl, nDO, hD.keep nDO gO k2, hB, hK, hB.clo _ _ el _ hm, by omega, hO2, nd2, in2, fun H3 ns3 hO3 nd3 in3 sub3 mem3 k3 => ?_⟩
        refine ⟨_, ns3, rfl, hO3, nd3, in3, fun x hx => sub3 x (sub2 x hx), fun x hx => ?_, k2.trans k3⟩
        have hlt : i < l.length := by
          have := (List.getElem?_eq_some_iff.mp hi).1
          rwa [List.length_map] at this
        rw [List.take_succ_eq_append_getElem hlt] at hx
        rcases List.mem_append.mp hx with h | h
        · exact sub3 x (tk2 x h)
        · rw [List.mem_singleton.mp h]
          have : l.getD i "" = l[i] := by simp [List.getD, hlt]
          rw [← this]
          exact mem3
      · rintro σ H2 ⟨v, ns2, rfl, hO2, nd2, in2, sub2, tk2, k2⟩
        rw [List.length_map, List.take_length] at tk2
        obtain ⟨kvs2, gO2, en2⟩ := id hO2
        have hD2 := hD.keep nDO gO k2
        obtain ⟨a2, ga2, ta2⟩ := hD2.get el
        have fw := hB.few _ _ el
        refine ⟨_, rfl, _, rfl, D, _, rfl, ga2, a2, rfl, ⟨_, ta2⟩, fun R hR => ?_⟩
        refine lc_map (walk_tup (xs := l.map V.str)) (g := gName 3) (vs := [3]) (σ := [some (.ref D), some (.str nm), some (.ref O), v, none, none]) (te := tDGet (tVar 2) (tVar 3)) (fun i => (valV kvs2 (.inr (l.getD i ""))).getD .non) hR (by rw [List.length_map]; omega) (fun H' s' => SqT.same s' ta2) (fun i x H3 H4 RR hi s3 ⟨e4, hx⟩ k => ?_) fun H3 s3 gR => ?_
        · subst e4
          obtain ⟨rfl, hm⟩ := get_str hx
          obtain ⟨v2, ev2, _⟩ := (entO_look en2).2 (tk2 _ hm)
          have hg := DGet.k (k := .inr (l.getD i "")) (s3 _ _ gO2)
          rw [ev2] at hg
          refine ⟨rfl, _, rfl, _, rfl, O, _, rfl, hg, ?_⟩
          have := k H4 (fun _ _ z => z)
          rw [ev2] at this
          exact this
        · rw [List.length_map] at gR
          rw [range_getD l "" fun b => (valV kvs2 (.inr b)).getD .non] at gR
          have vals : ∀ b ∈ l, ValO K H3 ((valV kvs2 (.inr b)).getD .non) (o b) := fun b hb => by
            obtain ⟨v2, ev2, hv2⟩ := (entO_look en2).2 (tk2 _ hb)
            rw [ev2]
            exact hv2.same s3
          have oks : ∀ n l, o n = some l → OkS l := fun n l e => (hK.ok n l e).ok
          obtain ⟨c1, c2⟩ := shaped_O oks (l := l)
          have shp : SeqAt.shaped (.list (l.map fun b => dO (o b))) = true := by
            unfold SeqAt.shaped
            show (PyData.canLayAll0 _ && decide (PyData.depthAll _ + 1 ≤ 64)) = true
            rw [c1, decide_eq_true (by omega)]
            rfl
          have hO3 := hO2.same s3
          obtain ⟨kvs3, gO3, en3⟩ := id hO3
          refine ⟨_, rfl, .none, _, .non, .lst (SqL.of gR) (dpAll_map fun b hb => (vals b hb).dp), rfl, shp, _, rfl, ?_⟩
          rw [any_none]
          have fin : ∀ (Hx : Hp) (w : V) (kx : List (Key × V)), Hx O = some (.dK kx) → EntO K Hx o kx ns2 → ValO K Hx w (o nm) → KeepB O H Hx → kx.length < sizeLine ∧ Q .non (upd Hx O (.dK (putK kx (.inr nm) w))) := by
            intro Hx w kx g e hw kk
            have hl : kx.length = ns2.length := Paired.length e
            have hb := sub_len nd2 (m := bs.map (·.1)) fun x hx => look_mem (in2 x hx)
            rw [List.length_map] at hb
            have h31 := hB.len
            refine ⟨small1000 (by omega), ?_⟩
            have e2 : EntO K (upd Hx O (.dK (putK kx (.inr nm) w))) o kx ns2 := L2.Paired.mapP e fun _ _ ⟨a, b⟩ => ⟨a, b.updK g⟩
            have e3 := entO_put e2 (hw.updK (o := .dK (putK kx (.inr nm) w)) g)
            by_cases z : nm ∈ ns2
            · rw [if_pos z] at e3
              exact q _ ns2 ⟨_, upd_same, e3⟩ nd2 in2 sub2 z (kk.trans KeepB.at)
            · rw [if_neg z] at e3
              refine q _ (ns2 ++ [nm]) ⟨_, upd_same, e3⟩ ?_ ?_ (fun x hx => List.mem_append_left _ (sub2 x hx)) (by simp) (kk.trans KeepB.at)
              · refine List.nodup_append.mpr ⟨nd2, by simp, fun a ha b hb => ?_⟩
                rw [List.mem_singleton.mp hb]
                exact fun y => z (y ▸ ha)
              · intro x hx
                rcases List.mem_append.mp hx with h | h
                · exact in2 x h
                · rw [List.mem_singleton.mp h]; exact hn
          have k3 : KeepB O H H3 := k2.trans (KeepB.of s3)
          have eqn := hK.eq nm l el
          unfold ordStep at eqn
          cases hnone : (l.map o).any Option.isNone with
          | true =>
            rw [if_pos hnone] at eqn
            refine iteT ?_
            obtain ⟨f1, f2⟩ := fin H3 .non kvs3 gO3 en3 (by rw [eqn]; rfl) k3
            refine ⟨_, rfl, rfl, _, rfl, iteT ?_⟩
            exact ⟨_, rfl, _, rfl, O, _, rfl, DPut.k (k := .inr nm) gO3 f1, f2⟩
          | false =>
            rw [if_neg (by rw [hnone]; exact Bool.false_ne_true)] at eqn
            refine iteF ?_
            have some_ : ∀ b ∈ l, ∃ r, o b = some r := fun b hb => by
              cases e : o b with
              | some r => exact ⟨r, rfl⟩
              | none =>
                have : (l.map o).any Option.isNone = true := List.any_eq_true.mpr ⟨none, List.mem_map.mpr ⟨b, hb, e⟩, rfl⟩
                rw [hnone] at this; cases this
            obtain ⟨a3, ga3, ta3⟩ := (hD2.same s3).get el
            refine ⟨_, rfl, _, rfl, _, rfl, D, _, rfl, ga3, a3, _, rfl, .inr ta3, fun L hL => ?_⟩
            have s4 := new_same (o := .lst (l.map V.str)) hL
            have gL : (upd H3 L (.lst (l.map V.str))) L = some (.lst (l.map V.str)) := upd_same
            obtain ⟨H4, e4⟩ : ∃ G, upd H3 L (.lst (l.map V.str)) = G := ⟨_, rfl⟩
            rw [e4] at s4 gL ⊢
            refine ⟨le_sz (Nat.le_of_ble_eq_true rfl), fun W hW => ?_⟩
            have s5 := new_same (o := .lst [V.ref L]) hW
            have gW : (upd H4 W (.lst [V.ref L])) W = some (.lst [V.ref L]) := upd_same
            obtain ⟨H5, e5⟩ : ∃ G, upd H4 W (.lst [V.ref L]) = G := ⟨_, rfl⟩
            rw [e5] at s5 gW ⊢
            have s35 := s4.trans s5
            refine ⟨R, W, _, _, rfl, rfl, s35 _ _ gR, gW, le_sz (by rw [List.length_map]; simp only [List.length_singleton]; omega), fun p hp => ?_⟩
            have s6 := s35.trans (new_same (o := .lst (l.map (fun b => (valV kvs2 (.inr b)).getD .non) ++ [V.ref L])) hp)
            have gp : (upd H5 p (.lst (l.map (fun b => (valV kvs2 (.inr b)).getD .non) ++ [V.ref L]))) p = some (.lst (l.map (fun b => (valV kvs2 (.inr b)).getD .non) ++ [V.ref L])) := upd_same
            have sL := s5.trans (new_same (o := .lst (l.map (fun b => (valV kvs2 (.inr b)).getD .non) ++ [V.ref L])) hp)
            obtain ⟨H6, e6⟩ : ∃ G, upd H5 p (.lst (l.map (fun b => (valV kvs2 (.inr b)).getD .non) ++ [V.ref L])) = G := ⟨_, rfl⟩
            rw [e6] at s6 gp sL ⊢
            refine ⟨p, (l.map fun b => (o b).getD []) ++ [l], rfl, ⟨_, SqL.of gp, paired_snoc ?_ ⟨L, rfl, SqL.of (sL _ _ gL)⟩⟩, ?_, ?_, ?_, ?_⟩
            · refine pair_map fun b hb => ?_
              obtain ⟨r, er⟩ := some_ b hb
              have := (vals b hb).same s6
              rw [er] at this ⊢
              exact this
            · intro r hr ne
              rcases List.mem_append.mp hr with h | h
              · obtain ⟨b, hb, e⟩ := List.mem_map.mp h
                obtain ⟨r2, er⟩ := some_ b hb
                rw [er] at e
                rw [← e]
                exact hK.ok _ _ er
              · rw [List.mem_singleton.mp h] at ne ⊢
                exact hK.nd _ _ el ne
            · rw [List.length_append, List.length_map]
              simp only [List.length_singleton]
              omega
            · intro hmn H7 s7
              rw [hmn] at eqn
              obtain ⟨kx, gk, ek⟩ := hO3.same (s6.trans s7)
              obtain ⟨f1, f2⟩ := fin H7 .non kx gk ek (by rw [eqn]; rfl) (k3.trans (KeepB.of (s6.trans s7)))
              refine ⟨_, rfl, rfl, _, rfl, iteT ?_⟩
              exact ⟨_, rfl, _, rfl, O, _, rfl, DPut.k (k := .inr nm) gk f1, f2⟩
            · intro m hms M H7 hM s7 gM
              rw [hms] at eqn
              have rm := hK.ok _ _ eqn
              refine ⟨_, rfl, rfl, _, rfl, iteF ?_⟩
              refine ⟨_, rfl, le_sz (Nat.le_of_ble_eq_true rfl), fun X hX => ?_⟩
              have s8 := new_same (o := .lst [V.str nm]) hX
              have gX : (upd H7 X (.lst [V.str nm])) X = some (.lst [V.str nm]) := upd_same
              obtain ⟨H8, e8⟩ : ∃ G, upd H7 X (.lst [V.str nm]) = G := ⟨_, rfl⟩
              rw [e8] at s8 gX ⊢
              have lm : m.length + 1 ≤ 100 := rm.len
              refine ⟨_, rfl, X, M, _, _, rfl, rfl, gX, s8 _ _ gM, le_sz (by rw [List.length_map]; simp only [List.length_singleton]; omega), fun Y hY => ?_⟩
              have s9 := s8.trans (new_same (o := .lst ([V.str nm] ++ m.map V.str)) hY)
              have gY : (upd H8 Y (.lst ([V.str nm] ++ m.map V.str))) Y = some (.lst ((nm :: m).map V.str)) := upd_same
              obtain ⟨H9, e9⟩ : ∃ G, upd H8 Y (.lst ([V.str nm] ++ m.map V.str)) = G := ⟨_, rfl⟩
              rw [e9] at s9 gY ⊢
              have s39 := (s6.trans s7).trans s9
              obtain ⟨kx, gk, ek⟩ := hO3.same s39
              obtain ⟨f1, f2⟩ := fin H9 (.ref Y) kx gk ek (by rw [eqn]; exact ⟨Y, rfl, SqL.of gY⟩) (k3.trans (KeepB.of s39))
              exact ⟨_, rfl, _, rfl, O, _, rfl, DPut.k (k := .inr nm) gk f1, f2⟩
end
section
variable {P : Program} {w : World} {K : PySem.W.Frag} {mg : Str → Option Value} {base : Heap}
theorem ok_put {f g g2 : Addr} {fd fdM fdN : FuncData} (dP : Fs K mg "_put_order" sPut ["bases", "name", "orders"] f fd) (dM : Fs K mg "_merged" sMg ["rows"] g fdM) (dN : Fs K mg "_next_of" sNx ["rows"] g2 fdN) (hany : mg "any" = none) (ls : mg "list" = none) : ∀ n, FnOk P w K mg base CX0 (3 + n) f fd ["bases", "name", "orders"] (spPut K n)
  | 0 => ok_put0 dP
  | n + 1 => ok_putS dP dM dN hany ls (ok_put dP dM dN hany ls n)
def spAllO (K : PySem.W.Frag) : Sp := fun vs H Q _ => ∃ (D : Addr) (bs : Bs) (kvs : List (Key × V)) (o : Ord) (rk : Str → Nat), vs = [.ref D] ∧ H D = some (.dK kvs) ∧ Paired (fun (kv : Key × V) (b : Str × List Str) => kv.1 = .inr b.1 ∧ ∃ a, kv.2 = .ref a ∧ SqT K H a (b.2.map V.str)) kvs bs ∧ BsOk bs ∧ OrdOk bs o rk ∧ (∀ n, rk n < 32) ∧
  ∀ H' O ns', OrdAt K H' O o ns' → (∀ x, (look bs x).isSome → x ∈ ns') → H O = none → Same H H' → Q (.ref O) H'
theorem ok_allO {f p g g2 : Addr} {fd fdP fdM fdN : FuncData} (F : Fs K mg "all_orders" sAllO ["bases"] f fd) (dP : Fs K mg "_put_order" sPut ["bases", "name", "orders"] p fdP) (dM : Fs K mg "_merged" sMg ["rows"] g fdM) (dN : Fs K mg "_next_of" sNx ["rows"] g2 fdN) (hany : mg "any" = none) (ls : mg "list" = none) : FnOk P w K mg base CX0 36 f fd ["bases"] (spAllO K) := by
  have GP : FnOk P w K mg base CX0 35 p fdP ["bases", "name", "orders"] (spPut K 32) := ok_put dP dM dN hany ls 32
  refine F.F.ok scAllO (fun vs H Q E h => ?_) (fun cdv A outer s H vs Q E hr h => ?_)
  · obtain ⟨_, _, _, _, _, rfl, _⟩ := h
    rfl
  · obtain ⟨D, bs, kvs, o, rk, rfl, gD, hp, hB, hK, hrk, q⟩ := h
    have hrn := hr
    have hu := hu_of hr
    refine ⟨_, (pss_cons (ps_set (i := 1) scAllO.nd rfl (Or.inl rfl) pe_dnewK) (pss_cons (ps_lock (ps_for PassesOwn.never rfl (pi_keys (pv 0)) (pg_name (i := 2) scAllO.nd rfl (Or.inl rfl)) (pss_one (ps_expr (pe_call GP hrn (by rfl) dP.m dP.F.kp dP.b .nil pass0 (pa_cons (pv 0) (pa_cons (pv 2) (pa_cons (pv 1) pa_nil)))))))) (pss_one (ps_ret (pv 1))))), ?_⟩
    intro O hO
    have s1 := new_same (o := .dK []) hO
    have gO : (upd H O (.dK [])) O = some (.dK []) := upd_same
    have nDO : D ≠ O := fun z => by rw [z, hO] at gD; cases gD
    obtain ⟨H1, e1⟩ : ∃ G, upd H O (.dK []) = G := ⟨_, rfl⟩
    rw [e1] at s1 gO ⊢
    refine ⟨D, _, s1 _ _ gD, trivial, fun od => ?_⟩
    have k0 : KeepB D H1 (upd H1 D (.frz od (.dK kvs))) := KeepB.at
    have gD1 := s1 _ _ gD
    have gD2 : (upd H1 D (.frz od (.dK kvs))) D = some (.frz od (.dK kvs)) := upd_same
    have gO2 : (upd H1 D (.frz od (.dK kvs))) O = some (.dK []) := by rw [upd_ne nDO.symm]; exact gO
    have hp2 : Paired (fun (kv : Key × V) (b : Str × List Str) => kv.1 = .inr b.1 ∧ ∃ a, kv.2 = .ref a ∧ SqT K (upd H1 D (.frz od (.dK kvs))) a (b.2.map V.str)) kvs bs := L2.Paired.mapP hp fun kv b ⟨e, a, e2, q⟩ => ⟨e, a, e2, SqT.keepK gD1 k0 (SqT.same s1 q)⟩
    obtain ⟨H2, e2⟩ : ∃ G, upd H1 D (.frz od (.dK kvs)) = G := ⟨_, rfl⟩
    rw [e2] at k0 gD2 gO2 hp2 ⊢
    have hD2 : BasesAt K H2 D bs := ⟨kvs, .inr ⟨od, gD2⟩, hp2⟩
    refine ⟨_, rfl, D, od, rfl, .inl ⟨kvs, gD2, ?_⟩⟩
    refine for_it (walk_keys (kvs := kvs)) (fun i σ H3 => ∃ v ns, σ = [some (.ref D), some (.ref O), v] ∧ OrdAt K H3 O o ns ∧ ns.Nodup ∧ (∀ x ∈ ns, (look bs x).isSome) ∧ (∀ x ∈ (bs.take i).map (·.1), x ∈ ns) ∧ KeepB O H2 H3) ⟨none, [], rfl, ⟨[], gO2, .nil⟩, List.nodup_nil, fun _ z => (nomatch z), fun _ z => (nomatch z), fun _ _ _ z => z⟩ (fun i σ H3 _ ⟨_, _, _, _, _, _, _, k⟩ => k _ _ nDO gD2) ?_ ?_
    · rintro i x σ H3 H4 hi ⟨v, ns, rfl, hO3, nd, hin, tk, k⟩ ⟨rfl, key, w, ek, rfl⟩
      obtain ⟨n, rfl, en, hl⟩ := look_of hp2 ek
      refine ⟨_, rfl, _, rfl, _, rfl, D, O, bs, o, rk, n, ns, rfl, nDO, hD2.keep nDO gO2 k, hB, hK, hl, hrk n, hO3, nd, hin, fun H5 ns5 hO5 nd5 in5 sub5 mem5 k5 => ?_⟩
      refine ⟨_, ns5, rfl, hO5, nd5, in5, fun x hx => ?_, k.trans k5⟩
      obtain ⟨b, eb, e1⟩ := Option.map_eq_some_iff.mp en
      rw [take_snoc eb, List.map_append] at hx
      rcases List.mem_append.mp hx with h | h
      · exact sub5 x (tk x h)
      · rw [List.mem_singleton.mp h]; show b.1 ∈ ns5; rw [e1]; exact mem5
    · rintro σ H3 ⟨v, ns, rfl, hO3, nd, hin, tk, k⟩
      have gD3 := k _ _ nDO gD2
      refine ⟨gD3, _, rfl, q _ O ns ?_ (fun x hx => tk x ?_) hO ?_⟩
      · obtain ⟨kx, g, e⟩ := hO3
        exact ⟨kx, by rw [upd_ne nDO.symm]; exact g, L2.Paired.mapP e fun _ _ ⟨a, b⟩ => ⟨a, b.updF gD3⟩⟩
      · rw [show kvs.length = bs.length from Paired.length hp, List.take_length]
        exact look_mem hx
      · intro b u hb
        by_cases z : b = D
        · rw [z, upd_same, ← hb, z, gD]
        · rw [upd_ne z]
          have zO : b ≠ O := fun y => by rw [y, hO] at hb; cases hb
          refine k _ _ zO ?_
          rw [← e2, upd_ne z]
          exact s1 _ _ hb
end

end Kx
set_option linter.all false
namespace Kx
open PySem L2 PySem.Spec PyProof.Rows
/-! classes as data -/
abbrev CDat := List (List Lit) × List Str
structure MD where
  name : Str
  params : List (Str × Str)
  result : Str
  pre : CDat
  post : CDat
  body : OD
structure KD where
  name : Str
  bases : List Str
  fields : List Str
  wh : CDat
  methods : List MD
abbrev pairO (p : Str × Str) : OD := .tup [.fl (.str p.1), .fl (.str p.2)]
abbrev mO (m : MD) : OD := .obj 1 [.fl (.str m.name), .tup (m.params.map pairO), .fl (.str m.result), cO m.pre.1 m.pre.2, cO m.post.1 m.post.2, m.body]
abbrev kO (k : KD) : OD := .obj 2 [.fl (.str k.name), strsO k.bases, strsO k.fields, cO k.wh.1 k.wh.2, .tup (k.methods.map mO)]
section
variable {K : PySem.W.Frag} {C f : Nat → Addr} {H : Hp}
structure KAt (K : PySem.W.Frag) (C f : Nat → Addr) (H : Hp) (k : KD) (a dx : Addr) (fs : List (Str × V)) (vb vf vm : Addr) (vw : V) (xs : List V) : Prop where
  ins : H a = some (.ins (C 2) dx fs)
  nm : fs.lookup ("name" : Str) = some (.str k.name)
  b : fs.lookup ("bases" : Str) = some (.ref vb)
  sb : SqT K H vb (k.bases.map V.str)
  fl : fs.lookup ("fields" : Str) = some (.ref vf)
  sf : SqT K H vf (k.fields.map V.str)
  w : fs.lookup ("where" : Str) = some vw
  ow : Oh K (clk C f) H (cO k.wh.1 k.wh.2) vw
  m : fs.lookup ("methods" : Str) = some (.ref vm)
  sm : SqT K H vm xs
  om : OhAll K (clk C f) H (k.methods.map mO) xs
theorem kO_get {k : KD} {v : V} (h : Oh K (clk C f) H (kO k) v) : ∃ a dx fs vb vf vm vw xs, v = .ref a ∧ KAt K C f H k a dx fs vb vf vm vw xs := by
  obtain ⟨a, dx, fs, ys, rfl, hi, hn, q⟩ := h
  obtain ⟨d0, d1, d2, d3, d4, v0, v1, v2, v3, v4, e, e0, e1, e2, e3, e4, o0, o1, o2, o3, o4⟩ := oh5 hn q
  cases e
  obtain ⟨e0', _⟩ := o0
  obtain ⟨vb, xb, eb, sb, ob⟩ := o1
  obtain ⟨vf, xf, ef, sf, of⟩ := o2
  obtain ⟨vm, xm, em, sm, om⟩ := o4
  have hb := od_strs ob
  have hf := od_strs of
  subst hb hf
  exact ⟨a, dx, fs, vb, vf, vm, v3, xm, rfl, hi, e0.trans (congrArg some e0'), e1.trans (congrArg some eb), sb, e2.trans (congrArg some ef), sf, e3, o3, e4.trans (congrArg some em), sm, om⟩
structure MAt (K : PySem.W.Frag) (C f : Nat → Addr) (H : Hp) (m : MD) (a dx : Addr) (fs : List (Str × V)) (vp : Addr) (xs : List V) (v1 v2 vb : V) : Prop where
  ins : H a = some (.ins (C 1) dx fs)
  nm : fs.lookup ("name" : Str) = some (.str m.name)
  p : fs.lookup ("params" : Str) = some (.ref vp)
  sp : SqT K H vp xs
  op : OhAll K (clk C f) H (m.params.map pairO) xs
  r : fs.lookup ("result" : Str) = some (.str m.result)
  pre : fs.lookup ("pre" : Str) = some v1
  opre : Oh K (clk C f) H (cO m.pre.1 m.pre.2) v1
  post : fs.lookup ("post" : Str) = some v2
  opost : Oh K (clk C f) H (cO m.post.1 m.post.2) v2
  b : fs.lookup ("body" : Str) = some vb
  ob : Oh K (clk C f) H m.body vb
theorem mO_get {m : MD} {v : V} (h : Oh K (clk C f) H (mO m) v) : ∃ a dx fs vp xs v1 v2 vb, v = .ref a ∧ MAt K C f H m a dx fs vp xs v1 v2 vb := by
  obtain ⟨a, dx, fs, ys, rfl, hi, hn, q⟩ := h
  obtain ⟨d0, d1, d2, d3, d4, d5, v0, v1, v2, v3, v4, v5, e, e0, e1, e2, e3, e4, e5, o0, o1, o2, o3, o4, o5⟩ := oh6 hn q
  cases e
  obtain ⟨e0', _⟩ := o0
  obtain ⟨vp, xp, ep, sp, op⟩ := o1
  obtain ⟨e2', _⟩ := o2
  exact ⟨a, dx, fs, vp, xp, v3, v4, v5, rfl, hi, e0.trans (congrArg some e0'), e1.trans (congrArg some ep), sp, op, e2.trans (congrArg some e2'), e3, o3, e4, o4, e5, o5⟩
end
def kd (cs : List KD) (n : Str) : Option KD := cs.find? fun k => decide (k.name = n)
/-- a library that is being made: names and table -/
structure LibAt (K : PySem.W.Frag) (C f : Nat → Addr) (CL : Addr) (H : Hp) (a dx : Addr) (fs : List (Str × V)) (N T : Addr) (vs : List V) (cs : List KD) (ns : List Str) : Prop where
  ins : H a = some (.ins CL dx fs)
  nm : fs.lookup ("names" : Str) = some (.ref N)
  sn : SqT K H N (ns.map V.str)
  tb : fs.lookup ("_table" : Str) = some (.ref T)
  gT : H T = some (.dK ((cs.zip vs).map fun kv => (.inr kv.1.name, kv.2)))
  ov : OhAll K (clk C f) H (cs.map kO) vs
  mem : ∀ n, n ∈ ns ↔ n ∈ cs.map (·.name)
  no : ∀ x : Str, x ∉ (["classes", "names", "_table", "_orders"] : List Str) → fs.lookup x = none
def LibA (K : PySem.W.Frag) (C f : Nat → Addr) (CL : Addr) (H : Hp) (a : Addr) (cs : List KD) (ns : List Str) : Prop := ∃ dx fs N T vs, LibAt K C f CL H a dx fs N T vs cs ns
theorem LibA.same {K : PySem.W.Frag} {C f : Nat → Addr} {CL : Addr} {H H' : Hp} {a : Addr} {cs : List KD} {ns : List Str} (s : Same H H') (h : LibA K C f CL H a cs ns) : LibA K C f CL H' a cs ns :=
  let ⟨dx, fs, N, T, vs, g⟩ := h; ⟨dx, fs, N, T, vs, s _ _ g.ins, g.nm, SqT.same s g.sn, g.tb, s _ _ g.gT, OhAll.sm s g.ov, g.mem, g.no⟩
theorem tab_look {K : PySem.W.Frag} {cl : Nat → OCls} {H : Hp} {n : Str} : ∀ {cs : List KD} {vs : List V}, OhAll K cl H (cs.map kO) vs → (valV ((cs.zip vs).map fun kv => ((.inr kv.1.name : Key), kv.2)) (.inr n)).isSome = decide (n ∈ cs.map (·.name)) ∧ ∀ k, kd cs n = some k → ∃ v, valV ((cs.zip vs).map fun kv => ((.inr kv.1.name : Key), kv.2)) (.inr n) = some v ∧ Oh K cl H (kO k) v
  | [], _, h => by
    obtain rfl := h
    exact ⟨rfl, fun k e => nomatch e⟩
  | c :: cs, _, ⟨v, ys, e, h, q⟩ => by
    subst e
    obtain ⟨h1, h2⟩ := tab_look (n := n) q
    by_cases z : c.name = n
    · have ev : valV (((c :: cs).zip (v :: ys)).map fun kv => ((.inr kv.1.name : Key), kv.2)) (.inr n) = some v := valV_pos (p := ((.inr c.name : Key), v)) (by rw [z])
      have ek : kd (c :: cs) n = some c := by unfold kd; rw [List.find?_cons_of_pos (by simpa using z)]
      rw [ev, ek]
      refine ⟨?_, fun k e => ⟨v, rfl, by cases e; exact h⟩⟩
      rw [decide_eq_true (by rw [← z]; exact List.mem_map.mpr ⟨c, List.mem_cons_self, rfl⟩)]
      rfl
    · have ev : valV (((c :: cs).zip (v :: ys)).map fun kv => ((.inr kv.1.name : Key), kv.2)) (.inr n) = valV ((cs.zip ys).map fun kv => ((.inr kv.1.name : Key), kv.2)) (.inr n) := valV_neg (p := ((.inr c.name : Key), v)) (by intro y; injection y with y; exact z y)
      have ek : kd (c :: cs) n = kd cs n := by unfold kd; rw [List.find?_cons_of_neg (by simpa using z)]
      rw [ev, ek, h1]
      refine ⟨?_, h2⟩
      rw [decide_eq_decide, List.map_cons, List.mem_cons]
      exact ⟨.inr, fun h => h.resolve_left fun y => z y.symm⟩
theorem kd_name {cs : List KD} {n : Str} {k : KD} (h : kd cs n = some k) : k.name = n ∧ k ∈ cs := ⟨of_decide_eq_true (List.find?_some (p := fun k : KD => decide (k.name = n)) h), List.mem_of_find?_eq_some h⟩
theorem kd_some {cs : List KD} {n : Str} (h : n ∈ cs.map (·.name)) : ∃ k, kd cs n = some k := by
  obtain ⟨k, hk, e⟩ := List.mem_map.mp h
  have : (cs.find? fun k => decide (k.name = n)).isSome := List.find?_isSome.mpr ⟨k, hk, decide_eq_true e⟩
  exact Option.isSome_iff_exists.mp this

abbrev sCo : Stmt := inClass (top 120) 1
abbrev nCo : List Str := ["self", "name"]
theorem scCo : FnScope nCo ["self", "name"] (defScope sCo) := ⟨rfl, rfl, rfl, by decide +kernel, rfl, by decide +kernel, by decide +kernel⟩
abbrev sLix : Stmt := inClass (top 120) 2
abbrev nLix : List Str := ["self", "name"]
theorem scLix : FnScope nLix ["self", "name"] (defScope sLix) := ⟨rfl, rfl, rfl, by decide +kernel, rfl, by decide +kernel, by decide +kernel⟩
abbrev sOd : Stmt := inClass (top 120) 4
abbrev nOd : List Str := ["self", "name"]
theorem scOd : FnScope nOd ["self", "name"] (defScope sOd) := ⟨rfl, rfl, rfl, by decide +kernel, rfl, by decide +kernel, by decide +kernel⟩
abbrev sFl : Stmt := inClass (top 120) 5
abbrev nFl : List Str := ["self", "name", "each", "field"]
theorem scFl : FnScope nFl ["self", "name"] (defScope sFl) := ⟨rfl, rfl, rfl, by decide +kernel, rfl, by decide +kernel, by decide +kernel⟩
abbrev sMo : Stmt := inClass (top 120) 7
abbrev nMo : List Str := ["self", "name", "each", "method"]
theorem scMo : FnScope nMo ["self", "name"] (defScope sMo) := ⟨rfl, rfl, rfl, by decide +kernel, rfl, by decide +kernel, by decide +kernel⟩
abbrev sWo : Stmt := inClass (top 120) 8
abbrev nWo : List Str := ["self", "name", "method", "each"]
theorem scWo : FnScope nWo ["self", "name", "method"] (defScope sWo) := ⟨rfl, rfl, rfl, by decide +kernel, rfl, by decide +kernel, by decide +kernel⟩
abbrev sWri : Stmt := top 35
abbrev nWri : List Str := ["classdef", "name", "method"]
theorem scWri : FnScope nWri ["classdef", "name"] (defScope sWri) := ⟨rfl, rfl, rfl, by decide +kernel, rfl, by decide +kernel, by decide +kernel⟩
structure Lm (K : PySem.W.Frag) (mg : Str → Option Value) (C f : Nat → Addr) (CL : Addr) : Prop where
  cls : Cls K CL
  no : ∀ x ∈ (["classes", "names", "_table", "_orders"] : List Str), NoAttr K CL x
  co : ∃ g fd, OwnIn K CL g ∧ Fun K "__contains__" "Library.__contains__" sCo g fd ∧ Binds K fd ["self", "name"] []
  ix : ∃ g fd, OwnIx K CL g ∧ Fun K "__getitem__" "Library.__getitem__" sLix g fd ∧ Binds K fd ["self", "name"] []
  od : ∃ g fd, Meth K CL "order_of" g ∧ Fun K "order_of" "Library.order_of" sOd g fd ∧ Binds K fd ["self", "name"] []
  fl : ∃ g fd, Meth K CL "fields_of" g ∧ Fun K "fields_of" "Library.fields_of" sFl g fd ∧ Binds K fd ["self", "name"] []
  me : ∃ g fd, Meth K CL "methods_of" g ∧ Fun K "methods_of" "Library.methods_of" sMo g fd ∧ Binds K fd ["self", "name"] []
  wr : ∃ g fd, Meth K CL "writer_of" g ∧ Fun K "writer_of" "Library.writer_of" sWo g fd ∧ Binds K fd ["self", "name", "method"] []
  wri : ∃ g fd, Fs K mg "written" sWri ["classdef", "name"] g fd
  T : Bx mg
  X : Txt K mg C f
  ls : mg "list" = none
def spCo (K : PySem.W.Frag) (C f : Nat → Addr) (CL : Addr) : Sp := fun vs H Q _ => ∃ (a : Addr) (cs : List KD) (ns : List Str) (n : Str), vs = [.ref a, .str n] ∧ LibA K C f CL H a cs ns ∧ ∀ H', Same H H' → Q (.bl (decide (n ∈ cs.map (·.name)))) H'
def spLix (K : PySem.W.Frag) (C f : Nat → Addr) (CL : Addr) : Sp := fun vs H Q _ => ∃ (a : Addr) (cs : List KD) (ns : List Str) (n : Str) (k : KD), vs = [.ref a, .str n] ∧ LibA K C f CL H a cs ns ∧ kd cs n = some k ∧ ∀ v H', Same H H' → Oh K (clk C f) H' (kO k) v → Q v H'
section
variable {P : Program} {w : World} {K : PySem.W.Frag} {mg : Str → Option Value} {base : Heap} {C f : Nat → Addr} {CL : Addr}
theorem ok_co {g : Addr} {fd : FuncData} (F : Fun K "__contains__" "Library.__contains__" sCo g fd) (M : Lm K mg C f CL) : FnOk P w K mg base CX0 1 g fd ["self", "name"] (spCo K C f CL) := by
  have T := M.T
  refine F.ok scCo (fun vs H Q E h => ?_) (fun cdv A outer s H vs Q E hr h => ?_)
  · obtain ⟨_, _, _, _, rfl, _⟩ := h
    rfl
  · obtain ⟨a, cs, ns, n, rfl, ⟨dx, fs, N, Tb, us, L⟩, q⟩ := h
    have hu := hu_of hr
    refine ⟨_, (pss_one (ps_ret (pe_and (pe_callB call_isi (by rfl) T.isi boot_isinstance (pa_cons (pv 1) (pa_cons (pe_bltn (v := .ty "str") (by rfl) T.str (by decide +kernel) rfl) pa_nil))) (pe_one (pe_cmp (pc_din hu (pv 1) (pe_fld (pv 0) (by rfl))) (by with_unfolding_all rfl)))))), ?_⟩
    refine ⟨_, rfl, .str n, .ty "str", _, _, true, rfl, .ty _, .base (.str n), kit_ty (by decide +kernel), true, rfl, iteT ?_⟩
    refine ⟨_, rfl, _, rfl, a, CL, dx, fs, .ref Tb, rfl, L.ins, M.cls, M.no _ (by simp), L.tb, Tb, _, rfl, DGet.k (k := .inr n) L.gT, ?_⟩
    rw [(tab_look L.ov).1]
    exact q H fun _ _ z => z
theorem ok_lix {g : Addr} {fd : FuncData} (F : Fun K "__getitem__" "Library.__getitem__" sLix g fd) (M : Lm K mg C f CL) : FnOk P w K mg base CX0 2 g fd ["self", "name"] (spLix K C f CL) := by
  have T := M.T
  obtain ⟨gc, fdc, oc, Fc, bc⟩ := M.co
  have GC : FnOk P w K mg base CX0 1 gc fdc ["self", "name"] (spCo K C f CL) := ok_co Fc M
  refine F.ok scLix (fun vs H Q E h => ?_) (fun cdv A outer s H vs Q E hr h => ?_)
  · obtain ⟨_, _, _, _, _, rfl, _⟩ := h
    rfl
  · obtain ⟨a, cs, ns, n, k, rfl, hL, hk, q⟩ := h
    obtain ⟨dx, fs, N, Tb, us, L⟩ := id hL
    have hu := hu_of hr
    have hm : n ∈ cs.map (·.name) := by obtain ⟨e, m⟩ := kd_name hk; exact List.mem_map.mpr ⟨k, m, e⟩
    refine ⟨_, (pss_cons (ps_if (pt_cmpR (op_ownNotIn (E := E0) oc GC hr bc pass0) (pv 1) (pv 0) (by with_unfolding_all rfl)) (pss_one ps_dead) pss_nil) (pss_one (ps_ret (pe_dget hu (pe_fld (pv 0) (by rfl)) (pv 1) (fun _ _ => rfl))))), ?_⟩
    refine ⟨_, rfl, _, rfl, a, dx, fs, rfl, L.ins, a, cs, ns, n, rfl, hL, fun H1 s1 => ⟨_, rfl, _, rfl, ?_⟩⟩
    rw [decide_eq_true hm]
    refine iteF ?_
    obtain ⟨dx1, fs1, N1, Tb1, us1, L1⟩ := hL.same s1
    obtain ⟨v, ev, ov⟩ := (tab_look L1.ov).2 k hk
    have hg := DGet.k (k := .inr n) L1.gT
    rw [ev] at hg
    exact ⟨_, rfl, a, CL, dx1, fs1, .ref Tb1, rfl, L1.ins, M.cls, M.no _ (by simp), L1.tb, _, rfl, Tb1, _, rfl, hg, q _ _ s1 ov⟩
end

end Kx
set_option linter.all false
namespace Kx
open PySem L2 PySem.Spec PyProof.Rows
/-- a library with the orders of its classes -/
def LibO (K : PySem.W.Frag) (C f : Nat → Addr) (CL : Addr) (H : Hp) (a : Addr) (cs : List KD) (ns : List Str) (o : Ord) : Prop := ∃ dx fs N T vs O ns', LibAt K C f CL H a dx fs N T vs cs ns ∧ fs.lookup ("_orders" : Str) = some (.ref O) ∧ OrdAt K H O o ns' ∧ ∀ n ∈ cs.map (·.name), n ∈ ns'
theorem LibO.a {K : PySem.W.Frag} {C f : Nat → Addr} {CL : Addr} {H : Hp} {a : Addr} {cs : List KD} {ns : List Str} {o : Ord} (h : LibO K C f CL H a cs ns o) : LibA K C f CL H a cs ns := let ⟨dx, fs, N, T, vs, _, _, g, _⟩ := h; ⟨dx, fs, N, T, vs, g⟩
theorem LibO.same {K : PySem.W.Frag} {C f : Nat → Addr} {CL : Addr} {H H' : Hp} {a : Addr} {cs : List KD} {ns : List Str} {o : Ord} (s : Same H H') (h : LibO K C f CL H a cs ns o) : LibO K C f CL H' a cs ns o :=
  let ⟨dx, fs, N, T, vs, O, ns', g, e, q, m⟩ := h; ⟨dx, fs, N, T, vs, O, ns', ⟨s _ _ g.ins, g.nm, SqT.same s g.sn, g.tb, s _ _ g.gT, OhAll.sm s g.ov, g.mem, g.no⟩, e, q.same s, m⟩
def spOd (K : PySem.W.Frag) (C f : Nat → Addr) (CL : Addr) : Sp := fun vs H Q _ => ∃ (a : Addr) (cs : List KD) (ns : List Str) (o : Ord) (n : Str) (l : List Str), vs = [.ref a, .str n] ∧ LibO K C f CL H a cs ns o ∧ n ∈ cs.map (·.name) ∧ o n = some l ∧ ∀ L H', H L = none → Same H H' → H' L = some (.lst (l.map V.str)) → Q (.ref L) H'
/-- what is known of a library's orders -/
structure Lok (cs : List KD) (o : Ord) : Prop where
  mem : ∀ n l, o n = some l → ∀ e ∈ l, e ∈ cs.map (·.name)
  ok : ∀ n l, o n = some l → RowOk l
  all : ∀ n ∈ cs.map (·.name), ∃ l, o n = some l
  fs : ∀ k ∈ cs, k.fields.length ≤ 3
  ms : ∀ k ∈ cs, k.methods.length ≤ 3
  few : ∀ n l, o n = some l → l.length ≤ 20
  flt : ∀ k ∈ cs, ∀ t ∈ k.fields, t.length ≤ 1000
def fldsL (cs : List KD) (l : List Str) : List Str := l.flatMap fun e => ((kd cs e).map (·.fields)).getD []
def fldsOf (cs : List KD) (o : Ord) (n : Str) : List Str := fldsL cs ((o n).getD []).reverse
def spFl (K : PySem.W.Frag) (C f : Nat → Addr) (CL : Addr) : Sp := fun vs H Q _ => ∃ (a : Addr) (cs : List KD) (ns : List Str) (o : Ord) (n : Str), vs = [.ref a, .str n] ∧ LibO K C f CL H a cs ns o ∧ n ∈ cs.map (·.name) ∧ Lok cs o ∧ ∀ L H', H L = none → Same H H' → H' L = some (.lst ((fldsOf cs o n).map V.str)) → Q (.ref L) H'
theorem fldsL_snoc {cs : List KD} {l : List Str} {e : Str} : fldsL cs (l ++ [e]) = fldsL cs l ++ ((kd cs e).map (·.fields)).getD [] := by
  unfold fldsL
  rw [List.flatMap_append]
  simp
theorem fldsL_len {cs : List KD} (h : ∀ k ∈ cs, k.fields.length ≤ 3) : ∀ (l : List Str), (fldsL cs l).length ≤ 3 * l.length
  | [] => Nat.le_refl _
  | e :: l => by
    have := fldsL_len h l
    have h3 : (((kd cs e).map (·.fields)).getD []).length ≤ 3 := by
      cases hk : kd cs e with
      | none => exact Nat.zero_le _
      | some k => exact h k (kd_name hk).2
    show ((((kd cs e).map (·.fields)).getD []) ++ fldsL cs l).length ≤ _
    rw [List.length_append, List.length_cons]
    omega
section
variable {P : Program} {w : World} {K : PySem.W.Frag} {mg : Str → Option Value} {base : Heap} {C f : Nat → Addr} {CL : Addr}
theorem ok_od {g : Addr} {fd : FuncData} (F : Fun K "order_of" "Library.order_of" sOd g fd) (M : Lm K mg C f CL) : FnOk P w K mg base CX0 2 g fd ["self", "name"] (spOd K C f CL) := by
  have ls := M.ls
  obtain ⟨gc, fdc, oc, Fc, bc⟩ := M.co
  have GC : FnOk P w K mg base CX0 1 gc fdc ["self", "name"] (spCo K C f CL) := ok_co Fc M
  refine F.ok scOd (fun vs H Q E h => ?_) (fun cdv A outer s H vs Q E hr h => ?_)
  · obtain ⟨_, _, _, _, _, _, rfl, _⟩ := h
    rfl
  · obtain ⟨a, cs, ns, o, n, l, rfl, hL, hm, hl, q⟩ := h
    obtain ⟨dx, fs, N, Tb, us, O, ns', L, eO, gO, hin⟩ := id hL
    have hu := hu_of hr
    refine ⟨_, (pss_cons (ps_if (pt_cmpR (op_ownNotIn (E := E0) oc GC hr bc pass0) (pv 1) (pv 0) (by with_unfolding_all rfl)) (pss_one ps_dead) pss_nil) (pss_one (ps_ret (pe_callTy call_list_of (by rfl) ls (by decide +kernel) (pa_cons (pe_dget hu (pe_fld (pv 0) (by rfl)) (pv 1) (fun _ _ => rfl)) pa_nil))))), ?_⟩
    refine ⟨_, rfl, _, rfl, a, dx, fs, rfl, L.ins, a, cs, ns, n, rfl, hL.a, fun H1 s1 => ⟨_, rfl, _, rfl, ?_⟩⟩
    rw [decide_eq_true hm]
    refine iteF ?_
    obtain ⟨dx1, fs1, N1, Tb1, us1, O1, ns1, L1, eO1, ⟨kvs, gO1, en⟩, hin1⟩ := hL.same s1
    obtain ⟨v, ev, hv⟩ := (entO_look en).2 (hin1 n hm)
    rw [hl] at hv
    obtain ⟨b, rfl, hb⟩ := hv
    have hg := DGet.k (k := .inr n) gO1
    rw [ev] at hg
    exact ⟨_, rfl, a, CL, dx1, fs1, .ref O1, rfl, L1.ins, M.cls, M.no _ (by simp), eO1, _, rfl, O1, _, rfl, hg, b, _, rfl, .inl hb, fun X hX => q X _ (Same.free s1 hX) (same_D (by cases z : H X with | none => rfl | some u => rw [s1 _ _ z] at hX; cases hX) s1) upd_same⟩
theorem ok_fl {g : Addr} {fd : FuncData} (F : Fun K "fields_of" "Library.fields_of" sFl g fd) (M : Lm K mg C f CL) : FnOk P w K mg base CX0 3 g fd ["self", "name"] (spFl K C f CL) := by
  obtain ⟨go, fdo, mo, Fo, bo⟩ := M.od
  have GO : FnOk P w K mg base CX0 2 go fdo ["self", "name"] (spOd K C f CL) := ok_od Fo M
  refine F.ok scFl (fun vs H Q E h => ?_) (fun cdv A outer s H vs Q E hr h => ?_)
  · obtain ⟨_, _, _, _, _, rfl, _⟩ := h
    rfl
  · obtain ⟨a, cs, ns, o, n, rfl, hL, hm, ok, q⟩ := h
    obtain ⟨l, hl⟩ := ok.all n hm
    have hu := hu_of hr
    refine ⟨_, (pss_one (ps_ret (pe_lc2 (own := [("each", 2), ("field", 3)]) (vs1 := [3]) rfl scFl.nd (pi_list (pe_revL (pe_meth (pv 0) M.cls mo GO hr bo .nil pass0 (pa_cons (pv 1) pa_nil)))) (blkOk_by (N := nFl) (sc := defScope sFl) (by decide +kernel)) (by decide) (fun _ _ _ _ _ => (pg_name (i := 2) scFl.nd rfl (Or.inl rfl))) (fun _ _ _ _ _ => pts_nil) (fun _ _ _ _ _ => (pi_tupK (K := K) rfl (pe_fldK (K := K) rfl (pe_dget hu (pe_fldK (K := K) rfl (pv 0) (by rfl)) (pv 2) (fun _ _ => rfl)) (by rfl)))) (fun _ _ _ _ _ => (pg_name (i := 3) scFl.nd rfl (Or.inl rfl))) (fun _ _ _ _ _ => pts_nil) (fun _ _ _ _ _ => (pv 3))))), ?_⟩
    obtain ⟨dx, fs, N, Tb, us, O, ns', L, eO, gO, hin⟩ := id hL
    have lok := ok.ok n l hl
    refine ⟨_, rfl, a, dx, fs, rfl, L.ins, L.no _ (by decide +kernel), _, rfl, a, cs, ns, o, n, l, rfl, hL, hm, hl, fun L1 H1 f1 s1 g1 => ?_⟩
    refine ⟨L1, _, rfl, SqL.of g1, fun L2 hL2 => ?_⟩
    have s2 := s1.trans (new_same (o := .lst (l.map V.str).reverse) hL2)
    have g2 : (upd H1 L2 (.lst (l.map V.str).reverse)) L2 = some (.lst (l.reverse.map V.str)) := by rw [upd_same, List.map_reverse]
    obtain ⟨H2, e2⟩ : ∃ G, upd H1 L2 (.lst (l.map V.str).reverse) = G := ⟨_, rfl⟩
    rw [e2] at s2 g2 ⊢
    refine ⟨L2, rfl, ⟨_, SqL.of g2⟩, fun D hD => ?_⟩
    have len : ∀ i, (fldsL cs (l.reverse.take i)).length ≤ 300 := fun i => by
      have h1 := fldsL_len ok.fs (l.reverse.take i)
      have h2 : (l.reverse.take i).length ≤ l.length := by rw [List.length_take, List.length_reverse]; exact Nat.min_le_right _ _
      have h3 := lok.len
      omega
    refine walk_it (walk_list (xs := l.reverse.map V.str)) (g := gName 2) (vs := [2, 3]) (σ := [some (.ref a), some (.str n), none, none]) (fun i H3 => Same H2 H3 ∧ H3 D = some (.lst ((fldsL cs (l.reverse.take i)).map V.str))) ⟨new_same hD, upd_same⟩ (fun i H3 _ h => SqL.same h.1 (SqL.of g2)) ?_ ?_
    · rintro i x H3 H4 hi ⟨s3, gD⟩ ⟨rfl, hx⟩
      obtain ⟨rfl, hm2⟩ := get_str hx
      have he : l.reverse[i]? = some (l.reverse.getD i "") := by
        have hlt : i < l.reverse.length := by rw [List.length_map] at hi; exact hi
        simp only [List.getD, List.getElem?_eq_getElem hlt, Option.getD_some]
      have hin2 := ok.mem n l hl _ (List.mem_reverse.mp hm2)
      obtain ⟨k, hk⟩ := kd_some hin2
      obtain ⟨dx3, fs3, N3, Tb3, us3, L3⟩ := hL.a.same (s2.trans s3)
      obtain ⟨v, ev, ov⟩ := (tab_look L3.ov).2 k hk
      have hg := DGet.k (k := .inr (l.reverse.getD i "")) L3.gT
      rw [ev] at hg
      obtain ⟨b, bx, bs, vb, vf, vm, vw, xs, rfl, KA⟩ := kO_get ov
      refine ⟨rfl, yes_of ⟨_, rfl, a, CL, dx3, fs3, .ref Tb3, rfl, L3.ins, M.cls, M.no _ (by simp), L3.tb, _, rfl, Tb3, _, rfl, hg, b, C 2, bx, bs, .ref vf, rfl, KA.ins, M.X.cls 2 (by decide), M.X.no 2 (by decide) _ (by decide), KA.fl, vf, rfl, ⟨_, KA.sf⟩, ?_⟩⟩
      have ef : fldsL cs (l.reverse.take (i + 1)) = fldsL cs (l.reverse.take i) ++ k.fields := by rw [take_snoc he, fldsL_snoc, hk]; rfl
      refine walk_it (walk_tup (xs := k.fields.map V.str)) (g := gName 3) (vs := [3]) (σ := [some (.ref a), some (.str n), some (.str (l.reverse.getD i "")), none]) (fun j H5 => Same H2 H5 ∧ KeepB D H4 H5 ∧ H5 D = some (.lst ((fldsL cs (l.reverse.take i) ++ k.fields.take j).map V.str))) ⟨s3, fun _ _ _ z => z, by rw [List.take_zero, List.append_nil]; exact gD⟩ (fun j H5 _ h => SqT.keepB gD h.2.1 KA.sf) ?_ ?_
      · rintro j y H5 H6 hj ⟨s5, k5, gD5⟩ ⟨rfl, hy⟩
        obtain ⟨t, et, rfl⟩ : ∃ t, k.fields[j]? = some t ∧ y = V.str t := by
          rw [List.getElem?_map] at hy
          cases e : k.fields[j]? with
          | none => rw [e] at hy; cases hy
          | some t => rw [e] at hy; exact ⟨t, rfl, (Option.some.inj hy).symm⟩
        refine ⟨rfl, yes_of ⟨_, rfl, _, gD5, small1000 ?_, same_D hD s5, k5.trans KeepB.at, ?_⟩⟩
        · rw [List.length_map, List.length_append, List.length_take]
          have h1 := len i
          have h2 := ok.fs k (kd_name hk).2
          omega
        · rw [upd_same, take_snoc et]
          simp only [List.map_append, List.append_assoc]
          rfl
      · rintro H5 ⟨s5, k5, gD5⟩
        rw [List.length_map, List.take_length] at gD5
        exact ⟨s5, by rw [ef]; exact gD5⟩
    · rintro H3 ⟨s3, gD⟩
      rw [List.length_map, List.take_length] at gD
      refine q D H3 ?_ (s2.trans s3) ?_
      · exact Same.free s2 hD
      · rw [gD]
        unfold fldsOf
        rw [hl]
        rfl
end

end Kx
set_option linter.all false
namespace Kx
open PySem L2 PySem.Spec PyProof.Rows
abbrev sTO : Stmt := top 92
abbrev nTO : List Str := ["library", "name", "kind", "field"]
theorem scTO : FnScope nTO ["library", "name", "kind"] (defScope sTO) := ⟨rfl, rfl, rfl, by decide +kernel, rfl, by decide +kernel, by decide +kernel⟩
def termsO (cs : List KD) (o : Ord) (nm kind : Str) : List Str := if kind = "int" then [nm] else (fldsOf cs o kind).map fun t => (nm ++ ".") ++ t
theorem str_len (x y : Str) : (x ++ y).length = x.length + y.length := Array.size_append
theorem small1000'' {n : Nat} (h : n ≤ 3001) : n ≤ sizeLine := Nat.le_of_lt (small1000' h)
def wr (k : KD) (n : Str) : Option MD := k.methods.find? fun m => decide (m.name = n)
def spWri (K : PySem.W.Frag) (C f : Nat → Addr) : Sp := fun vs H Q _ => ∃ (v : V) (k : KD) (n : Str), vs = [v, .str n] ∧ Oh K (clk C f) H (kO k) v ∧ (wr k n = none → Q .non H) ∧ ∀ m u, wr k n = some m → Oh K (clk C f) H (mO m) u → Q u H
def mnames (cs : List KD) (l : List Str) : List Str := l.flatMap fun e => ((kd cs e).map fun k => k.methods.map (·.name)).getD []
theorem mnames_snoc {cs : List KD} {l : List Str} {e : Str} : mnames cs (l ++ [e]) = mnames cs l ++ ((kd cs e).map fun k => k.methods.map (·.name)).getD [] := by
  unfold mnames
  rw [List.flatMap_append]
  simp
def spMo (K : PySem.W.Frag) (C f : Nat → Addr) (CL : Addr) : Sp := fun vs H Q _ => ∃ (a : Addr) (cs : List KD) (ns : List Str) (o : Ord) (n : Str) (l : List Str), vs = [.ref a, .str n] ∧ LibO K C f CL H a cs ns o ∧ n ∈ cs.map (·.name) ∧ Lok cs o ∧ o n = some l ∧
  ∀ ys L H', sortedS ys = true → ys.Nodup → (∀ x, x ∈ ys ↔ x ∈ mnames cs l) → ys.length ≤ 60 → H L = none → Same H H' → H' L = some (.lst (ys.map V.str)) → Q (.ref L) H'
def hasM (cs : List KD) (m e : Str) : Bool := ((kd cs e).bind fun k => wr k m).isSome
def spWo (K : PySem.W.Frag) (C f : Nat → Addr) (CL : Addr) : Sp := fun vs H Q _ => ∃ (a : Addr) (cs : List KD) (ns : List Str) (o : Ord) (n m : Str) (l : List Str) (e : Str), vs = [.ref a, .str n, .str m] ∧ LibO K C f CL H a cs ns o ∧ n ∈ cs.map (·.name) ∧ Lok cs o ∧ o n = some l ∧ l.find? (hasM cs m) = some e ∧ ∀ H', Same H H' → Q (.str e) H'
def spTO (K : PySem.W.Frag) (C f : Nat → Addr) (CL : Addr) : Sp := fun vs H Q _ => ∃ (a : Addr) (cs : List KD) (ns : List Str) (o : Ord) (nm kind : Str), vs = [.ref a, .str nm, .str kind] ∧ LibO K C f CL H a cs ns o ∧ (kind = "int" ∨ kind ∈ cs.map (·.name)) ∧ Lok cs o ∧ nm.length ≤ 1000 ∧
  ∀ L H', H L = none → Same H H' → H' L = some (.lst ((termsO cs o nm kind).map V.str)) → Q (.ref L) H'
section
variable {P : Program} {w : World} {K : PySem.W.Frag} {mg : Str → Option Value} {base : Heap} {C f : Nat → Addr} {CL : Addr}
theorem SqT.keepX {H H' : Hp} {p a : Addr} {z : List Str} {xs : List V} (hp : H p = some (SetX P w p z)) (k : KeepB p H H') (h : SqT K H a xs) : SqT K H' a xs := by
  rcases h with (h | ⟨o, h⟩) | h
  · exact .inl (.inl (k _ _ (fun e => by rw [e, hp] at h; cases h) h))
  · exact .inl (.inr ⟨o, k _ _ (fun e => by rw [e, hp] at h; cases h) h⟩)
  · exact .inr h
theorem ok_wri {g : Addr} {fd : FuncData} (F : Fs K mg "written" sWri ["classdef", "name"] g fd) (M : Lm K mg C f CL) : FnOk P w K mg base CX0 1 g fd ["classdef", "name"] (spWri K C f) := by
  refine F.F.ok scWri (fun vs H Q E h => ?_) (fun cdv A outer s H vs Q E hr h => ?_)
  · obtain ⟨_, _, _, rfl, _⟩ := h
    rfl
  · obtain ⟨v, k, n, rfl, ov, q0, q1⟩ := h
    obtain ⟨b, bx, bs, vb, vf, vm, vw, xs, rfl, KA⟩ := kO_get ov
    refine ⟨_, (pss_cons (ps_for PassesOwn.never rfl (pi_tup (pe_fld (pv 0) (by rfl))) (pg_name (i := 2) scWri.nd rfl (Or.inl rfl)) (pss_one (ps_if (pt_cmpR op_eq (pe_fld (pv 2) (by rfl)) (pv 1) (nomark _)) (pss_one (ps_ret (pv 2))) pss_nil))) (pss_one (ps_ret pe_non))), ?_⟩
    refine ⟨_, rfl, b, C 2, bx, bs, .ref vm, rfl, KA.ins, M.X.cls 2 (by decide), M.X.no 2 (by decide) _ (by decide), KA.m, vm, rfl, ⟨_, KA.sm⟩, for_tup (K := K) (a := vm) (xs := xs) (fun i σ H' => ∃ v1, σ = [some (.ref b), some (.str n), v1] ∧ H' = H ∧ ∀ j m, j < i → k.methods[j]? = some m → m.name ≠ n) ⟨none, rfl, rfl, fun j _ z => absurd z (Nat.not_lt_zero _)⟩ (fun i σ H' _ ⟨_, _, e, _⟩ => by rw [e]; exact KA.sm) ?_ ?_⟩
    · rintro i x σ H' hi ⟨v1, rfl, rfl, hb⟩
      obtain ⟨d, hd, od⟩ := ohAll_get _ _ _ _ KA.om hi
      rw [List.getElem?_map] at hd
      obtain ⟨m, em, rfl⟩ := Option.map_eq_some_iff.mp hd
      obtain ⟨ma, mx, ms, vp, ps, v1', v2', vb', rfl, MA⟩ := mO_get od
      refine ⟨_, rfl, ma, C 1, mx, ms, .str m.name, rfl, MA.ins, M.X.cls 1 (by decide), M.X.no 1 (by decide) _ (by decide), MA.nm, _, rfl, rfl, _, rfl, ?_⟩
      by_cases z : m.name = n
      · rw [decide_eq_true (by rw [z])]
        refine iteT ⟨_, rfl, q1 m _ ?_ od⟩
        unfold wr
        rw [List.find?_eq_some_iff_getElem]
        obtain ⟨hlt, eg⟩ := List.getElem?_eq_some_iff.mp em
        refine ⟨decide_eq_true z, i, hlt, eg, fun j hj => ?_⟩
        have hj2 : j < k.methods.length := by omega
        have := hb j _ hj (List.getElem?_eq_getElem hj2)
        simpa using this
      · rw [decide_eq_false (fun y => z (by injection y))]
        refine iteF ⟨_, rfl, rfl, fun j m2 hj e => ?_⟩
        by_cases y : j = i
        · subst y; rw [em] at e; cases e; exact z
        · exact hb j m2 (by omega) e
    · rintro σ H' ⟨v1, rfl, rfl, hb⟩
      refine q0 ?_
      unfold wr
      rw [List.find?_eq_none]
      intro m hm
      obtain ⟨j, hj, e⟩ := List.getElem_of_mem hm
      have hl : xs.length = k.methods.length := by rw [← OhAll.length _ _ KA.om, List.length_map]
      have := hb j m (by omega) (by rw [List.getElem?_eq_getElem hj, e])
      simpa using this
theorem lok_len {cs : List KD} {o : Ord} (ok : Lok cs o) : ∀ (l : List Str), (mnames cs l).length ≤ 3 * l.length
  | [] => Nat.le_refl _
  | e :: l => by
    have := lok_len ok l
    have h3 : (((kd cs e).map fun k => k.methods.map (·.name)).getD []).length ≤ 3 := by
      cases hk : kd cs e with
      | none => exact Nat.zero_le _
      | some k => show (k.methods.map (·.name)).length ≤ 3; rw [List.length_map]; exact ok.ms k (kd_name hk).2
    show ((((kd cs e).map fun k => k.methods.map (·.name)).getD []) ++ mnames cs l).length ≤ _
    rw [List.length_append, List.length_cons]
    omega
theorem ok_mo {g : Addr} {fd : FuncData} (F : Fun K "methods_of" "Library.methods_of" sMo g fd) (M : Lm K mg C f CL) : FnOk P w K mg base CX0 3 g fd ["self", "name"] (spMo K C f CL) := by
  have T := M.T
  obtain ⟨go, fdo, mo, Fo, bo⟩ := M.od
  have GO : FnOk P w K mg base CX0 2 go fdo ["self", "name"] (spOd K C f CL) := ok_od Fo M
  refine F.ok scMo (fun vs H Q E h => ?_) (fun cdv A outer s H vs Q E hr h => ?_)
  · obtain ⟨_, _, _, _, _, _, rfl, _⟩ := h
    rfl
  · obtain ⟨a, cs, ns, o, n, l, rfl, hL, hm, ok, hl, q⟩ := h
    have hu := hu_of hr
    obtain ⟨dx, fs, N, Tb, us, O, ns', L, eO, gO, hin⟩ := id hL
    have lok := ok.few n l hl
    have bound : (64 : Nat) < scanBound := by decide
    refine ⟨_, (pss_one (ps_ret (pe_callB (cr_sortedX rfl) (by rfl) T.sorted (by decide +kernel) (pa_cons (pe_sc2 (own := [("each", 2), ("method", 3)]) (vs1 := [3]) rfl scMo.nd (pi_list (pe_meth (pv 0) M.cls mo GO hr bo .nil pass0 (pa_cons (pv 1) pa_nil))) (blkOk_by (N := nMo) (sc := defScope sMo) (by decide +kernel)) (by decide) (fun _ _ _ _ _ => (pg_name (i := 2) scMo.nd rfl (Or.inl rfl))) (fun _ _ _ _ _ => pts_nil) (fun _ _ _ _ _ => (pi_tupK (K := K) rfl (pe_fldK (K := K) rfl (pe_dget hu (pe_fldK (K := K) rfl (pv 0) (by rfl)) (pv 2) (fun _ _ => rfl)) (by rfl)))) (fun _ _ _ _ _ => (pg_name (i := 3) scMo.nd rfl (Or.inl rfl))) (fun _ _ _ _ _ => pts_nil) (fun _ _ _ _ _ => (pe_fldK (K := K) rfl (pv 3) (by rfl)))) pa_nil)))), ?_⟩
    refine ⟨_, rfl, a, dx, fs, rfl, L.ins, L.no _ (by decide +kernel), _, rfl, a, cs, ns, o, n, l, rfl, hL, hm, hl, fun L1 H1 f1 s1 g1 => ?_⟩
    refine ⟨L1, rfl, ⟨_, SqL.of g1⟩, fun D hD => ?_⟩
    refine walk_it (walk_list (xs := l.map V.str)) (g := gName 2) (vs := [2, 3]) (σ := [some (.ref a), some (.str n), none, none]) (fun i H3 => Same H1 H3 ∧ ∃ z, H3 D = some (SetX P w D z) ∧ Col z (mnames cs (l.take i)) (3 * i)) ⟨new_same hD, [], upd_same, Col.nil⟩ (fun i H3 _ h => SqL.same h.1 (SqL.of g1)) ?_ ?_
    · rintro i x H3 H4 hi ⟨s3, z, gD, hC⟩ ⟨rfl, hx⟩
      obtain ⟨rfl, hm2⟩ := get_str hx
      have hi2 : i < l.length := by rw [List.length_map] at hi; exact hi
      have he : l[i]? = some (l.getD i "") := by simp only [List.getD, List.getElem?_eq_getElem hi2, Option.getD_some]
      have hin2 := ok.mem n l hl _ hm2
      obtain ⟨k, hk⟩ := kd_some hin2
      obtain ⟨dx3, fs3, N3, Tb3, us3, L3⟩ := hL.a.same (s1.trans s3)
      obtain ⟨v, ev, ov⟩ := (tab_look L3.ov).2 k hk
      have hg := DGet.k (k := .inr (l.getD i "")) L3.gT
      rw [ev] at hg
      obtain ⟨b, bx, bs, vb, vf, vm, vw, xs, rfl, KA⟩ := kO_get ov
      have ek := (kd_name hk).2
      have hms := ok.ms k ek
      have hxl : xs.length = k.methods.length := by rw [← OhAll.length _ _ KA.om, List.length_map]
      refine ⟨rfl, yes_of ⟨_, rfl, a, CL, dx3, fs3, .ref Tb3, rfl, L3.ins, M.cls, M.no _ (by simp), L3.tb, _, rfl, Tb3, _, rfl, hg, b, C 2, bx, bs, .ref vm, rfl, KA.ins, M.X.cls 2 (by decide), M.X.no 2 (by decide) _ (by decide), KA.m, vm, rfl, ⟨_, KA.sm⟩, ?_⟩⟩
      have ef : mnames cs (l.take (i + 1)) = mnames cs (l.take i) ++ k.methods.map (·.name) := by rw [take_snoc he, mnames_snoc, hk]; rfl
      refine walk_it (walk_tup (xs := xs)) (g := gName 3) (vs := [3]) (σ := [some (.ref a), some (.str n), some (.str (l.getD i "")), none]) (fun j H5 => Same H1 H5 ∧ KeepB D H4 H5 ∧ ∃ z, H5 D = some (SetX P w D z) ∧ Col z (mnames cs (l.take i) ++ (k.methods.take j).map (·.name)) (3 * i + j)) ⟨s3, fun _ _ _ z => z, z, gD, by rw [List.take_zero, List.map_nil, List.append_nil]; exact hC⟩ (fun j H5 _ h => SqT.keepX gD h.2.1 KA.sm) ?_ ?_
      · rintro j y H5 H6 hj ⟨s5, k5, z5, gD5, hC5⟩ ⟨rfl, hy⟩
        obtain ⟨d, hd, od⟩ := ohAll_get _ _ _ _ KA.om hy
        rw [List.getElem?_map] at hd
        obtain ⟨m, em, rfl⟩ := Option.map_eq_some_iff.mp hd
        obtain ⟨ma, mx, ms, vp, ps, v1', v2', vb', rfl, MA⟩ := mO_get od
        have hne : ma ≠ D := fun z => by
          have := MA.ins
          rw [z, gD] at this
          cases this
        refine ⟨rfl, yes_of ⟨_, rfl, ma, C 1, mx, ms, .str m.name, rfl, k5 _ _ hne MA.ins, M.X.cls 1 (by decide), M.X.no 1 (by decide) _ (by decide), MA.nm, z5, m.name, rfl, gD5, ?_, same_D hD s5, k5.trans KeepB.at, _, upd_same, ?_⟩⟩
        · have := hC5.len
          omega
        · refine (hC5.put (k := m.name)).same ?_
          rw [take_snoc em]
          simp only [List.map_append, List.append_assoc]
          rfl
      · rintro H5 ⟨s5, k5, z5, gD5, hC5⟩
        rw [hxl, List.take_length] at hC5
        exact ⟨s5, z5, gD5, (hC5.same ef.symm).more (by omega)⟩
    · rintro H3 ⟨s3, z, gD, hC⟩
      rw [List.length_map, List.take_length] at hC
      have hlen := hC.len
      refine ⟨D, z, rfl, gD, by omega, fun ys p3 hso hpm hp3 => ?_⟩
      refine q ys p3 _ hso (hpm.nodup_iff.mpr hC.nd) (fun t => hpm.mem_iff.trans (hC.mem t)) (by rw [hpm.length_eq]; omega) (Same.free (s1.trans s3) hp3) ((s1.trans s3).trans (new_same hp3)) upd_same
theorem ok_wo {g : Addr} {fd : FuncData} (F : Fun K "writer_of" "Library.writer_of" sWo g fd) (M : Lm K mg C f CL) : FnOk P w K mg base CX0 3 g fd ["self", "name", "method"] (spWo K C f CL) := by
  obtain ⟨go, fdo, mo, Fo, bo⟩ := M.od
  have GO : FnOk P w K mg base CX0 2 go fdo ["self", "name"] (spOd K C f CL) := ok_od Fo M
  obtain ⟨gw, fdw, dWr⟩ := M.wri
  have GWr : FnOk P w K mg base CX0 1 gw fdw ["classdef", "name"] (spWri K C f) := ok_wri dWr M
  refine F.ok scWo (fun vs H Q E h => ?_) (fun cdv A outer s H vs Q E hr h => ?_)
  · obtain ⟨_, _, _, _, _, _, _, _, rfl, _⟩ := h
    rfl
  · obtain ⟨a, cs, ns, o, n, m, l, e, rfl, hL, hm, ok, hl, he, q⟩ := h
    have hu := hu_of hr
    have hr1 : Room 1 (A.deeper (envOfC "Library.writer_of" (defScope sWo) s.heap.objs.size g cdv)) := hr.mono (by decide)
    obtain ⟨dx, fs, N, Tb, us, O, ns', L, eO, gO, hin⟩ := id hL
    rw [List.find?_eq_some_iff_getElem] at he
    obtain ⟨hhas, i0, hi0, ei0, hbef⟩ := he
    refine ⟨_, (pss_cons (ps_for PassesOwn.never rfl (pi_list (pe_meth (pv 0) M.cls mo GO hr bo .nil pass0 (pa_cons (pv 1) pa_nil))) (pg_name (i := 3) scWo.nd rfl (Or.inl rfl)) (pss_one (ps_if (pt_cmpR op_notN (pe_call GWr hr1 (by rfl) dWr.m dWr.F.kp dWr.b .nil pass0 (pa_cons (pe_dget hu (pe_fld (pv 0) (by rfl)) (pv 3) (fun _ _ => rfl)) (pa_cons (pv 2) pa_nil))) pe_non (nomark _)) (pss_one (ps_ret (pv 3))) pss_nil))) (pss_one ps_dead)), ?_⟩
    refine ⟨_, rfl, a, dx, fs, rfl, L.ins, L.no _ (by decide +kernel), _, rfl, a, cs, ns, o, n, l, rfl, hL, hm, hl, fun L1 H1 f1 s1 g1 => ?_⟩
    refine ⟨L1, rfl, ⟨_, SqL.of g1⟩, for_list (K := K) (a := L1) (xs := l.map V.str) (fun i σ H' => ∃ v, σ = [some (.ref a), some (.str n), some (.str m), v] ∧ Same H1 H' ∧ i ≤ i0) ⟨none, rfl, fun _ _ z => z, Nat.zero_le _⟩ (fun i σ H' _ ⟨_, _, s, _⟩ => SqL.same s (SqL.of g1)) ?_ ?_⟩
    · rintro i x σ H3 hi ⟨v0, rfl, s3, hle⟩
      obtain ⟨rfl, hm2⟩ := get_str hi
      have hi2 : i < l.length := by
        have := (List.getElem?_eq_some_iff.mp hi).1
        rwa [List.length_map] at this
      have egd : l.getD i "" = l[i] := by simp [List.getD, hi2]
      have hin2 := ok.mem n l hl _ hm2
      obtain ⟨k, hk⟩ := kd_some hin2
      obtain ⟨dx3, fs3, N3, Tb3, us3, L3⟩ := hL.a.same (s1.trans s3)
      obtain ⟨v, ev, ov⟩ := (tab_look L3.ov).2 k hk
      have hg := DGet.k (k := .inr (l.getD i "")) L3.gT
      rw [ev] at hg
      have ehas : hasM cs m (l.getD i "") = (wr k m).isSome := by unfold hasM; rw [hk]; rfl
      refine ⟨_, rfl, a, CL, dx3, fs3, .ref Tb3, rfl, L3.ins, M.cls, M.no _ (by simp), L3.tb, _, rfl, Tb3, _, rfl, hg, _, rfl, v, k, m, rfl, ov, fun hw => ?_, fun md u hw ou => ?_⟩
      · refine ⟨rfl, _, rfl, iteF ⟨_, rfl, s3, ?_⟩⟩
        by_cases y : i = i0
        · subst y
          rw [← ei0, ← egd, ehas, hw] at hhas
          cases hhas
        · omega
      · refine ⟨rfl, _, rfl, ?_⟩
        obtain ⟨ma, _, _, _, _, _, _, _, rfl, _⟩ := mO_get ou
        refine iteT ⟨_, rfl, ?_⟩
        have : i = i0 := by
          by_cases y : i = i0
          · exact y
          · have := hbef i (by omega)
            rw [← egd, ehas, hw] at this
            cases this
        subst this
        have := q H3 (s1.trans s3)
        rw [← ei0, ← egd] at this
        exact this
    · rintro σ H' ⟨v, rfl, s3, hle⟩
      rw [List.length_map] at hle
      omega
theorem ok_to {g : Addr} {fd : FuncData} (F : Fs K mg "terms_of" sTO ["library", "name", "kind"] g fd) (M : Lm K mg C f CL) : FnOk P w K mg base CX0 4 g fd ["library", "name", "kind"] (spTO K C f CL) := by
  obtain ⟨gf, fdf, mf, Ff, bf⟩ := M.fl
  have GF : FnOk P w K mg base CX0 3 gf fdf ["self", "name"] (spFl K C f CL) := ok_fl Ff M
  refine F.F.ok scTO (fun vs H Q E h => ?_) (fun cdv A outer s H vs Q E hr h => ?_)
  · obtain ⟨_, _, _, _, _, _, rfl, _⟩ := h
    rfl
  · obtain ⟨a, cs, ns, o, nm, kind, rfl, hL, hk, ok, hnl, q⟩ := h
    obtain ⟨dx, fs, N, Tb, us, O, ns', L, eO, gO, hin⟩ := id hL
    refine ⟨_, (pss_cons (ps_if (pt_cmpR op_eq (pv 2) pe_str (nomark _)) (pss_one (ps_ret (pe_lst (pa_cons (pv 1) pa_nil)))) pss_nil) (pss_one (ps_ret (pe_lc (own := [("field", 3)]) (g := gName 3) (tt := tYes) rfl scTO.nd (pi_list (pe_meth (pv 0) M.cls mf GF hr bf .nil pass0 (pa_cons (pv 2) pa_nil))) (blkOk_by (N := nTO) (sc := defScope sTO) (by decide +kernel)) (fun _ _ _ _ _ => (pg_name (i := 3) scTO.nd rfl (Or.inl rfl))) (fun _ _ _ _ _ => pts_nil) (fun _ _ _ _ _ => (pe_op op_add_str (pe_op op_add_str (pv 1) pe_str) (pv 3))))))), ?_⟩
    refine ⟨_, rfl, rfl, _, rfl, ?_⟩
    by_cases z : kind = "int"
    · rw [decide_eq_true (by rw [z])]
      refine iteT ⟨_, rfl, le_sz (Nat.le_of_ble_eq_true rfl), fun p hp => ?_⟩
      exact q p _ hp (new_same hp) (by rw [upd_same]; unfold termsO; rw [if_pos z]; rfl)
    · rw [decide_eq_false (fun y => z (by injection y))]
      have hm := hk.resolve_left z
      obtain ⟨l, hl⟩ := ok.all kind hm
      refine iteF ⟨_, rfl, a, dx, fs, rfl, L.ins, L.no _ (by decide +kernel), _, rfl, a, cs, ns, o, kind, rfl, hL, hm, ok, fun L1 H1 f1 s1 g1 => ?_⟩
      have hfl : ∀ t ∈ fldsOf cs o kind, t.length ≤ 1000 := fun t ht => by
        unfold fldsOf fldsL at ht
        obtain ⟨e, _, ht⟩ := List.mem_flatMap.mp ht
        cases ek : kd cs e with
        | none => rw [ek] at ht; cases ht
        | some k => rw [ek] at ht; exact ok.flt k (kd_name ek).2 t ht
      have hlen : (fldsOf cs o kind).length ≤ 60 := by
        have h1 := fldsL_len ok.fs ((o kind).getD []).reverse
        have h2 := ok.few kind l hl
        rw [List.length_reverse, hl] at h1
        have : (some l).getD [] = l := rfl
        rw [this] at h1
        have h3 : 3 * l.length ≤ 60 := by omega
        exact Nat.le_trans (show (fldsOf cs o kind).length ≤ 3 * l.length by unfold fldsOf; rw [hl]; exact h1) h3
      refine ⟨L1, rfl, ⟨_, SqL.of g1⟩, fun D hD => ?_⟩
      refine lc_map (walk_list (xs := (fldsOf cs o kind).map V.str)) (g := gName 3) (vs := [3]) (σ := [some (.ref a), some (.str nm), some (.str kind), none]) (fun i => .str ((nm ++ ".") ++ (fldsOf cs o kind).getD i "")) hD (by rw [List.length_map]; omega) (fun H' s' => SqL.same s' (SqL.of g1)) (fun i x H2 H3 R hi s2 ⟨e1, hx⟩ k => ?_) fun H2 s2 gD => ?_
      · subst e1
        obtain ⟨rfl, hm2⟩ := get_str hx
        have h1 := hfl _ hm2
        refine ⟨rfl, _, rfl, _, _, rfl, rfl, small1000'' (by have : ("." : Str).length = 1 := rfl; omega), _, rfl, _, _, rfl, rfl, small1000'' (by rw [str_len]; have : ("." : Str).length = 1 := rfl; omega), k _ fun _ _ z => z⟩
      · rw [List.length_map, range_getD (fldsOf cs o kind) "" fun t => V.str ((nm ++ ".") ++ t)] at gD
        refine q D H2 (Same.free s1 hD) (s1.trans s2) ?_
        rw [gD]
        unfold termsO
        rw [if_neg z, List.map_map]
        rfl
end

end Kx
set_option linter.all false
namespace Kx
open PySem L2 PySem.Spec PyProof.Rows
/-! for word in D, D a dict that the module has written -/
structure KWalk (K : PySem.W.Frag) (d : Addr) (ks : List Str) (o : Obj) (es : Array DictEntry) (ep : Nat) : Prop where
  at_ : K.lookup d = some o
  ex : o.ExactDict
  dt : o.data = .dict es ep
  sz : es.size = ks.length
  low : (d == sysModules) = false
  key : ∀ (i : Nat) (k : Str), ks[i]? = some k → ∃ (en : DictEntry) (t : Tok), es[i]? = some en ∧ en.key = .str k t
def Itkd (ks : List Str) : It := ⟨fun i _ => i < ks.length, fun i H x H' => H' = H ∧ ∃ k, ks[i]? = some k ∧ x = .str k, fun i _ => ks.length ≤ i⟩
theorem turn_kd {P : Program} {w : World} {K : PySem.W.Frag} {tg : Expr} {d : Addr} {ks : List Str} {o : Obj} {es : Array DictEntry} {ep : Nat} (D : KWalk K d ks o es ep) (it : Addr) : Turn P w K tg (Itkd ks) [it] it (fun i h => h.IsKeyIter it d i ks.length ep) where
  mem := by simp
  obj := fun i h st b hb => by
    have e : b = it := by simpa using hb
    subst e
    obtain ⟨oi, e, c, dd⟩ := st
    exact ⟨oi, e, fun v z => by rw [dd] at z; cases z⟩
  keep := fun i h h' st k => st.at fun oi e => k it (by simp) oi e
  item := by
    intro X hP hw hK hc i pins s σ H E I hf st hi
    subst hP hw hK
    obtain ⟨f0, f1, f2, f3, f4, f5⟩ := hf it (by simp)
    have hgd := I.kIn _ _ D.at_
    obtain ⟨k, hk⟩ : ∃ k, ks[i]? = some k := ⟨ks[i], List.getElem?_eq_getElem hi⟩
    obtain ⟨en, t, he, ek⟩ := D.key i k hk
    refine next_key_item st hgd D.dt D.sz he fun h' st' sb => ?_
    have I1 : Inv X pins σ H { s with heap := h' } := I.turned (t' := s.toks) (fun b ob hb e => (sb.2 b hb).trans e) f0 f1 f3 f4 f5
    obtain ⟨oi, e, c, dd⟩ := id st'
    exact ⟨en.key, rfl, go_of (s := { s with heap := h' }) e c dd (by decide) ⟨.str k, H, I1, ⟨t, ek⟩, ⟨rfl, k, hk, rfl⟩, st', fun b hb => (hf b hb).1⟩⟩
  done := by
    intro X hP hw hK hc i pins s σ H E I hf st hi
    subst hP hw hK
    obtain ⟨f0, f1, f2, f3, f4, f5⟩ := hf it (by simp)
    have hgd := I.kIn _ _ D.at_
    exact next_key_end (I.ok.hd hc) st hgd D.dt D.sz hi fun h' eb => ⟨rfl, I.turned (t' := s.toks) (fun b ob hb e => eb b ob hb e) f0 f1 f3 f4 f5⟩
  self := fun A i s Q E st h => wpAny_pyIter_keyiter st h
def iKd (td : TE) (d : Addr) (ks : List Str) : TI := fun σ H R => td σ H fun x H1 => x = .ref d ∧ R (Itkd ks) H1
theorem pi_kd {X : Cx} {tg e : Expr} {td : TE} {d : Addr} {ks : List Str} {o : Obj} {es : Array DictEntry} {ep : Nat} (D : KWalk X.K d ks o es ep) (he : PE X e td) : PI X tg e (iKd td d ks) := by
  refine ⟨fun pins s σ H R I h => ?_⟩
  refine thn (he.run pins s σ H _ I h) fun u s1 ⟨x, H1, I1, rx, ex, q⟩ => ?_
  subst ex
  obtain rfl : u = Value.ref d := rx
  have hgd := I1.kIn _ _ D.at_
  refine iter_keys D.low hgd D.ex D.dt (pi_one (tk := s1.toks) I1 _ (turn_kd D _) ⟨_, Heap.get?_push_size _ rfl, rfl, ?_⟩ q)
  rw [D.sz] <;> rfl
theorem walk_kd {ks : List Str} : Walk (Itkd ks) ks.length (fun _ => True) (fun i H x H' => H' = H ∧ ∃ k, ks[i]? = some k ∧ x = .str k) :=
  ⟨fun i _ hi _ => hi, fun _ _ => Nat.le_refl _, fun _ _ _ _ _ _ y => y⟩
/-! y = {k: v for x in xs}, a statement of its own -/
theorem sw_dict {kx vx : Expr} {gs : List Comprehension} {scope : Scope} {pos py : Pos} {y : Str} {l : Nat} {env : Env} (h1 : env.scope.kind = .function) (h2 : env.scope.names.lookup y = some .local) (h3 : (py.line == pos.line) = true)
    (h4 : (scope.names.any fun (n, k) => n == y && (k == .local || k == .cell)) = false) : swapsWith (.DictComp kx vx gs scope pos) (some (.Name y py)) l env = pure true := by
  have k1 : env.kindOf y = some .local := h2
  have k2 : env.blockKind = .function := by
    unfold Env.blockKind
    rw [h1]
    rfl
  unfold swapsWith
  simp only [k2, k1, h4, Expr.pos, h3]
  rfl
section
variable {X : Cx}
theorem ps_setDc {i : Nat} {y : Str} {py : Pos} {kx vx tg iter : Expr} {ifs : List Expr} {scope : Scope} {own : List (Str × Nat)} {pos spos : Pos} {wi : TI} {g : TG} {tt : TT} {tk tv : TE} (calm : X.calm = true) (nd : X.N.Nodup) (at_ : X.N[i]? = some y) (loc : X.env.scope.names.lookup y = some .local)
    (sw : swapsWith (.DictComp kx vx [⟨tg, iter, ifs, 0⟩] scope pos) (some (.Name y py)) spos.line X.env = pure true) (hi : PI X tg iter wi) (ok : BlkOk X.N X.env.scope scope own)
    (pg : ∀ (s : Shared) (H : Hp) (C : Addr) (cl : List (Str × Addr)) (fp : List Addr), PG (X.blk s H scope (compEnvC scope cl C X.env) fp) tg g)
    (pt : ∀ (s : Shared) (H : Hp) (C : Addr) (cl : List (Str × Addr)) (fp : List Addr), PTs (X.blk s H scope (compEnvC scope cl C X.env) fp) ifs tt)
    (pk : ∀ (s : Shared) (H : Hp) (C : Addr) (cl : List (Str × Addr)) (fp : List Addr), PE (X.blk s H scope (compEnvC scope cl C X.env) fp) kx tk)
    (pv' : ∀ (s : Shared) (H : Hp) (C : Addr) (cl : List (Str × Addr)) (fp : List Addr), PE (X.blk s H scope (compEnvC scope cl C X.env) fp) vx tv)
    (fo : ∀ x, foldedSetIterable iter X.env x = pure x := by intro _; rfl) :
    PS X (.Assign [.Name y py] (.DictComp kx vx [⟨tg, iter, ifs, 0⟩] scope pos) spos) (tAsg (tDc wi g tt tk tv (own.map (·.2))) (gName i)) := by
  refine ⟨fun pins s σ H D I h => ?_⟩
  rw [exec_Assign_Name_used _ _ _ _ sw]
  refine wpAny_bind (wpAny_standAt (wpAny_bind ?_))
  show wpAny _ X.A (do let _ ← comprehension (.DictComp kx vx [⟨tg, iter, ifs, 0⟩] scope pos) scope X.env (firstIterPos [⟨tg, iter, ifs, 0⟩] pos) newDict false (eval iter X.env) (some (assign (.Name y py) X.env))) _ _ s
  have h : tDc wi g tt tk tv (own.map (·.2)) σ H (fun x H1 => gName i x σ H1 D.nx) := h
  refine wpAny_bind (thn (dc_core (Qf := fun _ s' => SP X pins D .next s') calm nd I hi ok pg pt pk pv' fo h fun L C s' m H' I' q hn fr => ?_) fun _ s' hq => wpAny_pure (wpAny_pure hq))
  show wpAny _ _ (assign (.Name y py) X.env (.ref L)) _ _ _
  refine wpAny_assign_Name (store_ok2 (v := V.ref L) I' nd at_ (.inl loc) rfl (fun s2 I2 ⟨a, sb, ha⟩ => ?_) (.inr loc))
  obtain ⟨e0, e1, e2, e3, e4, e5⟩ := fr
  have nCa : C ≠ a := by
    rcases ha with z | z
    · rw [z]; exact e1
    · exact fun e => e4 y a z e.symm
  refine ⟨m, hn.sameBut sb nCa, fun h3 sb3 => ?_⟩
  exact ⟨_, H', I2.turned (t' := s2.toks) (fun b o hb z => (sb3.2 b hb).trans z) e0 e1 e3 e4 e5, q⟩
end
end Kx
set_option linter.all false
namespace Kx
open PySem L2 PySem.Spec PyProof.Rows
abbrev sFNC : Stmt := top 99
abbrev nFNC : List Str := ["classes", "names", "at", "one"]
theorem scFNC : FnScope nFNC ["classes"] (defScope sFNC) := ⟨rfl, rfl, rfl, by decide +kernel, rfl, by decide +kernel, by decide +kernel⟩
abbrev sAC : Stmt := top 101
abbrev nAC : List Str := ["library", "bases", "base"]
theorem scAC : FnScope nAC ["library", "bases"] (defScope sAC) := ⟨rfl, rfl, rfl, by decide +kernel, rfl, by decide +kernel, by decide +kernel⟩
abbrev sWBs : Stmt := top 100
abbrev nWBs : List Str := ["library", "name", "bases"]
theorem scWBs : FnScope nWBs ["library"] (defScope sWBs) := ⟨rfl, rfl, rfl, by decide +kernel, rfl, by decide +kernel, by decide +kernel⟩
/-- what is known of the library's words -/
structure Gm (mg : Str → Option Value) : Prop where
  c30 : ∃ k, mg "MOST_CLASSES" = some (.int 30 k)
  b3 : ∃ k, mg "MOST_BASES" = some (.int 3 k)
  f3 : ∃ k, mg "MOST_FIELDS" = some (.int 3 k)
  m3 : ∃ k, mg "MOST_METHODS" = some (.int 3 k)
  p3 : ∃ k, mg "MOST_PARAMS" = some (.int 3 k)
structure Nm (K : PySem.W.Frag) (mg : Str → Option Value) : Prop where
  isN : ∃ f fd, Fs K mg "is_name" sIsN ["thing"] f fd
  areN : ∃ f fd, Fs K mg "are_names" sAreN ["things", "most"] f fd
  word : ∃ f fd, Fs K mg "is_word" sIsWord ["thing"] f fd
  no : ∃ NN, mg "NO_NAMES" = some (.ref NN) ∧ ∀ H, SqT K H NN (noNames.map V.str)
  set : mg "set" = none
theorem Nm.ga {P : Program} {w : World} {K : PySem.W.Frag} {mg : Str → Option Value} {base : Heap} (N : Nm K mg) (T : Bx mg) : ∃ f fd, Fs K mg "are_names" sAreN ["things", "most"] f fd ∧ FnOk P w K mg base CX0 3 f fd ["things", "most"] (spAreN K) := by
  obtain ⟨_, _, d1⟩ := N.isN
  obtain ⟨_, _, d2⟩ := N.areN
  obtain ⟨_, _, d3⟩ := N.word
  obtain ⟨_, h1, h2⟩ := N.no
  exact ⟨_, _, d2, ok_areN d2 d1 d3 T h1 h2 N.set⟩
theorem Nm.gn {P : Program} {w : World} {K : PySem.W.Frag} {mg : Str → Option Value} {base : Heap} (N : Nm K mg) (T : Bx mg) : ∃ f fd, Fs K mg "is_name" sIsN ["thing"] f fd ∧ FnOk P w K mg base CX0 2 f fd ["thing"] spIsN := by
  obtain ⟨_, _, d1⟩ := N.isN
  obtain ⟨_, _, d3⟩ := N.word
  obtain ⟨_, h1, h2⟩ := N.no
  exact ⟨_, _, d1, ok_isN d1 d3 T h1 h2⟩
/-- names that can stand -/
structure NamesOk (cs : List KD) : Prop where
  nd : (cs.map (·.name)).Nodup
  nm : ∀ k ∈ cs, isName k.name = true ∧ k.name.length ≤ 1000
  few : cs.length ≤ 30
def spFNC (K : PySem.W.Frag) (C f : Nat → Addr) : Sp := fun vs H Q _ => ∃ (a : Addr) (xs : List V) (cs : List KD), vs = [.ref a] ∧ SqT K H a xs ∧ OhAll K (clk C f) H (cs.map kO) xs ∧ NamesOk cs ∧ ∀ H', Same H H' → Q .non H'
/-- of a class: its bases, and that they are there -/
structure BasesOk (cs : List KD) (l : List Str) : Prop where
  nm : areN l 3 = true
  mem : ∀ b ∈ l, b ∈ cs.map (·.name)
  len : l.length ≤ 60
  sh : ∀ b ∈ l, b.length ≤ 1000
def spAC (K : PySem.W.Frag) (C f : Nat → Addr) (CL : Addr) : Sp := fun vs H Q _ => ∃ (a b : Addr) (cs : List KD) (ns l : List Str), vs = [.ref a, .ref b] ∧ LibA K C f CL H a cs ns ∧ SqT K H b (l.map V.str) ∧ BasesOk cs l ∧ ∀ H', Same H H' → Q (.bl true) H'
def bsOf (cs : List KD) (ns : List Str) : Bs := ns.map fun n => (n, ((kd cs n).map (·.bases)).getD [])
def spWB (K : PySem.W.Frag) (C f : Nat → Addr) (CL : Addr) : Sp := fun vs H Q _ => ∃ (a : Addr) (cs : List KD) (ns : List Str), vs = [.ref a] ∧ LibA K C f CL H a cs ns ∧ ns.Nodup ∧ ns.length ≤ 30 ∧ (∀ k ∈ cs, BasesOk cs k.bases) ∧ BsOk (bsOf cs ns) ∧ (∀ n, ¬ Up (bsOf cs ns) n n) ∧ ∀ H', Same H H' → Q .non H'
section
variable {P : Program} {w : World} {K : PySem.W.Frag} {mg : Str → Option Value} {base : Heap} {C f : Nat → Addr} {CL : Addr}
theorem le_sz' {n : Nat} (h : n < 100) : n < sizeLine := Nat.lt_of_lt_of_le h (le_sz (Nat.le_refl _))
theorem walk_enumT {a : Addr} {xs : List V} : Walk (IteT K a) xs.length (fun H => SqT K H a xs) (YPair (fun i => some (.int (i : Nat))) (fun i => xs[i]?)) := by
  refine ⟨fun i _ hi q => ⟨xs, xs[i], q, by simp [hi]⟩, fun _ q => ⟨xs, q, Nat.le_refl _⟩, fun i H v H' _ q y => ?_⟩
  obtain ⟨T, x, h1, h2, h3, h4⟩ := y
  exact ⟨T, .int (i : Nat), x, h1, h2, h3, rfl, h4 xs q⟩
theorem ok_fnc {g : Addr} {fd : FuncData} (F : Fs K mg "first_no_class" sFNC ["classes"] g fd) (M : Lm K mg C f CL) (G : Gm mg) (N : Nm K mg) (gC : mg "ClassDef" = some (.ref (C 2))) : FnOk P w K mg base CX0 3 g fd ["classes"] (spFNC K C f) := by
  have T := M.T
  obtain ⟨_, _, dN, GN⟩ := N.gn (P := P) (w := w) (base := base) T
  obtain ⟨k30, h30⟩ := G.c30
  refine F.F.ok scFNC (fun vs H Q E h => ?_) (fun cdv A outer s H vs Q E hr h => ?_)
  · obtain ⟨_, _, _, rfl, _⟩ := h
    rfl
  · obtain ⟨a, xs, cs, rfl, ha, ox, ok, q⟩ := h
    have hxl : xs.length = cs.length := by rw [← OhAll.length _ _ ox, List.length_map]
    refine ⟨_, (pss_cons (ps_set (i := 1) scFNC.nd rfl (Or.inl rfl) (pe_lst pa_nil)) (pss_cons (ps_for PassesOwn.never rfl (pi_enumT (by rfl) T.enum (pa_cons (pv 0) pa_nil)) (pg_tup rfl (pgs_cons (pg_name (i := 2) scFNC.nd rfl (Or.inl rfl)) (pgs_cons (pg_name (i := 3) scFNC.nd rfl (Or.inl rfl)) pgs_nil))) (pss_cons (ps_if (PW.pt (pw_or (pt_cmpR op_eq (pv 2) (pe_glob (v := .int 30) (by rfl) h30 ⟨_, rfl⟩) (nomark _)) (pw_or (pt_not (pt_val (pe_callB call_isi (by rfl) T.isi boot_isinstance (pa_cons (pv 3) (pa_cons (pe_glob (v := .ref (C 2)) (by rfl) gC rfl) pa_nil))))) (pw_or (pt_not (pt_val (pe_call GN hr (by rfl) dN.m dN.F.kp dN.b .nil pass0 (pa_cons (pe_fld (pv 3) (by rfl)) pa_nil)))) (pw_or1 (pt_cmpR op_in_seq (pe_fld (pv 3) (by rfl)) (pv 1) (by with_unfolding_all rfl))))))) (pss_one (ps_ret (pv 2))) pss_nil) (pss_one (ps_expr (pe_bm PySem.F.plainAttrs_list PySem.F.slot_list_append PySem.F.type_list_append mt_append (pv 1) (pa_cons (pe_fld (pv 3) (by rfl)) pa_nil)))))) (pss_one (ps_ret pe_non)))), ?_⟩
    refine ⟨le_sz (Nat.le_of_ble_eq_true rfl), fun L hL => ?_⟩
    have s1 := new_same (o := .lst []) hL
    have gL : (upd H L (.lst [])) L = some (.lst []) := upd_same
    obtain ⟨H1, e1⟩ : ∃ G, upd H L (.lst []) = G := ⟨_, rfl⟩
    rw [e1] at s1 gL ⊢
    refine ⟨_, rfl, a, _, rfl, SqT.same s1 ha, for_it walk_enumT (fun i σ H2 => ∃ v1 v2, σ = [some (.ref a), some (.ref L), v1, v2] ∧ Same H H2 ∧ H2 L = some (.lst (((cs.take i).map (·.name)).map V.str))) ⟨none, none, rfl, s1, gL⟩ (fun i σ H2 _ ⟨_, _, _, s, _⟩ => SqT.same s ha) ?_ ?_⟩
    · rintro i x σ H2 H3 hi ⟨v1, v2, rfl, s2, g2⟩ ⟨t, y1, y, rfl, ht, rfl, e5, hy⟩
      injection e5 with e5
      subst e5
      obtain ⟨d, hd, od⟩ := ohAll_get _ _ _ _ ox hy
      rw [List.getElem?_map] at hd
      obtain ⟨k, ek, rfl⟩ := Option.map_eq_some_iff.mp hd
      have hk : k ∈ cs := List.mem_of_getElem? ek
      obtain ⟨kn, kl⟩ := ok.nm k hk
      have s3 : Same H2 (upd H2 t (.tup [.int (i : Nat), y])) := new_same ht
      have s23 := s2.trans s3
      have g3 := s3 _ _ g2
      have od3 := Oh.sm s23 od
      refine ⟨t, _, rfl, SqT.of upd_same, rfl, _, _, rfl, _, _, rfl, rfl, ?_⟩
      obtain ⟨H3, e3⟩ : ∃ G, upd H2 t (.tup [.int (i : Nat), y]) = G := ⟨_, rfl⟩
      rw [e3] at s3 s23 g3 od3 ⊢
      obtain ⟨b, bx, bs, vb, vf, vm, vw, ys, rfl, KA⟩ := kO_get od3
      have hi30 : i < 30 := by have := ok.few; omega
      refine ⟨_, rfl, rfl, _, rfl, ?_⟩
      rw [decide_eq_false (fun z => by injection z with z; omega)]
      refine iteF ?_
      refine ⟨_, rfl, .ref b, .ref (C 2), _, _, true, rfl, .own _, M.X.KT.ty 2 (by decide) _ b bx bs KA.ins, kitS, true, rfl, iteF ?_⟩
      refine ⟨_, rfl, b, C 2, bx, bs, _, rfl, KA.ins, M.X.cls 2 (by decide), M.X.no 2 (by decide) _ (by decide), KA.nm, k.name, rfl, kl, fun H4 s4 => ?_⟩
      rw [kn]
      refine ⟨_, rfl, iteF ?_⟩
      have g4 := s4 _ _ g3
      refine ⟨_, rfl, b, C 2, bx, bs, _, rfl, s4 _ _ KA.ins, M.X.cls 2 (by decide), M.X.no 2 (by decide) _ (by decide), KA.nm, _, rfl, L, _, rfl, .inl (SqL.of g4), rfl, flat_strs _, _, rfl, ?_⟩
      rw [inV_str]
      have nin : k.name ∉ (cs.take i).map (·.name) := by
        intro z
        obtain ⟨k2, hk2, e⟩ := List.mem_map.mp z
        obtain ⟨j, hj, ej⟩ := List.getElem_of_mem hk2
        rw [List.length_take] at hj
        rw [List.getElem_take] at ej
        have hi2 : i < cs.length := by omega
        have hnd := List.pairwise_iff_getElem.mp ok.nd j i (by rw [List.length_map]; omega) (by rw [List.length_map]; exact hi2) (by omega)
        refine hnd ?_
        rw [List.getElem_map, List.getElem_map, ej, e]
        have : cs[i] = k := by rw [List.getElem?_eq_getElem hi2] at ek; exact Option.some.inj ek
        rw [this]
      rw [decide_eq_false nin]
      refine iteF ?_
      refine ⟨_, rfl, .inl ⟨rfl, _, SqL.of g4⟩, _, rfl, b, C 2, bx, bs, _, rfl, s4 _ _ KA.ins, M.X.cls 2 (by decide), M.X.no 2 (by decide) _ (by decide), KA.nm, L, _, _, rfl, rfl, g4, le_sz' (by rw [List.length_map, List.length_map, List.length_take]; omega), ?_⟩
      refine ⟨_, _, rfl, same_D hL (s23.trans s4), ?_⟩
      rw [upd_same, take_snoc ek]
      simp only [List.map_append]
      rfl
    · rintro σ H2 ⟨v1, v2, rfl, s2, g2⟩
      exact q H2 s2
theorem ok_ac {g : Addr} {fd : FuncData} (F : Fs K mg "_are_classes" sAC ["library", "bases"] g fd) (M : Lm K mg C f CL) (G : Gm mg) (N : Nm K mg) : FnOk P w K mg base CX0 4 g fd ["library", "bases"] (spAC K C f CL) := by
  have T := M.T
  obtain ⟨_, _, dA, GA⟩ := N.ga (P := P) (w := w) (base := base) T
  obtain ⟨_, hb3⟩ := G.b3
  obtain ⟨gc, fdc, oc, Fc, bc⟩ := M.co
  have GC : FnOk P w K mg base CX0 1 gc fdc ["self", "name"] (spCo K C f CL) := ok_co Fc M
  refine F.F.ok scAC (fun vs H Q E h => ?_) (fun cdv A outer s H vs Q E hr h => ?_)
  · obtain ⟨_, _, _, _, _, rfl, _⟩ := h
    rfl
  · obtain ⟨a, b, cs, ns, l, rfl, hL, hb, ok, q⟩ := h
    have hrC : Room 1 (A.deeper (envOfC "_are_classes" (defScope sAC) s.heap.objs.size g cdv)) := hr.mono (by decide)
    refine ⟨_, (pss_one (ps_ret (pe_and (pe_call GA hr (by rfl) dA.m dA.F.kp dA.b .nil pass0 (pa_cons (pv 1) (pa_cons (pe_glob (v := .int 3) (by rfl) hb3 ⟨_, rfl⟩) pa_nil))) (pe_one (pe_callB (cr_all rfl) (by rfl) T.all (by decide +kernel) (pa_cons (pe_lc (own := [("base", 2)]) (g := gName 2) (tt := tYes) rfl scAC.nd (pi_tup (pv 1)) (blkOk_by (N := nAC) (sc := defScope sAC) (by decide +kernel)) (fun _ _ _ _ _ => (pg_name (i := 2) scAC.nd rfl (Or.inl rfl))) (fun _ _ _ _ _ => pts_nil) (fun _ _ _ _ _ => (pe_cmpR (op_ownIn (E := E0) oc GC hrC bc pass0) (pv 2) (pv 0) (by with_unfolding_all rfl)))) pa_nil)))))), ?_⟩
    refine ⟨_, rfl, b, l, 3, rfl, hb, ok.len, ok.sh, fun H1 s1 => ⟨_, rfl, ?_⟩⟩
    rw [ok.nm]
    refine iteT ⟨_, rfl, b, rfl, ⟨_, SqT.same s1 hb⟩, fun D hD => ?_⟩
    have h60 := ok.len
    refine lc_map (walk_tup (xs := l.map V.str)) (g := gName 2) (vs := [2]) (σ := [some (.ref a), some (.ref b), none]) (fun _ => .bl true) hD (by rw [List.length_map]; omega) (fun H' s' => SqT.same (s1.trans s') hb) (fun i x H2 H3 R hi s2 ⟨e1, hx⟩ k => ?_) fun H2 s2 gD => ?_
    · subst e1
      obtain ⟨rfl, hm⟩ := get_str hx
      obtain ⟨dx, fs, N', Tb, us, L⟩ := id (hL.same (s1.trans s2))
      refine ⟨rfl, _, rfl, _, rfl, a, dx, fs, rfl, L.ins, a, cs, ns, _, rfl, hL.same (s1.trans s2), fun H4 s4 => ⟨_, rfl, ?_⟩⟩
      rw [decide_eq_true (ok.mem _ hm)]
      exact k H4 s4
    · refine ⟨D, (List.range (l.map V.str).length).map fun _ => true, rfl, SqL.of (by rw [gD, List.map_map]; rfl), ?_⟩
      rw [show ((List.range (l.map V.str).length).map fun _ => true).all id = true by rw [List.all_eq_true]; intro b hb; obtain ⟨_, _, rfl⟩ := List.mem_map.mp hb; rfl]
      exact q H2 (s1.trans s2)
theorem bsOf_look {cs : List KD} {ns : List Str} {n : Str} (h : n ∈ ns) : look (bsOf cs ns) n = some (((kd cs n).map (·.bases)).getD []) := by
  unfold look bsOf
  rw [List.find?_map]
  have : (ns.find? ((fun b : Str × List Str => decide (b.1 = n)) ∘ fun n => (n, ((kd cs n).map (·.bases)).getD []))) = some n := by
    have e : ((fun b : Str × List Str => decide (b.1 = n)) ∘ fun n => (n, ((kd cs n).map (·.bases)).getD [])) = fun m => decide (m = n) := rfl
    rw [e]
    obtain ⟨m, hm⟩ : ∃ m, ns.find? (fun m => decide (m = n)) = some m := Option.isSome_iff_exists.mp (List.find?_isSome.mpr ⟨n, h, decide_eq_true rfl⟩)
    rw [hm, of_decide_eq_true (List.find?_some (p := fun m => decide (m = n)) hm)]
  rw [this]
  rfl
theorem bs_put {H : Hp} {cs : List KD} {kvs : List (Key × V)} {l : List Str} {n : Str} {v : V} (h : Paired (fun (kv : Key × V) (b : Str × List Str) => kv.1 = .inr b.1 ∧ ∃ a, kv.2 = .ref a ∧ SqT K H a (b.2.map V.str)) kvs (bsOf cs l)) (hn : n ∉ l) : putK kvs (.inr n) v = kvs ++ [(.inr n, v)] := by
  unfold putK
  rw [if_neg]
  intro z
  obtain ⟨kv, hk, e⟩ := List.any_eq_true.mp z
  have e := of_decide_eq_true e
  obtain ⟨i, hi, e2⟩ := List.getElem_of_mem hk
  obtain ⟨m, em, e3, _⟩ := paired_get h (show kvs[i]? = some kv by rw [List.getElem?_eq_getElem hi, e2])
  unfold bsOf at em
  rw [List.getElem?_map] at em
  obtain ⟨t, et, rfl⟩ := Option.map_eq_some_iff.mp em
  rw [e3] at e
  injection e with e
  exact hn (by rw [← e]; exact List.mem_of_getElem? et)
theorem ok_wb {g : Addr} {fd : FuncData} (F : Fs K mg "wrong_bases" sWBs ["library"] g fd) (dAC : ∃ g fd, Fs K mg "_are_classes" sAC ["library", "bases"] g fd) (dAb : ∃ g fd, Fs K mg "is_above_itself" sAbv ["bases", "name"] g fd) (M : Lm K mg C f CL) (G : Gm mg) (N : Nm K mg) : FnOk P w K mg base CX0 5 g fd ["library"] (spWB K C f CL) := by
  have T := M.T
  obtain ⟨_, _, dAC⟩ := dAC
  obtain ⟨_, _, dAb⟩ := dAb
  have GAC : FnOk P w K mg base CX0 4 _ _ ["library", "bases"] (spAC K C f CL) := ok_ac dAC M G N
  have GAb : FnOk P w K mg base CX0 1 _ _ ["bases", "name"] (spAbv K) := ok_abv dAb M.ls
  obtain ⟨gx, fdx, ox, Fx, bx⟩ := M.ix
  have GX : FnOk P w K mg base CX0 2 gx fdx ["self", "name"] (spLix K C f CL) := ok_lix Fx M
  refine F.F.ok scWBs (fun vs H Q E h => ?_) (fun cdv A outer s H vs Q E hr h => ?_)
  · obtain ⟨_, _, _, rfl, _⟩ := h
    rfl
  · obtain ⟨a, cs, ns, rfl, hL, nd, n30, hb, bok, nup, q⟩ := h
    have hrX : Room 3 (A.deeper (envOfC "wrong_bases" (defScope sWBs) s.heap.objs.size g cdv)) := hr.mono (by decide)
    have hrAb : Room 1 (A.deeper (envOfC "wrong_bases" (defScope sWBs) s.heap.objs.size g cdv)) := hr.mono (by decide)
    obtain ⟨dx, fs, Nn, Tb, us, L⟩ := id hL
    refine ⟨_, (pss_cons (ps_for PassesOwn.never rfl (pi_tup (pe_fld (pv 0) (by rfl))) (pg_name (i := 1) scWBs.nd rfl (Or.inl rfl)) (pss_one (ps_if (pt_not (pt_val (pe_call GAC hr (by rfl) dAC.m dAC.F.kp dAC.b .nil pass0 (pa_cons (pv 0) (pa_cons (pe_fld (pe_ownIx (E := E0) ox GX hrX bx pass0 (pv 0) (pv 1)) (by rfl)) pa_nil))))) (pss_one (ps_ret (pe_tup (pa_cons (pv 1) (pa_cons pe_str pa_nil))))) pss_nil))) (pss_cons (ps_setDc (i := 2) (own := [("name", 1)]) (g := gName 1) (tt := tYes) rfl scWBs.nd rfl rfl (sw_dict rfl rfl rfl rfl) (pi_tup (pe_fld (pv 0) (by rfl))) (blkOk_by (N := nWBs) (sc := defScope sWBs) (by decide +kernel)) (fun _ _ _ _ _ => (pg_name (i := 1) scWBs.nd rfl (Or.inl rfl))) (fun _ _ _ _ _ => pts_nil) (fun _ _ _ _ _ => (pv 1)) (fun _ _ _ _ _ => (pe_fldK (K := K) rfl (pe_ownIx (E := E0) ox GX hrX bx pass0 (pv 0) (pv 1)) (by rfl)))) (pss_cons (ps_for PassesOwn.never rfl (pi_tup (pe_fld (pv 0) (by rfl))) (pg_name (i := 1) scWBs.nd rfl (Or.inl rfl)) (pss_one (ps_if (pt_val (pe_call GAb hrAb (by rfl) dAb.m dAb.F.kp dAb.b .nil pass0 (pa_cons (pv 2) (pa_cons (pv 1) pa_nil)))) (pss_one (ps_ret (pe_tup (pa_cons (pv 1) (pa_cons pe_str pa_nil))))) pss_nil))) (pss_one (ps_ret pe_non))))), ?_⟩
    refine ⟨_, rfl, a, CL, dx, fs, .ref Nn, rfl, L.ins, M.cls, M.no _ (by simp), L.nm, Nn, rfl, ⟨_, L.sn⟩, for_tup (K := K) (a := Nn) (xs := ns.map V.str) (fun i σ H2 => ∃ v, σ = [some (.ref a), v, none] ∧ Same H H2) ⟨none, rfl, fun _ _ z => z⟩ (fun i σ H2 _ ⟨_, _, s⟩ => SqT.same s L.sn) ?_ ?_⟩
    · rintro i x σ H2 hi ⟨v, rfl, s2⟩
      obtain ⟨rfl, hm⟩ := get_str hi
      obtain ⟨k, hk⟩ := kd_some ((L.mem _).mp hm)
      obtain ⟨dx2, fs2, N2, Tb2, us2, L2'⟩ := id (hL.same s2)
      refine ⟨_, rfl, _, rfl, _, rfl, a, dx2, fs2, rfl, L2'.ins, a, cs, ns, _, k, rfl, hL.same s2, hk, fun u H3 s3 ov => ?_⟩
      obtain ⟨b, bx, bs, vb, vf, vm, vw, ys, rfl, KA⟩ := kO_get ov
      refine ⟨b, C 2, bx, bs, _, rfl, KA.ins, M.X.cls 2 (by decide), M.X.no 2 (by decide) _ (by decide), KA.b, a, vb, cs, ns, k.bases, rfl, hL.same (s2.trans s3), KA.sb, hb k (kd_name hk).2, fun H4 s4 => ⟨_, rfl, iteF ⟨_, rfl, (s2.trans s3).trans s4⟩⟩⟩
    · rintro σ H2 ⟨v, rfl, s2⟩
      obtain ⟨dx2, fs2, N2, Tb2, us2, L2'⟩ := id (hL.same s2)
      refine ⟨_, rfl, a, CL, dx2, fs2, .ref N2, rfl, L2'.ins, M.cls, M.no _ (by simp), L2'.nm, N2, rfl, ⟨_, L2'.sn⟩, fun D hD => ?_⟩
      refine dc_tup (K := K) (a := N2) (xs := ns.map V.str) (g := gName 1) (vs := [1]) (σ := [some (.ref a), v, none]) (tt := tYes) (tk := tVar 1) (tv := tFld K (tOp (rOwnIx CL (spLix K C f CL) E0) (tVar 0) (tVar 1)) "bases") (fun i H3 => Same H2 H3 ∧ ∃ kvs, H3 D = some (.dK kvs) ∧ Paired (fun (kv : Key × V) (b : Str × List Str) => kv.1 = .inr b.1 ∧ ∃ a, kv.2 = .ref a ∧ SqT K H3 a (b.2.map V.str)) kvs (bsOf cs (ns.take i))) ⟨new_same hD, [], upd_same, .nil⟩ (fun i H3 _ h => SqT.same h.1 L2'.sn) ?_ ?_
      · rintro i x H3 hi ⟨s3, kvs, gD, pk⟩
        obtain ⟨rfl, hm⟩ := get_str hi
        obtain ⟨k, hk⟩ := kd_some ((L.mem _).mp hm)
        obtain ⟨dx3, fs3, N3, Tb3, us3, L3⟩ := id (hL.same (s2.trans s3))
        have hi2 : i < ns.length := by
          have := (List.getElem?_eq_some_iff.mp hi).1
          rwa [List.length_map] at this
        have egd : ns[i]? = some (ns.getD i "") := by simp only [List.getD, List.getElem?_eq_getElem hi2, Option.getD_some]
        refine ⟨rfl, yes_of ⟨_, rfl, _, rfl, _, rfl, a, dx3, fs3, rfl, L3.ins, a, cs, ns, _, k, rfl, hL.same (s2.trans s3), hk, fun u H4 s4 ov => ?_⟩⟩
        obtain ⟨b, bx, bs, vb, vf, vm, vw, ys, rfl, KA⟩ := kO_get ov
        have g4 := s4 _ _ gD
        have hkl : kvs.length = i := by
          rw [Paired.length pk]
          unfold bsOf
          rw [List.length_map, List.length_take]
          omega
        refine ⟨b, C 2, bx, bs, _, rfl, KA.ins, M.X.cls 2 (by decide), M.X.no 2 (by decide) _ (by decide), KA.b, kvs, .inr (ns.getD i ""), rfl, g4, le_sz' (by omega), same_D hD (s3.trans s4), _, upd_same, ?_⟩
        have nin : ns.getD i "" ∉ ns.take i := by
          intro z
          obtain ⟨j, hj, ej⟩ := List.getElem_of_mem z
          rw [List.length_take] at hj
          rw [List.getElem_take] at ej
          have := List.pairwise_iff_getElem.mp nd j i (by omega) hi2 (by omega)
          refine this ?_
          rw [ej]
          simp [List.getD, hi2]
        have pk2 : Paired (fun (kv : Key × V) (b : Str × List Str) => kv.1 = .inr b.1 ∧ ∃ a, kv.2 = .ref a ∧ SqT K (upd H4 D (.dK (putK kvs (.inr (ns.getD i "")) (.ref vb)))) a (b.2.map V.str)) kvs (bsOf cs (ns.take i)) := L2.Paired.mapP pk fun kv b ⟨e, a, e2, q⟩ => ⟨e, a, e2, SqT.keepK g4 KeepB.at (SqT.same s4 q)⟩
        rw [bs_put pk2 nin, show bsOf cs (ns.take (i + 1)) = bsOf cs (ns.take i) ++ [(ns.getD i "", k.bases)] by rw [take_snoc egd]; unfold bsOf; rw [List.map_append, List.map_cons, List.map_nil, hk]; rfl]
        refine paired_snoc ?_ ⟨rfl, vb, rfl, SqT.keepK g4 KeepB.at KA.sb⟩
        rw [bs_put pk2 nin] at pk2
        exact pk2
      · rintro H3 ⟨s3, kvs, gD, pk⟩
        rw [List.length_map, List.take_length] at pk
        have hD3 : BasesAt K H3 D (bsOf cs ns) := ⟨kvs, .inl gD, pk⟩
        obtain ⟨dx3, fs3, N3, Tb3, us3, L3⟩ := id (hL.same (s2.trans s3))
        refine ⟨_, rfl, a, CL, dx3, fs3, .ref N3, rfl, L3.ins, M.cls, M.no _ (by simp), L3.nm, N3, rfl, ⟨_, L3.sn⟩, for_tup (K := K) (a := N3) (xs := ns.map V.str) (fun i σ H4 => ∃ v, σ = [some (.ref a), v, some (.ref D)] ∧ Same H3 H4) ⟨_, rfl, fun _ _ z => z⟩ (fun i σ H4 _ ⟨_, _, s⟩ => SqT.same s L3.sn) ?_ ?_⟩
        · rintro i x σ H4 hi ⟨v4, rfl, s4⟩
          obtain ⟨rfl, hm⟩ := get_str hi
          refine ⟨_, rfl, _, rfl, D, _, _, rfl, hD3.same s4, bok, by rw [bsOf_look hm]; rfl, fun b H5 hb5 s5 => ⟨_, rfl, ?_⟩⟩
          have : b = false := by
            cases b with
            | false => rfl
            | true => exact absurd (hb5.mp rfl) (nup _)
          subst this
          exact iteF ⟨_, rfl, s4.trans s5⟩
        · rintro σ H4 ⟨v4, rfl, s4⟩
          exact q H4 ((s2.trans s3).trans s4)
end

end Kx
set_option linter.all false
namespace Kx
open PySem L2 PySem.Spec PyProof.Rows
abbrev sHWF : Stmt := top 102
abbrev nHWF : List Str := ["library", "name"]
theorem scHWF : FnScope nHWF ["library", "name"] (defScope sHWF) := ⟨rfl, rfl, rfl, by decide +kernel, rfl, by decide +kernel, by decide +kernel⟩
abbrev sHDb : Stmt := top 103
abbrev nHDb : List Str := ["library", "name", "fields"]
theorem scHDb : FnScope nHDb ["library", "name"] (defScope sHDb) := ⟨rfl, rfl, rfl, by decide +kernel, rfl, by decide +kernel, by decide +kernel⟩
abbrev sOv : Stmt := top 108
abbrev nOv : List Str := ["cond", "terms", "term"]
theorem scOv : FnScope nOv ["cond", "terms"] (defScope sOv) := ⟨rfl, rfl, rfl, by decide +kernel, rfl, by decide +kernel, by decide +kernel⟩
abbrev sHWW : Stmt := top 104
abbrev nHWW : List Str := ["library", "name", "where", "clause"]
theorem scHWW : FnScope nHWW ["library", "name"] (defScope sHWW) := ⟨rfl, rfl, rfl, by decide +kernel, rfl, by decide +kernel, by decide +kernel⟩
abbrev sHWM : Stmt := top 105
abbrev nHWM : List Str := ["library", "name", "methods", "method"]
theorem scHWM : FnScope nHWM ["library", "name"] (defScope sHWM) := ⟨rfl, rfl, rfl, by decide +kernel, rfl, by decide +kernel, by decide +kernel⟩
abbrev sWC : Stmt := top 107
abbrev nWC : List Str := ["library", "word", "is_wrong", "name"]
theorem scWC : FnScope nWC ["library"] (defScope sWC) := ⟨rfl, rfl, rfl, by decide +kernel, rfl, by decide +kernel, by decide +kernel⟩
/-- a class that is right but for doubles -/
structure FineC (cs : List KD) (o : Ord) (k : KD) : Prop where
  fd : areN k.fields 3 = true
  wt : ∀ t ∈ k.wh.2, t ∈ termsO cs o "self" k.name
  wc : ∀ c ∈ k.wh.1, c.length = 1
  wl1 : k.wh.1.length ≤ 60
  wl2 : k.wh.2.length ≤ 60
  me : areN (k.methods.map (·.name)) 3 = true
  ml : ∀ m ∈ k.methods, m.name.length ≤ 1000
abbrev SpLN (K : PySem.W.Frag) (C f : Nat → Addr) (CL : Addr) (P : List KD → Ord → KD → Bool) : Sp := fun vs H Q _ => ∃ (a : Addr) (cs : List KD) (ns : List Str) (o : Ord) (n : Str) (k : KD), vs = [.ref a, .str n] ∧ LibO K C f CL H a cs ns o ∧ Lok cs o ∧ kd cs n = some k ∧ FineC cs o k ∧ n.length ≤ 1000 ∧ ∀ H', Same H H' → Q (.bl (P cs o k)) H'
structure CAt (K : PySem.W.Frag) (C f : Nat → Addr) (H : Hp) (c : CDat) (a dx : Addr) (fs : List (Str × V)) (vp vq : Addr) (xs : List V) : Prop where
  ins : H a = some (.ins (C 0) dx fs)
  cl : fs.lookup ("clauses" : Str) = some (.ref vp)
  sc : SqT K H vp xs
  oc : OhAll K (clk C f) H (c.1.map clO) xs
  tm : fs.lookup ("terms" : Str) = some (.ref vq)
  st : SqT K H vq (c.2.map V.str)
theorem cO_get {K : PySem.W.Frag} {C f : Nat → Addr} {H : Hp} {c : CDat} {v : V} (h : Oh K (clk C f) H (cO c.1 c.2) v) : ∃ a dx fs vp vq xs, v = .ref a ∧ CAt K C f H c a dx fs vp vq xs := by
  obtain ⟨a, dx, fs, ys, rfl, hi, hn, q⟩ := h
  obtain ⟨d0, r0, v0, x0, e, rfl, e0, o0, h0, q0⟩ := ohx hn q
  cases e
  obtain ⟨d1, r1, v1, x1, e, rfl, e1, o1, h1, q1⟩ := ohx h0 q0
  cases e
  obtain ⟨vp, xs, ep, sp, op⟩ := o0
  obtain ⟨vq, ys, eq, sq, oq⟩ := o1
  have hy := od_strs oq
  subst hy
  exact ⟨a, dx, fs, vp, vq, xs, rfl, hi, e0.trans (congrArg some ep), sp, op, e1.trans (congrArg some eq), sq⟩
def spOv (K : PySem.W.Frag) (C f : Nat → Addr) : Sp := fun vs H Q _ => ∃ (v : V) (c : CDat) (L : Addr) (ts : List Str), vs = [v, .ref L] ∧ Oh K (clk C f) H (cO c.1 c.2) v ∧ SqL K H L (ts.map V.str) ∧ c.2.length ≤ 60 ∧ (∀ t ∈ c.2, t ∈ ts) ∧ ∀ H', Same H H' → Q (.bl true) H'
structure CWd (K : PySem.W.Frag) (w : World) (mg : Str → Option Value) (CW g0 g1 g2 g3 : Addr) : Prop where
  at_ : mg "CLASS_WORDS" = some (.ref CW)
  wk : ∃ o es ep, KWalk K CW ["fields", "double", "where", "methods"] o es ep
  k0 : KDct K w CW "fields" (.ref g0)
  k1 : KDct K w CW "double" (.ref g1)
  k2 : KDct K w CW "where" (.ref g2)
  k3 : KDct K w CW "methods" (.ref g3)
  n0 : g0 ≠ g1
  n2 : g2 ≠ g1
  n3 : g3 ≠ g1
  d0 : ∃ fd, Fs K mg "_has_wrong_fields" sHWF ["library", "name"] g0 fd
  d1 : ∃ fd, Fs K mg "_has_double" sHDb ["library", "name"] g1 fd
  d2 : ∃ fd, Fs K mg "_has_wrong_where" sHWW ["library", "name"] g2 fd
  d3 : ∃ fd, Fs K mg "_has_wrong_methods" sHWM ["library", "name"] g3 fd
  ov : ∃ g fd, Fs K mg "_is_over" sOv ["cond", "terms"] g fd
  to : ∃ g fd, Fs K mg "terms_of" sTO ["library", "name", "kind"] g fd
abbrev noP : List KD → Ord → KD → Bool := fun _ _ _ => false
def dbl (cs : List KD) (o : Ord) (k : KD) : Bool := !decide (fldsOf cs o k.name).Nodup
section
variable {P : Program} {w : World} {K : PySem.W.Frag} {mg : Str → Option Value} {base : Heap} {C f : Nat → Addr} {CL : Addr}
theorem ok_hf {g : Addr} {fd : FuncData} (F : Fs K mg "_has_wrong_fields" sHWF ["library", "name"] g fd) (M : Lm K mg C f CL) (G : Gm mg) (N : Nm K mg) : FnOk P w K mg base CX0 5 g fd ["library", "name"] (SpLN K C f CL fun _ _ _ => false) := by
  have T := M.T
  obtain ⟨_, _, dA, GA⟩ := N.ga (P := P) (w := w) (base := base) T
  obtain ⟨_, hf3⟩ := G.f3
  obtain ⟨gx, fdx, ox, Fx, bx⟩ := M.ix
  have GX : FnOk P w K mg base CX0 2 gx fdx ["self", "name"] (spLix K C f CL) := ok_lix Fx M
  refine F.F.ok scHWF (fun vs H Q E h => ?_) (fun cdv A outer s H vs Q E hr h => ?_)
  · obtain ⟨_, _, _, _, _, _, rfl, _⟩ := h
    rfl
  · obtain ⟨a, cs, ns, o, n, k, rfl, hL, ok, hk, fc, nl, q⟩ := h
    have hrX : Room 3 (A.deeper (envOfC "_has_wrong_fields" (defScope sHWF) s.heap.objs.size g cdv)) := hr.mono (by decide)
    have hrA : Room 3 (A.deeper (envOfC "_has_wrong_fields" (defScope sHWF) s.heap.objs.size g cdv)) := hr.mono (by decide)
    obtain ⟨dx, fs, Nn, Tb, us, L⟩ := id hL.a
    have ek := (kd_name hk).2
    refine ⟨_, (pss_one (ps_ret (pe_not (pe_call GA hrA (by rfl) dA.m dA.F.kp dA.b .nil pass0 (pa_cons (pe_fld (pe_ownIx (E := E0) ox GX hrX bx pass0 (pv 0) (pv 1)) (by rfl)) (pa_cons (pe_glob (v := .int 3) (by rfl) hf3 ⟨_, rfl⟩) pa_nil)))))), ?_⟩
    refine ⟨_, rfl, _, rfl, a, dx, fs, rfl, L.ins, a, cs, ns, n, k, rfl, hL.a, hk, fun u H3 s3 ov => ?_⟩
    obtain ⟨b, bx, bs, vb, vf, vm, vw, ys, rfl, KA⟩ := kO_get ov
    refine ⟨b, C 2, bx, bs, _, rfl, KA.ins, M.X.cls 2 (by decide), M.X.no 2 (by decide) _ (by decide), KA.fl, vf, k.fields, 3, rfl, KA.sf, Nat.le_trans (ok.fs k ek) (by decide), ok.flt k ek, fun H4 s4 => ⟨_, rfl, ?_⟩⟩
    rw [fc.fd]
    exact q H4 (s3.trans s4)
theorem ok_hd {g : Addr} {fd : FuncData} (F : Fs K mg "_has_double" sHDb ["library", "name"] g fd) (M : Lm K mg C f CL) (N : Nm K mg) : FnOk P w K mg base CX0 4 g fd ["library", "name"] (SpLN K C f CL dbl) := by
  have T := M.T
  have hst := N.set
  obtain ⟨gf, fdf, mf, Ff, bf⟩ := M.fl
  have GF : FnOk P w K mg base CX0 3 gf fdf ["self", "name"] (spFl K C f CL) := ok_fl Ff M
  refine F.F.ok scHDb (fun vs H Q E h => ?_) (fun cdv A outer s H vs Q E hr h => ?_)
  · obtain ⟨_, _, _, _, _, _, rfl, _⟩ := h
    rfl
  · obtain ⟨a, cs, ns, o, n, k, rfl, hL, ok, hk, fc, nl, q⟩ := h
    obtain ⟨dx, fs, Nn, Tb, us, L⟩ := id hL.a
    obtain ⟨en, ek⟩ := kd_name hk
    have hm : n ∈ cs.map (·.name) := List.mem_map.mpr ⟨k, ek, en⟩
    obtain ⟨l, hl⟩ := ok.all n hm
    have hlen : (fldsOf cs o n).length ≤ 60 := by
      have h1 := fldsL_len ok.fs l.reverse
      have h2 := ok.few n l hl
      rw [List.length_reverse] at h1
      have h3 : 3 * l.length ≤ 60 := by omega
      exact Nat.le_trans (show (fldsOf cs o n).length ≤ 3 * l.length by unfold fldsOf; rw [hl]; exact h1) h3
    refine ⟨_, (pss_cons (ps_set (i := 2) scHDb.nd rfl (Or.inl rfl) (pe_meth (pv 0) M.cls mf GF hr bf .nil pass0 (pa_cons (pv 1) pa_nil))) (pss_one (ps_ret (pe_cmpR op_ne (pe_callB call_lenX (by rfl) T.len PySem.boot_len (pa_cons (pe_callTy (cr_setTx rfl) (by rfl) hst (by decide +kernel) (pa_cons (pv 2) pa_nil)) pa_nil)) (pe_callB call_len_seq (by rfl) T.len PySem.boot_len (pa_cons (pv 2) pa_nil)) (nomark _))))), ?_⟩
    refine ⟨_, rfl, a, dx, fs, rfl, L.ins, L.no _ (by decide +kernel), _, rfl, a, cs, ns, o, n, rfl, hL, hm, ok, fun L1 H1 f1 s1 g1 => ?_⟩
    refine ⟨_, rfl, L1, _, rfl, SqL.of g1, hlen, fun p l' hp nd le mem => ?_⟩
    have s2 := new_same (o := SetX P w p l') hp
    refine ⟨p, l', rfl, upd_same, by omega, _, rfl, L1, _, rfl, .inl (SqL.of (s2 _ _ g1)), rfl, ?_⟩
    rw [List.length_map]
    have q' := q _ (s1.trans s2)
    have e3 : dbl cs o k = !decide (V.int l'.length = V.int (fldsOf cs o n).length) := by
      unfold dbl
      rw [en]
      congr 1
      rw [decide_eq_decide, ← nodup_len nd mem]
      constructor
      · intro z; rw [z]
      · intro z; injection z with z; omega
    rw [e3] at q'
    exact q'
theorem ok_ov {g : Addr} {fd : FuncData} (F : Fs K mg "_is_over" sOv ["cond", "terms"] g fd) (M : Lm K mg C f CL) (gC : mg "Cond" = some (.ref (C 0))) : FnOk P w K mg base CX0 1 g fd ["cond", "terms"] (spOv K C f) := by
  have T := M.T
  refine F.F.ok scOv (fun vs H Q E h => ?_) (fun cdv A outer s H vs Q E hr h => ?_)
  · obtain ⟨_, _, _, _, rfl, _⟩ := h
    rfl
  · obtain ⟨v, c, L, ts, rfl, ov, hL, h60, hin, q⟩ := h
    obtain ⟨b, bx, bs, vp, vq, xs, rfl, CA⟩ := cO_get ov
    refine ⟨_, (pss_one (ps_ret (pe_and (pe_callB call_isi (by rfl) T.isi boot_isinstance (pa_cons (pv 0) (pa_cons (pe_glob (v := .ref (C 0)) (by rfl) gC rfl) pa_nil))) (pe_one (pe_callB (cr_all rfl) (by rfl) T.all (by decide +kernel) (pa_cons (pe_lc (own := [("term", 2)]) (g := gName 2) (tt := tYes) rfl scOv.nd (pi_tup (pe_fld (pv 0) (by rfl))) (blkOk_by (N := nOv) (sc := defScope sOv) (by decide +kernel)) (fun _ _ _ _ _ => (pg_name (i := 2) scOv.nd rfl (Or.inl rfl))) (fun _ _ _ _ _ => pts_nil) (fun _ _ _ _ _ => (pe_cmpR (op_in_seqK (K := K) rfl) (pv 2) (pv 1) (by with_unfolding_all rfl)))) pa_nil)))))), ?_⟩
    refine ⟨_, rfl, .ref b, .ref (C 0), _, _, true, rfl, .own _, M.X.KT.ty 0 (by decide) _ b bx bs CA.ins, kitS, true, rfl, iteT ?_⟩
    refine ⟨_, rfl, b, C 0, bx, bs, _, rfl, CA.ins, M.X.cls 0 (by decide), M.X.no 0 (by decide) _ (by decide), CA.tm, vq, rfl, ⟨_, CA.st⟩, fun D hD => ?_⟩
    refine lc_map (walk_tup (xs := c.2.map V.str)) (g := gName 2) (vs := [2]) (σ := [some (.ref b), some (.ref L), none]) (fun _ => .bl true) hD (by rw [List.length_map]; omega) (fun H' s' => SqT.same s' CA.st) (fun i x H2 H3 R hi s2 ⟨e1, hx⟩ k => ?_) fun H2 s2 gD => ?_
    · subst e1
      obtain ⟨rfl, hm⟩ := get_str hx
      refine ⟨rfl, _, rfl, _, rfl, L, _, rfl, .inl (SqL.same s2 hL), rfl, flat_strs _, ?_⟩
      have := k _ fun _ _ z => z
      rw [← show inV (.str (c.2.getD i "")) (ts.map V.str) = true by rw [inV_str]; exact decide_eq_true (hin _ hm)] at this
      exact this
    · refine ⟨D, (List.range (c.2.map V.str).length).map fun _ => true, rfl, SqL.of (by rw [gD, List.map_map]; rfl), ?_⟩
      rw [show ((List.range (c.2.map V.str).length).map fun _ => true).all id = true by rw [List.all_eq_true]; intro b hb; obtain ⟨_, _, rfl⟩ := List.mem_map.mp hb; rfl]
      exact q H2 s2
theorem ok_hw {g : Addr} {fd : FuncData} (F : Fs K mg "_has_wrong_where" sHWW ["library", "name"] g fd) (dOv : ∃ g fd, Fs K mg "_is_over" sOv ["cond", "terms"] g fd) (dTO : ∃ g fd, Fs K mg "terms_of" sTO ["library", "name", "kind"] g fd) (M : Lm K mg C f CL) (gC : mg "Cond" = some (.ref (C 0))) : FnOk P w K mg base CX0 5 g fd ["library", "name"] (SpLN K C f CL fun _ _ _ => false) := by
  have T := M.T
  obtain ⟨_, _, dOv⟩ := dOv
  obtain ⟨_, _, dTO⟩ := dTO
  have GOv : FnOk P w K mg base CX0 1 _ _ ["cond", "terms"] (spOv K C f) := ok_ov dOv M gC
  have GTO : FnOk P w K mg base CX0 4 _ _ ["library", "name", "kind"] (spTO K C f CL) := ok_to dTO M
  obtain ⟨gx, fdx, ox, Fx, bx⟩ := M.ix
  have GX : FnOk P w K mg base CX0 2 gx fdx ["self", "name"] (spLix K C f CL) := ok_lix Fx M
  refine F.F.ok scHWW (fun vs H Q E h => ?_) (fun cdv A outer s H vs Q E hr h => ?_)
  · obtain ⟨_, _, _, _, _, _, rfl, _⟩ := h
    rfl
  · obtain ⟨a, cs, ns, o, n, k, rfl, hL, ok, hk, fc, nl, q⟩ := h
    have hrX : Room 3 (A.deeper (envOfC "_has_wrong_where" (defScope sHWW) s.heap.objs.size g cdv)) := hr.mono (by decide)
    have hrOv : Room 1 (A.deeper (envOfC "_has_wrong_where" (defScope sHWW) s.heap.objs.size g cdv)) := hr.mono (by decide)
    have hrTO : Room 4 (A.deeper (envOfC "_has_wrong_where" (defScope sHWW) s.heap.objs.size g cdv)) := hr.mono (by decide)
    obtain ⟨dx, fs, Nn, Tb, us, L⟩ := id hL.a
    obtain ⟨en, ek⟩ := kd_name hk
    have hm : n ∈ cs.map (·.name) := List.mem_map.mpr ⟨k, ek, en⟩
    refine ⟨_, (pss_cons (ps_set (i := 2) scHWW.nd rfl (Or.inl rfl) (pe_fld (pe_ownIx (E := E0) ox GX hrX bx pass0 (pv 0) (pv 1)) (by rfl))) (pss_cons (ps_if (pt_not (pt_val (pe_call GOv hrOv (by rfl) dOv.m dOv.F.kp dOv.b .nil pass0 (pa_cons (pv 2) (pa_cons (pe_call GTO hrTO (by rfl) dTO.m dTO.F.kp dTO.b .nil pass0 (pa_cons (pv 0) (pa_cons pe_str (pa_cons (pv 1) pa_nil)))) pa_nil))))) (pss_one (ps_ret pe_bl)) pss_nil) (pss_one (ps_ret (pe_not (pe_callB (cr_all rfl) (by rfl) T.all (by decide +kernel) (pa_cons (pe_lc (own := [("clause", 3)]) (g := gName 3) (tt := tYes) rfl scHWW.nd (pi_tup (pe_fld (pv 2) (by rfl))) (blkOk_by (N := nHWW) (sc := defScope sHWW) (by decide +kernel)) (fun _ _ _ _ _ => (pg_name (i := 3) scHWW.nd rfl (Or.inl rfl))) (fun _ _ _ _ _ => pts_nil) (fun _ _ _ _ _ => (pe_cmpR op_eq (pe_callB (call_lenK (K := K) rfl) (by rfl) T.len PySem.boot_len (pa_cons (pv 3) pa_nil)) pe_int (nomark _)))) pa_nil))))))), ?_⟩
    refine ⟨_, rfl, _, rfl, a, dx, fs, rfl, L.ins, a, cs, ns, n, k, rfl, hL.a, hk, fun u H3 s3 ov => ?_⟩
    obtain ⟨b, bx, bs, vb, vf, vm, vw, ys, rfl, KA⟩ := kO_get ov
    refine ⟨b, C 2, bx, bs, _, rfl, KA.ins, M.X.cls 2 (by decide), M.X.no 2 (by decide) _ (by decide), KA.w, ?_⟩
    refine ⟨_, rfl, _, rfl, _, rfl, a, cs, ns, o, "self", n, rfl, hL.same s3, .inr hm, ok, by decide, fun L1 H4 f1 s4 g1 => ?_⟩
    refine ⟨vw, k.wh, L1, _, rfl, Oh.sm s4 KA.ow, SqL.of g1, fc.wl2, by rw [← en]; exact fc.wt, fun H5 s5 => ⟨_, rfl, iteF ?_⟩⟩
    obtain ⟨c, cx, cf, vp, vq, xs, rfl, CA⟩ := cO_get (Oh.sm (s4.trans s5) KA.ow)
    have hxl : xs.length = k.wh.1.length := by rw [← OhAll.length _ _ CA.oc, List.length_map]
    have h60 := fc.wl1
    refine ⟨_, rfl, c, C 0, cx, cf, _, rfl, CA.ins, M.X.cls 0 (by decide), M.X.no 0 (by decide) _ (by decide), CA.cl, vp, rfl, ⟨_, CA.sc⟩, fun D hD => ?_⟩
    refine lc_map (walk_tup (xs := xs)) (g := gName 3) (vs := [3]) (σ := [some (.ref a), some (.str n), some (.ref c), none]) (fun _ => .bl true) hD (by omega) (fun H' s' => SqT.same s' CA.sc) (fun i x H2 H6 R hi s2 ⟨e1, hx⟩ kk => ?_) fun H2 s2 gD => ?_
    · subst e1
      obtain ⟨d, hd, od⟩ := ohAll_get _ _ _ _ CA.oc hx
      rw [List.getElem?_map] at hd
      obtain ⟨cl, ec, rfl⟩ := Option.map_eq_some_iff.mp hd
      obtain ⟨z, zs, rfl, hz, oz⟩ := Oh.sm s2 od
      have hzl : zs.length = 1 := by rw [← OhAll.length _ _ oz, List.length_map]; exact fc.wc cl (List.mem_of_getElem? ec)
      refine ⟨rfl, _, rfl, z, zs, rfl, .inr hz, rfl, ?_⟩
      have := kk _ fun _ _ z => z
      rw [hzl]
      exact this
    · refine ⟨D, (List.range xs.length).map fun _ => true, rfl, SqL.of (by rw [gD, List.map_map]; rfl), _, rfl, ?_⟩
      rw [show ((List.range xs.length).map fun _ => true).all id = true by rw [List.all_eq_true]; intro b hb; obtain ⟨_, _, rfl⟩ := List.mem_map.mp hb; rfl]
      exact q H2 (((s3.trans s4).trans s5).trans s2)
theorem ok_hm {g : Addr} {fd : FuncData} (F : Fs K mg "_has_wrong_methods" sHWM ["library", "name"] g fd) (M : Lm K mg C f CL) (G : Gm mg) (N : Nm K mg) (gC : mg "Method" = some (.ref (C 1))) : FnOk P w K mg base CX0 5 g fd ["library", "name"] (SpLN K C f CL fun _ _ _ => false) := by
  have T := M.T
  obtain ⟨_, _, dA, GA⟩ := N.ga (P := P) (w := w) (base := base) T
  obtain ⟨_, hm3⟩ := G.m3
  obtain ⟨gx, fdx, ox, Fx, bx⟩ := M.ix
  have GX : FnOk P w K mg base CX0 2 gx fdx ["self", "name"] (spLix K C f CL) := ok_lix Fx M
  refine F.F.ok scHWM (fun vs H Q E h => ?_) (fun cdv A outer s H vs Q E hr h => ?_)
  · obtain ⟨_, _, _, _, _, _, rfl, _⟩ := h
    rfl
  · obtain ⟨a, cs, ns, o, n, k, rfl, hL, ok, hk, fc, nl, q⟩ := h
    have hrX : Room 3 (A.deeper (envOfC "_has_wrong_methods" (defScope sHWM) s.heap.objs.size g cdv)) := hr.mono (by decide)
    have hrA : Room 3 (A.deeper (envOfC "_has_wrong_methods" (defScope sHWM) s.heap.objs.size g cdv)) := hr.mono (by decide)
    obtain ⟨dx, fs, Nn, Tb, us, L⟩ := id hL.a
    obtain ⟨en, ek⟩ := kd_name hk
    have hms := ok.ms k ek
    refine ⟨_, (pss_cons (ps_set (i := 2) scHWM.nd rfl (Or.inl rfl) (pe_fld (pe_ownIx (E := E0) ox GX hrX bx pass0 (pv 0) (pv 1)) (by rfl))) (pss_cons (ps_if (PW.pt (pw_or (pt_not (pt_val (pe_callB call_isi (by rfl) T.isi boot_isinstance (pa_cons (pv 2) (pa_cons (pe_bltn (v := .ty "tuple") (by rfl) T.tuple (by decide +kernel) rfl) pa_nil))))) (pw_or1 (pt_not (pt_val (pe_callB (cr_all rfl) (by rfl) T.all (by decide +kernel) (pa_cons (pe_lc (own := [("method", 3)]) (g := gName 3) (tt := tYes) rfl scHWM.nd (pi_tup (pv 2)) (blkOk_by (N := nHWM) (sc := defScope sHWM) (by decide +kernel)) (fun _ _ _ _ _ => (pg_name (i := 3) scHWM.nd rfl (Or.inl rfl))) (fun _ _ _ _ _ => pts_nil) (fun _ _ _ _ _ => (pe_callB (call_isiK (K := K) rfl) (by rfl) T.isi boot_isinstance (pa_cons (pv 3) (pa_cons (pe_glob (v := .ref (C 1)) (by rfl) gC rfl) pa_nil))))) pa_nil))))))) (pss_one (ps_ret pe_bl)) pss_nil) (pss_one (ps_ret (pe_not (pe_call GA hrA (by rfl) dA.m dA.F.kp dA.b .nil pass0 (pa_cons (pe_tupleOf (by rfl) T.tuple (pe_lc (own := [("method", 3)]) (g := gName 3) (tt := tYes) rfl scHWM.nd (pi_tup (pv 2)) (blkOk_by (N := nHWM) (sc := defScope sHWM) (by decide +kernel)) (fun _ _ _ _ _ => (pg_name (i := 3) scHWM.nd rfl (Or.inl rfl))) (fun _ _ _ _ _ => pts_nil) (fun _ _ _ _ _ => (pe_fldK (K := K) rfl (pv 3) (by rfl))))) (pa_cons (pe_glob (v := .int 3) (by rfl) hm3 ⟨_, rfl⟩) pa_nil)))))))), ?_⟩
    refine ⟨_, rfl, _, rfl, a, dx, fs, rfl, L.ins, a, cs, ns, n, k, rfl, hL.a, hk, fun u H3 s3 ov => ?_⟩
    obtain ⟨b, bx, bs, vb, vf, vm, vw, xs, rfl, KA⟩ := kO_get ov
    have hxl : xs.length = k.methods.length := by rw [← OhAll.length _ _ KA.om, List.length_map]
    have item : ∀ (i : Nat) (x : V) (H4 : Hp), Same H3 H4 → xs[i]? = some x → ∃ (m : MD) (ma mx : Addr) (ms : List (Str × V)), k.methods[i]? = some m ∧ x = .ref ma ∧ H4 ma = some (.ins (C 1) mx ms) ∧ ms.lookup ("name" : Str) = some (.str m.name) := fun i x H4 s4 hx => by
      obtain ⟨d, hd, od⟩ := ohAll_get _ _ _ _ KA.om hx
      rw [List.getElem?_map] at hd
      obtain ⟨m, em, rfl⟩ := Option.map_eq_some_iff.mp hd
      obtain ⟨ma, mx, ms, _, _, _, _, _, rfl, MA⟩ := mO_get od
      exact ⟨m, ma, mx, ms, em, rfl, s4 _ _ MA.ins, MA.nm⟩
    refine ⟨b, C 2, bx, bs, _, rfl, KA.ins, M.X.cls 2 (by decide), M.X.no 2 (by decide) _ (by decide), KA.m, ?_⟩
    refine ⟨_, rfl, .ref vm, .ty "tuple", _, _, true, rfl, .ty _, tyT KA.sm, kit_ty (by decide +kernel), true, rfl, iteF ?_⟩
    refine ⟨_, rfl, vm, rfl, ⟨_, KA.sm⟩, fun D hD => ?_⟩
    refine lc_map (walk_tup (xs := xs)) (g := gName 3) (vs := [3]) (σ := [some (.ref a), some (.str n), some (.ref vm), none]) (fun _ => .bl true) hD (by omega) (fun H' s' => SqT.same s' KA.sm) (fun i x H2 H6 R hi s2 ⟨e1, hx⟩ kk => ?_) fun H2 s2 gD => ?_
    · subst e1
      obtain ⟨m, ma, mx, ms, em, rfl, gi, _⟩ := item i x H6 s2 hx
      exact ⟨rfl, _, rfl, .ref ma, .ref (C 1), _, _, true, rfl, .own _, M.X.KT.ty 1 (by decide) _ ma mx ms gi, kitS, kk _ fun _ _ z => z⟩
    · refine ⟨D, (List.range xs.length).map fun _ => true, rfl, SqL.of (by rw [gD, List.map_map]; rfl), _, rfl, ?_⟩
      rw [show ((List.range xs.length).map fun _ => true).all id = true by rw [List.all_eq_true]; intro b hb; obtain ⟨_, _, rfl⟩ := List.mem_map.mp hb; rfl]
      refine iteF ?_
      have sm2 := SqT.same s2 KA.sm
      refine ⟨_, rfl, vm, rfl, ⟨_, sm2⟩, fun D2 hD2 => ?_⟩
      refine lc_map (walk_tup (xs := xs)) (g := gName 3) (vs := [3]) (σ := [some (.ref a), some (.str n), some (.ref vm), none]) (fun i => .str ((k.methods.map (·.name)).getD i ("" : Str))) hD2 (by omega) (fun H' s' => SqT.same s' sm2) (fun i x H4 H6 R hi s4 ⟨e1, hx⟩ kk => ?_) fun H4 s4 gD2 => ?_
      · subst e1
        obtain ⟨m, ma, mx, ms, em, rfl, gi, ei⟩ := item i x H6 (s2.trans s4) hx
        have e9 : (k.methods.map (·.name)).getD i ("" : Str) = m.name := by simp [List.getD, em]
        have := kk _ fun _ _ z => z
        rw [e9] at this
        exact ⟨rfl, _, rfl, ma, C 1, mx, ms, _, rfl, gi, M.X.cls 1 (by decide), M.X.no 1 (by decide) _ (by decide), ei, this⟩
      · rw [hxl] at gD2
        have e8 : (List.range k.methods.length).map (fun i => V.str ((k.methods.map (·.name)).getD i ("" : Str))) = (k.methods.map (·.name)).map V.str := by
          have := range_getD (k.methods.map (·.name)) ("" : Str) V.str
          rwa [List.length_map] at this
        rw [e8] at gD2
        refine .inl ⟨D2, _, rfl, SqL.of gD2, fun t ht => ?_⟩
        have s5 := new_same (o := .tup ((k.methods.map (·.name)).map V.str)) ht
        refine ⟨t, k.methods.map (·.name), 3, rfl, SqT.of upd_same, by rw [List.length_map]; omega, fun x hx => ?_, fun H7 s7 => ⟨_, rfl, ?_⟩⟩
        · obtain ⟨m, hm, rfl⟩ := List.mem_map.mp hx
          exact fc.ml m hm
        · rw [fc.me]
          exact q H7 ((((s3.trans s2).trans s4).trans s5).trans s7)
def fdbl (cs : List KD) (o : Ord) (ns : List Str) : Option Str := ns.find? fun n => match kd cs n with
  | some k => dbl cs o k
  | none => false
structure Ns (cs : List KD) (ns : List Str) : Prop where
  mem : ∀ n, n ∈ ns ↔ n ∈ cs.map (·.name)
  sh : ∀ n ∈ ns, n.length ≤ 1000
def spWC (K : PySem.W.Frag) (C f : Nat → Addr) (CL : Addr) : Sp := fun vs H Q _ => ∃ (a : Addr) (cs : List KD) (ns : List Str) (o : Ord), vs = [.ref a] ∧ LibO K C f CL H a cs ns o ∧ Lok cs o ∧ (∀ k ∈ cs, FineC cs o k) ∧ Ns cs ns ∧ (fdbl cs o ns = none → ∀ H', Same H H' → Q .non H') ∧
  ∀ n, fdbl cs o ns = some n → ∀ p H', Same H H' → H' p = some (.tup [.str n, .str "double"]) → Q (.ref p) H'
theorem ok_wc {g CW g0 g1 g2 g3 : Addr} {fd : FuncData} (F : Fs K mg "wrong_class" sWC ["library"] g fd) (W : CWd K w mg CW g0 g1 g2 g3) (M : Lm K mg C f CL) (G : Gm mg) (N : Nm K mg) (gC : mg "Cond" = some (.ref (C 0))) (gM : mg "Method" = some (.ref (C 1))) : FnOk P w K mg base CX0 6 g fd ["library"] (spWC K C f CL) := by
  have T := M.T
  have hCW := W.at_
  obtain ⟨_, _, _, DW⟩ := W.wk
  obtain ⟨_, d0⟩ := W.d0
  obtain ⟨_, d1⟩ := W.d1
  obtain ⟨_, d2⟩ := W.d2
  obtain ⟨_, d3⟩ := W.d3
  let SW : Addr → Option Sp := fun h => if h = g1 then some (SpLN K C f CL dbl) else if h = g0 ∨ h = g2 ∨ h = g3 then some (SpLN K C f CL noP) else none
  have AW : ∀ h sp, SW h = some sp → Held P w K mg base 5 h sp := fun h sp e => by
    by_cases z : h = g1
    · have e' : some (SpLN K C f CL dbl) = some sp := by rw [← e]; exact (if_pos z).symm
      cases e'
      subst z
      exact ⟨_, _, (ok_hd d1 M N).mono (by decide), d1.F.kp, d1.b⟩
    · have e1 : SW h = if h = g0 ∨ h = g2 ∨ h = g3 then some (SpLN K C f CL noP) else none := if_neg z
      rw [e1] at e
      by_cases y : h = g0 ∨ h = g2 ∨ h = g3
      · rw [if_pos y] at e
        cases e
        rcases y with rfl | rfl | rfl
        · exact ⟨_, _, ok_hf d0 M G N, d0.F.kp, d0.b⟩
        · exact ⟨_, _, ok_hw d2 W.ov W.to M gC, d2.F.kp, d2.b⟩
        · exact ⟨_, _, ok_hm d3 M G N gM, d3.F.kp, d3.b⟩
      · rw [if_neg y] at e; cases e
  have S1 : SW g1 = some (SpLN K C f CL dbl) := if_pos rfl
  have S0 : ∀ h, h ≠ g1 → (h = g0 ∨ h = g2 ∨ h = g3) → SW h = some (SpLN K C f CL noP) := fun h z y => (if_neg z).trans (if_pos y)
  have hw : ∀ (i : Nat) (k : Str), (["fields", "double", "where", "methods"] : List Str)[i]? = some k → ∃ h Pw, KDct K w CW k (.ref h) ∧ SW h = some (SpLN K C f CL Pw) ∧ ((i ≠ 1 ∧ Pw = noP) ∨ (i = 1 ∧ k = "double" ∧ Pw = dbl)) := fun i k e => by
    match i, e with
    | 0, e => cases e; exact ⟨g0, noP, W.k0, S0 g0 W.n0 (.inl rfl), .inl ⟨by decide, rfl⟩⟩
    | 1, e => cases e; exact ⟨g1, dbl, W.k1, S1, .inr ⟨rfl, rfl, rfl⟩⟩
    | 2, e => cases e; exact ⟨g2, noP, W.k2, S0 g2 W.n2 (.inr (.inl rfl)), .inl ⟨by decide, rfl⟩⟩
    | 3, e => cases e; exact ⟨g3, noP, W.k3, S0 g3 W.n3 (.inr (.inr rfl)), .inl ⟨by decide, rfl⟩⟩
    | n + 4, e => simp at e
  refine F.F.ok scWC (fun vs H Q E h => ?_) (fun cdv A outer s H vs Q E hr h => ?_)
  · obtain ⟨_, _, _, _, rfl, _⟩ := h
    rfl
  · obtain ⟨a, cs, ns, o, rfl, hL, ok, fine, hns, q0, q1⟩ := h
    have hrW := hr
    refine ⟨_, (pss_cons (ps_for PassesOwn.never rfl (pi_kd DW (pe_glob (v := .ref CW) (by rfl) hCW rfl)) (pg_name (i := 1) scWC.nd rfl (Or.inl rfl)) (pss_cons (ps_set (i := 2) scWC.nd rfl (Or.inl rfl) (pe_ix ix_kdict (pe_glob (v := .ref CW) (by rfl) hCW rfl) (pv 1) (fun _ _ => rfl))) (pss_one (ps_for PassesOwn.never rfl (pi_tup (pe_fld (pv 0) (by rfl))) (pg_name (i := 3) scWC.nd rfl (Or.inl rfl)) (pss_one (ps_if (pt_val (pe_callA (i := 2) (S := SW) AW hrW rfl (Or.inl rfl) (pa_cons (pv 0) (pa_cons (pv 3) pa_nil)))) (pss_one (ps_ret (pe_tup (pa_cons (pv 3) (pa_cons (pv 1) pa_nil))))) pss_nil)))))) (pss_one (ps_ret pe_non))), ?_⟩
    refine ⟨rfl, for_it walk_kd (fun i σ H2 => ∃ v1 v2 v3, σ = [some (.ref a), v1, v2, v3] ∧ Same H H2 ∧ (2 ≤ i → fdbl cs o ns = none)) ⟨none, none, none, rfl, fun _ _ z => z, fun z => absurd z (by decide)⟩ (fun _ _ _ _ _ => trivial) ?_ ?_⟩
    · rintro i x σ H2 H3 hi ⟨v1, v2, v3, rfl, s2, hf⟩ ⟨rfl, k, ek, rfl⟩
      obtain ⟨h, Pw, hkd, hS, hP⟩ := hw i k ek
      obtain ⟨dx, fs, Nn, Tb, us, L⟩ := id (hL.a.same s2)
      refine ⟨_, rfl, CW, k, .ref h, rfl, rfl, hkd, ?_⟩
      refine ⟨_, rfl, a, CL, dx, fs, .ref Nn, rfl, L.ins, M.cls, M.no _ (by simp), L.nm, Nn, rfl, ⟨_, L.sn⟩, for_tup (K := K) (a := Nn) (xs := ns.map V.str) (fun j σ H4 => ∃ v3, σ = [some (.ref a), some (.str k), some (.ref h), v3] ∧ Same H3 H4 ∧ ∀ n ∈ ns.take j, ∀ k', kd cs n = some k' → Pw cs o k' = false) ⟨v3, rfl, fun _ _ z => z, fun _ z => nomatch z⟩ (fun j σ H4 _ ⟨_, _, s, _⟩ => SqT.same s L.sn) ?_ ?_⟩
      · rintro j y σ H4 hj ⟨v4, rfl, s4, hb⟩
        obtain ⟨rfl, hm⟩ := get_str hj
        have hj2 : j < ns.length := by
          have := (List.getElem?_eq_some_iff.mp hj).1
          rwa [List.length_map] at this
        have egd : ns[j]? = some (ns.getD j "") := by simp only [List.getD, List.getElem?_eq_getElem hj2, Option.getD_some]
        obtain ⟨k', hk'⟩ := kd_some ((hns.mem _).mp hm)
        refine ⟨h, _, rfl, hS, _, rfl, _, rfl, a, cs, ns, o, _, k', rfl, hL.same (s2.trans s4), ok, hk', fine k' (kd_name hk').2, hns.sh _ hm, fun H5 s5 => ⟨_, rfl, ?_⟩⟩
        cases hp : Pw cs o k' with
        | false =>
          refine iteF ⟨_, rfl, s4.trans s5, fun n hn k2 hk2 => ?_⟩
          rw [take_snoc egd] at hn
          rcases List.mem_append.mp hn with z | z
          · exact hb n z k2 hk2
          · rw [List.mem_singleton.mp z, hk'] at hk2
            cases hk2
            exact hp
        | true =>
          rcases hP with ⟨_, rfl⟩ | ⟨hi1, rfl, rfl⟩
          · cases hp
          · refine iteT ⟨_, rfl, _, rfl, le_sz (Nat.le_of_ble_eq_true rfl), fun p hp2 => ?_⟩
            refine q1 (ns.getD j "") ?_ p _ (((s2.trans s4).trans s5).trans (new_same hp2)) upd_same
            unfold fdbl
            rw [List.find?_eq_some_iff_getElem]
            refine ⟨by rw [hk']; exact hp, j, hj2, by simp [List.getD, hj2], fun j2 hj3 => ?_⟩
            have hj4 : j2 < ns.length := by omega
            obtain ⟨k2, hk2⟩ := kd_some ((hns.mem _).mp (List.getElem_mem hj4))
            have := hb ns[j2] (List.mem_take_iff_getElem.mpr ⟨j2, by omega, rfl⟩) k2 hk2
            rw [hk2]
            simpa using this
      · rintro σ H4 ⟨v4, rfl, s4, hb⟩
        rw [List.length_map, List.take_length] at hb
        refine ⟨_, _, _, rfl, s2.trans s4, fun hi2 => ?_⟩
        rcases hP with ⟨hi1, rfl⟩ | ⟨hi1, rfl, rfl⟩
        · exact hf (by omega)
        · unfold fdbl
          rw [List.find?_eq_none]
          intro n hn
          obtain ⟨k2, hk2⟩ := kd_some ((hns.mem _).mp hn)
          rw [hk2]
          simpa using hb n hn k2 hk2
    · rintro σ H2 ⟨v1, v2, v3, rfl, s2, hf⟩
      exact q0 (hf (by decide)) H2 s2
end

end Kx
set_option linter.all false
namespace Kx
open PySem L2 PySem.Spec PyProof.Rows
abbrev sIK : Stmt := top 110
abbrev nIK : List Str := ["library", "thing"]
theorem scIK : FnScope nIK ["library", "thing"] (defScope sIK) := ⟨rfl, rfl, rfl, by decide +kernel, rfl, by decide +kernel, by decide +kernel⟩
abbrev sEnt : Stmt := top 109
abbrev nEnt : List Str := ["library", "name", "method", "terms", "param", "kind"]
theorem scEnt : FnScope nEnt ["library", "name", "method"] (defScope sEnt) := ⟨rfl, rfl, rfl, by decide +kernel, rfl, by decide +kernel, by decide +kernel⟩
abbrev sHWP : Stmt := top 111
abbrev nHWP : List Str := ["library", "name", "method", "params", "param"]
theorem scHWP : FnScope nHWP ["library", "name", "method"] (defScope sHWP) := ⟨rfl, rfl, rfl, by decide +kernel, rfl, by decide +kernel, by decide +kernel⟩
abbrev sHWR : Stmt := top 112
abbrev nHWR : List Str := ["library", "name", "method"]
theorem scHWR : FnScope nHWR ["library", "name", "method"] (defScope sHWR) := ⟨rfl, rfl, rfl, by decide +kernel, rfl, by decide +kernel, by decide +kernel⟩
abbrev sHWPr : Stmt := top 113
abbrev nHWPr : List Str := ["library", "name", "method"]
theorem scHWPr : FnScope nHWPr ["library", "name", "method"] (defScope sHWPr) := ⟨rfl, rfl, rfl, by decide +kernel, rfl, by decide +kernel, by decide +kernel⟩
abbrev sHWPo : Stmt := top 114
abbrev nHWPo : List Str := ["library", "name", "method", "terms"]
theorem scHWPo : FnScope nHWPo ["library", "name", "method"] (defScope sHWPo) := ⟨rfl, rfl, rfl, by decide +kernel, rfl, by decide +kernel, by decide +kernel⟩
abbrev sWM : Stmt := top 116
abbrev nWM : List Str := ["library", "word", "is_wrong", "name", "method"]
theorem scWM : FnScope nWM ["library"] (defScope sWM) := ⟨rfl, rfl, rfl, by decide +kernel, rfl, by decide +kernel, by decide +kernel⟩
def kindOk (cs : List KD) (t : Str) : Prop := t = "int" ∨ t ∈ cs.map (·.name)
def entryT (cs : List KD) (o : Ord) (k : KD) (m : MD) : List Str := termsO cs o "self" k.name ++ m.params.flatMap fun p => termsO cs o p.1 p.2
/-- a method that is right -/
structure FineM (cs : List KD) (o : Ord) (k : KD) (m : MD) : Prop where
  ps : areN (m.params.map (·.1)) 3 = true
  pl : m.params.length ≤ 3
  psh : ∀ p ∈ m.params, p.1.length ≤ 1000
  pk : ∀ p ∈ m.params, kindOk cs p.2
  rk : kindOk cs m.result
  pre : ∀ t ∈ m.pre.2, t ∈ entryT cs o k m
  post : ∀ t ∈ m.post.2, t ∈ entryT cs o k m ++ termsO cs o "result" m.result
  l1 : m.pre.2.length ≤ 60
  l2 : m.post.2.length ≤ 60
theorem termsO_len {cs : List KD} {o : Ord} {nm kind : Str} (ok : Lok cs o) (h : kindOk cs kind) : (termsO cs o nm kind).length ≤ 60 := by
  unfold termsO
  by_cases z : kind = "int"
  · rw [if_pos z]
    exact Nat.le_of_ble_eq_true rfl
  · rw [if_neg z, List.length_map]
    obtain ⟨l, hl⟩ := ok.all kind (h.resolve_left z)
    have h1 := fldsL_len ok.fs l.reverse
    have h2 := ok.few kind l hl
    rw [List.length_reverse] at h1
    have h3 : 3 * l.length ≤ 60 := by omega
    exact Nat.le_trans (show (fldsOf cs o kind).length ≤ 3 * l.length by unfold fldsOf; rw [hl]; exact h1) h3
theorem ent_len {cs : List KD} {o : Ord} (ok : Lok cs o) : ∀ (l : List (Str × Str)), (∀ p ∈ l, kindOk cs p.2) → (l.flatMap fun p => termsO cs o p.1 p.2).length ≤ 60 * l.length
  | [], _ => Nat.le_refl _
  | p :: l, h => by
    have h1 := ent_len ok l fun q hq => h q (List.mem_cons_of_mem _ hq)
    have h2 := termsO_len (nm := p.1) ok (h p List.mem_cons_self)
    rw [List.flatMap_cons, List.length_append, List.length_cons]
    omega
abbrev SpLM (K : PySem.W.Frag) (C f : Nat → Addr) (CL : Addr) (R : List KD → Ord → KD → MD → VK → Hp → Prop) : Sp := fun vs H Q _ => ∃ (a : Addr) (cs : List KD) (ns : List Str) (o : Ord) (n : Str) (k : KD) (m : MD) (v : V), vs = [.ref a, .str n, v] ∧ LibO K C f CL H a cs ns o ∧ Lok cs o ∧ kd cs n = some k ∧ m ∈ k.methods ∧ FineM cs o k m ∧ Oh K (clk C f) H (mO m) v ∧ R cs o k m Q H
abbrev RFalse : List KD → Ord → KD → MD → VK → Hp → Prop := fun _ _ _ _ Q H => ∀ H', Same H H' → Q (.bl false) H'
abbrev REnt : List KD → Ord → KD → MD → VK → Hp → Prop := fun cs o k m Q H => ∀ L H', H L = none → Same H H' → H' L = some (.lst ((entryT cs o k m).map V.str)) → Q (.ref L) H'
def spKind (K : PySem.W.Frag) (C f : Nat → Addr) (CL : Addr) : Sp := fun vs H Q _ => ∃ (a : Addr) (cs : List KD) (ns : List Str) (t : Str), vs = [.ref a, .str t] ∧ LibA K C f CL H a cs ns ∧ kindOk cs t ∧ ∀ H', Same H H' → Q (.bl true) H'
section
variable {P : Program} {w : World} {K : PySem.W.Frag} {mg : Str → Option Value} {base : Heap} {C f : Nat → Addr} {CL : Addr}
theorem ok_kind {g : Addr} {fd : FuncData} (F : Fs K mg "_is_kind" sIK ["library", "thing"] g fd) (M : Lm K mg C f CL) : FnOk P w K mg base CX0 2 g fd ["library", "thing"] (spKind K C f CL) := by
  obtain ⟨gc, fdc, oc, Fc, bc⟩ := M.co
  have GC : FnOk P w K mg base CX0 1 gc fdc ["self", "name"] (spCo K C f CL) := ok_co Fc M
  refine F.F.ok scIK (fun vs H Q E h => ?_) (fun cdv A outer s H vs Q E hr h => ?_)
  · obtain ⟨_, _, _, _, rfl, _⟩ := h
    rfl
  · obtain ⟨a, cs, ns, t, rfl, hL, hk, q⟩ := h
    obtain ⟨dx, fs, Nn, Tb, us, L⟩ := id hL
    refine ⟨_, (pss_one (ps_ret (pe_or (pe_cmpR op_eq (pv 1) pe_str (nomark _)) (pe_one (pe_cmpR (op_ownIn (E := E0) oc GC hr bc pass0) (pv 1) (pv 0) (by with_unfolding_all rfl)))))), ?_⟩
    refine ⟨_, rfl, rfl, _, rfl, ?_⟩
    by_cases z : t = "int"
    · rw [decide_eq_true (by rw [z])]
      exact iteT (q H fun _ _ z => z)
    · rw [decide_eq_false (fun y => z (by injection y))]
      refine iteF ⟨_, rfl, _, rfl, a, dx, fs, rfl, L.ins, a, cs, ns, t, rfl, hL, fun H1 s1 => ⟨_, rfl, ?_⟩⟩
      rw [decide_eq_true (hk.resolve_left z)]
      exact q H1 s1
theorem ok_ent {g : Addr} {fd : FuncData} (F : Fs K mg "_entry_terms" sEnt ["library", "name", "method"] g fd) (dTO : ∃ g fd, Fs K mg "terms_of" sTO ["library", "name", "kind"] g fd) (M : Lm K mg C f CL) : FnOk P w K mg base CX0 5 g fd ["library", "name", "method"] (SpLM K C f CL REnt) := by
  obtain ⟨_, _, dTO⟩ := dTO
  have GTO : FnOk P w K mg base CX0 4 _ _ ["library", "name", "kind"] (spTO K C f CL) := ok_to dTO M
  refine F.F.ok scEnt (fun vs H Q E h => ?_) (fun cdv A outer s H vs Q E hr h => ?_)
  · obtain ⟨_, _, _, _, _, _, _, _, rfl, _⟩ := h
    rfl
  · obtain ⟨a, cs, ns, o, n, k, m, v, rfl, hL, ok, hk, hmm, fm, ov, q⟩ := h
    obtain ⟨en, ek⟩ := kd_name hk
    have hm : n ∈ cs.map (·.name) := List.mem_map.mpr ⟨k, ek, en⟩
    obtain ⟨ma, mx, ms, vp, ps, v1', v2', vb', rfl, MA⟩ := mO_get ov
    refine ⟨_, (pss_cons (ps_set (i := 3) scEnt.nd rfl (Or.inl rfl) (pe_call GTO hr (by rfl) dTO.m dTO.F.kp dTO.b .nil pass0 (pa_cons (pv 0) (pa_cons pe_str (pa_cons (pv 1) pa_nil))))) (pss_cons (ps_for PassesOwn.never rfl (pi_tup (pe_fld (pv 2) (by rfl))) (pg_tup rfl (pgs_cons (pg_name (i := 4) scEnt.nd rfl (Or.inl rfl)) (pgs_cons (pg_name (i := 5) scEnt.nd rfl (Or.inl rfl)) pgs_nil))) (pss_one (ps_expr (pe_bm PySem.F.plainAttrs_list PySem.F.slot_list_extend PySem.F.type_list_extend mt_extend (pv 3) (pa_cons (pe_call GTO hr (by rfl) dTO.m dTO.F.kp dTO.b .nil pass0 (pa_cons (pv 0) (pa_cons (pv 4) (pa_cons (pv 5) pa_nil)))) pa_nil))))) (pss_one (ps_ret (pv 3))))), ?_⟩
    refine ⟨_, rfl, _, rfl, a, cs, ns, o, "self", n, rfl, hL, .inr hm, ok, by decide, fun L1 H1 f1 s1 g1 => ?_⟩
    have hpl : ps.length = m.params.length := by rw [← OhAll.length _ _ MA.op, List.length_map]
    refine ⟨_, rfl, ma, C 1, mx, ms, _, rfl, s1 _ _ MA.ins, M.X.cls 1 (by decide), M.X.no 1 (by decide) _ (by decide), MA.p, vp, rfl, ⟨_, SqT.same s1 MA.sp⟩, for_tup (K := K) (a := vp) (xs := ps) (fun i σ H2 => ∃ w1 w2, σ = [some (.ref a), some (.str n), some (.ref ma), some (.ref L1), w1, w2] ∧ Same H H2 ∧ H2 L1 = some (.lst ((termsO cs o "self" k.name ++ (m.params.take i).flatMap fun p => termsO cs o p.1 p.2).map V.str))) ⟨none, none, rfl, s1, by rw [g1, en, List.take_zero, List.flatMap_nil, List.append_nil]⟩ (fun i σ H2 _ ⟨_, _, _, s, _⟩ => SqT.same s MA.sp) ?_ ?_⟩
    · rintro i x σ H2 hi ⟨w1, w2, rfl, s2, g2⟩
      obtain ⟨d, hd, od⟩ := ohAll_get _ _ _ _ MA.op hi
      rw [List.getElem?_map] at hd
      obtain ⟨p, ep, rfl⟩ := Option.map_eq_some_iff.mp hd
      obtain ⟨t, ts, rfl, ht, ot⟩ := Oh.sm s2 od
      obtain ⟨_, _, rfl, ⟨rfl, _⟩, _, _, rfl, ⟨rfl, _⟩, rfl⟩ := ot
      have hpm : p ∈ m.params := List.mem_of_getElem? ep
      refine ⟨t, _, rfl, ht, rfl, _, _, rfl, _, _, rfl, rfl, ?_⟩
      refine ⟨_, rfl, .inl ⟨rfl, _, SqL.of g2⟩, _, rfl, _, rfl, _, rfl, a, cs, ns, o, p.1, p.2, rfl, hL.same s2, fm.pk p hpm, ok, fm.psh p hpm, fun L2 H3 f3 s3 g3 => ?_⟩
      have hi3 : i ≤ 3 := by have := fm.pl; have := (List.getElem?_eq_some_iff.mp ep).1; omega
      refine ⟨L1, L2, _, _, rfl, rfl, s3 _ _ g2, g3, small1000'' ?_, _, _, rfl, same_D f1 (s2.trans s3), ?_⟩
      · rw [List.length_map, List.length_map, List.length_append]
        have h1 := termsO_len (nm := "self") (kind := k.name) ok (.inr (by rw [en]; exact hm))
        have h2 := termsO_len (nm := p.1) ok (fm.pk p hpm)
        have h3 := ent_len ok (o := o) (m.params.take i) fun p hp => fm.pk p (List.mem_of_mem_take hp)
        have h4 := List.length_take_le i m.params
        omega
      · rw [upd_same, take_snoc ep, List.flatMap_append]
        simp only [List.map_append, List.flatMap_cons, List.flatMap_nil, List.append_nil, List.append_assoc]
    · rintro σ H2 ⟨w1, w2, rfl, s2, g2⟩
      rw [hpl, List.take_length] at g2
      exact ⟨_, rfl, q L1 H2 f1 s2 g2⟩
theorem ok_hwp {g : Addr} {fd : FuncData} (F : Fs K mg "_has_wrong_params" sHWP ["library", "name", "method"] g fd) (dK : ∃ g fd, Fs K mg "_is_kind" sIK ["library", "thing"] g fd) (M : Lm K mg C f CL) (G : Gm mg) (N : Nm K mg) : FnOk P w K mg base CX0 6 g fd ["library", "name", "method"] (SpLM K C f CL RFalse) := by
  have T := M.T
  obtain ⟨_, _, dA, GA⟩ := N.ga (P := P) (w := w) (base := base) T
  obtain ⟨_, hp3⟩ := G.p3
  obtain ⟨_, _, dK⟩ := dK
  have GK : FnOk P w K mg base CX0 2 _ _ ["library", "thing"] (spKind K C f CL) := ok_kind dK M
  refine F.F.ok scHWP (fun vs H Q E h => ?_) (fun cdv A outer s H vs Q E hr h => ?_)
  · obtain ⟨_, _, _, _, _, _, _, _, rfl, _⟩ := h
    rfl
  · obtain ⟨a, cs, ns, o, n, k, m, v, rfl, hL, ok, hk, hmm, fm, ov, q⟩ := h
    have hrK : Room 2 (A.deeper (envOfC "_has_wrong_params" (defScope sHWP) s.heap.objs.size g cdv)) := hr.mono (by decide)
    have hrA : Room 3 (A.deeper (envOfC "_has_wrong_params" (defScope sHWP) s.heap.objs.size g cdv)) := hr.mono (by decide)
    obtain ⟨ma, mx, ms, vp, ps, v1', v2', vb', rfl, MA⟩ := mO_get ov
    have hpl : ps.length = m.params.length := by rw [← OhAll.length _ _ MA.op, List.length_map]
    have hp3' := fm.pl
    have item : ∀ (i : Nat) (x : V) (H4 : Hp), Same H H4 → ps[i]? = some x → ∃ (p : Str × Str) (t : Addr), m.params[i]? = some p ∧ x = .ref t ∧ SqT K H4 t [.str p.1, .str p.2] := fun i x H4 s4 hx => by
      obtain ⟨d, hd, od⟩ := ohAll_get _ _ _ _ MA.op hx
      rw [List.getElem?_map] at hd
      obtain ⟨p, ep, rfl⟩ := Option.map_eq_some_iff.mp hd
      obtain ⟨t, ts, rfl, ht, ot⟩ := Oh.sm s4 od
      obtain ⟨_, _, rfl, ⟨rfl, _⟩, _, _, rfl, ⟨rfl, _⟩, rfl⟩ := ot
      exact ⟨p, t, ep, rfl, ht⟩
    have alltrue : ∀ l : List Nat, (l.map fun _ => true).all id = true := fun l => by rw [List.all_eq_true]; intro b hb; obtain ⟨_, _, rfl⟩ := List.mem_map.mp hb; rfl
    refine ⟨_, (pss_cons (ps_set (i := 3) scHWP.nd rfl (Or.inl rfl) (pe_fld (pv 2) (by rfl))) (pss_cons (ps_if (PW.pt (pw_or (pt_not (pt_val (pe_callB call_isi (by rfl) T.isi boot_isinstance (pa_cons (pv 3) (pa_cons (pe_bltn (v := .ty "tuple") (by rfl) T.tuple (by decide +kernel) rfl) pa_nil))))) (pw_or1 (pt_not (pt_val (pe_callB (cr_all rfl) (by rfl) T.all (by decide +kernel) (pa_cons (pe_lc (own := [("param", 4)]) (g := gName 4) (tt := tYes) rfl scHWP.nd (pi_tup (pv 3)) (blkOk_by (N := nHWP) (sc := defScope sHWP) (by decide +kernel)) (fun _ _ _ _ _ => (pg_name (i := 4) scHWP.nd rfl (Or.inl rfl))) (fun _ _ _ _ _ => pts_nil) (fun _ _ _ _ _ => (pe_and (pe_callB (call_isiK (K := K) rfl) (by rfl) T.isi boot_isinstance (pa_cons (pv 4) (pa_cons (pe_bltn (v := .ty "tuple") (by rfl) T.tuple (by decide +kernel) rfl) pa_nil))) (pe_one (pe_cmpR op_eq (pe_callB (call_lenK (K := K) rfl) (by rfl) T.len PySem.boot_len (pa_cons (pv 4) pa_nil)) pe_int (nomark _)))))) pa_nil))))))) (pss_one (ps_ret pe_bl)) pss_nil) (pss_cons (ps_if (pt_not (pt_val (pe_call GA hrA (by rfl) dA.m dA.F.kp dA.b .nil pass0 (pa_cons (pe_tupleOf (by rfl) T.tuple (pe_lc (own := [("param", 4)]) (g := gName 4) (tt := tYes) rfl scHWP.nd (pi_tup (pv 3)) (blkOk_by (N := nHWP) (sc := defScope sHWP) (by decide +kernel)) (fun _ _ _ _ _ => (pg_name (i := 4) scHWP.nd rfl (Or.inl rfl))) (fun _ _ _ _ _ => pts_nil) (fun _ _ _ _ _ => (pe_ix (ix_tupK (K := K) rfl) (pv 4) pe_int (fun _ _ => rfl))))) (pa_cons (pe_glob (v := .int 3) (by rfl) hp3 ⟨_, rfl⟩) pa_nil))))) (pss_one (ps_ret pe_bl)) pss_nil) (pss_one (ps_ret (pe_not (pe_callB (cr_all rfl) (by rfl) T.all (by decide +kernel) (pa_cons (pe_lc (own := [("param", 4)]) (g := gName 4) (tt := tYes) rfl scHWP.nd (pi_tup (pv 3)) (blkOk_by (N := nHWP) (sc := defScope sHWP) (by decide +kernel)) (fun _ _ _ _ _ => (pg_name (i := 4) scHWP.nd rfl (Or.inl rfl))) (fun _ _ _ _ _ => pts_nil) (fun _ _ _ _ _ => (pe_call GK hrK (by rfl) dK.m dK.F.kp dK.b .nil pass0 (pa_cons (pv 0) (pa_cons (pe_ix (ix_tupK (K := K) rfl) (pv 4) pe_int (fun _ _ => rfl)) pa_nil))))) pa_nil)))))))), ?_⟩
    refine ⟨_, rfl, ma, C 1, mx, ms, _, rfl, MA.ins, M.X.cls 1 (by decide), M.X.no 1 (by decide) _ (by decide), MA.p, ?_⟩
    refine ⟨_, rfl, .ref vp, .ty "tuple", _, _, true, rfl, .ty _, tyT MA.sp, kit_ty (by decide +kernel), true, rfl, iteF ?_⟩
    refine ⟨_, rfl, vp, rfl, ⟨_, MA.sp⟩, fun D hD => ?_⟩
    refine lc_map (walk_tup (xs := ps)) (g := gName 4) (vs := [4]) (σ := [some (.ref a), some (.str n), some (.ref ma), some (.ref vp), none]) (fun _ => .bl true) hD (by omega) (fun H' s' => SqT.same s' MA.sp) (fun i x H2 H6 R hi s2 ⟨e1, hx⟩ kk => ?_) fun H2 s2 gD => ?_
    · subst e1
      obtain ⟨p, t, ep, rfl, ht⟩ := item i x H6 s2 hx
      exact ⟨rfl, _, rfl, .ref t, .ty "tuple", _, _, true, rfl, .ty _, tyT ht, kit_ty (by decide +kernel), true, rfl, iteT ⟨_, rfl, t, _, rfl, .inr ht, rfl, kk _ fun _ _ z => z⟩⟩
    · refine ⟨D, (List.range ps.length).map fun _ => true, rfl, SqL.of (by rw [gD, List.map_map]; rfl), _, rfl, ?_⟩
      rw [alltrue]
      refine iteF ?_
      have sm2 := SqT.same s2 MA.sp
      refine ⟨_, rfl, vp, rfl, ⟨_, sm2⟩, fun D2 hD2 => ?_⟩
      refine lc_map (walk_tup (xs := ps)) (g := gName 4) (vs := [4]) (σ := [some (.ref a), some (.str n), some (.ref ma), some (.ref vp), none]) (fun i => .str ((m.params.map (·.1)).getD i ("" : Str))) hD2 (by omega) (fun H' s' => SqT.same s' sm2) (fun i x H4 H6 R hi s4 ⟨e1, hx⟩ kk => ?_) fun H4 s4 gD2 => ?_
      · subst e1
        obtain ⟨p, t, ep, rfl, ht⟩ := item i x H6 (s2.trans s4) hx
        have e9 : (m.params.map (·.1)).getD i ("" : Str) = p.1 := by simp [List.getD, ep]
        have := kk _ fun _ _ z => z
        rw [e9] at this
        exact ⟨rfl, _, rfl, t, _, _, .str p.1, rfl, rfl, ht, rfl, this⟩
      · rw [hpl] at gD2
        have e8 : (List.range m.params.length).map (fun i => V.str ((m.params.map (·.1)).getD i ("" : Str))) = (m.params.map (·.1)).map V.str := by
          have := range_getD (m.params.map (·.1)) ("" : Str) V.str
          rwa [List.length_map] at this
        rw [e8] at gD2
        refine .inl ⟨D2, _, rfl, SqL.of gD2, fun t ht => ?_⟩
        have s5 := new_same (o := .tup ((m.params.map (·.1)).map V.str)) ht
        refine ⟨t, m.params.map (·.1), 3, rfl, SqT.of upd_same, by rw [List.length_map]; omega, fun x hx => ?_, fun H7 s7 => ⟨_, rfl, ?_⟩⟩
        · obtain ⟨p, hp, rfl⟩ := List.mem_map.mp hx
          exact fm.psh p hp
        · rw [fm.ps]
          refine iteF ?_
          have s27 := (((s2.trans s4).trans s5).trans s7)
          have sm7 := SqT.same s27 MA.sp
          refine ⟨_, rfl, vp, rfl, ⟨_, sm7⟩, fun D3 hD3 => ?_⟩
          refine lc_map (walk_tup (xs := ps)) (g := gName 4) (vs := [4]) (σ := [some (.ref a), some (.str n), some (.ref ma), some (.ref vp), none]) (fun _ => .bl true) hD3 (by omega) (fun H' s' => SqT.same s' sm7) (fun i x H8 H9 R hi s8 ⟨e1, hx⟩ kk => ?_) fun H8 s8 gD3 => ?_
          · subst e1
            obtain ⟨p, t, ep, rfl, ht⟩ := item i x H9 (s27.trans s8) hx
            exact ⟨rfl, _, rfl, _, rfl, t, _, _, .str p.2, rfl, rfl, ht, rfl, a, cs, ns, p.2, rfl, hL.a.same (s27.trans s8), fm.pk p (List.mem_of_getElem? ep), fun H9 s9 => kk H9 s9⟩
          · refine ⟨D3, (List.range ps.length).map fun _ => true, rfl, SqL.of (by rw [gD3, List.map_map]; rfl), _, rfl, ?_⟩
            rw [alltrue]
            exact q H8 (s27.trans s8)
theorem ok_hwr {g : Addr} {fd : FuncData} (F : Fs K mg "_has_wrong_result" sHWR ["library", "name", "method"] g fd) (dK : ∃ g fd, Fs K mg "_is_kind" sIK ["library", "thing"] g fd) (M : Lm K mg C f CL) : FnOk P w K mg base CX0 6 g fd ["library", "name", "method"] (SpLM K C f CL RFalse) := by
  obtain ⟨_, _, dK⟩ := dK
  have GK : FnOk P w K mg base CX0 2 _ _ ["library", "thing"] (spKind K C f CL) := ok_kind dK M
  refine F.F.ok scHWR (fun vs H Q E h => ?_) (fun cdv A outer s H vs Q E hr h => ?_)
  · obtain ⟨_, _, _, _, _, _, _, _, rfl, _⟩ := h
    rfl
  · obtain ⟨a, cs, ns, o, n, k, m, v, rfl, hL, ok, hk, hmm, fm, ov, q⟩ := h
    have hrK : Room 2 (A.deeper (envOfC "_has_wrong_result" (defScope sHWR) s.heap.objs.size g cdv)) := hr.mono (by decide)
    obtain ⟨ma, mx, ms, vp, ps, v1', v2', vb', rfl, MA⟩ := mO_get ov
    refine ⟨_, (pss_one (ps_ret (pe_not (pe_call GK hrK (by rfl) dK.m dK.F.kp dK.b .nil pass0 (pa_cons (pv 0) (pa_cons (pe_fld (pv 2) (by rfl)) pa_nil)))))), ?_⟩
    exact ⟨_, rfl, _, rfl, ma, C 1, mx, ms, _, rfl, MA.ins, M.X.cls 1 (by decide), M.X.no 1 (by decide) _ (by decide), MA.r, a, cs, ns, m.result, rfl, hL.a, fm.rk, fun H5 s5 => ⟨_, rfl, q H5 s5⟩⟩
theorem ok_hpr {g : Addr} {fd : FuncData} (F : Fs K mg "_has_wrong_pre" sHWPr ["library", "name", "method"] g fd) (dE : ∃ g fd, Fs K mg "_entry_terms" sEnt ["library", "name", "method"] g fd) (dTO : ∃ g fd, Fs K mg "terms_of" sTO ["library", "name", "kind"] g fd) (dOv : ∃ g fd, Fs K mg "_is_over" sOv ["cond", "terms"] g fd) (M : Lm K mg C f CL) (gC : mg "Cond" = some (.ref (C 0))) : FnOk P w K mg base CX0 6 g fd ["library", "name", "method"] (SpLM K C f CL RFalse) := by
  obtain ⟨_, _, dE⟩ := dE
  obtain ⟨_, _, dOv⟩ := dOv
  have GE : FnOk P w K mg base CX0 5 _ _ ["library", "name", "method"] (SpLM K C f CL REnt) := ok_ent dE dTO M
  have GOv : FnOk P w K mg base CX0 1 _ _ ["cond", "terms"] (spOv K C f) := ok_ov dOv M gC
  refine F.F.ok scHWPr (fun vs H Q E h => ?_) (fun cdv A outer s H vs Q E hr h => ?_)
  · obtain ⟨_, _, _, _, _, _, _, _, rfl, _⟩ := h
    rfl
  · obtain ⟨a, cs, ns, o, n, k, m, v, rfl, hL, ok, hk, hmm, fm, ov, q⟩ := h
    have hrE : Room 5 (A.deeper (envOfC "_has_wrong_pre" (defScope sHWPr) s.heap.objs.size g cdv)) := hr
    have hrOv : Room 1 (A.deeper (envOfC "_has_wrong_pre" (defScope sHWPr) s.heap.objs.size g cdv)) := hr.mono (by decide)
    obtain ⟨ma, mx, ms, vp, ps, v1', v2', vb', rfl, MA⟩ := mO_get ov
    refine ⟨_, (pss_one (ps_ret (pe_not (pe_call GOv hrOv (by rfl) dOv.m dOv.F.kp dOv.b .nil pass0 (pa_cons (pe_fld (pv 2) (by rfl)) (pa_cons (pe_call GE hrE (by rfl) dE.m dE.F.kp dE.b .nil pass0 (pa_cons (pv 0) (pa_cons (pv 1) (pa_cons (pv 2) pa_nil)))) pa_nil)))))), ?_⟩
    refine ⟨_, rfl, ma, C 1, mx, ms, _, rfl, MA.ins, M.X.cls 1 (by decide), M.X.no 1 (by decide) _ (by decide), MA.pre, ?_⟩
    exact ⟨_, rfl, _, rfl, _, rfl, a, cs, ns, o, n, k, m, _, rfl, hL, ok, hk, hmm, fm, ov, fun L1 H1 f1 s1 g1 => ⟨_, m.pre, L1, _, rfl, Oh.sm s1 MA.opre, SqL.of g1, fm.l1, fm.pre, fun H5 s5 => ⟨_, rfl, q H5 (s1.trans s5)⟩⟩⟩
theorem ok_hpo {g : Addr} {fd : FuncData} (F : Fs K mg "_has_wrong_post" sHWPo ["library", "name", "method"] g fd) (dE : ∃ g fd, Fs K mg "_entry_terms" sEnt ["library", "name", "method"] g fd) (dTO : ∃ g fd, Fs K mg "terms_of" sTO ["library", "name", "kind"] g fd) (dOv : ∃ g fd, Fs K mg "_is_over" sOv ["cond", "terms"] g fd) (M : Lm K mg C f CL) (gC : mg "Cond" = some (.ref (C 0))) : FnOk P w K mg base CX0 6 g fd ["library", "name", "method"] (SpLM K C f CL RFalse) := by
  have dTO' := dTO
  obtain ⟨_, _, dE⟩ := dE
  obtain ⟨_, _, dOv⟩ := dOv
  obtain ⟨_, _, dTO⟩ := dTO
  have GE : FnOk P w K mg base CX0 5 _ _ ["library", "name", "method"] (SpLM K C f CL REnt) := ok_ent dE dTO' M
  have GOv : FnOk P w K mg base CX0 1 _ _ ["cond", "terms"] (spOv K C f) := ok_ov dOv M gC
  have GTO : FnOk P w K mg base CX0 4 _ _ ["library", "name", "kind"] (spTO K C f CL) := ok_to dTO M
  refine F.F.ok scHWPo (fun vs H Q E h => ?_) (fun cdv A outer s H vs Q E hr h => ?_)
  · obtain ⟨_, _, _, _, _, _, _, _, rfl, _⟩ := h
    rfl
  · obtain ⟨a, cs, ns, o, n, k, m, v, rfl, hL, ok, hk, hmm, fm, ov, q⟩ := h
    have hrE : Room 5 (A.deeper (envOfC "_has_wrong_post" (defScope sHWPo) s.heap.objs.size g cdv)) := hr
    have hrOv : Room 1 (A.deeper (envOfC "_has_wrong_post" (defScope sHWPo) s.heap.objs.size g cdv)) := hr.mono (by decide)
    have hrTO : Room 4 (A.deeper (envOfC "_has_wrong_post" (defScope sHWPo) s.heap.objs.size g cdv)) := hr.mono (by decide)
    obtain ⟨ma, mx, ms, vp, ps, v1', v2', vb', rfl, MA⟩ := mO_get ov
    refine ⟨_, (pss_cons (ps_set (i := 3) scHWPo.nd rfl (Or.inl rfl) (pe_op op_cat (pe_call GE hrE (by rfl) dE.m dE.F.kp dE.b .nil pass0 (pa_cons (pv 0) (pa_cons (pv 1) (pa_cons (pv 2) pa_nil)))) (pe_call GTO hrTO (by rfl) dTO.m dTO.F.kp dTO.b .nil pass0 (pa_cons (pv 0) (pa_cons pe_str (pa_cons (pe_fld (pv 2) (by rfl)) pa_nil)))))) (pss_one (ps_ret (pe_not (pe_call GOv hrOv (by rfl) dOv.m dOv.F.kp dOv.b .nil pass0 (pa_cons (pe_fld (pv 2) (by rfl)) (pa_cons (pv 3) pa_nil))))))), ?_⟩
    refine ⟨_, rfl, _, rfl, _, rfl, a, cs, ns, o, n, k, m, _, rfl, hL, ok, hk, hmm, fm, ov, fun L1 H1 f1 s1 g1 => ?_⟩
    refine ⟨_, rfl, _, rfl, ma, C 1, mx, ms, _, rfl, s1 _ _ MA.ins, M.X.cls 1 (by decide), M.X.no 1 (by decide) _ (by decide), MA.r, a, cs, ns, o, "result", m.result, rfl, hL.same s1, fm.rk, ok, by decide, fun L2 H2 f2 s2 g2 => ?_⟩
    have h1 : (entryT cs o k m).length ≤ 240 := by
      unfold entryT
      rw [List.length_append]
      have h1 := termsO_len (nm := "self") (kind := k.name) ok (.inr (List.mem_map.mpr ⟨k, (kd_name hk).2, rfl⟩))
      have h3 := ent_len ok (o := o) m.params fm.pk
      have := fm.pl
      omega
    have h2 := termsO_len (nm := "result") (o := o) ok fm.rk
    refine ⟨L1, L2, _, _, rfl, rfl, s2 _ _ g1, g2, small1000'' (by rw [List.length_map, List.length_map]; omega), fun p hp => ?_⟩
    have s3 := (s1.trans s2).trans (new_same (o := .lst ((entryT cs o k m).map V.str ++ (termsO cs o "result" m.result).map V.str)) hp)
    have gp : (upd H2 p (.lst ((entryT cs o k m).map V.str ++ (termsO cs o "result" m.result).map V.str))) p = some (.lst ((entryT cs o k m ++ termsO cs o "result" m.result).map V.str)) := by rw [upd_same, List.map_append]
    obtain ⟨H3, e3⟩ : ∃ G, upd H2 p (.lst ((entryT cs o k m).map V.str ++ (termsO cs o "result" m.result).map V.str)) = G := ⟨_, rfl⟩
    rw [e3] at s3 gp ⊢
    refine ⟨_, rfl, ma, C 1, mx, ms, _, rfl, s3 _ _ MA.ins, M.X.cls 1 (by decide), M.X.no 1 (by decide) _ (by decide), MA.post, ?_⟩
    exact ⟨_, rfl, _, m.post, p, _, rfl, Oh.sm s3 MA.opost, SqL.of gp, fm.l2, fm.post, fun H5 s5 => ⟨_, rfl, q H5 (s3.trans s5)⟩⟩
end

end Kx
set_option linter.all false
namespace Kx
open PySem L2 PySem.Spec PyProof.Rows
structure MWd (K : PySem.W.Frag) (w : World) (mg : Str → Option Value) (MW : Addr) : Prop where
  at_ : mg "METHOD_WORDS" = some (.ref MW)
  wk : ∃ o es ep, KWalk K MW ["params", "result", "pre", "post"] o es ep
  k0 : ∃ g fd, KDct K w MW "params" (.ref g) ∧ Fs K mg "_has_wrong_params" sHWP ["library", "name", "method"] g fd
  k1 : ∃ g fd, KDct K w MW "result" (.ref g) ∧ Fs K mg "_has_wrong_result" sHWR ["library", "name", "method"] g fd
  k2 : ∃ g fd, KDct K w MW "pre" (.ref g) ∧ Fs K mg "_has_wrong_pre" sHWPr ["library", "name", "method"] g fd
  k3 : ∃ g fd, KDct K w MW "post" (.ref g) ∧ Fs K mg "_has_wrong_post" sHWPo ["library", "name", "method"] g fd
  ik : ∃ g fd, Fs K mg "_is_kind" sIK ["library", "thing"] g fd
  en : ∃ g fd, Fs K mg "_entry_terms" sEnt ["library", "name", "method"] g fd
  ov : ∃ g fd, Fs K mg "_is_over" sOv ["cond", "terms"] g fd
  to : ∃ g fd, Fs K mg "terms_of" sTO ["library", "name", "kind"] g fd
def spWM (K : PySem.W.Frag) (C f : Nat → Addr) (CL : Addr) : Sp := fun vs H Q _ => ∃ (a : Addr) (cs : List KD) (ns : List Str) (o : Ord), vs = [.ref a] ∧ LibO K C f CL H a cs ns o ∧ Lok cs o ∧ (∀ k ∈ cs, ∀ m ∈ k.methods, FineM cs o k m) ∧ Ns cs ns ∧ ∀ H', Same H H' → Q .non H'
section
variable {P : Program} {w : World} {K : PySem.W.Frag} {mg : Str → Option Value} {base : Heap} {C f : Nat → Addr} {CL : Addr}
theorem ok_wm {g MW : Addr} {fd : FuncData} (F : Fs K mg "wrong_method" sWM ["library"] g fd) (W : MWd K w mg MW) (M : Lm K mg C f CL) (G : Gm mg) (N : Nm K mg) (gC : mg "Cond" = some (.ref (C 0))) : FnOk P w K mg base CX0 7 g fd ["library"] (spWM K C f CL) := by
  have hMW := W.at_
  obtain ⟨_, _, _, DW⟩ := W.wk
  obtain ⟨g0, _, kd0, d0⟩ := W.k0
  obtain ⟨g1, _, kd1, d1⟩ := W.k1
  obtain ⟨g2, _, kd2, d2⟩ := W.k2
  obtain ⟨g3, _, kd3, d3⟩ := W.k3
  obtain ⟨gx, fdx, ox, Fx, bx⟩ := M.ix
  have GX : FnOk P w K mg base CX0 2 gx fdx ["self", "name"] (spLix K C f CL) := ok_lix Fx M
  let SM : Addr → Option Sp := fun h => if h = g0 ∨ h = g1 ∨ h = g2 ∨ h = g3 then some (SpLM K C f CL RFalse) else none
  have SY : ∀ h, (h = g0 ∨ h = g1 ∨ h = g2 ∨ h = g3) → SM h = some (SpLM K C f CL RFalse) := fun h y => if_pos y
  have AM : ∀ h sp, SM h = some sp → Held P w K mg base 6 h sp := fun h sp e => by
    by_cases y : h = g0 ∨ h = g1 ∨ h = g2 ∨ h = g3
    · have e' : some (SpLM K C f CL RFalse) = some sp := by rw [← e]; exact (SY h y).symm
      cases e'
      rcases y with rfl | rfl | rfl | rfl
      · exact ⟨_, _, ok_hwp d0 W.ik M G N, d0.F.kp, d0.b⟩
      · exact ⟨_, _, ok_hwr d1 W.ik M, d1.F.kp, d1.b⟩
      · exact ⟨_, _, ok_hpr d2 W.en W.to W.ov M gC, d2.F.kp, d2.b⟩
      · exact ⟨_, _, ok_hpo d3 W.en W.to W.ov M gC, d3.F.kp, d3.b⟩
    · have e1 : SM h = none := if_neg y
      rw [e1] at e
      cases e
  have hw : ∀ (i : Nat) (k : Str), (["params", "result", "pre", "post"] : List Str)[i]? = some k → ∃ h, KDct K w MW k (.ref h) ∧ SM h = some (SpLM K C f CL RFalse) := fun i k e => by
    match i, e with
    | 0, e => cases e; exact ⟨g0, kd0, SY g0 (.inl rfl)⟩
    | 1, e => cases e; exact ⟨g1, kd1, SY g1 (.inr (.inl rfl))⟩
    | 2, e => cases e; exact ⟨g2, kd2, SY g2 (.inr (.inr (.inl rfl)))⟩
    | 3, e => cases e; exact ⟨g3, kd3, SY g3 (.inr (.inr (.inr rfl)))⟩
    | n + 4, e => simp at e
  refine F.F.ok scWM (fun vs H Q E h => ?_) (fun cdv A outer s H vs Q E hr h => ?_)
  · obtain ⟨_, _, _, _, rfl, _⟩ := h
    rfl
  · obtain ⟨a, cs, ns, o, rfl, hL, ok, fine, hns, q⟩ := h
    have hrM := hr
    have hrX : Room 3 (A.deeper (envOfC "wrong_method" (defScope sWM) s.heap.objs.size g cdv)) := hr.mono (by decide)
    refine ⟨_, (pss_cons (ps_for PassesOwn.never rfl (pi_kd DW (pe_glob (v := .ref MW) (by rfl) hMW rfl)) (pg_name (i := 1) scWM.nd rfl (Or.inl rfl)) (pss_cons (ps_set (i := 2) scWM.nd rfl (Or.inl rfl) (pe_ix ix_kdict (pe_glob (v := .ref MW) (by rfl) hMW rfl) (pv 1) (fun _ _ => rfl))) (pss_one (ps_for PassesOwn.never rfl (pi_tup (pe_fld (pv 0) (by rfl))) (pg_name (i := 3) scWM.nd rfl (Or.inl rfl)) (pss_one (ps_for PassesOwn.never rfl (pi_tup (pe_fld (pe_ownIx (E := E0) ox GX hrX bx pass0 (pv 0) (pv 3)) (by rfl))) (pg_name (i := 4) scWM.nd rfl (Or.inl rfl)) (pss_one (ps_if (pt_val (pe_callA (i := 2) (S := SM) AM hrM rfl (Or.inl rfl) (pa_cons (pv 0) (pa_cons (pv 3) (pa_cons (pv 4) pa_nil))))) (pss_one (ps_ret (pe_tup (pa_cons (pe_tup (pa_cons (pv 3) (pa_cons (pe_fld (pv 4) (by rfl)) pa_nil))) (pa_cons (pv 1) pa_nil))))) pss_nil)))))))) (pss_one (ps_ret pe_non))), ?_⟩
    refine ⟨rfl, for_it walk_kd (fun i σ H2 => ∃ v1 v2 v3 v4, σ = [some (.ref a), v1, v2, v3, v4] ∧ Same H H2) ⟨none, none, none, none, rfl, fun _ _ z => z⟩ (fun _ _ _ _ _ => trivial) ?_ ?_⟩
    · rintro i x σ H2 H3 hi ⟨v1, v2, v3, v4, rfl, s2⟩ ⟨rfl, kw, ek, rfl⟩
      obtain ⟨h, hkd, hS⟩ := hw i kw ek
      obtain ⟨dx, fs, Nn, Tb, us, L⟩ := id (hL.a.same s2)
      refine ⟨_, rfl, MW, kw, .ref h, rfl, rfl, hkd, ?_⟩
      refine ⟨_, rfl, a, CL, dx, fs, .ref Nn, rfl, L.ins, M.cls, M.no _ (by simp), L.nm, Nn, rfl, ⟨_, L.sn⟩, for_tup (K := K) (a := Nn) (xs := ns.map V.str) (fun j σ H4 => ∃ v3 v4, σ = [some (.ref a), some (.str kw), some (.ref h), v3, v4] ∧ Same H3 H4) ⟨v3, v4, rfl, fun _ _ z => z⟩ (fun j σ H4 _ ⟨_, _, _, s⟩ => SqT.same s L.sn) ?_ ?_⟩
      · rintro j y σ H4 hj ⟨w3, w4, rfl, s4⟩
        obtain ⟨rfl, hm⟩ := get_str hj
        obtain ⟨k', hk'⟩ := kd_some ((hns.mem _).mp hm)
        obtain ⟨dx4, fs4, N4, Tb4, us4, L4⟩ := id (hL.a.same (s2.trans s4))
        refine ⟨_, rfl, _, rfl, a, dx4, fs4, rfl, L4.ins, a, cs, ns, _, k', rfl, hL.a.same (s2.trans s4), hk', fun u H5 s5 ov => ?_⟩
        obtain ⟨b, bx', bs, vb, vf, vm, vw, xs, rfl, KA⟩ := kO_get ov
        refine ⟨b, C 2, bx', bs, _, rfl, KA.ins, M.X.cls 2 (by decide), M.X.no 2 (by decide) _ (by decide), KA.m, vm, rfl, ⟨_, KA.sm⟩, for_tup (K := K) (a := vm) (xs := xs) (fun j2 σ H6 => ∃ v4, σ = [some (.ref a), some (.str kw), some (.ref h), some (.str (ns.getD j "")), v4] ∧ Same H5 H6) ⟨w4, rfl, fun _ _ z => z⟩ (fun j2 σ H6 _ ⟨_, _, s⟩ => SqT.same s KA.sm) ?_ ?_⟩
        · rintro j2 y2 σ H6 hj2 ⟨w5, rfl, s6⟩
          obtain ⟨d, hd, od⟩ := ohAll_get _ _ _ _ KA.om hj2
          rw [List.getElem?_map] at hd
          obtain ⟨m, em, rfl⟩ := Option.map_eq_some_iff.mp hd
          have hmm := List.mem_of_getElem? em
          refine ⟨h, _, rfl, hS, _, rfl, _, rfl, _, rfl, a, cs, ns, o, _, k', m, y2, rfl, hL.same ((s2.trans s4).trans (s5.trans s6)), ok, hk', hmm, fine k' (kd_name hk').2 m hmm, Oh.sm s6 od, fun H7 s7 => ⟨_, rfl, iteF ⟨_, rfl, s6.trans s7⟩⟩⟩
        · rintro σ H6 ⟨w5, rfl, s6⟩
          exact ⟨_, _, rfl, (s4.trans s5).trans s6⟩
      · rintro σ H4 ⟨w3, w4, rfl, s4⟩
        exact ⟨_, _, _, _, rfl, s2.trans s4⟩
    · rintro σ H2 ⟨v1, v2, v3, v4, rfl, s2⟩
      exact q H2 s2
end

end Kx
set_option linter.all false
namespace Kx
open PySem L2 PySem.Spec PyProof.Rows
abbrev sWA : Stmt := top 118
abbrev nWA : List Str := ["library", "name", "method", "first", "each", "other"]
theorem scWA : FnScope nWA ["library", "name", "method"] (defScope sWA) := ⟨rfl, rfl, rfl, by decide +kernel, rfl, by decide +kernel, by decide +kernel⟩
abbrev sWH_ : Stmt := top 117
abbrev nWH_ : List Str := ["library", "name", "method"]
theorem scWH_ : FnScope nWH_ ["library"] (defScope sWH_) := ⟨rfl, rfl, rfl, by decide +kernel, rfl, by decide +kernel, by decide +kernel⟩
def mAt (cs : List KD) (m e : Str) : Option MD := (kd cs e).bind fun k => wr k m
def firstM (cs : List KD) (l : List Str) (m : Str) : Option MD := (l.find? (hasM cs m)).bind (mAt cs m)
def sameSig (a b : MD) : Bool := decide (a.params = b.params) && decide (a.result = b.result)
def alikeTo (cs : List KD) (m : Str) (md0 : MD) (e : Str) : Bool := match mAt cs m e with
  | none => true
  | some md => sameSig md md0
def alike (cs : List KD) (l : List Str) (m : Str) : Bool := match firstM cs l m with
  | none => true
  | some md0 => l.all (alikeTo cs m md0)
theorem eqo_pairs : ∀ {l m : List (Str × Str)}, eqoAll (l.map pairO) (m.map pairO) = decide (l = m)
  | [], [] => rfl
  | [], _ :: _ => rfl
  | _ :: _, [] => rfl
  | x :: l, y :: m => by
    show (((x.1 == y.1) && ((x.2 == y.2) && true)) && eqoAll (l.map pairO) (m.map pairO)) = _
    rw [eqo_pairs, Bool.eq_iff_iff]
    simp only [Bool.and_eq_true, beq_iff_eq, decide_eq_true_eq, List.cons.injEq, Prod.ext_iff, and_true]
theorem ok_pairs {S : Nat → List OD → Prop} {cl : Nat → OCls} : ∀ (l : List (Str × Str)), okAll S (l.map pairO) ∧ needAll cl (l.map pairO) ≤ 1
  | [] => ⟨trivial, Nat.zero_le _⟩
  | p :: l => let ⟨a, b⟩ := ok_pairs l; ⟨⟨⟨trivial, trivial, trivial⟩, a⟩, Nat.max_le.mpr ⟨Nat.le_refl _, b⟩⟩
def spWA (K : PySem.W.Frag) (C f : Nat → Addr) (CL : Addr) : Sp := fun vs H Q _ => ∃ (a : Addr) (cs : List KD) (ns : List Str) (o : Ord) (n m : Str) (l : List Str), vs = [.ref a, .str n, .str m] ∧ LibO K C f CL H a cs ns o ∧ n ∈ cs.map (·.name) ∧ Lok cs o ∧ o n = some l ∧ (∃ e ∈ l, hasM cs m e = true) ∧ ∀ H', Same H H' → Q (.bl (alike cs l m)) H'
section
variable {P : Program} {w : World} {K : PySem.W.Frag} {mg : Str → Option Value} {base : Heap} {C f : Nat → Addr} {CL : Addr}
theorem ok_wa {g : Addr} {fd : FuncData} (F : Fs K mg "_is_written_alike" sWA ["library", "name", "method"] g fd) (M : Lm K mg C f CL) : FnOk P w K mg base CX0 4 g fd ["library", "name", "method"] (spWA K C f CL) := by
  obtain ⟨go, fdo, mo, Fo, bo⟩ := M.od
  have GO : FnOk P w K mg base CX0 2 go fdo ["self", "name"] (spOd K C f CL) := ok_od Fo M
  obtain ⟨gw, fdw, dWr⟩ := M.wri
  have GWr : FnOk P w K mg base CX0 1 gw fdw ["classdef", "name"] (spWri K C f) := ok_wri dWr M
  obtain ⟨gW, fdW, mw, Fw, bw⟩ := M.wr
  have GW : FnOk P w K mg base CX0 3 gW fdW ["self", "name", "method"] (spWo K C f CL) := ok_wo Fw M
  obtain ⟨gx, fdx, ox, Fx, bx⟩ := M.ix
  have GX : FnOk P w K mg base CX0 2 gx fdx ["self", "name"] (spLix K C f CL) := ok_lix Fx M
  refine F.F.ok scWA (fun vs H Q E h => ?_) (fun cdv A outer s H vs Q E hr h => ?_)
  · obtain ⟨_, _, _, _, _, _, _, rfl, _⟩ := h
    rfl
  · obtain ⟨a, cs, ns, o, n, m, l, rfl, hL, hm, ok, hl, hex, q⟩ := h
    have hrX : Room 3 (A.deeper (envOfC "_is_written_alike" (defScope sWA) s.heap.objs.size g cdv)) := hr
    have hrW : Room 3 (A.deeper (envOfC "_is_written_alike" (defScope sWA) s.heap.objs.size g cdv)) := hr
    have hrO : Room 2 (A.deeper (envOfC "_is_written_alike" (defScope sWA) s.heap.objs.size g cdv)) := hr.mono (by decide)
    have hr2 : Room 2 (A.deeper (envOfC "_is_written_alike" (defScope sWA) s.heap.objs.size g cdv)) := hr.mono (by decide)
    have hrWr : Room 1 (A.deeper (envOfC "_is_written_alike" (defScope sWA) s.heap.objs.size g cdv)) := hr.mono (by decide)
    obtain ⟨dx, fs, Nn, Tb, us, L⟩ := id hL.a
    obtain ⟨e0, he0⟩ : ∃ e, l.find? (hasM cs m) = some e := by
      obtain ⟨e, he, hh⟩ := hex
      exact Option.isSome_iff_exists.mp (List.find?_isSome.mpr ⟨e, he, hh⟩)
    have he0l := List.mem_of_find?_eq_some he0
    have he0m := ok.mem n l hl e0 he0l
    obtain ⟨k0, hk0⟩ := kd_some he0m
    have hh0 : hasM cs m e0 = true := List.find?_some he0
    obtain ⟨md0, hmd0⟩ : ∃ md, wr k0 m = some md := by
      unfold hasM at hh0
      rw [hk0] at hh0
      exact Option.isSome_iff_exists.mp hh0
    have hfirst : firstM cs l m = some md0 := by
      unfold firstM mAt
      rw [he0]
      show (kd cs e0).bind (fun k => wr k m) = _
      rw [hk0]
      exact hmd0
    have hal : alike cs l m = l.all (alikeTo cs m md0) := by unfold alike; rw [hfirst]
    refine ⟨_, (pss_cons (ps_set (i := 3) scWA.nd rfl (Or.inl rfl) (pe_call GWr hrWr (by rfl) dWr.m dWr.F.kp dWr.b .nil pass0 (pa_cons (pe_ownIx (E := E0) ox GX hrX bx pass0 (pv 0) (pe_meth (pv 0) M.cls mw GW hrW bw .nil pass0 (pa_cons (pv 1) (pa_cons (pv 2) pa_nil)))) (pa_cons (pv 2) pa_nil)))) (pss_cons (ps_for PassesOwn.never rfl (pi_list (pe_meth (pv 0) M.cls mo GO hrO bo .nil pass0 (pa_cons (pv 1) pa_nil))) (pg_name (i := 4) scWA.nd rfl (Or.inl rfl)) (pss_cons (ps_set (i := 5) scWA.nd rfl (Or.inl rfl) (pe_call GWr hrWr (by rfl) dWr.m dWr.F.kp dWr.b .nil pass0 (pa_cons (pe_ownIx (E := E0) ox GX hrX bx pass0 (pv 0) (pv 4)) (pa_cons (pv 2) pa_nil)))) (pss_one (ps_if (PW.pt (pw_and (pt_cmpR op_notN (pv 5) pe_non (nomark _)) (pw_and1 (PW.pt (pw_or (pt_cmpR (op_neOT (cl := clk C f) (S := Sn) (n := 2) (own_up M.X.W (fun _ _ h => h.elim)) (givesN _ rfl rfl rfl rfl rfl) hr2) (pe_fld (pv 5) (by rfl)) (pe_fld (pv 3) (by rfl)) (nomark _)) (pw_or1 (pt_cmpR op_ne (pe_fld (pv 5) (by rfl)) (pe_fld (pv 3) (by rfl)) (nomark _)))))))) (pss_one (ps_ret pe_bl)) pss_nil)))) (pss_one (ps_ret pe_bl)))), ?_⟩
    refine ⟨_, rfl, _, rfl, a, dx, fs, rfl, L.ins, L.no _ (by decide +kernel), _, rfl, _, rfl, a, cs, ns, o, n, m, l, e0, rfl, hL, hm, ok, hl, he0, fun H1 s1 => ?_⟩
    obtain ⟨dx1, fs1, N1, Tb1, us1, L1⟩ := id (hL.a.same s1)
    refine ⟨a, dx1, fs1, rfl, L1.ins, a, cs, ns, e0, k0, rfl, hL.a.same s1, hk0, fun v H2 s2 ov => ?_⟩
    refine ⟨_, rfl, v, k0, m, rfl, ov, (fun z => by rw [hmd0] at z; cases z), fun md u hw ou => ?_⟩
    rw [hmd0] at hw
    cases hw
    have s12 := s1.trans s2
    obtain ⟨fa, fx, fsm, fp, fxs, f1, f2, fb, rfl, FA⟩ := mO_get ou
    obtain ⟨dx2, fs2, N2, Tb2, us2, L2'⟩ := id (hL.a.same s12)
    refine ⟨_, rfl, a, dx2, fs2, rfl, L2'.ins, L2'.no _ (by decide +kernel), _, rfl, a, cs, ns, o, n, l, rfl, hL.same s12, hm, hl, fun X H3 f3 s3 g3 => ?_⟩
    refine ⟨X, rfl, ⟨_, SqL.of g3⟩, for_list (K := K) (a := X) (xs := l.map V.str) (fun i σ H4 => ∃ v4 v5, σ = [some (.ref a), some (.str n), some (.str m), some (.ref fa), v4, v5] ∧ Same H3 H4 ∧ ∀ e ∈ l.take i, alikeTo cs m md0 e = true) ⟨none, none, rfl, fun _ _ z => z, fun _ z => nomatch z⟩ (fun i σ H4 _ ⟨_, _, _, s, _⟩ => SqL.same s (SqL.of g3)) ?_ ?_⟩
    · rintro i x σ H4 hi ⟨v4, v5, rfl, s4, hb⟩
      obtain ⟨rfl, hm2⟩ := get_str hi
      have hi2 : i < l.length := by
        have := (List.getElem?_eq_some_iff.mp hi).1
        rwa [List.length_map] at this
      have egd : l[i]? = some (l.getD i "") := by simp only [List.getD, List.getElem?_eq_getElem hi2, Option.getD_some]
      have hin2 := ok.mem n l hl _ hm2
      obtain ⟨k, hk⟩ := kd_some hin2
      have s24 := s12.trans (s3.trans s4)
      obtain ⟨dx4, fs4, N4, Tb4, us4, L4⟩ := id (hL.a.same s24)
      have emAt : mAt cs m (l.getD i "") = wr k m := by unfold mAt; rw [hk]; rfl
      have step : ∀ b, alikeTo cs m md0 (l.getD i "") = b → b = true → ∀ e ∈ l.take (i + 1), alikeTo cs m md0 e = true := fun b e1 e2 e he => by
        rw [take_snoc egd] at he
        rcases List.mem_append.mp he with z | z
        · exact hb e z
        · rw [List.mem_singleton.mp z, e1, e2]
      refine ⟨_, rfl, _, rfl, a, dx4, fs4, rfl, L4.ins, a, cs, ns, _, k, rfl, hL.a.same s24, hk, fun v H5 s5 ov5 => ?_⟩
      refine ⟨_, rfl, v, k, m, rfl, ov5, (fun hw => ?_), fun md u hw ou5 => ?_⟩
      · refine ⟨_, rfl, rfl, _, rfl, iteF ⟨_, _, rfl, s4.trans s5, step _ rfl ?_⟩⟩
        unfold alikeTo
        rw [emAt, hw]
      · obtain ⟨ga, gx', gs, gp, gxs, g1', g2', gb, rfl, GA⟩ := mO_get ou5
        have sF := (s3.trans s4).trans s5
        have ea : alikeTo cs m md0 (l.getD i "") = sameSig md md0 := by unfold alikeTo; rw [emAt, hw]
        have oP : Oh K (clk C f) H5 (.tup (md.params.map pairO)) (.ref gp) := oh_tup GA.sp GA.op
        have oP0 : Oh K (clk C f) H5 (.tup (md0.params.map pairO)) (.ref fp) := Oh.sm sF (oh_tup FA.sp FA.op)
        have fins := sF _ _ FA.ins
        obtain ⟨z1, z2⟩ := ok_pairs (S := Sn) (cl := clk C f) md.params
        obtain ⟨y1, y2⟩ := ok_pairs (S := Sn) (cl := clk C f) md0.params
        refine ⟨_, rfl, rfl, _, rfl, iteT ?_⟩
        refine ⟨_, rfl, ga, C 1, gx', gs, _, rfl, GA.ins, M.X.cls 1 (by decide), M.X.no 1 (by decide) _ (by decide), GA.p, _, rfl, fa, C 1, fx, fsm, _, rfl, fins, M.X.cls 1 (by decide), M.X.no 1 (by decide) _ (by decide), FA.p, _, _, oP, oP0, z1, y1, Nat.succ_le_succ z2, Nat.succ_le_succ y2, fun H6 s6 => ⟨_, rfl, ?_⟩⟩
        have s6' : Same H5 H6 := s6
        rw [eqo_pairs]
        have nal : sameSig md md0 = false → alike cs l m = false := fun z => by
          rw [hal, List.all_eq_false]
          exact ⟨_, hm2, by rw [ea, z]; exact Bool.false_ne_true⟩
        by_cases hp : md.params = md0.params
        · rw [decide_eq_true hp]
          refine iteF ⟨_, rfl, ga, C 1, gx', gs, _, rfl, s6' _ _ GA.ins, M.X.cls 1 (by decide), M.X.no 1 (by decide) _ (by decide), GA.r, _, rfl, fa, C 1, fx, fsm, _, rfl, s6' _ _ fins, M.X.cls 1 (by decide), M.X.no 1 (by decide) _ (by decide), FA.r, rfl, _, rfl, ?_⟩
          by_cases hr : md.result = md0.result
          · rw [decide_eq_true (by rw [hr])]
            refine iteF ⟨_, _, rfl, (s4.trans s5).trans s6', step _ ea ?_⟩
            unfold sameSig
            rw [decide_eq_true hp, decide_eq_true hr]
            rfl
          · rw [decide_eq_false (fun z => hr (by injection z))]
            refine iteT ?_
            have := q H6 (s12.trans (sF.trans s6'))
            rw [nal (by unfold sameSig; rw [decide_eq_false hr, Bool.and_false])] at this
            exact this
        · rw [decide_eq_false hp]
          refine iteT (iteT ?_)
          have := q H6 (s12.trans (sF.trans s6'))
          rw [nal (by unfold sameSig; rw [decide_eq_false hp, Bool.false_and])] at this
          exact this
    · rintro σ H4 ⟨v4, v5, rfl, s4, hb⟩
      rw [List.length_map, List.take_length] at hb
      have := q H4 (s12.trans (s3.trans s4))
      rw [hal, List.all_eq_true.mpr hb] at this
      exact this
def ordOf (o : Ord) (n : Str) : List Str := (o n).getD []
def spWH (K : PySem.W.Frag) (C f : Nat → Addr) (CL : Addr) : Sp := fun vs H Q _ => ∃ (a : Addr) (cs : List KD) (ns : List Str) (o : Ord), vs = [.ref a] ∧ LibO K C f CL H a cs ns o ∧ Lok cs o ∧ Ns cs ns ∧
  ((∀ n ∈ ns, ∀ m ∈ mnames cs (ordOf o n), alike cs (ordOf o n) m = true) → ∀ H', Same H H' → Q .non H') ∧
  ∀ i n ys m, ns[i]? = some n → (∀ n' ∈ ns.take i, ∀ m ∈ mnames cs (ordOf o n'), alike cs (ordOf o n') m = true) → sortedS ys = true → ys.Nodup → (∀ x, x ∈ ys ↔ x ∈ mnames cs (ordOf o n)) → ys.find? (fun m => !alike cs (ordOf o n) m) = some m →
    ∀ p t H', Same H H' → H' t = some (.tup [.str n, .str m]) → H' p = some (.tup [.ref t, .str "inherited"]) → Q (.ref p) H'
theorem mnames_has {cs : List KD} {l : List Str} {m : Str} (h : m ∈ mnames cs l) : ∃ e ∈ l, hasM cs m e = true := by
  unfold mnames at h
  obtain ⟨e, he, hm⟩ := List.mem_flatMap.mp h
  refine ⟨e, he, ?_⟩
  unfold hasM
  cases hk : kd cs e with
  | none => rw [hk] at hm; cases hm
  | some k =>
    rw [hk] at hm
    obtain ⟨md, hmd, e2⟩ := List.mem_map.mp (show m ∈ k.methods.map (·.name) from hm)
    show (wr k m).isSome = true
    unfold wr
    exact List.find?_isSome.mpr ⟨md, hmd, decide_eq_true e2⟩
theorem ok_wh {g : Addr} {fd : FuncData} (F : Fs K mg "wrong_heritage" sWH_ ["library"] g fd) (dWA : ∃ g fd, Fs K mg "_is_written_alike" sWA ["library", "name", "method"] g fd) (M : Lm K mg C f CL) : FnOk P w K mg base CX0 5 g fd ["library"] (spWH K C f CL) := by
  obtain ⟨_, _, dWA⟩ := dWA
  have GWA : FnOk P w K mg base CX0 4 _ _ ["library", "name", "method"] (spWA K C f CL) := ok_wa dWA M
  obtain ⟨gm, fdm, mm, Fm, bmo⟩ := M.me
  have GMO : FnOk P w K mg base CX0 3 gm fdm ["self", "name"] (spMo K C f CL) := ok_mo Fm M
  refine F.F.ok scWH_ (fun vs H Q E h => ?_) (fun cdv A outer s H vs Q E hr h => ?_)
  · obtain ⟨_, _, _, _, rfl, _⟩ := h
    rfl
  · obtain ⟨a, cs, ns, o, rfl, hL, ok, hns, q0, q1⟩ := h
    have hrWA : Room 4 (A.deeper (envOfC "wrong_heritage" (defScope sWH_) s.heap.objs.size g cdv)) := hr
    have hrMO : Room 3 (A.deeper (envOfC "wrong_heritage" (defScope sWH_) s.heap.objs.size g cdv)) := hr.mono (by decide)
    obtain ⟨dx, fs, Nn, Tb, us, L⟩ := id hL.a
    refine ⟨_, (pss_cons (ps_for PassesOwn.never rfl (pi_tup (pe_fld (pv 0) (by rfl))) (pg_name (i := 1) scWH_.nd rfl (Or.inl rfl)) (pss_one (ps_for PassesOwn.never rfl (pi_list (pe_meth (pv 0) M.cls mm GMO hrMO bmo .nil pass0 (pa_cons (pv 1) pa_nil))) (pg_name (i := 2) scWH_.nd rfl (Or.inl rfl)) (pss_one (ps_if (pt_not (pt_val (pe_call GWA hrWA (by rfl) dWA.m dWA.F.kp dWA.b .nil pass0 (pa_cons (pv 0) (pa_cons (pv 1) (pa_cons (pv 2) pa_nil)))))) (pss_one (ps_ret (pe_tup (pa_cons (pe_tup (pa_cons (pv 1) (pa_cons (pv 2) pa_nil))) (pa_cons pe_str pa_nil))))) pss_nil))))) (pss_one (ps_ret pe_non))), ?_⟩
    refine ⟨_, rfl, a, CL, dx, fs, .ref Nn, rfl, L.ins, M.cls, M.no _ (by simp), L.nm, Nn, rfl, ⟨_, L.sn⟩, for_tup (K := K) (a := Nn) (xs := ns.map V.str) (fun i σ H2 => ∃ v1 v2, σ = [some (.ref a), v1, v2] ∧ Same H H2 ∧ ∀ n' ∈ ns.take i, ∀ m ∈ mnames cs (ordOf o n'), alike cs (ordOf o n') m = true) ⟨none, none, rfl, fun _ _ z => z, fun _ z => nomatch z⟩ (fun i σ H2 _ ⟨_, _, _, s, _⟩ => SqT.same s L.sn) ?_ ?_⟩
    · rintro i x σ H2 hi ⟨v1, v2, rfl, s2, hb⟩
      obtain ⟨rfl, hm⟩ := get_str hi
      have hi2 : i < ns.length := by
        have := (List.getElem?_eq_some_iff.mp hi).1
        rwa [List.length_map] at this
      have egd : ns[i]? = some (ns.getD i "") := by simp only [List.getD, List.getElem?_eq_getElem hi2, Option.getD_some]
      have hcs := (hns.mem _).mp hm
      obtain ⟨l, hl⟩ := ok.all _ hcs
      have hlo : ordOf o (ns.getD i "") = l := by unfold ordOf; rw [hl]; rfl
      obtain ⟨dx2, fs2, N2, Tb2, us2, L2'⟩ := id (hL.a.same s2)
      refine ⟨_, rfl, a, dx2, fs2, rfl, L2'.ins, L2'.no _ (by decide +kernel), _, rfl, a, cs, ns, o, _, l, rfl, hL.same s2, hcs, ok, hl, fun ys X H3 so nd mem le f3 s3 g3 => ?_⟩
      refine ⟨X, rfl, ⟨_, SqL.of g3⟩, for_list (K := K) (a := X) (xs := ys.map V.str) (fun j σ H4 => ∃ v2, σ = [some (.ref a), some (.str (ns.getD i "")), v2] ∧ Same H3 H4 ∧ ∀ m ∈ ys.take j, alike cs l m = true) ⟨v2, rfl, fun _ _ z => z, fun _ z => nomatch z⟩ (fun j σ H4 _ ⟨_, _, s, _⟩ => SqL.same s (SqL.of g3)) ?_ ?_⟩
      · rintro j y σ H4 hj ⟨w2, rfl, s4, hb4⟩
        obtain ⟨rfl, hm4⟩ := get_str hj
        have hj2 : j < ys.length := by
          have := (List.getElem?_eq_some_iff.mp hj).1
          rwa [List.length_map] at this
        have egj : ys[j]? = some (ys.getD j "") := by simp only [List.getD, List.getElem?_eq_getElem hj2, Option.getD_some]
        refine ⟨_, rfl, _, rfl, _, rfl, a, cs, ns, o, _, _, l, rfl, hL.same (s2.trans (s3.trans s4)), hcs, ok, hl, mnames_has ((mem _).mp hm4), fun H5 s5 => ⟨_, rfl, ?_⟩⟩
        cases hal : alike cs l (ys.getD j "") with
        | true =>
          refine iteF ⟨_, rfl, s4.trans s5, fun m hm => ?_⟩
          rw [take_snoc egj] at hm
          rcases List.mem_append.mp hm with z | z
          · exact hb4 m z
          · rw [List.mem_singleton.mp z]; exact hal
        | false =>
          refine iteT ⟨_, rfl, _, rfl, le_sz (Nat.le_of_ble_eq_true rfl), fun t ht => ⟨le_sz (Nat.le_of_ble_eq_true rfl), fun p hp => ?_⟩⟩
          have s6 := new_same (o := .tup [.str (ns.getD i ""), .str (ys.getD j "")]) ht
          have s7 := new_same (o := .tup [.ref t, .str "inherited"]) hp
          refine q1 i _ ys _ egd hb so nd (fun x => by rw [hlo]; exact mem x) ?_ p t _ ((((s2.trans s3).trans s4).trans s5).trans (s6.trans s7)) (s7 _ _ upd_same) upd_same
          rw [hlo, List.find?_eq_some_iff_getElem]
          refine ⟨by rw [hal]; rfl, j, hj2, by simp [List.getD, hj2], fun j2 hj3 => ?_⟩
          have hj4 : j2 < ys.length := by omega
          have := hb4 ys[j2] (List.mem_take_iff_getElem.mpr ⟨j2, by omega, rfl⟩)
          rw [this]
          rfl
      · rintro σ H4 ⟨w2, rfl, s4, hb4⟩
        rw [List.length_map, List.take_length] at hb4
        refine ⟨_, _, rfl, s2.trans (s3.trans s4), fun n' hn' m hm' => ?_⟩
        rw [take_snoc egd] at hn'
        rcases List.mem_append.mp hn' with z | z
        · exact hb n' z m hm'
        · rw [List.mem_singleton.mp z] at hm' ⊢
          rw [hlo] at hm' ⊢
          exact hb4 m ((mem m).mpr hm')
    · rintro σ H2 ⟨v1, v2, rfl, s2, hb⟩
      rw [List.length_map, List.take_length] at hb
      exact q0 hb H2 s2
end

end Kx
set_option linter.all false
namespace Kx
open PySem L2 PySem.Spec PyProof.Rows
/-! max(xs, default=d), xs without items -/
def rMaxD0 (K : PySem.W.Frag) : List V → List V → Hp → VK → Prop := fun xs zs H Q => ∃ (a : Addr) (d : V), xs = [.ref a] ∧ zs = [d] ∧ SqL K H a [] ∧ Q d H
theorem cr_maxD0 {X : Cx} (hc : X.calm = true) : CallRK X (.builtin "max") ["default"] (rMaxD0 X.K) := by
  intro pins s σ H xs zs us ws Q I rx rz h
  obtain ⟨a, d, rfl, rfl, ha, q⟩ := h
  rw [Vals.ref1 rx]
  obtain ⟨u, rfl, ru⟩ := vals1 rz
  obtain ⟨its, rv, pl, _⟩ := I.list ha
  have e0 : its = [] := by cases rv; rfl
  subst e0
  have hl := pl.isList
  obtain ⟨ol, hol, hcl, nl, hdl⟩ := id hl
  have hlt : a < s.heap.objs.size := Heap.lt_size hol
  show wpAny _ _ (call (.builtin "max") [.ref a] [(Str.ofString "default", u)]) _ _ s
  refine call_max_walkD (wpAny_pyIter_list hl ?_)
  have ne1 : a ≠ s.heap.objs.size := Nat.ne_of_lt hlt
  refine ⟨s.heap.objs.size, _, _, _, _, _, _, s.heap, fun _ _ => false, rfl, (Walks.list (by simp [I.ok.hd hc]) _ a ne1 ([] : List Value).toArray).toS, ⟨⟨_, Heap.get?_push_size _ rfl, rfl, rfl⟩, hl.push _⟩, fun b hb => ?_, fun b o e hb => ?_, fun b o e => Heap.get?_push_of_some _ e, fun _ s3 m => ?_, fun z => absurd z (Nat.not_lt_zero _)⟩
  · have hsz : (s.heap.push { cls := Value.type "list_iterator", data := Data.fields #[Value.ref a, Value.int 0 0] }).objs.size = s.heap.objs.size + 1 := Heap.size_push ..
    show b < (s.heap.push { cls := Value.type "list_iterator", data := Data.fields #[Value.ref a, Value.int 0 0] }).objs.size
    rw [hsz]
    rcases List.mem_cons.mp hb with z | z
    · rw [z]; exact Nat.lt_succ_self _
    · rw [List.mem_singleton.mp z]; exact Nat.lt_succ_of_lt hlt
  · have h1 := Heap.lt_size e
    rw [List.mem_singleton.mp hb] at h1
    exact Nat.lt_irrefl _ h1
  · obtain ⟨h3, g3, d3, t3, o3⟩ := s3
    obtain rfl : g3 = s.gens := m.gens
    obtain rfl : d3 = s.drawn := m.drawn
    obtain rfl : o3 = s.os := m.os
    refine ⟨d, H, I.kept (t' := t3) (fun b ob e => ?_), ru, q⟩
    refine m.heap b ob (fun z => ?_) (Heap.get?_push_of_some _ e)
    have h1 := Heap.lt_size e
    rw [List.mem_singleton.mp z] at h1
    exact Nat.lt_irrefl _ h1
end Kx
set_option linter.all false
namespace Kx
open PySem L2 PySem.Spec PyProof.Rows
abbrev sFW : Stmt := top 43
abbrev nFW : List Str := ["thing"]
theorem scFW : FnScope nFW ["thing"] (defScope sFW) := ⟨rfl, rfl, rfl, by decide +kernel, rfl, by decide +kernel, by decide +kernel⟩
abbrev sLL : Stmt := top 44
abbrev nLL : List Str := ["thing", "word"]
theorem scLL : FnScope nLL ["thing"] (defScope sLL) := ⟨rfl, rfl, rfl, by decide +kernel, rfl, by decide +kernel, by decide +kernel⟩
abbrev sPO : Stmt := top 45
abbrev nPO : List Str := ["statement", "word"]
theorem scPO : FnScope nPO ["statement"] (defScope sPO) := ⟨rfl, rfl, rfl, by decide +kernel, rfl, by decide +kernel, by decide +kernel⟩
abbrev sHFm : Stmt := top 50
abbrev nHFm : List Str := ["statement", "word"]
theorem scHFm : FnScope nHFm ["statement"] (defScope sHFm) := ⟨rfl, rfl, rfl, by decide +kernel, rfl, by decide +kernel, by decide +kernel⟩
abbrev sAO : Stmt := top 51
abbrev nAO : List Str := ["statement"]
theorem scAO : FnScope nAO ["statement"] (defScope sAO) := ⟨rfl, rfl, rfl, by decide +kernel, rfl, by decide +kernel, by decide +kernel⟩
abbrev sHd : Stmt := top 52
abbrev nHd : List Str := ["act"]
theorem scHd : FnScope nHd ["act"] (defScope sHd) := ⟨rfl, rfl, rfl, by decide +kernel, rfl, by decide +kernel, by decide +kernel⟩
abbrev sTI : Stmt := top 53
abbrev nTI : List Str := ["act", "one"]
theorem scTI : FnScope nTI ["act"] (defScope sTI) := ⟨rfl, rfl, rfl, by decide +kernel, rfl, by decide +kernel, by decide +kernel⟩
abbrev sOI : Stmt := top 54
abbrev nOI : List Str := ["act", "passed", "one"]
theorem scOI : FnScope nOI ["act"] (defScope sOI) := ⟨rfl, rfl, rfl, by decide +kernel, rfl, by decide +kernel, by decide +kernel⟩
abbrev sSts : Stmt := top 55
abbrev nSts : List Str := ["body", "found", "waiting", "statement"]
theorem scSts : FnScope nSts ["body"] (defScope sSts) := ⟨rfl, rfl, rfl, by decide +kernel, rfl, by decide +kernel, by decide +kernel⟩
abbrev sTrs : Stmt := top 56
abbrev nTrs : List Str := ["statement", "deepest", "part"]
theorem scTrs : FnScope nTrs ["statement"] (defScope sTrs) := ⟨rfl, rfl, rfl, by decide +kernel, rfl, by decide +kernel, by decide +kernel⟩
abbrev sCls_ : Stmt := top 57
abbrev nCls_ : List Str := ["statement", "word", "counts", "part"]
theorem scCls_ : FnScope nCls_ ["statement"] (defScope sCls_) := ⟨rfl, rfl, rfl, by decide +kernel, rfl, by decide +kernel, by decide +kernel⟩
abbrev sTL : Stmt := top 58
abbrev nTL : List Str := ["body", "found", "ifs", "statement"]
theorem scTL : FnScope nTL ["body"] (defScope sTL) := ⟨rfl, rfl, rfl, by decide +kernel, rfl, by decide +kernel, by decide +kernel⟩
abbrev sSA : Stmt := top 61
abbrev nSA : List Str := ["kind"]
theorem scSA : FnScope nSA ["kind"] (defScope sSA) := ⟨rfl, rfl, rfl, by decide +kernel, rfl, by decide +kernel, by decide +kernel⟩
abbrev sSIn : Stmt := inClass (top 60) 0
abbrev nSIn : List Str := ["self", "known", "view", "fresh"]
theorem scSIn : FnScope nSIn ["self", "known", "view", "fresh"] (defScope sSIn) := ⟨rfl, rfl, rfl, by decide +kernel, rfl, by decide +kernel, by decide +kernel⟩
abbrev sScI : Stmt := inClass (top 62) 0
abbrev nScI : List Str := ["self", "library", "owner", "method", "variables"]
theorem scScI : FnScope nScI ["self", "library", "owner", "method", "variables"] (defScope sScI) := ⟨rfl, rfl, rfl, by decide +kernel, rfl, by decide +kernel, by decide +kernel⟩
abbrev sBh : Stmt := inClass (top 62) 7
abbrev nBh : List Str := ["self", "statement", "variables"]
theorem scBh : FnScope nBh ["self", "statement"] (defScope sBh) := ⟨rfl, rfl, rfl, by decide +kernel, rfl, by decide +kernel, by decide +kernel⟩
abbrev sMS : Stmt := top 63
abbrev nMS : List Str := ["library", "owner", "method", "variables", "name", "kind"]
theorem scMS : FnScope nMS ["library", "owner", "method"] (defScope sMS) := ⟨rfl, rfl, rfl, by decide +kernel, rfl, by decide +kernel, by decide +kernel⟩
abbrev sW0 : Stmt := top 70
abbrev nW0 : List Str := ["scope", "act", "term"]
theorem scW0 : FnScope nW0 ["scope", "act"] (defScope sW0) := ⟨rfl, rfl, rfl, by decide +kernel, rfl, by decide +kernel, by decide +kernel⟩
abbrev sW1 : Stmt := top 71
abbrev nW1 : List Str := ["scope", "act", "variable"]
theorem scW1 : FnScope nW1 ["scope", "act"] (defScope sW1) := ⟨rfl, rfl, rfl, by decide +kernel, rfl, by decide +kernel, by decide +kernel⟩
abbrev sW2 : Stmt := top 72
abbrev nW2 : List Str := ["scope", "act"]
theorem scW2 : FnScope nW2 ["scope", "act"] (defScope sW2) := ⟨rfl, rfl, rfl, by decide +kernel, rfl, by decide +kernel, by decide +kernel⟩
abbrev sW3 : Stmt := top 73
abbrev nW3 : List Str := ["scope", "act"]
theorem scW3 : FnScope nW3 ["scope", "act"] (defScope sW3) := ⟨rfl, rfl, rfl, by decide +kernel, rfl, by decide +kernel, by decide +kernel⟩
abbrev sW4 : Stmt := top 74
abbrev nW4 : List Str := ["scope", "act"]
theorem scW4 : FnScope nW4 ["scope", "act"] (defScope sW4) := ⟨rfl, rfl, rfl, by decide +kernel, rfl, by decide +kernel, by decide +kernel⟩
abbrev sW5 : Stmt := top 75
abbrev nW5 : List Str := ["scope", "act", "params", "items", "item", "param"]
theorem scW5 : FnScope nW5 ["scope", "act"] (defScope sW5) := ⟨rfl, rfl, rfl, by decide +kernel, rfl, by decide +kernel, by decide +kernel⟩
abbrev sW6 : Stmt := top 76
abbrev nW6 : List Str := ["scope", "act", "found"]
theorem scW6 : FnScope nW6 ["scope", "act"] (defScope sW6) := ⟨rfl, rfl, rfl, by decide +kernel, rfl, by decide +kernel, by decide +kernel⟩
abbrev sW7 : Stmt := top 77
abbrev nW7 : List Str := ["scope", "act"]
theorem scW7 : FnScope nW7 ["scope", "act"] (defScope sW7) := ⟨rfl, rfl, rfl, by decide +kernel, rfl, by decide +kernel, by decide +kernel⟩
abbrev sWHe : Stmt := top 79
abbrev nWHe : List Str := ["scope", "statement", "act", "word", "is_wrong"]
theorem scWHe : FnScope nWHe ["scope", "statement"] (defScope sWHe) := ⟨rfl, rfl, rfl, by decide +kernel, rfl, by decide +kernel, by decide +kernel⟩
abbrev sFWb : Stmt := top 80
abbrev nFWb : List Str := ["scope", "statement", "place", "why", "inner", "at", "part", "found"]
theorem scFWb : FnScope nFWb ["scope", "statement", "place"] (defScope sFWb) := ⟨rfl, rfl, rfl, by decide +kernel, rfl, by decide +kernel, by decide +kernel⟩
abbrev sWBb : Stmt := top 82
abbrev nWBb : List Str := ["scope", "body"]
theorem scWBb : FnScope nWBb ["scope", "body"] (defScope sWBb) := ⟨rfl, rfl, rfl, by decide +kernel, rfl, by decide +kernel, by decide +kernel⟩
abbrev sWMB : Stmt := top 84
abbrev nWMB : List Str := ["library", "owner", "method"]
theorem scWMB : FnScope nWMB ["library", "owner", "method"] (defScope sWMB) := ⟨rfl, rfl, rfl, by decide +kernel, rfl, by decide +kernel, by decide +kernel⟩
abbrev sWBl : Stmt := top 123
abbrev nWBl : List Str := ["library", "name", "method", "found", "place", "why"]
theorem scWBl : FnScope nWBl ["library"] (defScope sWBl) := ⟨rfl, rfl, rfl, by decide +kernel, rfl, by decide +kernel, by decide +kernel⟩
/-- a body that halts -/
def HaltA (K : PySem.W.Frag) (H : Hp) (v : V) : Prop := ∃ b, v = .ref b ∧ SqT K H b [.str "halt"]
theorem HaltA.same {K : PySem.W.Frag} {H H' : Hp} {v : V} (s : Same H H') : HaltA K H v → HaltA K H' v := fun ⟨b, e, q⟩ => ⟨b, e, SqT.same s q⟩
abbrev SpH (K : PySem.W.Frag) (R : VK → Hp → Prop) : Sp := fun vs H Q _ => ∃ v, vs = [v] ∧ HaltA K H v ∧ R Q H
abbrev RV (u : V) : VK → Hp → Prop := fun Q H => ∀ H', Same H H' → Q u H'
section
variable {P : Program} {w : World} {K : PySem.W.Frag} {mg : Str → Option Value} {base : Heap}
theorem ok_fw {g : Addr} {fd : FuncData} (F : Fs K mg "_first_word" sFW ["thing"] g fd) (T : Bx mg) : FnOk P w K mg base CX0 1 g fd ["thing"] (SpH K (RV (.str "halt"))) := by
  refine F.F.ok scFW (fun vs H Q E h => ?_) (fun cdv A outer s H vs Q E hr h => ?_)
  · obtain ⟨_, rfl, _⟩ := h
    rfl
  · obtain ⟨v, rfl, ⟨b, rfl, hb⟩, q⟩ := h
    refine ⟨_, (pss_cons (ps_if (PW.pt (pw_and (pt_val (pe_callB call_isi (by rfl) T.isi boot_isinstance (pa_cons (pv 0) (pa_cons (pe_bltn (v := .ty "tuple") (by rfl) T.tuple (by decide +kernel) rfl) pa_nil)))) (pw_and (pt_cmpR (op_neD hr.units) (pv 0) (pe_tup pa_nil) (nomark _)) (pw_and1 (pt_val (pe_callB call_isi (by rfl) T.isi boot_isinstance (pa_cons (pe_ix ix_tup (pv 0) pe_int (fun _ _ => rfl)) (pa_cons (pe_bltn (v := .ty "str") (by rfl) T.str (by decide +kernel) rfl) pa_nil)))))))) (pss_one (ps_ret (pe_ix ix_tup (pv 0) pe_int (fun _ _ => rfl)))) pss_nil) (pss_one (ps_ret pe_str))), ?_⟩
    refine ⟨_, rfl, .ref b, .ty "tuple", _, _, true, rfl, .ty _, tyT hb, kit_ty (by decide +kernel), true, rfl, iteT ?_⟩
    refine ⟨_, rfl, le_sz (Nat.le_of_ble_eq_true rfl), fun p hp => ?_⟩
    have s1 := new_same (o := .tup []) hp
    have hb1 := SqT.same s1 hb
    refine ⟨.tuple [.str "halt"], .tuple [], .tup hb1 (.cons (.str _) .nil), .tup (SqT.of upd_same) .nil, by decide +kernel, by decide +kernel, _, rfl, iteT ?_⟩
    refine ⟨_, rfl, b, _, _, .str "halt", rfl, rfl, hb1, at0, .str "halt", .ty "str", _, _, true, rfl, .ty _, .base (.str "halt"), kit_ty (by decide +kernel), true, rfl, iteT ?_⟩
    exact ⟨_, rfl, b, _, _, .str "halt", rfl, rfl, hb1, at0, q _ s1⟩
/-- the words of statements -/
structure Sw (K : PySem.W.Frag) (w : World) (mg : Str → Option Value) (ST : Addr) : Prop where
  at_ : mg "STATEMENTS" = some (.ref ST)
  d : ∃ es n, KDict K w ST es n ∧ ∃ u, PySem.W.nsIn K ST "halt" = some (some u)
  k : KDct K w ST "halt" (.int 1)
  fw : ∃ g fd, Fs K mg "_first_word" sFW ["thing"] g fd
  ll : ∃ g fd, Fs K mg "_looks_like" sLL ["thing"] g fd
  po : ∃ g fd, Fs K mg "parts_of" sPO ["statement"] g fd
  hf : ∃ g fd, Fs K mg "has_form" sHFm ["statement"] g fd
  ao : ∃ g fd, Fs K mg "act_of" sAO ["statement"] g fd
  hd : ∃ g fd, Fs K mg "handed" sHd ["act"] g fd
  ti : ∃ g fd, Fs K mg "terms_in" sTI ["act"] g fd
  oi : ∃ g fd, Fs K mg "objects_in" sOI ["act"] g fd
  sts : ∃ g fd, Fs K mg "_statements" sSts ["body"] g fd
  trs : ∃ g fd, Fs K mg "_tries" sTrs ["statement"] g fd
  cls : ∃ g fd, Fs K mg "_calls" sCls_ ["statement"] g fd
  tl : ∃ g fd, Fs K mg "is_too_large" sTL ["body"] g fd
  T : Bx mg
  c40 : ∃ k, mg "MOST_STATEMENTS" = some (.int 40 k)
  c4 : ∃ k, mg "MOST_IFS" = some (.int 4 k)
  c2 : ∃ k, mg "MOST_TRIES" = some (.int 2 k)
  c4c : ∃ k, mg "MOST_CALLS" = some (.int 4 k)
  mx : mg "max" = none
  sm : mg "sum" = none
abbrev REmp : VK → Hp → Prop := fun Q H => ∀ H' p, Same H H' → H p = none → H' p = some (.tup []) → Q (.ref p) H'
abbrev REmL : VK → Hp → Prop := fun Q H => ∀ H' p, Same H H' → H p = none → H' p = some (.lst []) → Q (.ref p) H'
theorem ok_ll {g ST : Addr} {fd : FuncData} (F : Fs K mg "_looks_like" sLL ["thing"] g fd) (W : Sw K w mg ST) : FnOk P w K mg base CX0 2 g fd ["thing"] (SpH K (RV (.str "halt"))) := by
  have T := W.T
  have hST := W.at_
  obtain ⟨es, n, DS, u, hu⟩ := W.d
  obtain ⟨_, _, dFW⟩ := W.fw
  have GFW : FnOk P w K mg base CX0 1 _ _ ["thing"] (SpH K (RV (.str "halt"))) := ok_fw dFW T
  refine F.F.ok scLL (fun vs H Q E h => ?_) (fun cdv A outer s H vs Q E hr h => ?_)
  · obtain ⟨_, rfl, _⟩ := h
    rfl
  · obtain ⟨v, rfl, hv, q⟩ := h
    have hrFW := hr
    refine ⟨_, (pss_cons (ps_set (i := 1) scLL.nd rfl (Or.inl rfl) (pe_call GFW hrFW (by rfl) dFW.m dFW.F.kp dFW.b .nil pass0 (pa_cons (pv 0) pa_nil))) (pss_one (ps_ret (pe_ifExp (PW.pt (pw_and (pt_cmpR (op_in_kd DS) (pv 1) (pe_glob (v := .ref ST) (by rfl) hST rfl) (by with_unfolding_all rfl)) (pw_and1 (pt_cmpR op_eq (pe_callB call_len_seq (by rfl) T.len PySem.boot_len (pa_cons (pv 0) pa_nil)) (pe_ix ix_kdict (pe_glob (v := .ref ST) (by rfl) hST rfl) (pv 1) (fun _ _ => rfl)) (nomark _))))) (pv 1) pe_str)))), ?_⟩
    refine ⟨_, rfl, v, rfl, hv, fun H1 s1 => ?_⟩
    obtain ⟨b, rfl, hb⟩ := hv.same s1
    refine ⟨_, rfl, "halt", some u, rfl, rfl, hu, _, rfl, iteT ?_⟩
    refine ⟨_, rfl, b, _, rfl, .inr hb, _, rfl, ST, "halt", .int 1, rfl, rfl, W.k, rfl, _, rfl, iteT ?_⟩
    exact ⟨_, rfl, q H1 s1⟩
theorem nE {a b : Str} (h : (a == b) = false) : V.bl (decide (V.str a = V.str b)) = V.bl false := by
  rw [decide_eq_false]
  intro z
  injection z with z
  rw [z, beq_self_eq_true] at h
  cases h
theorem nN {a b : Str} (h : (a == b) = false) : V.bl (!decide (V.str a = V.str b)) = V.bl true := by
  rw [decide_eq_false]
  · rfl
  · intro z
    injection z with z
    rw [z, beq_self_eq_true] at h
    cases h
theorem ok_po {g ST : Addr} {fd : FuncData} (F : Fs K mg "parts_of" sPO ["statement"] g fd) (W : Sw K w mg ST) : FnOk P w K mg base CX0 3 g fd ["statement"] (SpH K REmp) := by
  obtain ⟨_, _, dLL⟩ := W.ll
  have GLL : FnOk P w K mg base CX0 2 _ _ ["thing"] (SpH K (RV (.str "halt"))) := ok_ll dLL W
  refine F.F.ok scPO (fun vs H Q E h => ?_) (fun cdv A outer s H vs Q E hr h => ?_)
  · obtain ⟨_, rfl, _⟩ := h
    rfl
  · obtain ⟨v, rfl, hv, q⟩ := h
    have hrLL := hr
    refine ⟨_, (pss_cons (ps_set (i := 1) scPO.nd rfl (Or.inl rfl) (pe_call GLL hrLL (by rfl) dLL.m dLL.F.kp dLL.b .nil pass0 (pa_cons (pv 0) pa_nil))) (pss_cons (ps_if (pt_cmpR op_eq (pv 1) pe_str (nomark _)) (pss_one ps_dead) pss_nil) (pss_cons (ps_if (pt_cmpR op_eq (pv 1) pe_str (nomark _)) (pss_one ps_dead) pss_nil) (pss_cons (ps_if (pt_cmpR op_eq (pv 1) pe_str (nomark _)) (pss_one ps_dead) pss_nil) (pss_one (ps_ret (pe_tup pa_nil))))))), ?_⟩
    refine ⟨_, rfl, v, rfl, hv, fun H1 s1 => ?_⟩
    refine ⟨_, rfl, rfl, false, nE (by decide +kernel), iteF ⟨_, rfl, rfl, false, nE (by decide +kernel), iteF ⟨_, rfl, rfl, false, nE (by decide +kernel), iteF ⟨le_sz (Nat.le_of_ble_eq_true rfl), fun p hp => ?_⟩⟩⟩⟩
    exact q _ p (s1.trans (new_same hp)) (Same.free s1 hp) upd_same
theorem ok_hfm {g ST : Addr} {fd : FuncData} (F : Fs K mg "has_form" sHFm ["statement"] g fd) (W : Sw K w mg ST) : FnOk P w K mg base CX0 3 g fd ["statement"] (SpH K (RV (.bl true))) := by
  obtain ⟨_, _, dLL⟩ := W.ll
  have GLL : FnOk P w K mg base CX0 2 _ _ ["thing"] (SpH K (RV (.str "halt"))) := ok_ll dLL W
  refine F.F.ok scHFm (fun vs H Q E h => ?_) (fun cdv A outer s H vs Q E hr h => ?_)
  · obtain ⟨_, rfl, _⟩ := h
    rfl
  · obtain ⟨v, rfl, hv, q⟩ := h
    have hrLL := hr
    refine ⟨_, (pss_cons (ps_set (i := 1) scHFm.nd rfl (Or.inl rfl) (pe_call GLL hrLL (by rfl) dLL.m dLL.F.kp dLL.b .nil pass0 (pa_cons (pv 0) pa_nil))) (pss_cons (ps_if (pt_cmpR op_eq (pv 1) pe_str (nomark _)) (pss_one ps_dead) pss_nil) (pss_cons (ps_if (pt_cmpR op_eq (pv 1) pe_str (nomark _)) (pss_one ps_dead) pss_nil) (pss_cons (ps_if (pt_cmpR op_eq (pv 1) pe_str (nomark _)) (pss_one ps_dead) pss_nil) (pss_one (ps_ret (pe_cmpR op_ne (pv 1) pe_str (nomark _)))))))), ?_⟩
    refine ⟨_, rfl, v, rfl, hv, fun H1 s1 => ?_⟩
    refine ⟨_, rfl, rfl, false, nE (by decide +kernel), iteF ⟨_, rfl, rfl, false, nE (by decide +kernel), iteF ⟨_, rfl, rfl, false, nE (by decide +kernel), iteF ⟨_, rfl, rfl, ?_⟩⟩⟩⟩
    rw [nN (by decide +kernel)]
    exact q H1 s1
theorem ok_ao {g : Addr} {fd : FuncData} (F : Fs K mg "act_of" sAO ["statement"] g fd) : FnOk P w K mg base CX0 1 g fd ["statement"] (fun vs H Q _ => ∃ v, vs = [v] ∧ HaltA K H v ∧ Q v H) := by
  refine F.F.ok scAO (fun vs H Q E h => ?_) (fun cdv A outer s H vs Q E hr h => ?_)
  · obtain ⟨_, rfl, _⟩ := h
    rfl
  · obtain ⟨v, rfl, ⟨b, rfl, hb⟩, q⟩ := h
    refine ⟨_, (pss_one (ps_ret (pe_ifExp (pt_cmpR op_eq (pe_ix ix_tup (pv 0) pe_int (fun _ _ => rfl)) pe_str (nomark _)) pe_dead (pv 0)))), ?_⟩
    exact ⟨_, rfl, b, _, _, .str "halt", rfl, rfl, hb, at0, rfl, false, nE (by decide +kernel), iteF ⟨_, rfl, q⟩⟩
theorem ok_hnd {g : Addr} {fd : FuncData} (F : Fs K mg "handed" sHd ["act"] g fd) : FnOk P w K mg base CX0 1 g fd ["act"] (SpH K REmp) := by
  refine F.F.ok scHd (fun vs H Q E h => ?_) (fun cdv A outer s H vs Q E hr h => ?_)
  · obtain ⟨_, rfl, _⟩ := h
    rfl
  · obtain ⟨v, rfl, ⟨b, rfl, hb⟩, q⟩ := h
    refine ⟨_, (pss_cons (ps_if (pt_cmpR op_eq (pe_ix ix_tup (pv 0) pe_int (fun _ _ => rfl)) pe_str (nomark _)) (pss_one ps_dead) pss_nil) (pss_cons (ps_if (pt_cmpR op_eq (pe_ix ix_tup (pv 0) pe_int (fun _ _ => rfl)) pe_str (nomark _)) (pss_one ps_dead) pss_nil) (pss_cons (ps_if (pt_cmpR op_eq (pe_ix ix_tup (pv 0) pe_int (fun _ _ => rfl)) pe_str (nomark _)) (pss_one ps_dead) pss_nil) (pss_cons (ps_if (pt_cmpR op_eq (pe_ix ix_tup (pv 0) pe_int (fun _ _ => rfl)) pe_str (nomark _)) (pss_one ps_dead) pss_nil) (pss_one (ps_ret (pe_tup pa_nil))))))), ?_⟩
    refine ⟨_, rfl, b, _, _, .str "halt", rfl, rfl, hb, at0, rfl, false, nE (by decide +kernel), iteF ?_⟩
    refine ⟨_, rfl, b, _, _, .str "halt", rfl, rfl, hb, at0, rfl, false, nE (by decide +kernel), iteF ?_⟩
    refine ⟨_, rfl, b, _, _, .str "halt", rfl, rfl, hb, at0, rfl, false, nE (by decide +kernel), iteF ?_⟩
    refine ⟨_, rfl, b, _, _, .str "halt", rfl, rfl, hb, at0, rfl, false, nE (by decide +kernel), iteF ⟨le_sz (Nat.le_of_ble_eq_true rfl), fun p hp => ?_⟩⟩
    exact q _ p (new_same hp) hp upd_same
theorem emp_go {J : It} {Y : Nat → Hp → V → Hp → Prop} {G : Hp → Prop} (wk : Walk J 0 G Y) {g : TG} {tt : TT} {te : TE} {vs : List Nat} {σ : L2.St} {H1 : Hp} {D : Addr} {Qd : Hp → Prop} (hD : H1 D = none) (hG : G (upd H1 D (.lst []))) (hd : Qd (upd H1 D (.lst []))) :
    ∃ W : Nat → Nat → Hp → Prop, (∃ m, W 0 m (upd H1 D (.lst []))) ∧ ∀ i m H, W i m H →
      (J.stop i H ∧ Qd H) ∨ (J.go i H ∧ ∃ Nx : Hp → Prop, (∀ H', Nx H' → ∃ m', m' < m ∧ W (i + 1) m' H') ∧ ∀ x H', J.yld i H x H' → g x (wipe σ vs) H' fun σ2 H2 => wipe σ2 vs = wipe σ vs ∧ tt σ2 H2 fun b H3 =>
        if b = true then te σ2 H3 fun y H4 => ∃ acc, H4 D = some (.lst acc) ∧ acc.length < sizeLine ∧ Nx (upd H4 D (.lst (acc ++ [y]))) else Nx H3) :=
  lc_it wk (fun _ H => H = upd H1 D (.lst [])) rfl (fun _ H _ e => by rw [e]; exact hG) (fun i x H H' hi => absurd hi (Nat.not_lt_zero _)) (fun H e => by rw [e]; exact hd)
theorem ok_ti {g ST : Addr} {fd : FuncData} (F : Fs K mg "terms_in" sTI ["act"] g fd) (W : Sw K w mg ST) : FnOk P w K mg base CX0 2 g fd ["act"] (SpH K REmL) := by
  obtain ⟨_, _, dHd⟩ := W.hd
  have GHd : FnOk P w K mg base CX0 1 _ _ ["act"] (SpH K REmp) := ok_hnd dHd
  refine F.F.ok scTI (fun vs H Q E h => ?_) (fun cdv A outer s H vs Q E hr h => ?_)
  · obtain ⟨_, rfl, _⟩ := h
    rfl
  · obtain ⟨v, rfl, ⟨b, rfl, hb⟩, q⟩ := h
    have hrHd := hr
    refine ⟨_, (pss_cons (ps_if (pt_cmpR op_eq (pe_ix ix_tup (pv 0) pe_int (fun _ _ => rfl)) pe_str (nomark _)) (pss_one ps_dead) pss_nil) (pss_cons (ps_if (pt_cmpR op_eq (pe_ix ix_tup (pv 0) pe_int (fun _ _ => rfl)) pe_str (nomark _)) (pss_one ps_dead) pss_nil) (pss_one (ps_ret (pe_lc (own := [("one", 1)]) (g := gName 1) rfl scTI.nd (pi_tup (pe_call GHd hrHd (by rfl) dHd.m dHd.F.kp dHd.b .nil pass0 (pa_cons (pv 0) pa_nil))) (blkOk_by (N := nTI) (sc := defScope sTI) (by decide +kernel)) (fun _ _ _ _ _ => (pg_name (i := 1) scTI.nd rfl (Or.inl rfl))) (fun _ _ _ _ _ => (pts_one pt_dead)) (fun _ _ _ _ _ => pe_dead)))))), ?_⟩
    refine ⟨_, rfl, b, _, _, .str "halt", rfl, rfl, hb, at0, rfl, false, nE (by decide +kernel), iteF ?_⟩
    refine ⟨_, rfl, b, _, _, .str "halt", rfl, rfl, hb, at0, rfl, false, nE (by decide +kernel), iteF ?_⟩
    refine ⟨_, rfl, _, rfl, ⟨b, rfl, hb⟩, fun H1 p s1 hp gp => ?_⟩
    refine ⟨p, rfl, ⟨_, SqT.of gp⟩, fun D hD => ?_⟩
    refine emp_go (walk_tup (xs := [])) (g := gName 1) (vs := [1]) (σ := [some (.ref b), none]) (tt := fun _ _ _ => False) (te := fun _ _ _ => False) hD (SqT.of ((new_same hD) _ _ gp)) ?_
    exact q _ D (s1.trans (new_same hD)) (Same.free s1 hD) upd_same
theorem ok_oi {g ST : Addr} {fd : FuncData} (F : Fs K mg "objects_in" sOI ["act"] g fd) (W : Sw K w mg ST) : FnOk P w K mg base CX0 2 g fd ["act"] (SpH K REmL) := by
  obtain ⟨_, _, dHd⟩ := W.hd
  have GHd : FnOk P w K mg base CX0 1 _ _ ["act"] (SpH K REmp) := ok_hnd dHd
  refine F.F.ok scOI (fun vs H Q E h => ?_) (fun cdv A outer s H vs Q E hr h => ?_)
  · obtain ⟨_, rfl, _⟩ := h
    rfl
  · obtain ⟨v, rfl, ⟨b, rfl, hb⟩, q⟩ := h
    have hrHd := hr
    refine ⟨_, (pss_cons (ps_setLc (i := 1) (own := [("one", 2)]) (g := gName 2) rfl scOI.nd rfl rfl (sw_true rfl rfl rfl rfl) (pi_tup (pe_call GHd hrHd (by rfl) dHd.m dHd.F.kp dHd.b .nil pass0 (pa_cons (pv 0) pa_nil))) (blkOk_by (N := nOI) (sc := defScope sOI) (by decide +kernel)) (fun _ _ _ _ _ => (pg_name (i := 2) scOI.nd rfl (Or.inl rfl))) (fun _ _ _ _ _ => (pts_one pt_dead)) (fun _ _ _ _ _ => (pv 2))) (pss_one (ps_ret (pe_ifExp (pt_cmpR op_in_seq (pe_ix ix_tup (pv 0) pe_int (fun _ _ => rfl)) (pe_tup (pa_cons pe_str (pa_cons pe_str pa_nil))) (by with_unfolding_all rfl)) pe_dead (pv 1))))), ?_⟩
    refine ⟨_, rfl, _, rfl, ⟨b, rfl, hb⟩, fun H1 p s1 hp gp => ?_⟩
    refine ⟨p, rfl, ⟨_, SqT.of gp⟩, fun D hD => ?_⟩
    refine emp_go (walk_tup (xs := [])) (g := gName 2) (vs := [2]) (σ := [some (.ref b), none, none]) (tt := fun _ _ _ => False) (te := tVar 2) hD (SqT.of ((new_same hD) _ _ gp)) ?_
    have s2 := s1.trans (new_same (o := .lst []) hD)
    have gD : (upd H1 D (.lst [])) D = some (.lst []) := upd_same
    obtain ⟨H2, e2⟩ : ∃ G, upd H1 D (.lst []) = G := ⟨_, rfl⟩
    rw [e2] at s2 gD ⊢
    refine ⟨_, rfl, b, _, _, .str "halt", rfl, rfl, SqT.same s2 hb, at0, le_sz (Nat.le_of_ble_eq_true rfl), fun t ht => ?_⟩
    refine ⟨t, _, rfl, .inr (SqT.of upd_same), rfl, rfl, false, by decide +kernel, iteF ⟨_, rfl, ?_⟩⟩
    exact q _ D (s2.trans (new_same ht)) (Same.free s1 hD) ((new_same ht) _ _ gD)
theorem ok_sts {g ST : Addr} {fd : FuncData} (F : Fs K mg "_statements" sSts ["body"] g fd) (W : Sw K w mg ST) : FnOk P w K mg base CX0 4 g fd ["body"] (fun vs H Q _ => ∃ v, vs = [v] ∧ HaltA K H v ∧ ∀ H' p, Same H H' → H p = none → H' p = some (.lst [v]) → Q (.ref p) H') := by
  obtain ⟨_, _, dPO⟩ := W.po
  obtain ⟨_, h40⟩ := W.c40
  have T := W.T
  have GPO : FnOk P w K mg base CX0 3 _ _ ["statement"] (SpH K REmp) := ok_po dPO W
  refine F.F.ok scSts (fun vs H Q E h => ?_) (fun cdv A outer s H vs Q E hr h => ?_)
  · obtain ⟨_, rfl, _⟩ := h
    rfl
  · obtain ⟨v, rfl, hv, q⟩ := h
    have hrPO := hr
    refine ⟨_, (pss_cons (ps_set (i := 1) scSts.nd rfl (Or.inl rfl) (pe_lst pa_nil)) (pss_cons (ps_set (i := 2) scSts.nd rfl (Or.inl rfl) (pe_lst (pa_cons (pv 0) pa_nil))) (pss_cons (ps_while PassesOwn.never (PW.pt (pw_and (pt_truth (pv 2) (by intro _; rfl)) (pw_and1 (pt_cmpR op_le (pe_callB call_len_seq (by rfl) T.len PySem.boot_len (pa_cons (pv 1) pa_nil)) (pe_glob (v := .int 40) (by rfl) h40 ⟨_, rfl⟩) (nomark _))))) (pss_cons (ps_set (i := 3) scSts.nd rfl (Or.inl rfl) (pe_bm0 PySem.F.plainAttrs_list PySem.F.slot_list_pop PySem.F.type_list_pop mt_pop (pv 2))) (pss_cons (ps_expr (pe_bm PySem.F.plainAttrs_list PySem.F.slot_list_append PySem.F.type_list_append mt_append (pv 1) (pa_cons (pv 3) pa_nil))) (pss_one (ps_expr (pe_bm PySem.F.plainAttrs_list PySem.F.slot_list_extend PySem.F.type_list_extend mt_extendT (pv 2) (pa_cons (pe_call GPO hrPO (by rfl) dPO.m dPO.F.kp dPO.b .nil pass0 (pa_cons (pv 3) pa_nil)) pa_nil))))))) (pss_one (ps_ret (pv 1)))))), ?_⟩
    refine ⟨le_sz (Nat.le_of_ble_eq_true rfl), fun L hL => ?_⟩
    have s1 := new_same (o := .lst []) hL
    have gL : (upd H L (.lst [])) L = some (.lst []) := upd_same
    obtain ⟨H1, e1⟩ : ∃ G, upd H L (.lst []) = G := ⟨_, rfl⟩
    rw [e1] at s1 gL ⊢
    refine ⟨_, rfl, le_sz (Nat.le_of_ble_eq_true rfl), fun W' hW => ?_⟩
    have s2 := s1.trans (new_same (o := .lst [v]) hW)
    have gL2 := new_same (o := .lst [v]) hW _ _ gL
    have gW : (upd H1 W' (.lst [v])) W' = some (.lst [v]) := upd_same
    have nLW : L ≠ W' := fun z => by rw [z, hW] at gL; cases gL
    have hW0 := Same.free s1 hW
    obtain ⟨H2, e2⟩ : ∃ G, upd H1 W' (.lst [v]) = G := ⟨_, rfl⟩
    rw [e2] at s2 gL2 gW ⊢
    refine ⟨fun m σ H' => ∃ u, Same H H' ∧ ((m = 1 ∧ σ = [some v, some (.ref L), some (.ref W'), none] ∧ H' L = some (.lst []) ∧ H' W' = some (.lst [v])) ∨ (m = 0 ∧ σ = [some v, some (.ref L), some (.ref W'), u] ∧ H' L = some (.lst [v]) ∧ H' W' = some (.lst []))), ⟨1, none, s2, .inl ⟨rfl, rfl, gL2, gW⟩⟩, ?_⟩
    rintro m σ H3 ⟨u, s3, ⟨rfl, rfl, gL3, gW3⟩ | ⟨rfl, rfl, gL3, gW3⟩⟩
    · refine ⟨_, rfl, true, .inl ⟨_, SqL.of gW3, rfl⟩, iteT ?_⟩
      refine ⟨_, rfl, L, _, rfl, .inl (SqL.of gL3), _, _, rfl, rfl, _, rfl, ?_⟩
      refine iteT ⟨fun σ' H' => Same H H' ∧ σ' = [some v, some (.ref L), some (.ref W'), some v] ∧ H' L = some (.lst [v]) ∧ H' W' = some (.lst []), fun σ' H' h => ⟨0, Nat.zero_lt_one, _, h.1, .inr ⟨rfl, h.2.1, h.2.2.1, h.2.2.2⟩⟩, ?_⟩
      refine ⟨_, rfl, .inl ⟨rfl, _, SqL.of gW3⟩, W', [v], v, rfl, rfl, gW3, rfl, ?_⟩
      have g4L : (upd H3 W' (.lst [v].dropLast)) L = some (.lst []) := (upd_ne nLW).trans gL3
      have s4 := same_upd (o := .lst [v].dropLast) hW0 s3
      have g4W : (upd H3 W' (.lst [v].dropLast)) W' = some (.lst []) := upd_same
      obtain ⟨H4, e4⟩ : ∃ G, upd H3 W' (.lst [v].dropLast) = G := ⟨_, rfl⟩
      rw [e4] at s4 g4L g4W ⊢
      refine ⟨_, rfl, .inl ⟨rfl, _, SqL.of g4L⟩, v, rfl, L, [], v, rfl, rfl, g4L, le_sz (Nat.le_of_ble_eq_true rfl), ?_⟩
      have s5 := same_upd (o := .lst ([] ++ [v])) hL s4
      have g5L : (upd H4 L (.lst ([] ++ [v]))) L = some (.lst [v]) := upd_same
      have g5W : (upd H4 L (.lst ([] ++ [v]))) W' = some (.lst []) := (upd_ne nLW.symm).trans g4W
      obtain ⟨H5, e5⟩ : ∃ G, upd H4 L (.lst ([] ++ [v])) = G := ⟨_, rfl⟩
      rw [e5] at s5 g5L g5W ⊢
      refine ⟨_, rfl, .inl ⟨rfl, _, SqL.of g5W⟩, _, rfl, _, rfl, hv.same s5, fun H6 p s6 hp gp => ?_⟩
      refine ⟨W', p, [], [], rfl, rfl, s6 _ _ g5W, SqT.of gp, le_sz (Nat.le_of_ble_eq_true rfl), ?_⟩
      exact ⟨same_upd hW0 (s5.trans s6), rfl, (upd_ne nLW).trans (s6 _ _ g5L), upd_same⟩
    · refine ⟨_, rfl, false, .inl ⟨_, SqL.of gW3, rfl⟩, iteF ?_⟩
      exact iteF ⟨_, rfl, q _ L s3 hL gL3⟩
theorem ok_trs {g ST : Addr} {fd : FuncData} (F : Fs K mg "_tries" sTrs ["statement"] g fd) (W : Sw K w mg ST) : FnOk P w K mg base CX0 4 g fd ["statement"] (SpH K (RV (.int 0))) := by
  obtain ⟨_, _, dPO⟩ := W.po
  obtain ⟨_, _, dLL⟩ := W.ll
  have hmx := W.mx
  have GPO : FnOk P w K mg base CX0 3 _ _ ["statement"] (SpH K REmp) := ok_po dPO W
  have GLL : FnOk P w K mg base CX0 2 _ _ ["thing"] (SpH K (RV (.str "halt"))) := ok_ll dLL W
  refine F.F.ok scTrs (fun vs H Q E h => ?_) (fun cdv A outer s H vs Q E hr h => ?_)
  · obtain ⟨_, rfl, _⟩ := h
    rfl
  · obtain ⟨v, rfl, hv, q⟩ := h
    have hrPO := hr
    have hrLL : Room 2 (A.deeper (envOfC "_tries" (defScope sTrs) s.heap.objs.size g cdv)) := hr.mono (by decide)
    refine ⟨_, (pss_cons (ps_set (i := 1) scTrs.nd rfl (Or.inl rfl) (pe_callBK (cr_maxD0 rfl) (by rfl) hmx (by decide +kernel) (pa_cons (pe_lc (own := [("part", 2)]) (g := gName 2) (tt := tYes) rfl scTrs.nd (pi_tup (pe_call GPO hrPO (by rfl) dPO.m dPO.F.kp dPO.b .nil pass0 (pa_cons (pv 0) pa_nil))) (blkOk_by (N := nTrs) (sc := defScope sTrs) (by decide +kernel)) (fun _ _ _ _ _ => (pg_name (i := 2) scTrs.nd rfl (Or.inl rfl))) (fun _ _ _ _ _ => pts_nil) (fun _ _ _ _ _ => pe_dead)) pa_nil) (pk_cons pe_int pk_nil))) (pss_one (ps_ret (pe_ifExp (pt_cmpR op_eq (pe_call GLL hrLL (by rfl) dLL.m dLL.F.kp dLL.b .nil pass0 (pa_cons (pv 0) pa_nil)) pe_str (nomark _)) pe_dead (pv 1))))), ?_⟩
    refine ⟨_, rfl, _, rfl, hv, fun H1 p s1 hp gp => ?_⟩
    refine ⟨p, rfl, ⟨_, SqT.of gp⟩, fun D hD => ?_⟩
    refine emp_go (walk_tup (xs := [])) (g := gName 2) (vs := [2]) (σ := [some v, none, none]) (tt := tYes) (te := fun _ _ _ => False) hD (SqT.of ((new_same hD) _ _ gp)) ?_
    have s2 := s1.trans (new_same (o := .lst []) hD)
    have gD : (upd H1 D (.lst [])) D = some (.lst []) := upd_same
    obtain ⟨H2, e2⟩ : ∃ G, upd H1 D (.lst []) = G := ⟨_, rfl⟩
    rw [e2] at s2 gD ⊢
    refine ⟨D, .int 0, rfl, rfl, SqL.of gD, ?_⟩
    refine ⟨_, rfl, v, rfl, hv.same s2, fun H3 s3 => ?_⟩
    exact ⟨rfl, false, nE (by decide +kernel), iteF ⟨_, rfl, q _ (s2.trans s3)⟩⟩
theorem ok_calls {g ST : Addr} {fd : FuncData} (F : Fs K mg "_calls" sCls_ ["statement"] g fd) (W : Sw K w mg ST) : FnOk P w K mg base CX0 4 g fd ["statement"] (SpH K (RV (.int 0))) := by
  obtain ⟨_, _, dPO⟩ := W.po
  obtain ⟨_, _, dLL⟩ := W.ll
  have hsm := W.sm
  have GPO : FnOk P w K mg base CX0 3 _ _ ["statement"] (SpH K REmp) := ok_po dPO W
  have GLL : FnOk P w K mg base CX0 2 _ _ ["thing"] (SpH K (RV (.str "halt"))) := ok_ll dLL W
  refine F.F.ok scCls_ (fun vs H Q E h => ?_) (fun cdv A outer s H vs Q E hr h => ?_)
  · obtain ⟨_, rfl, _⟩ := h
    rfl
  · obtain ⟨v, rfl, hv, q⟩ := h
    have hrPO := hr
    have hrLL : Room 2 (A.deeper (envOfC "_calls" (defScope sCls_) s.heap.objs.size g cdv)) := hr.mono (by decide)
    refine ⟨_, (pss_cons (ps_set (i := 1) scCls_.nd rfl (Or.inl rfl) (pe_call GLL hrLL (by rfl) dLL.m dLL.F.kp dLL.b .nil pass0 (pa_cons (pv 0) pa_nil))) (pss_cons (ps_setLc (i := 2) (own := [("part", 3)]) (g := gName 3) (tt := tYes) rfl scCls_.nd rfl rfl (sw_true rfl rfl rfl rfl) (pi_tup (pe_call GPO hrPO (by rfl) dPO.m dPO.F.kp dPO.b .nil pass0 (pa_cons (pv 0) pa_nil))) (blkOk_by (N := nCls_) (sc := defScope sCls_) (by decide +kernel)) (fun _ _ _ _ _ => (pg_name (i := 3) scCls_.nd rfl (Or.inl rfl))) (fun _ _ _ _ _ => pts_nil) (fun _ _ _ _ _ => pe_dead)) (pss_cons (ps_if (PW.pt (pw_and (pt_cmpR op_eq (pv 1) pe_str (nomark _)) (pw_and1 pt_dead))) (pss_one ps_dead) pss_nil) (pss_one (ps_ret (pe_ifExp (pt_cmpR op_eq (pv 1) pe_str (nomark _)) pe_dead (pe_callB (cr_sum rfl) (by rfl) hsm (by decide +kernel) (pa_cons (pv 2) pa_nil)))))))), ?_⟩
    refine ⟨_, rfl, v, rfl, hv, fun H0 s0 => ?_⟩
    refine ⟨_, rfl, _, rfl, hv.same s0, fun H1 p s1 hp gp => ?_⟩
    refine ⟨p, rfl, ⟨_, SqT.of gp⟩, fun D hD => ?_⟩
    refine emp_go (walk_tup (xs := [])) (g := gName 3) (vs := [3]) (tt := tYes) (te := fun _ _ _ => False) hD (SqT.of ((new_same hD) _ _ gp)) ?_
    have s2 := (s0.trans s1).trans (new_same (o := .lst []) hD)
    have gD : (upd H1 D (.lst [])) D = some (.lst []) := upd_same
    obtain ⟨H2, e2⟩ : ∃ G, upd H1 D (.lst []) = G := ⟨_, rfl⟩
    rw [e2] at s2 gD ⊢
    refine ⟨_, rfl, rfl, false, nE (by decide +kernel), iteF (iteF ?_)⟩
    refine ⟨_, rfl, rfl, false, nE (by decide +kernel), iteF ?_⟩
    exact ⟨_, rfl, D, [], rfl, SqL.of gD, q _ s2⟩
theorem ok_tl {g ST : Addr} {fd : FuncData} (F : Fs K mg "is_too_large" sTL ["body"] g fd) (W : Sw K w mg ST) : FnOk P w K mg base CX0 5 g fd ["body"] (SpH K (RV (.bl false))) := by
  obtain ⟨_, _, dSts⟩ := W.sts
  obtain ⟨_, _, dTrs⟩ := W.trs
  obtain ⟨_, _, dCls⟩ := W.cls
  obtain ⟨_, _, dLL⟩ := W.ll
  obtain ⟨_, h40⟩ := W.c40
  obtain ⟨_, h4⟩ := W.c4
  obtain ⟨_, h2t⟩ := W.c2
  obtain ⟨_, h4c⟩ := W.c4c
  have T := W.T
  have GSts : FnOk P w K mg base CX0 4 _ _ ["body"] _ := ok_sts dSts W
  have GTrs : FnOk P w K mg base CX0 4 _ _ ["statement"] (SpH K (RV (.int 0))) := ok_trs dTrs W
  have GCls : FnOk P w K mg base CX0 4 _ _ ["statement"] (SpH K (RV (.int 0))) := ok_calls dCls W
  have GLL : FnOk P w K mg base CX0 2 _ _ ["thing"] (SpH K (RV (.str "halt"))) := ok_ll dLL W
  refine F.F.ok scTL (fun vs H Q E h => ?_) (fun cdv A outer s H vs Q E hr h => ?_)
  · obtain ⟨_, rfl, _⟩ := h
    rfl
  · obtain ⟨v, rfl, hv, q⟩ := h
    have hrSts := hr
    have hrTrs := hr
    have hrCls := hr
    have hrLL : Room 2 (A.deeper (envOfC "is_too_large" (defScope sTL) s.heap.objs.size g cdv)) := hr.mono (by decide)
    refine ⟨_, (pss_cons (ps_set (i := 1) scTL.nd rfl (Or.inl rfl) (pe_call GSts hrSts (by rfl) dSts.m dSts.F.kp dSts.b .nil pass0 (pa_cons (pv 0) pa_nil))) (pss_cons (ps_if (pt_cmpR op_gt (pe_callB call_len_seq (by rfl) T.len PySem.boot_len (pa_cons (pv 1) pa_nil)) (pe_glob (v := .int 40) (by rfl) h40 ⟨_, rfl⟩) (nomark _)) (pss_one ps_dead) pss_nil) (pss_cons (ps_set (i := 2) scTL.nd rfl (Or.inl rfl) (pe_callB call_len_seq (by rfl) T.len PySem.boot_len (pa_cons (pe_lc (own := [("statement", 3)]) (g := gName 3) rfl scTL.nd (pi_list (pv 1)) (blkOk_by (N := nTL) (sc := defScope sTL) (by decide +kernel)) (fun _ _ _ _ _ => (pg_name (i := 3) scTL.nd rfl (Or.inl rfl))) (fun _ _ _ _ _ => (pts_one (pt_cmpR op_eq (pe_call GLL hrLL (by rfl) dLL.m dLL.F.kp dLL.b .nil pass0 (pa_cons (pv 3) pa_nil)) pe_str (nomark _)))) (fun _ _ _ _ _ => (pv 3))) pa_nil))) (pss_one (ps_ret (pe_or (pe_cmpR op_gt (pv 2) (pe_glob (v := .int 4) (by rfl) h4 ⟨_, rfl⟩) (nomark _)) (pe_or (pe_cmpR op_gt (pe_call GTrs hrTrs (by rfl) dTrs.m dTrs.F.kp dTrs.b .nil pass0 (pa_cons (pv 0) pa_nil)) (pe_glob (v := .int 2) (by rfl) h2t ⟨_, rfl⟩) (nomark _)) (pe_one (pe_cmpR op_gt (pe_call GCls hrCls (by rfl) dCls.m dCls.F.kp dCls.b .nil pass0 (pa_cons (pv 0) pa_nil)) (pe_glob (v := .int 4) (by rfl) h4c ⟨_, rfl⟩) (nomark _)))))))))), ?_⟩
    refine ⟨_, rfl, v, rfl, hv, fun H1 p s1 hp gp => ?_⟩
    refine ⟨_, rfl, p, _, rfl, .inl (SqL.of gp), _, _, rfl, rfl, false, rfl, iteF ?_⟩
    refine ⟨_, rfl, p, rfl, ⟨_, SqL.of gp⟩, fun D hD => ?_⟩
    refine lc_it (walk_list (xs := [v])) (g := gName 3) (vs := [3]) (σ := [some v, some (.ref p), none, none]) (te := tVar 3) (fun _ H2 => Same H1 H2 ∧ H2 D = some (.lst [])) ⟨new_same hD, upd_same⟩ (fun i H2 _ h => SqL.same h.1 (SqL.of gp)) ?_ ?_
    · rintro i x H2 H3 hi ⟨s2, gD⟩ ⟨rfl, hx⟩
      obtain rfl : i = 0 := Nat.lt_one_iff.mp hi
      obtain rfl : v = x := Option.some.inj hx
      refine ⟨rfl, v, rfl, v, rfl, hv.same (s1.trans s2), fun H4 s4 => ?_⟩
      exact ⟨rfl, false, nE (by decide +kernel), iteF ⟨s2.trans s4, s4 _ _ gD⟩⟩
    · rintro H2 ⟨s2, gD⟩
      refine ⟨D, _, rfl, .inl (SqL.of gD), ?_⟩
      refine ⟨_, rfl, _, _, rfl, rfl, false, rfl, iteF ?_⟩
      have s12 := s1.trans s2
      refine ⟨v, rfl, v, rfl, hv.same s12, fun H3 s3 => ?_⟩
      refine ⟨_, _, rfl, rfl, false, rfl, iteF ?_⟩
      refine ⟨v, rfl, v, rfl, hv.same (s12.trans s3), fun H4 s4 => ?_⟩
      exact ⟨_, _, rfl, rfl, q _ ((s12.trans s3).trans s4)⟩
end

end Kx
set_option linter.all false
namespace Kx
open PySem L2 PySem.Spec PyProof.Rows
section
variable {P : Program} {w : World} {K : PySem.W.Frag} {mg : Str → Option Value} {base : Heap}
/-- what the checks of statements say of halt, in any scope: nothing is wrong -/
abbrev SpW (K : PySem.W.Frag) : Sp := fun vs H Q _ => ∃ x v, vs = [x, v] ∧ HaltA K H v ∧ RV (.bl false) Q H
theorem ok_w0 {g ST : Addr} {fd : FuncData} (F : Fs K mg "_wrong_term" sW0 ["scope", "act"] g fd) (W : Sw K w mg ST) : FnOk P w K mg base CX0 3 g fd ["scope", "act"] (SpW K) := by
  obtain ⟨_, _, dTI⟩ := W.ti
  have T := W.T
  have GTI : FnOk P w K mg base CX0 2 _ _ ["act"] (SpH K REmL) := ok_ti dTI W
  refine F.F.ok scW0 (fun vs H Q E h => ?_) (fun cdv A outer s H vs Q E hr h => ?_)
  · obtain ⟨_, _, rfl, _⟩ := h
    rfl
  · obtain ⟨x, v, rfl, hv, q⟩ := h
    have hrTI := hr
    refine ⟨_, (pss_one (ps_ret (pe_not (pe_callB (cr_all rfl) (by rfl) T.all (by decide +kernel) (pa_cons (pe_lc (own := [("term", 2)]) (g := gName 2) (tt := tYes) rfl scW0.nd (pi_list (pe_call GTI hrTI (by rfl) dTI.m dTI.F.kp dTI.b .nil pass0 (pa_cons (pv 1) pa_nil))) (blkOk_by (N := nW0) (sc := defScope sW0) (by decide +kernel)) (fun _ _ _ _ _ => (pg_name (i := 2) scW0.nd rfl (Or.inl rfl))) (fun _ _ _ _ _ => pts_nil) (fun _ _ _ _ _ => pe_dead)) pa_nil))))), ?_⟩
    refine ⟨_, rfl, v, rfl, hv, fun H1 p s1 hp gp => ?_⟩
    refine ⟨p, rfl, ⟨_, SqL.of gp⟩, fun D hD => ?_⟩
    refine emp_go (walk_list (xs := [])) (g := gName 2) (vs := [2]) (σ := [some x, some v, none]) (tt := tYes) (te := fun _ _ _ => False) hD (SqL.of ((new_same hD) _ _ gp)) ?_
    have s2 := s1.trans (new_same (o := .lst []) hD)
    have gD : (upd H1 D (.lst [])) D = some (.lst []) := upd_same
    obtain ⟨H2, e2⟩ : ∃ G, upd H1 D (.lst []) = G := ⟨_, rfl⟩
    rw [e2] at s2 gD ⊢
    exact ⟨D, [], rfl, SqL.of gD, _, rfl, q _ s2⟩
theorem ok_w1 {g ST : Addr} {fd : FuncData} (F : Fs K mg "_wrong_object" sW1 ["scope", "act"] g fd) (W : Sw K w mg ST) : FnOk P w K mg base CX0 3 g fd ["scope", "act"] (SpW K) := by
  obtain ⟨_, _, dOI⟩ := W.oi
  have GOI : FnOk P w K mg base CX0 2 _ _ ["act"] (SpH K REmL) := ok_oi dOI W
  refine F.F.ok scW1 (fun vs H Q E h => ?_) (fun cdv A outer s H vs Q E hr h => ?_)
  · obtain ⟨_, _, rfl, _⟩ := h
    rfl
  · obtain ⟨x, v, rfl, hv, q⟩ := h
    have hrOI := hr
    have hu65 : (A.deeper (envOfC "_wrong_object" (defScope sW1) s.heap.objs.size g cdv)).units + 65 < cLine := by have := hr.un; omega
    refine ⟨_, (pss_one (ps_ret (pe_cmpR (op_inD hu65) pe_non (pe_lc (own := [("variable", 2)]) (g := gName 2) (tt := tYes) rfl scW1.nd (pi_list (pe_call GOI hrOI (by rfl) dOI.m dOI.F.kp dOI.b .nil pass0 (pa_cons (pv 1) pa_nil))) (blkOk_by (N := nW1) (sc := defScope sW1) (by decide +kernel)) (fun _ _ _ _ _ => (pg_name (i := 2) scW1.nd rfl (Or.inl rfl))) (fun _ _ _ _ _ => pts_nil) (fun _ _ _ _ _ => pe_dead)) (by with_unfolding_all rfl)))), ?_⟩
    refine ⟨_, rfl, _, rfl, hv, fun H1 p s1 hp gp => ?_⟩
    refine ⟨p, rfl, ⟨_, SqL.of gp⟩, fun D hD => ?_⟩
    refine emp_go (walk_list (xs := [])) (g := gName 2) (vs := [2]) (σ := [some x, some v, none]) (tt := tYes) (te := fun _ _ _ => False) hD (SqL.of ((new_same hD) _ _ gp)) ?_
    have s2 := s1.trans (new_same (o := .lst []) hD)
    have gD : (upd H1 D (.lst [])) D = some (.lst []) := upd_same
    obtain ⟨H2, e2⟩ : ∃ G, upd H1 D (.lst []) = G := ⟨_, rfl⟩
    rw [e2] at s2 gD ⊢
    exact ⟨_, _, .non, .lst (SqL.of gD) .nil, by decide +kernel, by decide +kernel, q _ s2⟩
theorem ok_w2 {g : Addr} {fd : FuncData} (F : Fs K mg "_wrong_class" sW2 ["scope", "act"] g fd) : FnOk P w K mg base CX0 3 g fd ["scope", "act"] (SpW K) := by
  refine F.F.ok scW2 (fun vs H Q E h => ?_) (fun cdv A outer s H vs Q E hr h => ?_)
  · obtain ⟨_, _, rfl, _⟩ := h
    rfl
  · obtain ⟨x, v, rfl, ⟨b, rfl, hb⟩, q⟩ := h
    refine ⟨_, (pss_cons (ps_if (pt_cmpR op_eq (pe_ix ix_tup (pv 1) pe_int (fun _ _ => rfl)) pe_str (nomark _)) (pss_one ps_dead) pss_nil) (pss_one (ps_ret (pe_and (pe_cmpR op_eq (pe_ix ix_tup (pv 1) pe_int (fun _ _ => rfl)) pe_str (nomark _)) (pe_one pe_dead))))), ?_⟩
    refine ⟨_, rfl, b, _, _, .str "halt", rfl, rfl, hb, at0, rfl, false, nE (by decide +kernel), iteF ?_⟩
    exact ⟨_, rfl, b, _, _, .str "halt", rfl, rfl, hb, at0, rfl, false, nE (by decide +kernel), iteF (q H (Same.refl H))⟩
theorem ok_w3 {g : Addr} {fd : FuncData} (F : Fs K mg "_wrong_method" sW3 ["scope", "act"] g fd) : FnOk P w K mg base CX0 3 g fd ["scope", "act"] (SpW K) := by
  refine F.F.ok scW3 (fun vs H Q E h => ?_) (fun cdv A outer s H vs Q E hr h => ?_)
  · obtain ⟨_, _, rfl, _⟩ := h
    rfl
  · obtain ⟨x, v, rfl, ⟨b, rfl, hb⟩, q⟩ := h
    refine ⟨_, (pss_one (ps_ret (pe_and (pe_cmpR op_eq (pe_ix ix_tup (pv 1) pe_int (fun _ _ => rfl)) pe_str (nomark _)) (pe_one pe_dead)))), ?_⟩
    exact ⟨_, rfl, b, _, _, .str "halt", rfl, rfl, hb, at0, rfl, false, nE (by decide +kernel), iteF (q H (Same.refl H))⟩
theorem ok_w4 {g : Addr} {fd : FuncData} (F : Fs K mg "_wrong_next" sW4 ["scope", "act"] g fd) : FnOk P w K mg base CX0 3 g fd ["scope", "act"] (SpW K) := by
  refine F.F.ok scW4 (fun vs H Q E h => ?_) (fun cdv A outer s H vs Q E hr h => ?_)
  · obtain ⟨_, _, rfl, _⟩ := h
    rfl
  · obtain ⟨x, v, rfl, ⟨b, rfl, hb⟩, q⟩ := h
    refine ⟨_, (pss_cons (ps_if (pt_cmpR op_ne (pe_ix ix_tup (pv 1) pe_int (fun _ _ => rfl)) pe_str (nomark _)) (pss_one (ps_ret pe_bl)) pss_nil) (pss_one ps_dead)), ?_⟩
    exact ⟨_, rfl, b, _, _, .str "halt", rfl, rfl, hb, at0, rfl, true, nN (by decide +kernel), iteT (q H (Same.refl H))⟩
theorem ok_w5 {g : Addr} {fd : FuncData} (F : Fs K mg "_wrong_arguments" sW5 ["scope", "act"] g fd) : FnOk P w K mg base CX0 3 g fd ["scope", "act"] (SpW K) := by
  refine F.F.ok scW5 (fun vs H Q E h => ?_) (fun cdv A outer s H vs Q E hr h => ?_)
  · obtain ⟨_, _, rfl, _⟩ := h
    rfl
  · obtain ⟨x, v, rfl, ⟨b, rfl, hb⟩, q⟩ := h
    refine ⟨_, (pss_cons (ps_if (pt_cmpR op_eq (pe_ix ix_tup (pv 1) pe_int (fun _ _ => rfl)) pe_str (nomark _)) (pss_one ps_dead) pss_nil) (pss_cons (ps_if (pt_cmpR op_notIn_seq (pe_ix ix_tup (pv 1) pe_int (fun _ _ => rfl)) (pe_tup (pa_cons pe_str (pa_cons pe_str pa_nil))) (by with_unfolding_all rfl)) (pss_one (ps_ret pe_bl)) pss_nil) (pss_cons ps_dead (pss_cons ps_dead (pss_cons ps_dead (pss_one ps_dead)))))), ?_⟩
    refine ⟨_, rfl, b, _, _, .str "halt", rfl, rfl, hb, at0, rfl, false, nE (by decide +kernel), iteF ?_⟩
    refine ⟨_, rfl, b, _, _, .str "halt", rfl, rfl, hb, at0, le_sz (Nat.le_of_ble_eq_true rfl), fun p hp => ?_⟩
    refine ⟨p, _, rfl, .inr (SqT.of upd_same), rfl, rfl, true, by decide +kernel, iteT ?_⟩
    exact q _ (new_same hp)
theorem ok_w6 {g : Addr} {fd : FuncData} (F : Fs K mg "_wrong_own" sW6 ["scope", "act"] g fd) : FnOk P w K mg base CX0 3 g fd ["scope", "act"] (SpW K) := by
  refine F.F.ok scW6 (fun vs H Q E h => ?_) (fun cdv A outer s H vs Q E hr h => ?_)
  · obtain ⟨_, _, rfl, _⟩ := h
    rfl
  · obtain ⟨x, v, rfl, ⟨b, rfl, hb⟩, q⟩ := h
    refine ⟨_, (pss_cons (ps_if (PW.pt (pw_or (pt_cmpR op_ne (pe_ix ix_tup (pv 1) pe_int (fun _ _ => rfl)) pe_str (nomark _)) (pw_or pt_dead (pw_or1 pt_dead)))) (pss_one (ps_ret pe_bl)) pss_nil) (pss_cons ps_dead (pss_one ps_dead))), ?_⟩
    exact ⟨_, rfl, b, _, _, .str "halt", rfl, rfl, hb, at0, rfl, true, nN (by decide +kernel), iteT (iteT (q H (Same.refl H)))⟩
theorem ok_w7 {g : Addr} {fd : FuncData} (F : Fs K mg "_wrong_value" sW7 ["scope", "act"] g fd) : FnOk P w K mg base CX0 3 g fd ["scope", "act"] (SpW K) := by
  refine F.F.ok scW7 (fun vs H Q E h => ?_) (fun cdv A outer s H vs Q E hr h => ?_)
  · obtain ⟨_, _, rfl, _⟩ := h
    rfl
  · obtain ⟨x, v, rfl, ⟨b, rfl, hb⟩, q⟩ := h
    refine ⟨_, (pss_one (ps_ret (pe_and (pe_cmpR op_eq (pe_ix ix_tup (pv 1) pe_int (fun _ _ => rfl)) pe_str (nomark _)) (pe_one pe_dead)))), ?_⟩
    exact ⟨_, rfl, b, _, _, .str "halt", rfl, rfl, hb, at0, rfl, false, nE (by decide +kernel), iteF (q H (Same.refl H))⟩
end

end Kx
set_option linter.all false
namespace Kx
open PySem L2 PySem.Spec PyProof.Rows
/-- the classes and functions of scopes -/
structure Scm (K : PySem.W.Frag) (mg : Str → Option Value) (CS CC fS fC : Addr) : Prop where
  cS : Cls K CS
  nS : ∀ x ∈ (["known", "view", "fresh"] : List Str), NoAttr K CS x
  gS : mg "Seen" = some (.ref CS)
  mS : Mk K CS fS
  iS : ∃ fd, Fun K "__init__" "Seen.__init__" sSIn fS fd ∧ Binds K fd ["self", "known", "view", "fresh"] []
  cC : Cls K CC
  nC : ∀ x ∈ (["library", "owner", "method", "variables"] : List Str), NoAttr K CC x
  gC : mg "Scope" = some (.ref CC)
  mC : Mk K CC fC
  iC : ∃ fd, Fun K "__init__" "Scope.__init__" sScI fC fd ∧ Binds K fd ["self", "library", "owner", "method", "variables"] []
  bh : ∃ g fd, Meth K CC "behind" g ∧ Fun K "behind" "Scope.behind" sBh g fd ∧ Binds K fd ["self", "statement"] []
  sa : ∃ g fd, Fs K mg "seen_as" sSA ["kind"] g fd
  ms : ∃ g fd, Fs K mg "method_scope" sMS ["library", "owner", "method"] g fd
def ScA (CC : Addr) (H : Hp) (v : V) : Prop := ∃ x dx fs, v = .ref x ∧ H x = some (.ins CC dx fs) ∧ fs.lookup ("behind" : Str) = none
theorem ScA.same {CC : Addr} {H H' : Hp} {v : V} (s : Same H H') : ScA CC H v → ScA CC H' v := fun ⟨x, dx, fs, e, g, n⟩ => ⟨x, dx, fs, e, s _ _ g, n⟩
def spI3 (C : Addr) : Sp := fun vs H Q _ => ∃ x dx v1 v2 v3, vs = [.ref x, v1, v2, v3] ∧ H x = some (.ins C dx []) ∧ ∀ H', KeepB x H H' → (∃ fs, H' x = some (.ins C dx fs)) → Q .non H'
def spI4 (C : Addr) : Sp := fun vs H Q _ => ∃ x dx v1 v2 v3 v4, vs = [.ref x, v1, v2, v3, v4] ∧ H x = some (.ins C dx []) ∧ ∀ H', KeepB x H H' → (∃ fs, H' x = some (.ins C dx fs) ∧ fs.lookup ("behind" : Str) = none) → Q .non H'
def spSA : Sp := fun vs H Q _ => ∃ n : Str, vs = [.str n] ∧ ∀ v H', Same H H' → Q v H'
section
variable {P : Program} {w : World} {K : PySem.W.Frag} {mg : Str → Option Value} {base : Heap} {CS CC fS fC : Addr}
theorem ok_sin {fd : FuncData} (F : Fun K "__init__" "Seen.__init__" sSIn fS fd) (M : Scm K mg CS CC fS fC) : FnOk P w K mg base CX0 1 fS fd ["self", "known", "view", "fresh"] (spI3 CS) := by
  refine F.ok scSIn (fun vs H Q E h => ?_) (fun cdv A outer s H vs Q E hr h => ?_)
  · obtain ⟨_, _, _, _, _, rfl, _⟩ := h
    rfl
  · obtain ⟨x, dx, v1, v2, v3, rfl, hx, q⟩ := h
    refine ⟨_, (pss_cons (ps_fld (pv 0) (pv 1) (by rfl)) (pss_cons (ps_fld (pv 0) (pv 2) (by rfl)) (pss_one (ps_fld (pv 0) (pv 3) (by rfl))))), ?_⟩
    refine ⟨_, rfl, _, rfl, x, CS, dx, _, rfl, hx, M.cS, M.nS _ (by simp), Nat.le_of_ble_eq_true rfl, ?_⟩
    refine ⟨_, rfl, _, rfl, x, CS, dx, _, rfl, upd_same, M.cS, M.nS _ (by simp), Nat.le_of_ble_eq_true rfl, ?_⟩
    refine ⟨_, rfl, _, rfl, x, CS, dx, _, rfl, upd_same, M.cS, M.nS _ (by simp), Nat.le_of_ble_eq_true rfl, ?_⟩
    exact q _ ((KeepB.at.trans KeepB.at).trans KeepB.at) ⟨_, upd_same⟩
theorem ok_sci {fd : FuncData} (F : Fun K "__init__" "Scope.__init__" sScI fC fd) (M : Scm K mg CS CC fS fC) : FnOk P w K mg base CX0 1 fC fd ["self", "library", "owner", "method", "variables"] (spI4 CC) := by
  refine F.ok scScI (fun vs H Q E h => ?_) (fun cdv A outer s H vs Q E hr h => ?_)
  · obtain ⟨_, _, _, _, _, _, rfl, _⟩ := h
    rfl
  · obtain ⟨x, dx, v1, v2, v3, v4, rfl, hx, q⟩ := h
    refine ⟨_, (pss_cons (ps_fld (pv 0) (pv 1) (by rfl)) (pss_cons (ps_fld (pv 0) (pv 2) (by rfl)) (pss_cons (ps_fld (pv 0) (pv 3) (by rfl)) (pss_one (ps_fld (pv 0) (pv 4) (by rfl)))))), ?_⟩
    refine ⟨_, rfl, _, rfl, x, CC, dx, _, rfl, hx, M.cC, M.nC _ (by simp), Nat.le_of_ble_eq_true rfl, ?_⟩
    refine ⟨_, rfl, _, rfl, x, CC, dx, _, rfl, upd_same, M.cC, M.nC _ (by simp), Nat.le_of_ble_eq_true rfl, ?_⟩
    refine ⟨_, rfl, _, rfl, x, CC, dx, _, rfl, upd_same, M.cC, M.nC _ (by simp), Nat.le_of_ble_eq_true rfl, ?_⟩
    refine ⟨_, rfl, _, rfl, x, CC, dx, _, rfl, upd_same, M.cC, M.nC _ (by simp), Nat.le_of_ble_eq_true rfl, ?_⟩
    exact q _ (((KeepB.at.trans KeepB.at).trans KeepB.at).trans KeepB.at) ⟨_, upd_same, rfl⟩
theorem ok_sa {g : Addr} {fd : FuncData} (F : Fs K mg "seen_as" sSA ["kind"] g fd) (M : Scm K mg CS CC fS fC) : FnOk P w K mg base CX0 3 g fd ["kind"] spSA := by
  have mkS := M.mS
  have gSn := M.gS
  obtain ⟨_, FI, bSI⟩ := M.iS
  have GSI : FnOk P w K mg base CX0 1 fS _ ["self", "known", "view", "fresh"] (spI3 CS) := ok_sin FI M
  refine F.F.ok scSA (fun vs H Q E h => ?_) (fun cdv A outer s H vs Q E hr h => ?_)
  · obtain ⟨_, rfl, _⟩ := h
    rfl
  · obtain ⟨n, rfl, q⟩ := h
    have hrSI := hr
    refine ⟨_, (pss_one (ps_ret (pe_ifExp (pt_cmpR op_eq (pv 0) pe_str (nomark _)) pe_non (pe_make mkS GSI hrSI (by rfl) gSn bSI .nil pass0 (pa_cons (pv 0) (pa_cons (pv 0) (pa_cons pe_bl pa_nil))))))), ?_⟩
    refine ⟨_, rfl, rfl, decide (V.str n = V.str "int"), rfl, ?_⟩
    cases decide (V.str n = V.str "int") with
    | true => exact iteT (q _ H (Same.refl H))
    | false =>
      refine iteF ⟨_, rfl, _, rfl, fun x dx nx nd ne => ?_⟩
      exact ⟨x, dx, _, _, _, rfl, upd_same, fun H' k _ => ⟨rfl, q _ _ (same_make nx nd k)⟩⟩
theorem ok_beh {g : Addr} {fd : FuncData} (F : Fun K "behind" "Scope.behind" sBh g fd) : FnOk P w K mg base CX0 1 g fd ["self", "statement"] (fun vs H Q _ => ∃ x v, vs = [x, v] ∧ HaltA K H v ∧ Q x H) := by
  refine F.ok scBh (fun vs H Q E h => ?_) (fun cdv A outer s H vs Q E hr h => ?_)
  · obtain ⟨_, _, rfl, _⟩ := h
    rfl
  · obtain ⟨x, v, rfl, ⟨b, rfl, hb⟩, q⟩ := h
    refine ⟨_, (pss_cons (ps_if (pt_cmpR op_ne (pe_ix ix_tup (pv 1) pe_int (fun _ _ => rfl)) pe_str (nomark _)) (pss_one (ps_ret (pv 0))) pss_nil) (pss_cons ps_dead (pss_cons ps_dead (pss_one ps_dead)))), ?_⟩
    exact ⟨_, rfl, b, _, _, .str "halt", rfl, rfl, hb, at0, rfl, true, nN (by decide +kernel), iteT ⟨_, rfl, q⟩⟩
def spMS (K : PySem.W.Frag) (C f : Nat → Addr) (CC : Addr) : Sp := fun vs H Q _ => ∃ (l : V) (o : Str) (m : MD) (v : V), vs = [l, .str o, v] ∧ Oh K (clk C f) H (mO m) v ∧ m.params.length ≤ 60 ∧ ∀ v' H', Same H H' → ScA CC H' v' → Q v' H'
theorem ok_ms {C f : Nat → Addr} {g : Addr} {fd : FuncData} (F : Fs K mg "method_scope" sMS ["library", "owner", "method"] g fd) (M : Scm K mg CS CC fS fC) (X : Txt K mg C f) : FnOk P w K mg base CX0 4 g fd ["library", "owner", "method"] (spMS K C f CC) := by
  have mkSc := M.mC
  have gSc := M.gC
  obtain ⟨_, FI, bSc⟩ := M.iC
  obtain ⟨_, _, dSA⟩ := M.sa
  have GSc : FnOk P w K mg base CX0 1 fC _ ["self", "library", "owner", "method", "variables"] (spI4 CC) := ok_sci FI M
  have GSA : FnOk P w K mg base CX0 3 _ _ ["kind"] spSA := ok_sa dSA M
  refine F.F.ok scMS (fun vs H Q E h => ?_) (fun cdv A outer s H vs Q E hr h => ?_)
  · obtain ⟨_, _, _, _, rfl, _⟩ := h
    rfl
  · obtain ⟨l, o, m, v, rfl, om, hl, q⟩ := h
    have hrSA := hr
    have hrSc : Room 2 (A.deeper (envOfC "method_scope" (defScope sMS) s.heap.objs.size g cdv)) := hr.mono (by decide)
    have hu := hu_of hrSc
    obtain ⟨a, dx, fs, vp, xs, v1, v2, vb, rfl, MA⟩ := mO_get om
    refine ⟨_, (pss_cons (ps_set (i := 3) scMS.nd rfl (Or.inl rfl) (pe_disp (pps_cons pe_str (pe_call GSA hrSA (by rfl) dSA.m dSA.F.kp dSA.b .nil pass0 (pa_cons (pv 1) pa_nil)) pps_nil) (by rfl) (by rfl) (fun z => by cases z) (by decide))) (pss_cons (ps_for PassesOwn.never rfl (pi_tup (pe_fld (pv 2) (by rfl))) (pg_tup rfl (pgs_cons (pg_name (i := 4) scMS.nd rfl (Or.inl rfl)) (pgs_cons (pg_name (i := 5) scMS.nd rfl (Or.inl rfl)) pgs_nil))) (pss_one (ps_asg (pe_call GSA hrSA (by rfl) dSA.m dSA.F.kp dSA.b .nil pass0 (pa_cons (pv 5) pa_nil)) (pg_sub (pv 3) (pv 4) (set_dict hu))))) (pss_one (ps_ret (pe_make mkSc GSc hrSc (by rfl) gSc bSc .nil pass0 (pa_cons (pv 0) (pa_cons (pv 1) (pa_cons (pv 2) (pa_cons (pv 3) pa_nil))))))))), ?_⟩
    refine fun D hD => ⟨_, rfl, o, rfl, fun v5 H5 s5 => ⟨s5 _ _ upd_same, [(.inr "self", v5)], rfl, Nat.le_of_ble_eq_true rfl, ?_⟩⟩
    have s6 : Same H (upd H5 D (.dK (mergeK [] [(.inr "self", v5)]))) := same_upd hD ((new_same hD).trans s5)
    obtain ⟨kv0, ek, l0⟩ : ∃ kv0 : List (Key × V), mergeK [] [(.inr "self", v5)] = kv0 ∧ kv0.length ≤ 1 := ⟨_, rfl, Nat.le_refl _⟩
    rw [ek] at s6 ⊢
    have g6 : (upd H5 D (.dK kv0)) D = some (.dK kv0) := upd_same
    obtain ⟨H6, e6⟩ : ∃ G, upd H5 D (.dK kv0) = G := ⟨_, rfl⟩
    rw [e6] at s6 g6 ⊢
    have lx : xs.length = m.params.length := by rw [← OhAll.length _ _ MA.op, List.length_map]
    refine ⟨_, rfl, a, C 1, dx, fs, _, rfl, s6 _ _ MA.ins, X.cls 1 (by decide), X.no 1 (by decide) _ (by decide), MA.p, vp, rfl, ⟨_, SqT.same s6 MA.sp⟩, for_tup (K := K) (a := vp) (xs := xs) (fun j σ H7 => (∃ v4 v5, σ = [some l, some (V.str o), some (V.ref a), some (V.ref D), v4, v5]) ∧ Same H H7 ∧ ∃ kvs, H7 D = some (.dK kvs) ∧ kvs.length ≤ 1 + j) ⟨⟨none, none, rfl⟩, s6, kv0, g6, l0⟩ (fun j σ H7 _ h => SqT.same h.2.1 MA.sp) ?_ ?_⟩
    · rintro j y σ H7 hj ⟨⟨v4, v5, rfl⟩, s7, kvs, g7, l7⟩
      obtain ⟨d, hd, od⟩ := ohAll_get _ _ _ _ MA.op hj
      rw [List.getElem?_map] at hd
      obtain ⟨p, em, rfl⟩ := Option.map_eq_some_iff.mp hd
      obtain ⟨t, ts, rfl, ht, ot⟩ := od
      obtain ⟨_, _, rfl, ⟨rfl, _⟩, _, _, rfl, ⟨rfl, _⟩, rfl⟩ := ot
      have hj2 := (List.getElem?_eq_some_iff.mp hj).1
      refine ⟨t, _, rfl, SqT.same s7 ht, rfl, _, _, rfl, _, _, rfl, rfl, ?_⟩
      refine ⟨_, rfl, p.2, rfl, fun v8 H8 s8 => ?_⟩
      have lk := length_putK kvs (.inr p.1) v8
      refine ⟨_, rfl, _, rfl, D, _, rfl, DPut.k (k := .inr p.1) (s8 _ _ g7) (Nat.le_trans (show kvs.length + 1 ≤ 100 by omega) (le_sz (Nat.le_of_ble_eq_true rfl))), ?_⟩
      exact ⟨⟨_, _, rfl⟩, same_upd hD (s7.trans s8), _, upd_same, by omega⟩
    · rintro σ H7 ⟨⟨v4, v5, rfl⟩, s7, kvs, g7, l7⟩
      refine ⟨_, rfl, _, rfl, _, rfl, _, rfl, fun x dx' nx nd ne => ?_⟩
      exact ⟨x, dx', _, _, _, _, rfl, upd_same, fun H' k ⟨fs', e, nb⟩ => ⟨rfl, q _ _ (s7.trans (same_make nx nd k)) ⟨x, dx', fs', rfl, e, nb⟩⟩⟩
end

end Kx
set_option linter.all false
namespace Kx
open PySem L2 PySem.Spec PyProof.Rows
/-- the table of the checks of a statement -/
structure Wd (K : PySem.W.Frag) (w : World) (mg : Str → Option Value) (WR : Addr) : Prop where
  at_ : mg "WRONG" = some (.ref WR)
  wk : ∃ o es ep, KWalk K WR ["term", "object", "class", "method", "next", "arguments", "own", "value"] o es ep
  k0 : ∃ g fd, KDct K w WR "term" (.ref g) ∧ Fs K mg "_wrong_term" sW0 ["scope", "act"] g fd
  k1 : ∃ g fd, KDct K w WR "object" (.ref g) ∧ Fs K mg "_wrong_object" sW1 ["scope", "act"] g fd
  k2 : ∃ g fd, KDct K w WR "class" (.ref g) ∧ Fs K mg "_wrong_class" sW2 ["scope", "act"] g fd
  k3 : ∃ g fd, KDct K w WR "method" (.ref g) ∧ Fs K mg "_wrong_method" sW3 ["scope", "act"] g fd
  k4 : ∃ g fd, KDct K w WR "next" (.ref g) ∧ Fs K mg "_wrong_next" sW4 ["scope", "act"] g fd
  k5 : ∃ g fd, KDct K w WR "arguments" (.ref g) ∧ Fs K mg "_wrong_arguments" sW5 ["scope", "act"] g fd
  k6 : ∃ g fd, KDct K w WR "own" (.ref g) ∧ Fs K mg "_wrong_own" sW6 ["scope", "act"] g fd
  k7 : ∃ g fd, KDct K w WR "value" (.ref g) ∧ Fs K mg "_wrong_value" sW7 ["scope", "act"] g fd
def spWHe (K : PySem.W.Frag) (CC : Addr) : Sp := fun vs H Q _ => ∃ x v, vs = [x, v] ∧ ScA CC H x ∧ HaltA K H v ∧ ∀ H', Same H H' → Q .non H'
def spFWb (K : PySem.W.Frag) (CC : Addr) : Sp := fun vs H Q _ => ∃ x v p, vs = [x, v, p] ∧ ScA CC H x ∧ HaltA K H v ∧ ∀ H', Same H H' → Q .non H'
section
variable {P : Program} {w : World} {K : PySem.W.Frag} {mg : Str → Option Value} {base : Heap} {CS CC fS fC : Addr}
theorem ok_whe {g WR ST : Addr} {fd : FuncData} (F : Fs K mg "_wrong_here" sWHe ["scope", "statement"] g fd) (D : Wd K w mg WR) (W : Sw K w mg ST) : FnOk P w K mg base CX0 4 g fd ["scope", "statement"] (spWHe K CC) := by
  have hWR := D.at_
  obtain ⟨_, _, _, DW⟩ := D.wk
  obtain ⟨g0, _, kd0, d0⟩ := D.k0
  obtain ⟨g1, _, kd1, d1⟩ := D.k1
  obtain ⟨g2, _, kd2, d2⟩ := D.k2
  obtain ⟨g3, _, kd3, d3⟩ := D.k3
  obtain ⟨g4, _, kd4, d4⟩ := D.k4
  obtain ⟨g5, _, kd5, d5⟩ := D.k5
  obtain ⟨g6, _, kd6, d6⟩ := D.k6
  obtain ⟨g7, _, kd7, d7⟩ := D.k7
  obtain ⟨_, _, dHF⟩ := W.hf
  obtain ⟨_, _, dAO⟩ := W.ao
  have GHF : FnOk P w K mg base CX0 3 _ _ ["statement"] (SpH K (RV (.bl true))) := ok_hfm dHF W
  have GAO : FnOk P w K mg base CX0 1 _ _ ["statement"] _ := ok_ao dAO
  let SW : Addr → Option Sp := fun h => if h ∈ [g0, g1, g2, g3, g4, g5, g6, g7] then some (SpW K) else none
  have SY : ∀ h, h ∈ [g0, g1, g2, g3, g4, g5, g6, g7] → SW h = some (SpW K) := fun h y => if_pos y
  have AW : ∀ h sp, SW h = some sp → Held P w K mg base 3 h sp := fun h sp e => by
    by_cases y : h ∈ [g0, g1, g2, g3, g4, g5, g6, g7]
    · have e' : some (SpW K) = some sp := by rw [← e]; exact (SY h y).symm
      cases e'
      simp only [List.mem_cons, List.not_mem_nil, or_false] at y
      rcases y with rfl | rfl | rfl | rfl | rfl | rfl | rfl | rfl
      · exact ⟨_, _, ok_w0 d0 W, d0.F.kp, d0.b⟩
      · exact ⟨_, _, ok_w1 d1 W, d1.F.kp, d1.b⟩
      · exact ⟨_, _, ok_w2 d2, d2.F.kp, d2.b⟩
      · exact ⟨_, _, ok_w3 d3, d3.F.kp, d3.b⟩
      · exact ⟨_, _, ok_w4 d4, d4.F.kp, d4.b⟩
      · exact ⟨_, _, ok_w5 d5, d5.F.kp, d5.b⟩
      · exact ⟨_, _, ok_w6 d6, d6.F.kp, d6.b⟩
      · exact ⟨_, _, ok_w7 d7, d7.F.kp, d7.b⟩
    · have e1 : SW h = none := if_neg y
      rw [e1] at e
      cases e
  have hw : ∀ (i : Nat) (k : Str), (["term", "object", "class", "method", "next", "arguments", "own", "value"] : List Str)[i]? = some k → ∃ h, KDct K w WR k (.ref h) ∧ SW h = some (SpW K) := fun i k e => by
    match i, e with
    | 0, e => cases e; exact ⟨g0, kd0, SY g0 (by simp)⟩
    | 1, e => cases e; exact ⟨g1, kd1, SY g1 (by simp)⟩
    | 2, e => cases e; exact ⟨g2, kd2, SY g2 (by simp)⟩
    | 3, e => cases e; exact ⟨g3, kd3, SY g3 (by simp)⟩
    | 4, e => cases e; exact ⟨g4, kd4, SY g4 (by simp)⟩
    | 5, e => cases e; exact ⟨g5, kd5, SY g5 (by simp)⟩
    | 6, e => cases e; exact ⟨g6, kd6, SY g6 (by simp)⟩
    | 7, e => cases e; exact ⟨g7, kd7, SY g7 (by simp)⟩
    | n + 8, e => simp at e
  refine F.F.ok scWHe (fun vs H Q E h => ?_) (fun cdv A outer s H vs Q E hr h => ?_)
  · obtain ⟨_, _, rfl, _⟩ := h
    rfl
  · obtain ⟨x, v, rfl, hx, hv, q⟩ := h
    have hrHF := hr
    have hrW := hr
    have hrAO : Room 1 (A.deeper (envOfC "_wrong_here" (defScope sWHe) s.heap.objs.size g cdv)) := hr.mono (by decide)
    refine ⟨_, (pss_cons (ps_if (pt_not (pt_val (pe_call GHF hrHF (by rfl) dHF.m dHF.F.kp dHF.b .nil pass0 (pa_cons (pv 1) pa_nil)))) (pss_one ps_dead) pss_nil) (pss_cons (ps_if (PW.pt (pw_and (pt_cmpR op_eq (pe_ix ix_tup (pv 1) pe_int (fun _ _ => rfl)) pe_str (nomark _)) (pw_and1 pt_dead))) (pss_one ps_dead) pss_nil) (pss_cons (ps_set (i := 2) scWHe.nd rfl (Or.inl rfl) (pe_call GAO hrAO (by rfl) dAO.m dAO.F.kp dAO.b .nil pass0 (pa_cons (pv 1) pa_nil))) (pss_cons (ps_for PassesOwn.never rfl (pi_kd DW (pe_glob (v := .ref WR) (by rfl) hWR rfl)) (pg_name (i := 3) scWHe.nd rfl (Or.inl rfl)) (pss_cons (ps_set (i := 4) scWHe.nd rfl (Or.inl rfl) (pe_ix ix_kdict (pe_glob (v := .ref WR) (by rfl) hWR rfl) (pv 3) (fun _ _ => rfl))) (pss_one (ps_if (pt_val (pe_callA (i := 4) (S := SW) AW hrW rfl (Or.inl rfl) (pa_cons (pv 0) (pa_cons (pv 2) pa_nil)))) (pss_one ps_dead) pss_nil)))) (pss_one (ps_ret pe_non)))))), ?_⟩
    refine ⟨_, rfl, v, rfl, hv, fun H1 s1 => ⟨_, rfl, iteF ?_⟩⟩
    obtain ⟨b, rfl, hb⟩ := hv.same s1
    refine ⟨_, rfl, b, _, _, .str "halt", rfl, rfl, hb, at0, rfl, false, nE (by decide +kernel), iteF (iteF ?_)⟩
    refine ⟨_, rfl, _, rfl, ⟨b, rfl, hb⟩, ?_⟩
    refine ⟨rfl, for_it walk_kd (fun i σ H2 => ∃ v3 v4, σ = [some x, some (.ref b), some (.ref b), v3, v4] ∧ Same H1 H2) ⟨none, none, rfl, fun _ _ z => z⟩ (fun _ _ _ _ _ => trivial) ?_ ?_⟩
    · rintro i y σ H2 H3 hi ⟨v3, v4, rfl, s2⟩ ⟨rfl, kw, ek, rfl⟩
      obtain ⟨h, hkd, hS⟩ := hw i kw ek
      refine ⟨_, rfl, WR, kw, .ref h, rfl, rfl, hkd, ?_⟩
      refine ⟨h, _, rfl, hS, _, rfl, _, rfl, x, .ref b, rfl, ⟨b, rfl, SqT.same s2 hb⟩, fun H5 s5 => ⟨_, rfl, iteF ⟨_, _, rfl, s2.trans s5⟩⟩⟩
    · rintro σ H2 ⟨v3, v4, rfl, s2⟩
      exact q H2 (s1.trans s2)
theorem ok_fwb {g WR ST : Addr} {fd : FuncData} (F : Fa K mg "first_wrong_bodies" "_first_wrong" sFWb ["scope", "statement", "place"] g fd) (hWh : ∃ g fd, Fs K mg "_wrong_here" sWHe ["scope", "statement"] g fd) (D : Wd K w mg WR) (W : Sw K w mg ST) (M : Scm K mg CS CC fS fC) : FnOk P w K mg base CX0 5 g fd ["scope", "statement", "place"] (spFWb K CC) := by
  have T := W.T
  obtain ⟨_, _, dWHe⟩ := hWh
  obtain ⟨_, _, dPO⟩ := W.po
  obtain ⟨_, _, mBh, FBh, bBh⟩ := M.bh
  have cSc := M.cC
  have GWHe : FnOk P w K mg base CX0 4 _ _ ["scope", "statement"] (spWHe K CC) := ok_whe dWHe D W
  have GPO : FnOk P w K mg base CX0 3 _ _ ["statement"] (SpH K REmp) := ok_po dPO W
  have GBh : FnOk P w K mg base CX0 1 _ _ ["self", "statement"] _ := ok_beh FBh
  refine F.F.ok scFWb (fun vs H Q E h => ?_) (fun cdv A outer s H vs Q E hr h => ?_)
  · obtain ⟨_, _, _, rfl, _⟩ := h
    rfl
  · obtain ⟨x, v, pl, rfl, hx, hv, q⟩ := h
    have hrWHe := hr
    have hrPO : Room 3 (A.deeper (envOfC "_first_wrong" (defScope sFWb) s.heap.objs.size g cdv)) := hr.mono (by decide)
    have hrBh : Room 1 (A.deeper (envOfC "_first_wrong" (defScope sFWb) s.heap.objs.size g cdv)) := hr.mono (by decide)
    refine ⟨_, (pss_cons (ps_set (i := 3) scFWb.nd rfl (Or.inl rfl) (pe_call GWHe hrWHe (by rfl) dWHe.m dWHe.F.kp dWHe.b .nil pass0 (pa_cons (pv 0) (pa_cons (pv 1) pa_nil)))) (pss_cons (ps_if (pt_cmpR op_notN (pv 3) pe_non (nomark _)) (pss_one ps_dead) pss_nil) (pss_cons (ps_set (i := 4) scFWb.nd rfl (Or.inl rfl) (pe_meth (pv 0) cSc mBh GBh hrBh bBh .nil pass0 (pa_cons (pv 1) pa_nil))) (pss_cons (ps_for PassesOwn.never rfl (pi_enumT (by rfl) T.enum (pa_cons (pe_call GPO hrPO (by rfl) dPO.m dPO.F.kp dPO.b .nil pass0 (pa_cons (pv 1) pa_nil)) pa_nil)) (pg_tup rfl (pgs_cons (pg_name (i := 5) scFWb.nd rfl (Or.inl rfl)) (pgs_cons (pg_name (i := 6) scFWb.nd rfl (Or.inl rfl)) pgs_nil))) (pss_cons ps_dead (pss_one ps_dead))) (pss_one (ps_ret pe_non)))))), ?_⟩
    refine ⟨_, rfl, _, rfl, x, v, rfl, hx, hv, fun H1 s1 => ?_⟩
    refine ⟨_, rfl, rfl, false, rfl, iteF ?_⟩
    obtain ⟨y, dx, fs, rfl, gx, nb⟩ := hx.same s1
    refine ⟨_, rfl, y, dx, fs, rfl, gx, nb, v, rfl, _, v, rfl, hv.same s1, ?_⟩
    refine ⟨v, rfl, v, rfl, hv.same s1, fun H2 p s2 hp gp => ?_⟩
    refine ⟨p, [], rfl, SqT.of gp, ?_⟩
    refine for_enumT (xs := []) (fun i σ H3 => (∃ v5 v6 v7, σ = [some (.ref y), some v, some pl, some .non, some (.ref y), v5, v6, v7]) ∧ Same H2 H3) ⟨⟨none, none, none, rfl⟩, Same.refl _⟩ (fun i σ H3 _ h => SqT.of (h.2 _ _ gp)) (fun i x σ H3 t hx => nomatch hx) ?_
    rintro σ H3 ⟨⟨v5, v6, v7, rfl⟩, s3⟩
    exact q H3 ((s1.trans s2).trans s3)
theorem ok_wbb {g WR ST : Addr} {fd : FuncData} (F : Fa K mg "wrong_body_bodies" "_wrong_body" sWBb ["scope", "body"] g fd) (hFw : ∃ g fd, Fa K mg "first_wrong_bodies" "_first_wrong" sFWb ["scope", "statement", "place"] g fd) (hWh : ∃ g fd, Fs K mg "_wrong_here" sWHe ["scope", "statement"] g fd) (D : Wd K w mg WR) (W : Sw K w mg ST) (M : Scm K mg CS CC fS fC) : FnOk P w K mg base CX0 6 g fd ["scope", "body"] (spWHe K CC) := by
  obtain ⟨_, _, dTL⟩ := W.tl
  obtain ⟨_, _, dFWb⟩ := hFw
  have GTL : FnOk P w K mg base CX0 5 _ _ ["body"] (SpH K (RV (.bl false))) := ok_tl dTL W
  have GFWb : FnOk P w K mg base CX0 5 _ _ ["scope", "statement", "place"] (spFWb K CC) := ok_fwb dFWb hWh D W M
  refine F.F.ok scWBb (fun vs H Q E h => ?_) (fun cdv A outer s H vs Q E hr h => ?_)
  · obtain ⟨_, _, rfl, _⟩ := h
    rfl
  · obtain ⟨x, v, rfl, hx, hv, q⟩ := h
    have hrTL := hr
    have hrFWb := hr
    refine ⟨_, (pss_one (ps_ret (pe_ifExp (pt_val (pe_call GTL hrTL (by rfl) dTL.m dTL.F.kp dTL.b .nil pass0 (pa_cons (pv 1) pa_nil))) pe_dead (pe_call GFWb hrFWb (by rfl) dFWb.m dFWb.F.kp dFWb.b .nil pass0 (pa_cons (pv 0) (pa_cons (pv 1) (pa_cons (pe_tup pa_nil) pa_nil))))))), ?_⟩
    refine ⟨_, rfl, v, rfl, hv, fun H1 s1 => ⟨_, rfl, iteF ?_⟩⟩
    have s2 := s1
    refine ⟨_, rfl, _, rfl, le_sz (Nat.le_of_ble_eq_true rfl), fun p hp => ?_⟩
    have s3 := s1.trans (new_same (o := .tup []) hp)
    exact ⟨_, _, _, rfl, hx.same s3, hv.same s3, fun H2 s4 => q H2 (s3.trans s4)⟩
def spWMB (K : PySem.W.Frag) (C f : Nat → Addr) : Sp := fun vs H Q _ => ∃ (l : V) (o : Str) (m : MD) (v : V), vs = [l, .str o, v] ∧ Oh K (clk C f) H (mO m) v ∧ m.params.length ≤ 60 ∧ m.body = .tup [.fl (.str "halt")] ∧ ∀ H', Same H H' → Q .non H'
theorem ok_wmb {C f : Nat → Addr} {g WR ST : Addr} {fd : FuncData} (F : Fs K mg "wrong_method_body" sWMB ["library", "owner", "method"] g fd) (hWb : ∃ g fd, Fa K mg "wrong_body_bodies" "_wrong_body" sWBb ["scope", "body"] g fd) (hFw : ∃ g fd, Fa K mg "first_wrong_bodies" "_first_wrong" sFWb ["scope", "statement", "place"] g fd) (hWh : ∃ g fd, Fs K mg "_wrong_here" sWHe ["scope", "statement"] g fd) (D : Wd K w mg WR) (W : Sw K w mg ST) (M : Scm K mg CS CC fS fC) (X : Txt K mg C f) : FnOk P w K mg base CX0 7 g fd ["library", "owner", "method"] (spWMB K C f) := by
  obtain ⟨_, _, dWBb⟩ := hWb
  obtain ⟨_, _, dMS⟩ := M.ms
  have GWBb : FnOk P w K mg base CX0 6 _ _ ["scope", "body"] (spWHe K CC) := ok_wbb dWBb hFw hWh D W M
  have GMS : FnOk P w K mg base CX0 4 _ _ ["library", "owner", "method"] (spMS K C f CC) := ok_ms dMS M X
  refine F.F.ok scWMB (fun vs H Q E h => ?_) (fun cdv A outer s H vs Q E hr h => ?_)
  · obtain ⟨_, _, _, _, rfl, _⟩ := h
    rfl
  · obtain ⟨l, o, m, v, rfl, om, hl, hb, q⟩ := h
    have hrWBb := hr
    have hrMS : Room 4 (A.deeper (envOfC "wrong_method_body" (defScope sWMB) s.heap.objs.size g cdv)) := hr.mono (by decide)
    obtain ⟨a, dx, fs, vp, xs, v1, v2, vb, rfl, MA⟩ := mO_get om
    have ob := MA.ob
    rw [hb] at ob
    obtain ⟨b, ys, rfl, sb, ot⟩ := ob
    obtain ⟨_, _, rfl, ⟨rfl, _⟩, rfl⟩ := ot
    have hv : HaltA K H (.ref b) := ⟨b, rfl, sb⟩
    refine ⟨_, (pss_one (ps_ret (pe_call GWBb hrWBb (by rfl) dWBb.m dWBb.F.kp dWBb.b .nil pass0 (pa_cons (pe_call GMS hrMS (by rfl) dMS.m dMS.F.kp dMS.b .nil pass0 (pa_cons (pv 0) (pa_cons (pv 1) (pa_cons (pv 2) pa_nil)))) (pa_cons (pe_fld (pv 2) (by rfl)) pa_nil))))), ?_⟩
    refine ⟨_, rfl, _, rfl, _, rfl, l, o, m, _, rfl, om, hl, fun x H1 s1 hx => ?_⟩
    refine ⟨_, rfl, a, C 1, dx, fs, _, rfl, s1 _ _ MA.ins, X.cls 1 (by decide), X.no 1 (by decide) _ (by decide), MA.b, ?_⟩
    exact ⟨_, _, rfl, hx, hv.same s1, fun H2 s2 => q H2 (s1.trans s2)⟩
end

end Kx
set_option linter.all false
namespace Kx
open PySem L2 PySem.Spec PyProof.Rows
/-- the functions of bodies that a library asks -/
structure Bd (K : PySem.W.Frag) (w : World) (mg : Str → Option Value) (CS CC fS fC WR ST : Addr) : Prop where
  W : Sw K w mg ST
  D : Wd K w mg WR
  S : Scm K mg CS CC fS fC
  wh : ∃ g fd, Fs K mg "_wrong_here" sWHe ["scope", "statement"] g fd
  fw : ∃ g fd, Fa K mg "first_wrong_bodies" "_first_wrong" sFWb ["scope", "statement", "place"] g fd
  wb : ∃ g fd, Fa K mg "wrong_body_bodies" "_wrong_body" sWBb ["scope", "body"] g fd
  wm : ∃ g fd, Fs K mg "wrong_method_body" sWMB ["library", "owner", "method"] g fd
def BodyOk (m : MD) : Prop := m.params.length ≤ 60 ∧ m.body = .tup [.fl (.str "halt")]
def spWBl (K : PySem.W.Frag) (C f : Nat → Addr) (CL : Addr) : Sp := fun vs H Q _ => ∃ (a : Addr) (cs : List KD) (ns : List Str), vs = [.ref a] ∧ LibA K C f CL H a cs ns ∧ (∀ k ∈ cs, ∀ m ∈ k.methods, BodyOk m) ∧ (∀ n, n ∈ ns ↔ n ∈ cs.map (·.name)) ∧ ∀ H', Same H H' → Q .non H'
section
variable {P : Program} {w : World} {K : PySem.W.Frag} {mg : Str → Option Value} {base : Heap} {CS CC fS fC : Addr} {C f : Nat → Addr} {CL : Addr}
theorem ok_wbl {g WR ST : Addr} {fd : FuncData} (F : Fa K mg "wrong_body_libraries" "_wrong_body" sWBl ["library"] g fd) (B : Bd K w mg CS CC fS fC WR ST) (M : Lm K mg C f CL) : FnOk P w K mg base CX0 8 g fd ["library"] (spWBl K C f CL) := by
  obtain ⟨_, _, dWMB⟩ := B.wm
  obtain ⟨gx, fdx, ox, Fx, bx⟩ := M.ix
  have GX : FnOk P w K mg base CX0 2 gx fdx ["self", "name"] (spLix K C f CL) := ok_lix Fx M
  have GWMB : FnOk P w K mg base CX0 7 _ _ ["library", "owner", "method"] (spWMB K C f) := ok_wmb dWMB B.wb B.fw B.wh B.D B.W B.S M.X
  refine F.F.ok scWBl (fun vs H Q E h => ?_) (fun cdv A outer s H vs Q E hr h => ?_)
  · obtain ⟨_, _, _, rfl, _⟩ := h
    rfl
  · obtain ⟨a, cs, ns, rfl, hL, fine, hns, q⟩ := h
    have hrWMB := hr
    have hrX : Room 3 (A.deeper (envOfC "_wrong_body" (defScope sWBl) s.heap.objs.size g cdv)) := hr.mono (by decide)
    refine ⟨_, (pss_cons (ps_for PassesOwn.never rfl (pi_tup (pe_fld (pv 0) (by rfl))) (pg_name (i := 1) scWBl.nd rfl (Or.inl rfl)) (pss_one (ps_for PassesOwn.never rfl (pi_tup (pe_fld (pe_ownIx (E := E0) ox GX hrX bx pass0 (pv 0) (pv 1)) (by rfl))) (pg_name (i := 2) scWBl.nd rfl (Or.inl rfl)) (pss_cons (ps_set (i := 3) scWBl.nd rfl (Or.inl rfl) (pe_call GWMB hrWMB (by rfl) dWMB.m dWMB.F.kp dWMB.b .nil pass0 (pa_cons (pv 0) (pa_cons (pv 1) (pa_cons (pv 2) pa_nil))))) (pss_one (ps_if (pt_cmpR op_notN (pv 3) pe_non (nomark _)) (pss_cons ps_dead (pss_one ps_dead)) pss_nil)))))) (pss_one (ps_ret pe_non))), ?_⟩
    obtain ⟨dx, fs, Nn, Tb, us, L⟩ := id hL
    refine ⟨_, rfl, a, CL, dx, fs, .ref Nn, rfl, L.ins, M.cls, M.no _ (by simp), L.nm, Nn, rfl, ⟨_, L.sn⟩, for_tup (K := K) (a := Nn) (xs := ns.map V.str) (fun j σ H4 => (∃ v1 v2 v3 v4 v5, σ = [some (.ref a), v1, v2, v3, v4, v5]) ∧ Same H H4) ⟨⟨none, none, none, none, none, rfl⟩, Same.refl H⟩ (fun j σ H4 _ ⟨_, s⟩ => SqT.same s L.sn) ?_ ?_⟩
    · rintro j y σ H4 hj ⟨⟨w1, w2, w3, w4, w5, rfl⟩, s4⟩
      obtain ⟨rfl, hm⟩ := get_str hj
      obtain ⟨k', hk'⟩ := kd_some ((hns _).mp hm)
      obtain ⟨dx4, fs4, N4, Tb4, us4, L4⟩ := id (hL.same s4)
      refine ⟨_, rfl, _, rfl, a, dx4, fs4, rfl, L4.ins, a, cs, ns, _, k', rfl, hL.same s4, hk', fun u H5 s5 ov => ?_⟩
      obtain ⟨b, bx', bs, vb, vf, vm, vw, xs, rfl, KA⟩ := kO_get ov
      refine ⟨b, C 2, bx', bs, _, rfl, KA.ins, M.X.cls 2 (by decide), M.X.no 2 (by decide) _ (by decide), KA.m, vm, rfl, ⟨_, KA.sm⟩, for_tup (K := K) (a := vm) (xs := xs) (fun j2 σ H6 => (∃ v2 v3 v4 v5, σ = [some (.ref a), some (.str (ns.getD j "")), v2, v3, v4, v5]) ∧ Same H5 H6) ⟨⟨_, _, _, _, rfl⟩, Same.refl _⟩ (fun j2 σ H6 _ ⟨_, s⟩ => SqT.same s KA.sm) ?_ ?_⟩
      · rintro j2 y2 σ H6 hj2 ⟨⟨w2, w3, w4, w5, rfl⟩, s6⟩
        obtain ⟨d, hd, od⟩ := ohAll_get _ _ _ _ KA.om hj2
        rw [List.getElem?_map] at hd
        obtain ⟨m, em, rfl⟩ := Option.map_eq_some_iff.mp hd
        have hmm := List.mem_of_getElem? em
        obtain ⟨b1, b2⟩ := fine k' (kd_name hk').2 m hmm
        refine ⟨_, rfl, _, rfl, _, rfl, .ref a, _, m, y2, rfl, Oh.sm s6 od, b1, b2, fun H7 s7 => ?_⟩
        exact ⟨_, rfl, rfl, false, rfl, iteF ⟨⟨_, _, _, _, rfl⟩, s6.trans s7⟩⟩
      · rintro σ H6 ⟨⟨w2, w3, w4, w5, rfl⟩, s6⟩
        exact ⟨⟨_, _, _, _, _, rfl⟩, (s4.trans s5).trans s6⟩
    · rintro σ H2 ⟨_, s2⟩
      exact q H2 s2
end

end Kx
set_option linter.all false
namespace Kx
open PySem L2 PySem.Spec PyProof.Rows
abbrev sBLi : Stmt := inClass (top 5) 0
abbrev nBLi : List Str := ["self", "at", "why"]
theorem scBLi : FnScope nBLi ["self", "at", "why"] (defScope sBLi) := ⟨rfl, rfl, rfl, by decide +kernel, rfl, by decide +kernel, by decide +kernel⟩
abbrev sRf : Stmt := top 121
abbrev nRf : List Str := ["found", "at", "why"]
theorem scRf : FnScope nRf ["found"] (defScope sRf) := ⟨rfl, rfl, rfl, by decide +kernel, rfl, by decide +kernel, by decide +kernel⟩
abbrev sWor : Stmt := top 122
abbrev nWor : List Str := ["library", "name"]
theorem scWor : FnScope nWor ["library"] (defScope sWor) := ⟨rfl, rfl, rfl, by decide +kernel, rfl, by decide +kernel, by decide +kernel⟩
/-- BadLibrary, that at and why are stored in -/
structure BadL (K : PySem.W.Frag) (mg : Str → Option Value) (B CB fB : Addr) (fdB : FuncData) : Prop where
  T : Ct K B CB
  no : ∀ x ∈ (["at", "why"] : List Str), PySem.W.findIn K (.ref CB) x = some none
  iC : PySem.W.findIn K (.ref CB) "__init__" = some (some (.ref fB))
  tI : PySem.W.typeIn K (.ref fB) = some (.type "function")
  F : Fun K "__init__" "BadLibrary.__init__" sBLi fB fdB
  b : Binds K fdB ["self", "at", "why"] []
  gm : mg "BadLibrary" = some (.ref CB)
/-- what is told of a refusal: its class, where and why -/
def refusal2 (CB : Addr) (E : XK) : Hp → V → V → Prop := fun H1 at' why => ∀ d H', Same H1 H' → H' d = some (exd d [("why", why), ("at", at')]) → E (.ref CB) (some d) H'
theorem refusal2.same {CB : Addr} {E : XK} {H H' : Hp} {a y : V} (s : Same H H') (h : refusal2 CB E H a y) : refusal2 CB E H' a y := fun d H2 s2 g => h d H2 (s.trans s2) g
def spRf (K : PySem.W.Frag) (CB : Addr) : Sp := fun vs H Q E => ∃ v, vs = [v] ∧ ((v = .non ∧ Q .non H) ∨ ∃ p a y, v = .ref p ∧ SqT K H p [a, y] ∧ refusal2 CB E H a y)
section
variable {P : Program} {w : World} {K : PySem.W.Frag} {mg : Str → Option Value} {base : Heap} {B CB fB : Addr} {fdB : FuncData}
theorem ok_bli {f : Addr} {fd : FuncData} (F : Fun K "__init__" "BadLibrary.__init__" sBLi f fd) : FnOk P w K mg base CX0 1 f fd ["self", "at", "why"] (spI K ["at", "why"]) := by
  refine F.ok scBLi (fun vs H Q E h => ?_) (fun cdv A outer s H vs Q E hr h => ?_)
  · obtain ⟨a, B, C, ws, rfl, hl, _⟩ := h
    show ws.length + 1 = 3
    rw [hl] <;> rfl
  · obtain ⟨a, B, C, ws, rfl, hl, T, hno, ha, k⟩ := h
    obtain ⟨v0, v1, rfl⟩ : ∃ v0 v1, ws = [v0, v1] := match ws, hl with | [v0, v1], _ => ⟨v0, v1, rfl⟩
    refine ⟨_, pss_cons (ps_ost (pv 0) (pv 1)) (pss_one (ps_ost (pv 0) (pv 2))), ?_⟩
    refine ⟨_, rfl, _, rfl, a, C, rfl, T.oex, hno _ (by simp), .inl ⟨ha, fun dx n1 n2 => ?_⟩⟩
    have n3 := Ne.symm n2
    refine ⟨_, rfl, _, rfl, a, C, rfl, T.oex, hno _ (by simp), .inr ⟨dx, _, upd_same, (by rw [upd_ne n2, upd_same]), (by show 1 ≤ 900; decide), ?_⟩⟩
    refine k dx _ n1 n2 (by rw [upd_ne n3]; rw [upd_same]) upd_same (fun b h1 h2 => by rw [upd_ne h2, upd_ne h1, upd_ne h2])
theorem ok_rf {f : Addr} {fd : FuncData} (F : Fs K mg "_refuse" sRf ["found"] f fd) (W : BadL K mg B CB fB fdB) : FnOk P w K mg base (L2N.CX P w) 3 f fd ["found"] (spRf K CB) := by
  obtain ⟨oc, od, kV, doc, pm, an, cdv, ct, osl, rfl, lk, hcd⟩ := F.F.ex
  refine fn_of lk hcd scRf (fun vs H Q E h => ?_) fun A outer s H vs Q E hr h => ?_
  · obtain ⟨v, rfl, _⟩ := h
    rfl
  · obtain ⟨v, rfl, hv⟩ := h
    have tk : L2N.Takes (cxOf (L2N.CX P w) P w K mg base nRf "_refuse" (defScope sRf) f cdv A outer s H E) (fun cls d _ H => E cls d H) := L2N.takes_of rfl rfl rfl rfl
    have hr1 : Room 2 (A.deeper (envOfC "_refuse" (defScope sRf) s.heap.objs.size f cdv)) := hr.mono (by decide)
    refine ⟨_, pss_one (ps_if (pt_cmpR op_notN (pv 0) pe_non (nomark _)) (pss_cons (ps_asg (pv 0) (pg_tup rfl (pgs_cons (pg_name (i := 1) scRf.nd rfl (Or.inl rfl)) (pgs_cons (pg_name (i := 2) scRf.nd rfl (Or.inl rfl)) pgs_nil))))
      (pss_one (L2N.ps_raise rfl tk (by exact (pmkN_err (X := cxOf (L2N.CX P w) P w K mg base nRf "_refuse" (defScope sRf) f cdv A outer s H E) (K := K) (H0 := H) rfl rfl rfl
          (pe_err (ns := ["at", "why"]) (X := cxOf (L2N.CX P w) P w K mg base nRf "_refuse" (defScope sRf) f cdv A outer s H E) W.T W.no W.iC W.tI (ok_bli W.F) hr1 W.b pass0 W.gm (pa_cons (pv 1) (pa_cons (pv 2) pa_nil)))))))) pss_nil), ?_⟩
    rcases hv with ⟨rfl, q⟩ | ⟨p, a, y, rfl, hp, r⟩
    · exact ⟨_, rfl, rfl, false, rfl, iteF q⟩
    · refine ⟨_, rfl, rfl, true, rfl, iteT ?_⟩
      refine ⟨_, rfl, p, _, rfl, hp, rfl, _, _, rfl, _, _, rfl, rfl, ?_⟩
      refine ⟨_, rfl, _, rfl, rfl, (by show 2 ≤ 100; decide), fun e H2 n2 h2 s2 => ?_⟩
      obtain ⟨d, hne, h2a, h2d⟩ := h2
      exact ⟨e, B, CB, d, rfl, W.T, h2a, fr0_none n2, r d _ (del_keep s2 n2) ((delH_ne hne).trans h2d)⟩
end
section
variable {P : Program} {w : World} {K : PySem.W.Frag} {mg : Str → Option Value} {base : Heap} {C f : Nat → Addr} {CL : Addr}
def spWor (K : PySem.W.Frag) (C f : Nat → Addr) (CL : Addr) : Sp := fun vs H Q _ => ∃ (a : Addr) (cs : List KD) (ns : List Str) (o : Ord), vs = [.ref a] ∧ LibO K C f CL H a cs ns o ∧ Lok cs o ∧ Q .non H
theorem ok_wor {g : Addr} {fd : FuncData} (F : Fs K mg "_without_order" sWor ["library"] g fd) (M : Lm K mg C f CL) : FnOk P w K mg base CX0 3 g fd ["library"] (spWor K C f CL) := by
  refine F.F.ok scWor (fun vs H Q E h => ?_) (fun cdv A outer s H vs Q E hr h => ?_)
  · obtain ⟨_, _, _, _, rfl, _⟩ := h
    rfl
  · obtain ⟨a, cs, ns, o, rfl, hL, ok, q⟩ := h
    have hu := hu_of hr
    refine ⟨_, (pss_cons (ps_for PassesOwn.never rfl (pi_tup (pe_fld (pv 0) (by rfl))) (pg_name (i := 1) scWor.nd rfl (Or.inl rfl)) (pss_one (ps_if (pt_cmpR op_isN (pe_dget hu (pe_fld (pv 0) (by rfl)) (pv 1) (fun _ _ => rfl)) pe_non (nomark _)) (pss_one ps_dead) pss_nil))) (pss_one (ps_ret pe_non))), ?_⟩
    obtain ⟨dx, fs, Nn, Tb, us, O, ns', L, eO, ⟨kvs, gO, en⟩, hin⟩ := id hL
    refine ⟨_, rfl, a, CL, dx, fs, .ref Nn, rfl, L.ins, M.cls, M.no _ (by simp), L.nm, Nn, rfl, ⟨_, L.sn⟩, for_tup (K := K) (a := Nn) (xs := ns.map V.str) (fun j σ H4 => (∃ v1, σ = [some (.ref a), v1]) ∧ H4 = H) ⟨⟨none, rfl⟩, rfl⟩ (fun j σ H4 _ ⟨_, e⟩ => by rw [e]; exact L.sn) ?_ ?_⟩
    · rintro j y σ H4 hj ⟨⟨w1, rfl⟩, rfl⟩
      obtain ⟨rfl, hm⟩ := get_str hj
      have hm2 := (L.mem _).mp hm
      obtain ⟨l, el⟩ := ok.all _ hm2
      obtain ⟨v, ev, hv⟩ := (entO_look en).2 (hin _ hm2)
      rw [el] at hv
      obtain ⟨b, rfl, hb⟩ := hv
      have hg := DGet.k (k := .inr (ns.getD j "")) gO
      rw [ev] at hg
      refine ⟨_, rfl, a, CL, dx, fs, .ref O, rfl, L.ins, M.cls, M.no _ (by simp), eO, _, rfl, O, _, rfl, hg, rfl, false, rfl, iteF ?_⟩
      exact ⟨⟨_, rfl⟩, rfl⟩
    · rintro σ H4 ⟨⟨w1, rfl⟩, rfl⟩
      exact q
end

end Kx
set_option linter.all false
namespace Kx
open PySem L2 PySem.Spec PyProof.Rows
abbrev sLi : Stmt := inClass (top 120) 0
abbrev nLi : List Str := ["self", "classes", "at", "one"]
theorem scLi : FnScope nLi ["self", "classes"] (defScope sLi) := ⟨rfl, rfl, rfl, by decide +kernel, rfl, by decide +kernel, by decide +kernel⟩
open StX (fn_star cxUp_none bind_star1 pe_makeR tMakeR)
/-- what a list of classes must be that the checks find nothing but what the law looks for -/
structure LibFine (cs : List KD) (o : Ord) (rk : Str → Nat) : Prop where
  nm : NamesOk cs
  bs : ∀ k ∈ cs, BasesOk cs k.bases
  b1 : ∀ ns : List Str, ns.Perm (cs.map (·.name)) → BsOk (bsOf cs ns) ∧ ∀ n, ¬ Up (bsOf cs ns) n n
  b2 : BsOk (cs.map fun k => (k.name, k.bases))
  od : OrdOk (cs.map fun k => (k.name, k.bases)) o rk
  rk : ∀ n, rk n < 32
  ok : Lok cs o
  fc : ∀ k ∈ cs, FineC cs o k
  fm : ∀ k ∈ cs, ∀ m ∈ k.methods, FineM cs o k m
  bo : ∀ k ∈ cs, ∀ m ∈ k.methods, BodyOk m
/-- all that making a library asks -/
structure LiF (K : PySem.W.Frag) (w : World) (mg : Str → Option Value) (C f : Nat → Addr) (CL : Addr) : Prop where
  M : Lm K mg C f CL
  G : Gm mg
  N : Nm K mg
  gC0 : mg "Cond" = some (.ref (C 0))
  gC1 : mg "Method" = some (.ref (C 1))
  gC2 : mg "ClassDef" = some (.ref (C 2))
  any : mg "any" = none
  fnc : ∃ g fd, Fs K mg "first_no_class" sFNC ["classes"] g fd
  wb : ∃ g fd, Fs K mg "wrong_bases" sWBs ["library"] g fd
  ac : ∃ g fd, Fs K mg "_are_classes" sAC ["library", "bases"] g fd
  ab : ∃ g fd, Fs K mg "is_above_itself" sAbv ["bases", "name"] g fd
  ao : ∃ g fd, Fs K mg "all_orders" sAllO ["bases"] g fd
  po : ∃ g fd, Fs K mg "_put_order" sPut ["bases", "name", "orders"] g fd
  mer : ∃ g fd, Fs K mg "_merged" sMg ["rows"] g fd
  nx : ∃ g fd, Fs K mg "_next_of" sNx ["rows"] g fd
  rf : ∃ g fd, Fs K mg "_refuse" sRf ["found"] g fd
  wo : ∃ g fd, Fs K mg "_without_order" sWor ["library"] g fd
  wc : ∃ g fd, Fs K mg "wrong_class" sWC ["library"] g fd
  cw : ∃ CW g0 g1 g2 g3, CWd K w mg CW g0 g1 g2 g3
  wm : ∃ g fd, Fs K mg "wrong_method" sWM ["library"] g fd
  mw : ∃ MW, MWd K w mg MW
  wh : ∃ g fd, Fs K mg "wrong_heritage" sWH_ ["library"] g fd
  wa : ∃ g fd, Fs K mg "_is_written_alike" sWA ["library", "name", "method"] g fd
  wl : ∃ g fd, Fa K mg "wrong_body_libraries" "_wrong_body" sWBl ["library"] g fd
  bd : ∃ CS CC fS fC WR ST, Bd K w mg CS CC fS fC WR ST
abbrev allAl (cs : List KD) (o : Ord) (ns : List Str) : Prop := ∀ n ∈ ns, ∀ m ∈ mnames cs (ordOf o n), alike cs (ordOf o n) m = true
def spLi (K : PySem.W.Frag) (C f : Nat → Addr) (CL CB : Addr) : Sp := fun vs H Q E => ∃ (x dx p : Addr) (xs : List V) (cs : List KD) (o : Ord) (rk : Str → Nat) (H0 : Hp), vs = [.ref x, .ref p] ∧ H x = some (.ins CL dx []) ∧ H0 x = none ∧ Same H0 H ∧ SqT K H0 p xs ∧ OhAll K (clk C f) H0 (cs.map kO) xs ∧ LibFine cs o rk ∧
  ∀ ns : List Str, ns.Perm (cs.map (·.name)) → sortedS ns = true →
   (fdbl cs o ns = none → allAl cs o ns → ∀ H', Same H0 H' → Q .non H') ∧
   (∀ n, fdbl cs o ns = some n → ∀ d H', Same H0 H' → H' d = some (exd d [("why", .str "double"), ("at", .str n)]) → E (.ref CB) (some d) H') ∧
   (fdbl cs o ns = none → ∀ i n ys m, ns[i]? = some n → allAl cs o (ns.take i) → sortedS ys = true → ys.Nodup → (∀ x, x ∈ ys ↔ x ∈ mnames cs (ordOf o n)) → ys.find? (fun m => !alike cs (ordOf o n) m) = some m →
     ∀ d t H', Same H0 H' → H' t = some (.tup [.str n, .str m]) → H' d = some (exd d [("why", .str "inherited"), ("at", .ref t)]) → E (.ref CB) (some d) H')
theorem SqL.updI {K : PySem.W.Frag} {H : Hp} {D a C dx : Addr} {fs : List (Str × V)} {o : HO} {xs : List V} (hD : H D = some (.ins C dx fs)) (h : SqL K H a xs) : SqL K (upd H D o) a xs := by
  rcases h with (h | ⟨z, h⟩) | h
  · exact .inl (.inl (by rw [upd_ne (fun e => by rw [e, hD] at h; cases h)]; exact h))
  · exact .inl (.inr ⟨z, by rw [upd_ne (fun e => by rw [e, hD] at h; cases h)]; exact h⟩)
  · exact .inr h
theorem ValO.updI {K : PySem.W.Frag} {H : Hp} {D C dx : Addr} {fs : List (Str × V)} {o : HO} {v : V} {r : Option (List Str)} (hD : H D = some (.ins C dx fs)) (h : ValO K H v r) : ValO K (upd H D o) v r := by
  cases r with
  | none => exact h
  | some l => obtain ⟨a, e, q⟩ := h; exact ⟨a, e, SqL.updI hD q⟩
theorem OrdAt.updI {K : PySem.W.Frag} {H : Hp} {D O C dx : Addr} {fs : List (Str × V)} {u : HO} {o : Ord} {ns : List Str} (hD : H D = some (.ins C dx fs)) (h : OrdAt K H O o ns) : OrdAt K (upd H D u) O o ns := by
  obtain ⟨kvs, a, b⟩ := h
  exact ⟨kvs, (upd_ne (fun e => by rw [e, hD] at a; cases a)).trans a, L2.Paired.mapP b fun _ _ ⟨e, q⟩ => ⟨e, q.updI hD⟩⟩
theorem lk_ne {y k : Str} {v : V} {r : List (Str × V)} (h : y ≠ k) : List.lookup y ((k, v) :: r) = List.lookup y r := by
  rw [List.lookup_cons, beq_eq_false_iff_ne.mpr h]
theorem putK_new {kvs : List (Key × V)} {k : Key} {v : V} (h : ∀ kv ∈ kvs, kv.1 ≠ k) : putK kvs k v = kvs ++ [(k, v)] := by
  unfold putK
  rw [if_neg]
  intro z
  obtain ⟨kv, hk, e⟩ := List.any_eq_true.mp z
  exact h kv hk (of_decide_eq_true e)
section
variable {P : Program} {w : World} {K : PySem.W.Frag} {mg : Str → Option Value} {base : Heap} {C f : Nat → Addr} {CL B CB fB : Addr} {fdB : FuncData}
theorem body_li {fa : Addr} (L : LiF K w mg C f CL) (W : BadL K mg B CB fB fdB) (cdv : Value) (A : Around) (outer : List Env) (s : Shared) (H : Hp) (vs : List V) (Q : VK) (E : XK) (hr : Room 36 (A.deeper (envOfC "Library.__init__" (defScope sLi) s.heap.objs.size fa cdv))) (h : spLi K C f CL CB vs H Q E) :
    ∃ t, PSs (cxOf (L2N.CX P w) P w K mg base nLi "Library.__init__" (defScope sLi) fa cdv A outer s H E) (defBody sLi) t ∧ t { nx := fun _ H' => Q .non H', rt := Q } (L2.start nLi vs) H := by
  have M := L.M
  have T := M.T
  obtain ⟨_, _, dFNC⟩ := L.fnc
  obtain ⟨_, _, dWB⟩ := L.wb
  obtain ⟨_, _, dAO⟩ := L.ao
  obtain ⟨_, _, dRf⟩ := L.rf
  obtain ⟨_, _, dWor⟩ := L.wo
  obtain ⟨_, _, dWC⟩ := L.wc
  obtain ⟨_, _, dWM⟩ := L.wm
  obtain ⟨_, _, dWH⟩ := L.wh
  obtain ⟨_, _, dWBl⟩ := L.wl
  obtain ⟨_, _, dPo⟩ := L.po
  obtain ⟨_, _, dMe⟩ := L.mer
  obtain ⟨_, _, dNx⟩ := L.nx
  obtain ⟨_, _, _, _, _, cw⟩ := L.cw
  obtain ⟨_, mw⟩ := L.mw
  obtain ⟨_, _, _, _, _, _, bd⟩ := L.bd
  have GFNC : FnOk P w K mg base CX0 3 _ _ ["classes"] (spFNC K C f) := ok_fnc dFNC M L.G L.N L.gC2
  have GWB : FnOk P w K mg base CX0 5 _ _ ["library"] (spWB K C f CL) := ok_wb dWB L.ac L.ab M L.G L.N
  have GAO : FnOk P w K mg base CX0 36 _ _ ["bases"] (spAllO K) := ok_allO dAO dPo dMe dNx L.any M.ls
  have GRf : FnOk P w K mg base (L2N.CX P w) 3 _ _ ["found"] (spRf K CB) := ok_rf dRf W
  have GWor : FnOk P w K mg base CX0 3 _ _ ["library"] (spWor K C f CL) := ok_wor dWor M
  have GWC : FnOk P w K mg base CX0 6 _ _ ["library"] (spWC K C f CL) := ok_wc dWC cw M L.G L.N L.gC0 L.gC1
  have GWM : FnOk P w K mg base CX0 7 _ _ ["library"] (spWM K C f CL) := ok_wm dWM mw M L.G L.N L.gC0
  have GWH : FnOk P w K mg base CX0 5 _ _ ["library"] (spWH K C f CL) := ok_wh dWH L.wa M
  have GWBl : FnOk P w K mg base CX0 8 _ _ ["library"] (spWBl K C f CL) := ok_wbl dWBl bd M
  have tk : L2N.Takes (cxOf (L2N.CX P w) P w K mg base nLi "Library.__init__" (defScope sLi) fa cdv A outer s H E) (fun cls d _ H => E cls d H) := L2N.takes_of rfl rfl rfl rfl
  have hx : Passes (L2N.CX P w) (cxOf (L2N.CX P w) P w K mg base nLi "Library.__init__" (defScope sLi) fa cdv A outer s H E) E := L2N.passes_call tk (fun _ _ _ _ z => z)
  have rm : ∀ n, n ≤ 36 → Room n (A.deeper (envOfC "Library.__init__" (defScope sLi) s.heap.objs.size fa cdv)) := fun n hn => hr.mono hn
  have hrFNC := rm 3 (by decide)
  have hrWB := rm 5 (by decide)
  have hrAO := rm 36 (by decide)
  have hrRf := rm 3 (by decide)
  have hrWor := rm 3 (by decide)
  have hrWC := rm 6 (by decide)
  have hrWM := rm 7 (by decide)
  have hrWH := rm 5 (by decide)
  have hrWBl := rm 8 (by decide)
  obtain ⟨x, dx, p, xs, cs, o, rk, H0, rfl, hxo, x0, s0, hp, ho, fine, q⟩ := h
  refine ⟨_, (pss_cons (ps_set (i := 2) scLi.nd rfl (Or.inl rfl) (pe_call GFNC hrFNC (by rfl) dFNC.m dFNC.F.kp dFNC.b .nil pass0 (pa_cons (pv 1) pa_nil))) (pss_cons (ps_if (pt_cmpR op_notN (pv 2) pe_non (nomark _)) (pss_one ps_dead) pss_nil) (pss_cons (ps_fld (pv 0) (pv 1) (by rfl)) (pss_cons (ps_fld (pv 0) (pe_tupleOf (by rfl) T.tuple (pe_callB cr_sortedS (by rfl) T.sorted (by decide +kernel) (pa_cons (pe_lc (own := [("one", 3)]) (g := gName 3) (tt := tYes) rfl scLi.nd (pi_tup (pv 1)) (blkOk_by (N := nLi) (sc := defScope sLi) (by decide +kernel)) (fun _ _ _ _ _ => (pg_name (i := 3) scLi.nd rfl (Or.inl rfl))) (fun _ _ _ _ _ => pts_nil) (fun _ _ _ _ _ => (pe_fldK (K := K) rfl (pv 3) (by rfl)))) pa_nil))) (by rfl)) (pss_cons (ps_fld (pv 0) (pe_dc (own := [("one", 3)]) (g := gName 3) (tt := tYes) rfl scLi.nd (pi_tup (pv 1)) (blkOk_by (N := nLi) (sc := defScope sLi) (by decide +kernel)) (fun _ _ _ _ _ => (pg_name (i := 3) scLi.nd rfl (Or.inl rfl))) (fun _ _ _ _ _ => pts_nil) (fun _ _ _ _ _ => (pe_fldK (K := K) rfl (pv 3) (by rfl))) (fun _ _ _ _ _ => (pv 3))) (by rfl)) (pss_cons (ps_expr (pe_call GRf hrRf (by rfl) dRf.m dRf.F.kp dRf.b .nil hx (pa_cons (pe_call GWB hrWB (by rfl) dWB.m dWB.F.kp dWB.b .nil pass0 (pa_cons (pv 0) pa_nil)) pa_nil))) (pss_cons (ps_fld (pv 0) (pe_call GAO hrAO (by rfl) dAO.m dAO.F.kp dAO.b .nil pass0 (pa_cons (pe_dc (own := [("one", 3)]) (g := gName 3) (tt := tYes) rfl scLi.nd (pi_tup (pv 1)) (blkOk_by (N := nLi) (sc := defScope sLi) (by decide +kernel)) (fun _ _ _ _ _ => (pg_name (i := 3) scLi.nd rfl (Or.inl rfl))) (fun _ _ _ _ _ => pts_nil) (fun _ _ _ _ _ => (pe_fldK (K := K) rfl (pv 3) (by rfl))) (fun _ _ _ _ _ => (pe_fldK (K := K) rfl (pv 3) (by rfl)))) pa_nil)) (by rfl)) (pss_cons (ps_expr (pe_call GRf hrRf (by rfl) dRf.m dRf.F.kp dRf.b .nil hx (pa_cons (pe_call GWor hrWor (by rfl) dWor.m dWor.F.kp dWor.b .nil pass0 (pa_cons (pv 0) pa_nil)) pa_nil))) (pss_cons (ps_expr (pe_call GRf hrRf (by rfl) dRf.m dRf.F.kp dRf.b .nil hx (pa_cons (pe_call GWC hrWC (by rfl) dWC.m dWC.F.kp dWC.b .nil pass0 (pa_cons (pv 0) pa_nil)) pa_nil))) (pss_cons (ps_expr (pe_call GRf hrRf (by rfl) dRf.m dRf.F.kp dRf.b .nil hx (pa_cons (pe_call GWM hrWM (by rfl) dWM.m dWM.F.kp dWM.b .nil pass0 (pa_cons (pv 0) pa_nil)) pa_nil))) (pss_cons (ps_expr (pe_call GRf hrRf (by rfl) dRf.m dRf.F.kp dRf.b .nil hx (pa_cons (pe_call GWH hrWH (by rfl) dWH.m dWH.F.kp dWH.b .nil pass0 (pa_cons (pv 0) pa_nil)) pa_nil))) (pss_one (ps_expr (pe_call GRf hrRf (by rfl) dRf.m dRf.F.kp dRf.b .nil hx (pa_cons (pe_call GWBl hrWBl (by rfl) dWBl.m dWBl.F.kp dWBl.b .nil pass0 (pa_cons (pv 0) pa_nil)) pa_nil))))))))))))))), ?_⟩
  refine ⟨_, rfl, p, xs, cs, rfl, SqT.same s0 hp, OhAll.sm s0 ho, fine.nm, fun H1 s1 => ?_⟩
  refine ⟨_, rfl, rfl, false, rfl, iteF ?_⟩
  have lx : xs.length = cs.length := by rw [← OhAll.length _ _ ho, List.length_map]
  have l30 := fine.nm.few
  have item : ∀ (i : Nat) (v : V), xs[i]? = some v → ∃ k, cs[i]? = some k ∧ Oh K (clk C f) H0 (kO k) v := fun i v hv => by
    obtain ⟨d, hd, od⟩ := ohAll_get _ _ _ _ ho hv
    rw [List.getElem?_map] at hd
    obtain ⟨k, ek, rfl⟩ := Option.map_eq_some_iff.mp hd
    exact ⟨k, ek, od⟩
  -- classes
  refine ⟨_, rfl, _, rfl, x, CL, dx, _, rfl, s1 _ _ hxo, M.cls, M.no _ (by simp), Nat.le_of_ble_eq_true rfl, ?_⟩
  have s2 : Same H0 (upd H1 x (.ins CL dx (putF "classes" (.ref p) []))) := same_upd x0 (s0.trans s1)
  have g2 : (upd H1 x (.ins CL dx (putF "classes" (.ref p) []))) x = some (.ins CL dx [("classes", .ref p)]) := upd_same
  obtain ⟨H2, e2⟩ : ∃ G, upd H1 x (.ins CL dx (putF "classes" (.ref p) [])) = G := ⟨_, rfl⟩
  rw [e2] at s2 g2 ⊢
  -- names
  refine ⟨_, rfl, p, rfl, ⟨_, SqT.same s2 hp⟩, fun D hD => ?_⟩
  refine lc_map (walk_tup (xs := xs)) (g := gName 3) (vs := [3]) (σ := [some (.ref x), some (.ref p), some .non, none]) (te := tFld K (tVar 3) "name") (fun i => .str ((cs.map (·.name)).getD i ("" : Str))) hD (by omega) (fun H' s' => SqT.same (s2.trans s') hp) (fun i y H3 H4 R hi s3 ⟨e4, hy⟩ k => ?_) fun H3 s3 gD => ?_
  · subst e4
    obtain ⟨kd', ek, od⟩ := item i y hy
    obtain ⟨a, ax, fs, vb, vf, vm, vw, ys, rfl, KA⟩ := kO_get (Oh.sm (s2.trans s3) od)
    refine ⟨rfl, _, rfl, a, C 2, ax, fs, _, rfl, KA.ins, M.X.cls 2 (by decide), M.X.no 2 (by decide) _ (by decide), KA.nm, ?_⟩
    have : kd'.name = (cs.map (·.name)).getD i ("" : Str) := by simp [List.getD, ek]
    rw [this]
    exact k _ (Same.refl _)
  have hl : (List.range xs.length).map (fun i => V.str ((cs.map (·.name)).getD i ("" : Str))) = (cs.map (·.name)).map V.str := by
    rw [lx, ← List.length_map (f := fun k : KD => k.name) (as := cs), range_getD]
  rw [hl] at gD
  have s3' := s2.trans s3
  refine ⟨D, cs.map (·.name), rfl, SqL.of gD, by rw [List.length_map]; omega, fun ns Ls perm srt hLs => ?_⟩
  have hq := q ns perm srt
  have mem : ∀ n, n ∈ ns ↔ n ∈ cs.map (·.name) := fun n => perm.mem_iff
  have nd : ns.Nodup := perm.nodup_iff.mpr fine.nm.nd
  have nl : ns.length = cs.length := by rw [perm.length_eq, List.length_map]
  have s4 := s3'.trans (new_same (o := .lst (ns.map V.str)) hLs)
  have g4 : (upd H3 Ls (.lst (ns.map V.str))) Ls = some (.lst (ns.map V.str)) := upd_same
  have gx4 := (s3.trans (new_same (o := .lst (ns.map V.str)) hLs)) _ _ g2
  obtain ⟨H4, e4⟩ : ∃ G, upd H3 Ls (.lst (ns.map V.str)) = G := ⟨_, rfl⟩
  rw [e4] at s4 g4 gx4 ⊢
  refine .inl ⟨Ls, _, rfl, SqL.of g4, fun N hN => ?_⟩
  have s5 := s4.trans (new_same (o := .tup (ns.map V.str)) hN)
  have gx5 := (new_same (o := .tup (ns.map V.str)) hN) _ _ gx4
  have gN5 : (upd H4 N (.tup (ns.map V.str))) N = some (.tup (ns.map V.str)) := upd_same
  have nNx : N ≠ x := fun z => by rw [z, gx4] at hN; cases hN
  obtain ⟨H5, e5⟩ : ∃ G, upd H4 N (.tup (ns.map V.str)) = G := ⟨_, rfl⟩
  rw [e5] at s5 gx5 gN5 ⊢
  refine ⟨_, rfl, x, CL, dx, _, rfl, gx5, M.cls, M.no _ (by simp), Nat.le_of_ble_eq_true rfl, ?_⟩
  have s6 : Same H0 (upd H5 x (.ins CL dx (putF "names" (.ref N) [("classes", .ref p)]))) := same_upd x0 s5
  have g6 : (upd H5 x (.ins CL dx (putF "names" (.ref N) [("classes", .ref p)]))) x = some (.ins CL dx [("classes", .ref p), ("names", .ref N)]) := upd_same
  have gN6 : (upd H5 x (.ins CL dx (putF "names" (.ref N) [("classes", .ref p)]))) N = some (.tup (ns.map V.str)) := (upd_ne nNx).trans gN5
  obtain ⟨H6, e6⟩ : ∃ G, upd H5 x (.ins CL dx (putF "names" (.ref N) [("classes", .ref p)])) = G := ⟨_, rfl⟩
  rw [e6] at s6 g6 gN6 ⊢
  -- the table
  let tb : Nat → List (Key × V) := fun i => ((cs.take i).zip (xs.take i)).map fun kv => (.inr kv.1.name, kv.2)
  have tbl : ∀ i, i ≤ xs.length → (tb i).length = i := fun i hi => by
    simp only [tb, List.length_map, List.length_zip, List.length_take]
    omega
  have tbs : ∀ i k v, cs[i]? = some k → xs[i]? = some v → putK (tb i) (.inr k.name) v = tb (i + 1) := fun i k v hk hv => by
    rw [putK_new]
    · simp only [tb]
      rw [take_snoc hk, take_snoc hv, List.zip_append (by simp [List.length_take]; omega), List.map_append]
      rfl
    · intro kv hkv z
      obtain ⟨⟨k', v'⟩, hz, rfl⟩ := List.mem_map.mp hkv
      have z : k'.name = k.name := by injection z
      obtain ⟨j, hj, ej⟩ := List.getElem_of_mem (List.of_mem_zip hz).1
      rw [List.length_take] at hj
      rw [List.getElem_take] at ej
      have hi2 := (List.getElem?_eq_some_iff.mp hk).1
      have := List.pairwise_iff_getElem.mp fine.nm.nd j i (by rw [List.length_map]; omega) (by rw [List.length_map]; omega) (by omega)
      refine this ?_
      rw [List.getElem_map, List.getElem_map, ej, (List.getElem?_eq_some_iff.mp hk).2, z]
  refine ⟨_, rfl, p, rfl, ⟨_, SqT.same s6 hp⟩, fun D2 hD2 => ?_⟩
  refine dc_tup (K := K) (a := p) (xs := xs) (g := gName 3) (vs := [3]) (σ := [some (.ref x), some (.ref p), some .non, none]) (tt := tYes) (tk := tFld K (tVar 3) "name") (tv := tVar 3) (fun i H7 => Same H6 H7 ∧ H7 D2 = some (.dK (tb i))) ⟨new_same hD2, upd_same⟩ (fun i H7 _ h => SqT.same (s6.trans h.1) hp) ?_ ?_
  · rintro i y H7 hy ⟨s7, gD⟩
    obtain ⟨kd', ek, od⟩ := item i y hy
    obtain ⟨a, ax, fs, vb, vf, vm, vw, ys, rfl, KA⟩ := kO_get (Oh.sm (s6.trans s7) od)
    have hi := (List.getElem?_eq_some_iff.mp hy).1
    refine ⟨rfl, yes_of ⟨_, rfl, a, C 2, ax, fs, _, rfl, KA.ins, M.X.cls 2 (by decide), M.X.no 2 (by decide) _ (by decide), KA.nm, _, rfl, tb i, .inr kd'.name, rfl, gD, le_sz' (by rw [tbl i (by omega)]; omega), ?_⟩⟩
    rw [tbs i kd' _ ek hy]
    exact ⟨same_D hD2 s7, upd_same⟩
  rintro H7 ⟨s7, gD7⟩
  have gx7 := s7 _ _ g6
  have gN7 := s7 _ _ gN6
  have nDx : D2 ≠ x := fun z => by rw [z, g6] at hD2; cases hD2
  refine ⟨_, rfl, x, CL, dx, _, rfl, gx7, M.cls, M.no _ (by simp), Nat.le_of_ble_eq_true rfl, ?_⟩
  have s8 : Same H0 (upd H7 x (.ins CL dx (putF "_table" (.ref D2) [("classes", .ref p), ("names", .ref N)]))) := same_upd x0 (s6.trans s7)
  have g8 : (upd H7 x (.ins CL dx (putF "_table" (.ref D2) [("classes", .ref p), ("names", .ref N)]))) x = some (.ins CL dx [("classes", .ref p), ("names", .ref N), ("_table", .ref D2)]) := upd_same
  have gN8 : (upd H7 x (.ins CL dx (putF "_table" (.ref D2) [("classes", .ref p), ("names", .ref N)]))) N = some (.tup (ns.map V.str)) := (upd_ne nNx).trans gN7
  have gD8 : (upd H7 x (.ins CL dx (putF "_table" (.ref D2) [("classes", .ref p), ("names", .ref N)]))) D2 = some (.dK (tb xs.length)) := (upd_ne nDx).trans gD7
  obtain ⟨H8, e8⟩ : ∃ G, upd H7 x (.ins CL dx (putF "_table" (.ref D2) [("classes", .ref p), ("names", .ref N)])) = G := ⟨_, rfl⟩
  rw [e8] at s8 g8 gN8 gD8 ⊢
  have tbe : tb xs.length = (cs.zip xs).map fun kv => (.inr kv.1.name, kv.2) := by
    simp only [tb]
    rw [List.take_length, lx, List.take_length]
  rw [tbe] at gD8
  have lib8 : LibAt K C f CL H8 x dx [("classes", .ref p), ("names", .ref N), ("_table", .ref D2)] N D2 xs cs ns :=
    ⟨g8, rfl, SqT.of gN8, rfl, gD8, OhAll.sm s8 ho, mem, fun y hy => by
      simp only [List.mem_cons, List.not_mem_nil, or_false, not_or] at hy
      obtain ⟨h1, h2, h3, h4⟩ := hy
      rw [lk_ne h1, lk_ne h2, lk_ne h3]
      rfl⟩
  refine ⟨_, rfl, x, cs, ns, rfl, ⟨_, _, _, _, _, lib8⟩, nd, by omega, fine.bs, (fine.b1 ns perm).1, (fine.b1 ns perm).2, fun H9 s9 => ?_⟩
  refine ⟨_, rfl, .inl ⟨rfl, ?_⟩⟩
  have s9' := s8.trans s9
  -- the orders
  have bget : ∀ (i : Nat) (k : KD), cs[i]? = some k → (cs.map fun k : KD => (k.name, k.bases))[i]? = some (k.name, k.bases) := fun i k h => by rw [List.getElem?_map, h]; rfl
  refine ⟨_, rfl, p, rfl, ⟨_, SqT.same s9' hp⟩, fun D3 hD3 => ?_⟩
  refine dc_tup (K := K) (a := p) (xs := xs) (g := gName 3) (vs := [3]) (σ := [some (.ref x), some (.ref p), some .non, none]) (tt := tYes) (tk := tFld K (tVar 3) "name") (tv := tFld K (tVar 3) "bases") (fun i Hi => Same H9 Hi ∧ ∃ kvs, Hi D3 = some (.dK kvs) ∧ Paired (fun (kv : Key × V) (b : Str × List Str) => kv.1 = .inr b.1 ∧ ∃ a, kv.2 = .ref a ∧ SqT K H0 a (b.2.map V.str)) kvs ((cs.map fun k => (k.name, k.bases)).take i)) ⟨new_same hD3, [], upd_same, .nil⟩ (fun i Hi _ h => SqT.same (s9'.trans h.1) hp) ?_ ?_
  · rintro i y Hi hy ⟨si, kvs, gD, pk⟩
    obtain ⟨kd', ek, od⟩ := item i y hy
    obtain ⟨a, ax, fs, vb, vf, vm, vw, ys, rfl, KA⟩ := kO_get od
    have hi := (List.getElem?_eq_some_iff.mp hy).1
    have ga := (s9'.trans si) _ _ KA.ins
    have hkl : kvs.length = i := by
      rw [Paired.length pk, List.length_take, List.length_map]
      omega
    refine ⟨rfl, yes_of ⟨_, rfl, a, C 2, ax, fs, _, rfl, ga, M.X.cls 2 (by decide), M.X.no 2 (by decide) _ (by decide), KA.nm, _, rfl, a, C 2, ax, fs, _, rfl, ga, M.X.cls 2 (by decide), M.X.no 2 (by decide) _ (by decide), KA.b, kvs, .inr kd'.name, rfl, gD, le_sz' (by omega), same_D hD3 si, _, upd_same, ?_⟩⟩
    rw [putK_new, take_snoc (bget i kd' ek)]
    · exact paired_snoc pk ⟨rfl, vb, rfl, KA.sb⟩
    · intro kv hkv z
      obtain ⟨j, hj, ej⟩ := List.getElem_of_mem hkv
      obtain ⟨m, em, e3, _⟩ := paired_get pk (show kvs[j]? = some kv by rw [List.getElem?_eq_getElem hj, ej])
      rw [e3] at z
      have z : m.1 = kd'.name := by injection z
      rw [List.getElem?_take, if_pos (by omega), List.getElem?_map] at em
      obtain ⟨k', ek', rfl⟩ := Option.map_eq_some_iff.mp em
      have hi2 := (List.getElem?_eq_some_iff.mp ek).1
      have := List.pairwise_iff_getElem.mp fine.nm.nd j i (by rw [List.length_map]; omega) (by rw [List.length_map]; omega) (by omega)
      refine this ?_
      rw [List.getElem_map, List.getElem_map, (List.getElem?_eq_some_iff.mp ek').2, (List.getElem?_eq_some_iff.mp ek).2]
      exact z
  rintro H10 ⟨s10, kvs, gD10, pk⟩
  rw [List.take_of_length_le (by rw [List.length_map]; omega)] at pk
  have s10' := s9'.trans s10
  refine ⟨D3, _, kvs, o, rk, rfl, gD10, L2.Paired.mapP pk fun _ _ ⟨e, a, e2, z⟩ => ⟨e, a, e2, SqT.same s10' z⟩, fine.b2, fine.od, fine.rk, fun H11 O ns' hO hin hO0 s11 => ?_⟩
  have gx11 := s11 _ _ (s10 _ _ (s9 _ _ g8))
  have gN11 := s11 _ _ (s10 _ _ (s9 _ _ gN8))
  have gD11 := s11 _ _ (s10 _ _ (s9 _ _ gD8))
  refine ⟨_, rfl, x, CL, dx, _, rfl, gx11, M.cls, M.no _ (by simp), Nat.le_of_ble_eq_true rfl, ?_⟩
  have s12 : Same H0 (upd H11 x (.ins CL dx (putF "_orders" (.ref O) [("classes", .ref p), ("names", .ref N), ("_table", .ref D2)]))) := same_upd x0 (s10'.trans s11)
  have g12 : (upd H11 x (.ins CL dx (putF "_orders" (.ref O) [("classes", .ref p), ("names", .ref N), ("_table", .ref D2)]))) x = some (.ins CL dx [("classes", .ref p), ("names", .ref N), ("_table", .ref D2), ("_orders", .ref O)]) := upd_same
  have gN12 : (upd H11 x (.ins CL dx (putF "_orders" (.ref O) [("classes", .ref p), ("names", .ref N), ("_table", .ref D2)]))) N = some (.tup (ns.map V.str)) := (upd_ne nNx).trans gN11
  have gD12 : (upd H11 x (.ins CL dx (putF "_orders" (.ref O) [("classes", .ref p), ("names", .ref N), ("_table", .ref D2)]))) D2 = some (.dK ((cs.zip xs).map fun kv => (.inr kv.1.name, kv.2))) := (upd_ne nDx).trans gD11
  have hO12 := hO.updI (u := .ins CL dx (putF "_orders" (.ref O) [("classes", .ref p), ("names", .ref N), ("_table", .ref D2)])) gx11
  obtain ⟨H12, e12⟩ : ∃ G, upd H11 x (.ins CL dx (putF "_orders" (.ref O) [("classes", .ref p), ("names", .ref N), ("_table", .ref D2)])) = G := ⟨_, rfl⟩
  rw [e12] at s12 g12 gN12 gD12 hO12 ⊢
  have lib12 : LibO K C f CL H12 x cs ns o :=
    ⟨dx, _, N, D2, xs, O, ns', ⟨g12, rfl, SqT.of gN12, rfl, gD12, OhAll.sm s12 ho, mem, fun y hy => by
      simp only [List.mem_cons, List.not_mem_nil, or_false, not_or] at hy
      obtain ⟨h1, h2, h3, h4⟩ := hy
      rw [lk_ne h1, lk_ne h2, lk_ne h3, lk_ne h4]
      rfl⟩, rfl, hO12, fun n hn => hin n (by
      obtain ⟨k, hk, rfl⟩ := List.mem_map.mp hn
      unfold look
      rw [Option.isSome_map, List.find?_isSome]
      exact ⟨_, List.mem_map.mpr ⟨k, hk, rfl⟩, by simp⟩)⟩
  have nsok : Ns cs ns := ⟨mem, fun n hn => by
    obtain ⟨k, hk, rfl⟩ := List.mem_map.mp ((mem n).mp hn)
    exact (fine.nm.nm k hk).2⟩
  refine ⟨_, rfl, x, cs, ns, o, rfl, lib12, fine.ok, ?_⟩
  refine ⟨_, rfl, .inl ⟨rfl, ?_⟩⟩
  refine ⟨_, rfl, x, cs, ns, o, rfl, lib12, fine.ok, fine.fc, nsok, fun hnone H13 s13 => ?_, fun n hn p' H13 s13 g13 => ?_⟩
  · refine ⟨_, rfl, .inl ⟨rfl, ?_⟩⟩
    refine ⟨_, rfl, x, cs, ns, o, rfl, lib12.same s13, fine.ok, fine.fm, nsok, fun H14 s14 => ?_⟩
    refine ⟨_, rfl, .inl ⟨rfl, ?_⟩⟩
    have s14' := s13.trans s14
    refine ⟨_, rfl, x, cs, ns, o, rfl, lib12.same s14', fine.ok, nsok, fun hall H15 s15 => ?_, fun i n ys m h1 h2 h3 h4 h5 h6 p' t H15 s15 gt gp => ?_⟩
    · refine ⟨_, rfl, .inl ⟨rfl, ?_⟩⟩
      refine ⟨_, rfl, x, cs, ns, rfl, (lib12.same (s14'.trans s15)).a, fine.bo, mem, fun H16 s16 => ?_⟩
      exact ⟨_, rfl, .inl ⟨rfl, hq.1 hnone hall H16 (s12.trans ((s14'.trans s15).trans s16))⟩⟩
    · exact ⟨_, rfl, .inr ⟨p', _, _, rfl, SqT.of gp, fun d H' sd gd => hq.2.2 hnone i n ys m h1 h2 h3 h4 h5 h6 d t H' (s12.trans ((s14'.trans s15).trans sd)) (sd _ _ gt) gd⟩⟩
  · exact ⟨_, rfl, .inr ⟨p', _, _, rfl, SqT.of g13, fun d H' sd gd => hq.2.1 n hn d H' (s12.trans (s13.trans sd)) gd⟩⟩
def spLiR (K : PySem.W.Frag) (C f : Nat → Addr) (CL CB : Addr) : Sp := fun vs H Q E => ∃ ws rest, vs = ws ++ rest ∧ ws.length = ([("self" : PySem.Str)] : List PySem.Str).length ∧ rest.length ≤ sizeLine ∧ ∀ p, H p = Option.none → spLi K C f CL CB (ws ++ [V.ref p]) (upd H p (.tup rest)) Q E
theorem fnR_li {fi : Addr} {fd : FuncData} (F : Fun K "__init__" "Library.__init__" sLi fi fd) (L : LiF K w mg C f CL) (W : BadL K mg B CB fB fdB) : FnR P w K mg base (L2N.CX P w) 37 fi (spLiR K C f CL CB) := by
  obtain ⟨oc, od, kV, doc, pm, an, cdv, ct, osl, rfl, lk, hcd⟩ := F.ex
  refine fn_star (sp := fun vs H Q E => spLi K C f CL CB vs H Q E) lk hcd scLi cxUpN (bind_star1 (B := fun xs => bindArgs (PySem.W.fnOf "__init__" "Library.__init__" (defArgs sLi) (defBody sLi) (defScope sLi) .none kV doc pm an cdv ct) ⟨xs, []⟩) (p1 := "self") (pv := "classes") (fun a => by rfl) (fun a r rs => by rfl)) (fun A outer s H vs Q E hr h => ?_)
  exact body_li L W cdv A outer s H vs Q E hr h
end

end Kx
set_option linter.all false
namespace Kx
open PySem L2 PySem.Spec PyProof.Rows
abbrev sLMe : Stmt := top 129
abbrev nLMe : List Str := ["_law_well_here", "_law_name", "_law_some"]
theorem scLMe : FnScope nLMe ["_law_well_here", "_law_name"] (defScope sLMe) := ⟨rfl, rfl, rfl, by decide +kernel, rfl, by decide +kernel, by decide +kernel⟩
structure MethMk (K : PySem.W.Frag) (mg : Str → Option Value) (C fM : Addr) (fdM : FuncData) : Prop where
  M : Mk K C fM
  F : FunM K fM fdM
  g : mg "Method" = some (.ref C)
structure ClsMk (K : PySem.W.Frag) (mg : Str → Option Value) (C fC e0 e1 e2 : Addr) (fdC : FuncData) : Prop where
  M : Mk K C fC
  F : FunC K e0 e1 e2 fC fdC
  g : mg "ClassDef" = some (.ref C)
/-! the law's own defs: a method with drawn parameters and result -/
abbrev pS : List (List (Str × Str)) := [[], [("x", "int")], [("x", "int")], [("y", "int")], [("x", "a")], [("x", "int"), ("y", "int")]]
abbrev rS : List Str := ["int", "int", "int", "a"]
abbrev mdO (nm : Str) (ps : List (Str × Str)) (r : Str) : MD := ⟨nm, ps, r, ([], []), ([], []), .tup [.fl (.str "halt")]⟩
def spLMe (K : PySem.W.Frag) (C f : Nat → Addr) : Sp := fun vs H Q _ => ∃ (p : Addr) (n : Int) (nm : Str), vs = [.ref p, .str nm] ∧ WellAt H p n ∧ n + 1 ≤ 1000000 ∧ ∀ ps r v H', ps ∈ pS → r ∈ rS → Oh K (clk C f) H' (mO (mdO nm ps r)) v → KeepB p H H' → WellAt H' p (n + 2) → Q v H'
theorem okx_pairs {S : Nat → List OD → Prop} {cl : Nat → OCls} : ∀ (l : List (Str × Str)), okAll S (l.map pairO) ∧ noLs (l.map pairO) ∧ needAll cl (l.map pairO) ≤ 2
  | [] => ⟨trivial, trivial, Nat.zero_le _⟩
  | p :: l => let ⟨a, b, d⟩ := okx_pairs (S := S) (cl := cl) l; ⟨⟨⟨trivial, trivial, trivial⟩, a⟩, ⟨⟨trivial, trivial, trivial⟩, b⟩, Nat.max_le.mpr ⟨Nat.le_of_ble_eq_true rfl, d⟩⟩
section
variable {P : Program} {w : World} {K : PySem.W.Frag} {mg : Str → Option Value} {base : Heap} {C f : Nat → Addr} {fI fM : Addr} {fdI fdM : FuncData}
theorem ok_lme {g : Addr} {fd : FuncData} (F : Fs K mg "_law_method" sLMe ["_law_well_here", "_law_name"] g fd) (T : Txt K mg C f) (N : NeC C) (M : CondMk K mg (C 0) fI fdI) (MX : MethMk K mg (C 1) fM fdM) (D : Drw K mg) : FnOk P w K mg base CX0 10 g fd ["_law_well_here", "_law_name"] (spLMe K C f) := by
  obtain ⟨_, _, dD⟩ := D.draw
  obtain ⟨_, _, dO⟩ := D.one
  obtain ⟨_, kM1⟩ := kb_m1 MX.F
  have GO : FnOk P w K mg base CX0 2 _ _ ["_law_well_here", "_law_some"] (spOne K) := ok_one dO.F D.T dD.F dD.b dD.m
  have GM : FnOk P w K mg base CX0 8 fM fdM pM (spIn K (clk C f) 1 4 6 (S0 (clk C f)) [3, 4]) := ok_inM MX.F T N M
  refine F.F.ok scLMe (fun vs H Q E h => ?_) (fun cdv A outer s H vs Q E hr h => ?_)
  · obtain ⟨_, _, _, rfl, _⟩ := h
    rfl
  · obtain ⟨p, n, nm, rfl, W, hn, q⟩ := h
    have hrO : Room 2 (A.deeper (envOfC "_law_method" (defScope sLMe) s.heap.objs.size g cdv)) := hr.mono (by decide)
    have hr9 : Room 9 (A.deeper (envOfC "_law_method" (defScope sLMe) s.heap.objs.size g cdv)) := hr.mono (by decide)
    refine ⟨_, (pss_cons (ps_set (i := 2) scLMe.nd rfl (Or.inl rfl) (pe_lst (pa_cons (pe_tup pa_nil) (pa_cons (pe_tup (pa_cons (pe_tup (pa_cons pe_str (pa_cons pe_str pa_nil))) pa_nil)) (pa_cons (pe_tup (pa_cons (pe_tup (pa_cons pe_str (pa_cons pe_str pa_nil))) pa_nil)) (pa_cons (pe_tup (pa_cons (pe_tup (pa_cons pe_str (pa_cons pe_str pa_nil))) pa_nil)) (pa_cons (pe_tup (pa_cons (pe_tup (pa_cons pe_str (pa_cons pe_str pa_nil))) pa_nil)) (pa_cons (pe_tup (pa_cons (pe_tup (pa_cons pe_str (pa_cons pe_str pa_nil))) (pa_cons (pe_tup (pa_cons pe_str (pa_cons pe_str pa_nil))) pa_nil))) pa_nil)))))))) (pss_one (ps_ret (pe_makeK (n := 3) MX.M GM hr9 (by rfl) MX.g kM1 pass0 (pa_cons (pv 1) (pa_cons (pe_call GO hrO (by rfl) dO.m dO.F.kp dO.b .nil pass0 (pa_cons (pv 0) (pa_cons (pv 2) pa_nil))) (pa_cons (pe_call GO hrO (by rfl) dO.m dO.F.kp dO.b .nil pass0 (pa_cons (pv 0) (pa_cons (pe_lst (pa_cons pe_str (pa_cons pe_str (pa_cons pe_str (pa_cons pe_str pa_nil))))) pa_nil))) pa_nil))) (pk_cons (pe_tup (pa_cons pe_str pa_nil)) pk_nil))))), ?_⟩
    refine ⟨le_sz (Nat.le_of_ble_eq_true rfl), fun p1 hp1 => ?_⟩
    obtain ⟨o1, s1⟩ := tup_new (K := K) (cl := clk C f) (xs := []) (ds := []) hp1 oh_nil
    obtain ⟨J1, e1⟩ : ∃ G, upd H p1 (.tup []) = G := ⟨_, rfl⟩
    rw [e1] at o1 s1 ⊢
    have t1 := s1
    refine ⟨le_sz (Nat.le_of_ble_eq_true rfl), fun p2 hp2 => ?_⟩
    obtain ⟨o2, s2⟩ := tup_new (K := K) (cl := clk C f) (xs := [.str "x", .str "int"]) (ds := [.fl (.str "x"), .fl (.str "int")]) hp2 (oh_cons (oh_str _) (oh_cons (oh_str _) oh_nil))
    obtain ⟨J2, e2⟩ : ∃ G, upd J1 p2 (.tup [.str "x", .str "int"]) = G := ⟨_, rfl⟩
    rw [e2] at o2 s2 ⊢
    replace o1 := Oh.sm s2 o1
    have t2 := t1.trans s2
    refine ⟨le_sz (Nat.le_of_ble_eq_true rfl), fun p3 hp3 => ?_⟩
    obtain ⟨o3, s3⟩ := tup_new (K := K) (cl := clk C f) (xs := [.ref p2]) (ds := [.tup [.fl (.str "x"), .fl (.str "int")]]) hp3 (oh_cons o2 oh_nil)
    obtain ⟨J3, e3⟩ : ∃ G, upd J2 p3 (.tup [.ref p2]) = G := ⟨_, rfl⟩
    rw [e3] at o3 s3 ⊢
    replace o1 := Oh.sm s3 o1
    replace o2 := Oh.sm s3 o2
    have t3 := t2.trans s3
    refine ⟨le_sz (Nat.le_of_ble_eq_true rfl), fun p4 hp4 => ?_⟩
    obtain ⟨o4, s4⟩ := tup_new (K := K) (cl := clk C f) (xs := [.str "x", .str "int"]) (ds := [.fl (.str "x"), .fl (.str "int")]) hp4 (oh_cons (oh_str _) (oh_cons (oh_str _) oh_nil))
    obtain ⟨J4, e4⟩ : ∃ G, upd J3 p4 (.tup [.str "x", .str "int"]) = G := ⟨_, rfl⟩
    rw [e4] at o4 s4 ⊢
    replace o1 := Oh.sm s4 o1
    replace o3 := Oh.sm s4 o3
    have t4 := t3.trans s4
    refine ⟨le_sz (Nat.le_of_ble_eq_true rfl), fun p5 hp5 => ?_⟩
    obtain ⟨o5, s5⟩ := tup_new (K := K) (cl := clk C f) (xs := [.ref p4]) (ds := [.tup [.fl (.str "x"), .fl (.str "int")]]) hp5 (oh_cons o4 oh_nil)
    obtain ⟨J5, e5⟩ : ∃ G, upd J4 p5 (.tup [.ref p4]) = G := ⟨_, rfl⟩
    rw [e5] at o5 s5 ⊢
    replace o1 := Oh.sm s5 o1
    replace o3 := Oh.sm s5 o3
    replace o4 := Oh.sm s5 o4
    have t5 := t4.trans s5
    refine ⟨le_sz (Nat.le_of_ble_eq_true rfl), fun p6 hp6 => ?_⟩
    obtain ⟨o6, s6⟩ := tup_new (K := K) (cl := clk C f) (xs := [.str "y", .str "int"]) (ds := [.fl (.str "y"), .fl (.str "int")]) hp6 (oh_cons (oh_str _) (oh_cons (oh_str _) oh_nil))
    obtain ⟨J6, e6⟩ : ∃ G, upd J5 p6 (.tup [.str "y", .str "int"]) = G := ⟨_, rfl⟩
    rw [e6] at o6 s6 ⊢
    replace o1 := Oh.sm s6 o1
    replace o3 := Oh.sm s6 o3
    replace o5 := Oh.sm s6 o5
    have t6 := t5.trans s6
    refine ⟨le_sz (Nat.le_of_ble_eq_true rfl), fun p7 hp7 => ?_⟩
    obtain ⟨o7, s7⟩ := tup_new (K := K) (cl := clk C f) (xs := [.ref p6]) (ds := [.tup [.fl (.str "y"), .fl (.str "int")]]) hp7 (oh_cons o6 oh_nil)
    obtain ⟨J7, e7⟩ : ∃ G, upd J6 p7 (.tup [.ref p6]) = G := ⟨_, rfl⟩
    rw [e7] at o7 s7 ⊢
    replace o1 := Oh.sm s7 o1
    replace o3 := Oh.sm s7 o3
    replace o5 := Oh.sm s7 o5
    replace o6 := Oh.sm s7 o6
    have t7 := t6.trans s7
    refine ⟨le_sz (Nat.le_of_ble_eq_true rfl), fun p8 hp8 => ?_⟩
    obtain ⟨o8, s8⟩ := tup_new (K := K) (cl := clk C f) (xs := [.str "x", .str "a"]) (ds := [.fl (.str "x"), .fl (.str "a")]) hp8 (oh_cons (oh_str _) (oh_cons (oh_str _) oh_nil))
    obtain ⟨J8, e8⟩ : ∃ G, upd J7 p8 (.tup [.str "x", .str "a"]) = G := ⟨_, rfl⟩
    rw [e8] at o8 s8 ⊢
    replace o1 := Oh.sm s8 o1
    replace o3 := Oh.sm s8 o3
    replace o5 := Oh.sm s8 o5
    replace o7 := Oh.sm s8 o7
    have t8 := t7.trans s8
    refine ⟨le_sz (Nat.le_of_ble_eq_true rfl), fun p9 hp9 => ?_⟩
    obtain ⟨o9, s9⟩ := tup_new (K := K) (cl := clk C f) (xs := [.ref p8]) (ds := [.tup [.fl (.str "x"), .fl (.str "a")]]) hp9 (oh_cons o8 oh_nil)
    obtain ⟨J9, e9⟩ : ∃ G, upd J8 p9 (.tup [.ref p8]) = G := ⟨_, rfl⟩
    rw [e9] at o9 s9 ⊢
    replace o1 := Oh.sm s9 o1
    replace o3 := Oh.sm s9 o3
    replace o5 := Oh.sm s9 o5
    replace o7 := Oh.sm s9 o7
    replace o8 := Oh.sm s9 o8
    have t9 := t8.trans s9
    refine ⟨le_sz (Nat.le_of_ble_eq_true rfl), fun p10 hp10 => ?_⟩
    obtain ⟨o10, s10⟩ := tup_new (K := K) (cl := clk C f) (xs := [.str "x", .str "int"]) (ds := [.fl (.str "x"), .fl (.str "int")]) hp10 (oh_cons (oh_str _) (oh_cons (oh_str _) oh_nil))
    obtain ⟨J10, e10⟩ : ∃ G, upd J9 p10 (.tup [.str "x", .str "int"]) = G := ⟨_, rfl⟩
    rw [e10] at o10 s10 ⊢
    replace o1 := Oh.sm s10 o1
    replace o3 := Oh.sm s10 o3
    replace o5 := Oh.sm s10 o5
    replace o7 := Oh.sm s10 o7
    replace o9 := Oh.sm s10 o9
    have t10 := t9.trans s10
    refine ⟨le_sz (Nat.le_of_ble_eq_true rfl), fun p11 hp11 => ?_⟩
    obtain ⟨o11, s11⟩ := tup_new (K := K) (cl := clk C f) (xs := [.str "y", .str "int"]) (ds := [.fl (.str "y"), .fl (.str "int")]) hp11 (oh_cons (oh_str _) (oh_cons (oh_str _) oh_nil))
    obtain ⟨J11, e11⟩ : ∃ G, upd J10 p11 (.tup [.str "y", .str "int"]) = G := ⟨_, rfl⟩
    rw [e11] at o11 s11 ⊢
    replace o1 := Oh.sm s11 o1
    replace o3 := Oh.sm s11 o3
    replace o5 := Oh.sm s11 o5
    replace o7 := Oh.sm s11 o7
    replace o9 := Oh.sm s11 o9
    replace o10 := Oh.sm s11 o10
    have t11 := t10.trans s11
    refine ⟨le_sz (Nat.le_of_ble_eq_true rfl), fun p12 hp12 => ?_⟩
    obtain ⟨o12, s12⟩ := tup_new (K := K) (cl := clk C f) (xs := [.ref p10, .ref p11]) (ds := [.tup [.fl (.str "x"), .fl (.str "int")], .tup [.fl (.str "y"), .fl (.str "int")]]) hp12 (oh_cons o10 (oh_cons o11 oh_nil))
    obtain ⟨J12, e12⟩ : ∃ G, upd J11 p12 (.tup [.ref p10, .ref p11]) = G := ⟨_, rfl⟩
    rw [e12] at o12 s12 ⊢
    replace o1 := Oh.sm s12 o1
    replace o3 := Oh.sm s12 o3
    replace o5 := Oh.sm s12 o5
    replace o7 := Oh.sm s12 o7
    replace o9 := Oh.sm s12 o9
    replace o10 := Oh.sm s12 o10
    replace o11 := Oh.sm s12 o11
    have t12 := t11.trans s12
    refine ⟨le_sz (Nat.le_of_ble_eq_true rfl), fun L hL => ?_⟩
    have oall := (oh_cons o1 (oh_cons o3 (oh_cons o5 (oh_cons o7 (oh_cons o9 (oh_cons o12 oh_nil))))))
    refine ⟨_, rfl, _, rfl, _, rfl, ?_⟩
    dsimp only [tNil, List.append_nil]
    refine one_od (W.same t12) (by omega) hL oall ((noLs_of fun d hd => ?_)) (Nat.le_of_ble_eq_true rfl) (Nat.le_of_ble_eq_true rfl) fun d v1 H1 hd nd od k1 W1 => ?_
    · simp only [List.mem_cons, List.not_mem_nil, or_false] at hd
      rcases hd with rfl | rfl | rfl | rfl | rfl | rfl <;> simp [noL, noLs]
    obtain ⟨ps, hps, rfl⟩ : ∃ ps, ps ∈ pS ∧ d = .tup (ps.map pairO) := by
      simp only [List.mem_cons, List.not_mem_nil, or_false] at hd
      rcases hd with rfl | rfl | rfl | rfl | rfl | rfl
      · exact ⟨[], by simp, rfl⟩
      · exact ⟨[("x", "int")], by simp, rfl⟩
      · exact ⟨[("x", "int")], by simp, rfl⟩
      · exact ⟨[("y", "int")], by simp, rfl⟩
      · exact ⟨[("x", "a")], by simp, rfl⟩
      · exact ⟨[("x", "int"), ("y", "int")], by simp, rfl⟩
    have odT := od
    obtain ⟨tp, ys, rfl, hsq, hps2⟩ := od
    obtain ⟨ms1, hp1'⟩ := W1.lst
    refine ⟨_, rfl, le_sz (Nat.le_of_ble_eq_true rfl), fun L2 hL2 => ?_⟩
    dsimp only [tNil, List.append_nil]
    have hsq2 : OhAll K (clk C f) H1 (rS.map fun t => .fl (.str t)) (rS.map V.str) := strs_od
    refine one_od W1 (by omega) hL2 hsq2 (by simp [noLs, noL]) (Nat.le_of_ble_eq_true rfl) (Nat.le_of_ble_eq_true rfl) fun d2 v2 H2 hd2 nd2 od2 k2 W2 => ?_
    obtain ⟨r, hr2, rfl⟩ := List.mem_map.mp hd2
    obtain ⟨rfl, _⟩ := od2
    refine ⟨le_sz (Nat.le_of_ble_eq_true rfl), fun b hb => ?_⟩
    obtain ⟨ob, sb⟩ := tup_new (K := K) (cl := clk C f) (xs := [.str "halt"]) (ds := [.fl (.str "halt")]) hb (oh_cons (oh_str _) oh_nil)
    obtain ⟨H3, e3⟩ : ∃ G, upd H2 b (.tup [.str "halt"]) = G := ⟨_, rfl⟩
    rw [e3] at ob sb ⊢
    refine ⟨rfl, rfl, fun x dx nx nd' ne => ?_⟩
    have odT2 := Oh.sm sb (Oh.keepB hp1' k2 _ _ nd odT)
    have nx1 : (upd H3 dx (.own x)) x = none := (upd_ne ne.symm).trans nx
    have s4 : Same H3 (upd (upd H3 dx (.own x)) x (.ins (C 1) dx [])) := (new_same nd').trans (new_same nx1)
    have all : OhAll K (clk C f) (upd (upd H3 dx (.own x)) x (.ins (C 1) dx [])) [.fl (.str nm), .tup (ps.map pairO), .fl (.str r), .fl .non, .fl .non, .tup [.fl (.str "halt")]] [.str nm, .ref tp, .str r, .non, .non, .ref b] :=
      oh_cons (oh_str _) (oh_cons (Oh.sm s4 odT2) (oh_cons (oh_str _) (oh_cons oh_non (oh_cons oh_non (oh_cons (Oh.sm s4 ob) oh_nil)))))
    refine ⟨x, dx, _, _, rfl, upd_same, all, ⟨rfl, fun d hd => ?_⟩, fun H' kb o' => ⟨rfl, ?_⟩⟩
    · obtain ⟨a1, a2, a3⟩ := okx_pairs (S := S0 (clk C f)) (cl := clk C f) ps
      simp only [List.mem_cons, List.not_mem_nil, or_false] at hd
      rcases hd with rfl | rfl | rfl | rfl | rfl | rfl
      · exact ⟨trivial, trivial, Nat.zero_le _⟩
      · exact ⟨a1, a2, Nat.succ_le_succ (Nat.le_trans a3 (by decide))⟩
      · exact ⟨trivial, trivial, Nat.zero_le _⟩
      · exact ⟨trivial, trivial, Nat.zero_le _⟩
      · exact ⟨trivial, trivial, Nat.zero_le _⟩
      · exact ⟨⟨trivial, trivial⟩, ⟨trivial, trivial⟩, Nat.le_of_ble_eq_true rfl⟩
    · have sF := same_make nx nd' kb
      have e2 : n + 1 + 1 = n + 2 := by omega
      rw [e2] at W2
      exact q ps r _ H' hps hr2 o' ((((KeepB.of t12).trans k1).trans k2).trans (KeepB.of (sb.trans sF))) (W2.same (sb.trans sF))
end

end Kx
set_option linter.all false
namespace Kx
open PySem L2 PySem.Spec PyProof.Rows
abbrev sLCl : Stmt := top 130
abbrev nLCl : List Str := ["_law_well_here", "_law_name", "_law_bases", "_law_names", "_law_deeds", "_law_rooms", "_law_one_here"]
theorem scLCl : FnScope nLCl ["_law_well_here", "_law_name", "_law_bases", "_law_names"] (defScope sLCl) := ⟨rfl, rfl, rfl, by decide +kernel, rfl, by decide +kernel, by decide +kernel⟩
/-! the law's own defs: a class with drawn methods and fields -/
theorem partx {cl : Nat → OCls} {S : Nat → List OD → Prop} {n : Nat} : ∀ {ds : List OD}, (∀ d ∈ ds, okO S d ∧ noL d ∧ need cl d ≤ n) → okAll S ds ∧ noLs ds ∧ needAll cl ds ≤ n
  | [], _ => ⟨trivial, trivial, Nat.zero_le _⟩
  | d :: ds, h => let ⟨a, b, c⟩ := h d List.mem_cons_self; let ⟨e, f, g⟩ := partx fun x hx => h x (List.mem_cons_of_mem _ hx); ⟨⟨a, e⟩, ⟨b, f⟩, Nat.max_le.mpr ⟨c, g⟩⟩
theorem shpM {C f : Nat → Addr} (nm : Str) (ps : List (Str × Str)) (r : Str) : Shp (clk C f) (S0 (clk C f)) 4 6 [.fl (.str nm), .tup (ps.map pairO), .fl (.str r), cO [] [], cO [] [], .tup [.fl (.str "halt")]] := by
  refine ⟨rfl, fun d hd => ?_⟩
  obtain ⟨a1, a2, a3⟩ := okx_pairs (S := S0 (clk C f)) (cl := clk C f) ps
  obtain ⟨c1, c2⟩ := ok_cO (cl := clk C f) [] []
  simp only [List.mem_cons, List.not_mem_nil, or_false] at hd
  rcases hd with rfl | rfl | rfl | rfl | rfl | rfl
  · exact ⟨trivial, trivial, Nat.zero_le _⟩
  · exact ⟨a1, a2, Nat.succ_le_succ (Nat.le_trans a3 (by decide))⟩
  · exact ⟨trivial, trivial, Nat.zero_le _⟩
  · exact ⟨c1, c2, Nat.le_refl _⟩
  · exact ⟨c1, c2, Nat.le_refl _⟩
  · exact ⟨⟨trivial, trivial⟩, ⟨trivial, trivial⟩, Nat.le_of_ble_eq_true rfl⟩
theorem mO_ok {C f : Nat → Addr} (nm : Str) (ps : List (Str × Str)) (r : Str) : okO (S1 (clk C f)) (mO (mdO nm ps r)) ∧ noL (mO (mdO nm ps r)) ∧ need (clk C f) (mO (mdO nm ps r)) ≤ 5 := by
  have h := shpM (C := C) (f := f) nm ps r
  obtain ⟨a, b, _⟩ := partx h.2
  exact ⟨⟨.inr ⟨rfl, h⟩, okAll_mono (fun _ _ z => .inl z) _ a⟩, b, Nat.le_of_ble_eq_true rfl⟩
/-- methods as they are drawn, over names -/
structure Deeds (xs : List Str) (ml : List MD) : Prop where
  sub : (ml.map (·.name)).Sublist xs
  is : ∀ m ∈ ml, ∃ ps ∈ pS, ∃ r ∈ rS, m = mdO m.name ps r
theorem Deeds.ok {C f : Nat → Addr} {xs : List Str} {ml : List MD} (h : Deeds xs ml) : ∀ d ∈ ml.map mO, okO (S1 (clk C f)) d ∧ noL d ∧ need (clk C f) d ≤ 5 := fun d hd => by
  obtain ⟨m, hm, rfl⟩ := List.mem_map.mp hd
  obtain ⟨ps, _, r, _, e⟩ := h.is m hm
  rw [e]
  exact mO_ok _ _ _
abbrev kdO (nm : Str) (bs fl : List Str) (ml : List MD) : KD := ⟨nm, bs, fl, ([], []), ml⟩
def spLCl (K : PySem.W.Frag) (C f : Nat → Addr) : Sp := fun vs H Q _ => ∃ (p tb tl : Addr) (n : Int) (nm : Str) (bs xs : List Str), vs = [.ref p, .str nm, .ref tb, .ref tl] ∧ WellAt H p n ∧ n + 20 ≤ 1000000 ∧ SqT K H tb (bs.map V.str) ∧ H tl = some (.lst (xs.map V.str)) ∧ tl ≠ p ∧ xs.length ≤ 2 ∧ (∀ x ∈ xs, x.length ≤ 10) ∧
  ∀ fl ml v H', fl.Sublist (xs.map fun x => ("f" ++ x : Str)) → Deeds xs ml → Oh K (clk C f) H' (kO (kdO nm bs fl ml)) v → KeepB p H H' → WellAt H' p (n + 8) → Q v H'
theorem keep_upd {p D : Addr} {H H2 : Hp} {o : HO} (hD : H D = none) (k : KeepB p H H2) : KeepB p H (upd H2 D o) := fun b u n e => by
  rw [upd_ne (fun z => by rw [z, hD] at e; cases e)]
  exact k b u n e
theorem well_le {H : Hp} {p : Addr} {n m : Int} (h : WellAt H p n) (l : n ≤ m) : WellAt H p m := let ⟨a, b, c, e, h1, h2, h3, h4⟩ := h; ⟨a, b, c, e, h1, h2, h3, Int.le_trans h4 l⟩
/-- how far the drawing of a class has come -/
structure DS (K : PySem.W.Frag) (C f : Nat → Addr) (p Ld Lr : Addr) (H Hc : Hp) (n : Int) (fl : List Str) (ml : List MD) : Prop where
  k : KeepB p H Hc
  w : WellAt Hc p n
  d : ∃ dv, Hc Ld = some (.lst dv) ∧ OhAll K (clk C f) Hc (ml.map mO) dv
  r : Hc Lr = some (.lst (fl.map V.str))
section
variable {K : PySem.W.Frag} {C f : Nat → Addr} {p Ld Lr : Addr} {H Hc Hd : Hp} {n m : Int} {fl xs : List Str} {ml : List MD}
theorem DS.keep (S : DS K C f p Ld Lr H Hc n fl ml) (hm : Deeds xs ml) (n1 : Ld ≠ p) (n2 : Lr ≠ p) (k : KeepB p Hc Hd) (w : WellAt Hd p m) : DS K C f p Ld Lr H Hd m fl ml := by
  obtain ⟨dv, g, o⟩ := S.d
  obtain ⟨ms, hp⟩ := S.w.lst
  exact ⟨S.k.trans k, w, ⟨dv, k _ _ n1 g, OhAll.keepB hp k _ _ (partx (cl := clk C f) (S := S1 (clk C f)) (n := 5) hm.ok).2.1 o⟩, k _ _ n2 S.r⟩
theorem DS.le (S : DS K C f p Ld Lr H Hc n fl ml) (l : n ≤ m) : DS K C f p Ld Lr H Hc m fl ml := ⟨S.k, well_le S.w l, S.d, S.r⟩
theorem oha_snoc {cl : Nat → OCls} {H : Hp} {d : OD} {v : V} (h : Oh K cl H d v) : ∀ {ds : List OD} {vs : List V}, OhAll K cl H ds vs → OhAll K cl H (ds ++ [d]) (vs ++ [v])
  | [], _, q => by cases q; exact oh_cons h oh_nil
  | _ :: _, _, ⟨u, us, e, a, b⟩ => by subst e; exact oh_cons a (oha_snoc h b)
theorem DS.deed (S : DS K C f p Ld Lr H Hc n fl ml) (hm : Deeds xs ml) (n1 : Ld ≠ p) (n2 : Lr ≠ Ld) (hD : H Ld = none) {mm : MD} {v : V} {dv : List V} (g : Hc Ld = some (.lst dv)) (o : Oh K (clk C f) Hc (mO mm) v) (no : noL (mO mm)) : DS K C f p Ld Lr H (upd Hc Ld (.lst (dv ++ [v]))) n fl (ml ++ [mm]) := by
  obtain ⟨dv', g', oa⟩ := S.d
  rw [g] at g'
  cases g'
  have kD : KeepB Ld Hc (upd Hc Ld (.lst (dv ++ [v]))) := KeepB.at
  refine ⟨keep_upd hD S.k, ?_, ⟨_, upd_same, ?_⟩, (upd_ne n2).trans S.r⟩
  · obtain ⟨a, b, c, e, r⟩ := S.w
    exact ⟨a, b, c, (upd_ne n1.symm).trans e, r⟩
  · rw [List.map_append]
    exact oha_snoc (Oh.keepB g kD _ _ no o) (OhAll.keepB g kD _ _ (partx (cl := clk C f) (S := S1 (clk C f)) (n := 5) hm.ok).2.1 oa)
theorem DS.room (S : DS K C f p Ld Lr H Hc n fl ml) (hm : Deeds xs ml) (n1 : Lr ≠ p) (n2 : Ld ≠ Lr) (hR : H Lr = none) (x : Str) : DS K C f p Ld Lr H (upd Hc Lr (.lst (fl.map V.str ++ [.str x]))) n (fl ++ [x]) ml := by
  obtain ⟨dv, g, oa⟩ := S.d
  have kD : KeepB Lr Hc (upd Hc Lr (.lst (fl.map V.str ++ [.str x]))) := KeepB.at
  refine ⟨keep_upd hR S.k, ?_, ⟨_, (upd_ne n2).trans g, OhAll.keepB S.r kD _ _ (partx (cl := clk C f) (S := S1 (clk C f)) (n := 5) hm.ok).2.1 oa⟩, by rw [upd_same, List.map_append]; rfl⟩
  obtain ⟨a, b, c, e, r⟩ := S.w
  exact ⟨a, b, c, (upd_ne n1.symm).trans e, r⟩
end
section
variable {P : Program} {w : World} {K : PySem.W.Frag} {mg : Str → Option Value} {base : Heap} {C f : Nat → Addr} {fI fM fC e0 e1 e2 : Addr} {fdI fdM fdC : FuncData}
theorem ok_lcl {g : Addr} {fd : FuncData} (F : Fs K mg "_law_class" sLCl ["_law_well_here", "_law_name", "_law_bases", "_law_names"] g fd) (X : Txt K mg C f) (N : NeC C) (M : CondMk K mg (C 0) fI fdI) (MX : MethMk K mg (C 1) fM fdM) (CX : ClsMk K mg (C 2) fC e0 e1 e2 fdC) (D : Drw K mg) (T : Bx mg)
    (dMe : ∃ g fd, Fs K mg "_law_method" sLMe ["_law_well_here", "_law_name"] g fd) : FnOk P w K mg base CX0 11 g fd ["_law_well_here", "_law_name", "_law_bases", "_law_names"] (spLCl K C f) := by
  obtain ⟨_, _, dD⟩ := D.draw
  obtain ⟨_, _, dMe⟩ := dMe
  obtain ⟨_, kC2⟩ := kb_c2 CX.F
  have GD : FnOk P w K mg base CX0 1 _ _ ["_law_well_here", "_law_base"] spDraw := ok_draw dD.F D.T
  have GMe : FnOk P w K mg base CX0 10 _ _ ["_law_well_here", "_law_name"] (spLMe K C f) := ok_lme dMe X N M MX D
  have GC : FnOk P w K mg base CX0 8 fC fdC pC (spIn K (clk C f) 2 6 5 (S1 (clk C f)) [3]) := ok_inC CX.F X N M
  refine F.F.ok scLCl (fun vs H Q E h => ?_) (fun cdv A outer s H vs Q E hr h => ?_)
  · obtain ⟨_, _, _, _, _, _, _, rfl, _⟩ := h
    rfl
  · obtain ⟨p, tb, tl, n, nm, bs, xs, rfl, W, hn, htb, htl, ntp, hx2, hx10, q⟩ := h
    have hrD : Room 1 (A.deeper (envOfC "_law_class" (defScope sLCl) s.heap.objs.size g cdv)) := hr.mono (by decide)
    have hr9 : Room 9 (A.deeper (envOfC "_law_class" (defScope sLCl) s.heap.objs.size g cdv)) := hr.mono (by decide)
    have hrMe := hr
    refine ⟨_, (pss_cons (ps_par (i := 4) (j := 5) rfl scLCl.nd rfl rfl (by decide) rfl rfl (pa_cons (pe_lst pa_nil) (pa_cons (pe_lst pa_nil) pa_nil)) (by rfl)) (pss_cons (ps_for PassesOwn.never rfl (pi_list (pv 3)) (pg_name (i := 6) scLCl.nd rfl (Or.inl rfl)) (pss_cons (ps_if (pt_cmpR op_eq (pe_call GD hrD (by rfl) dD.m dD.F.kp dD.b .nil pass0 (pa_cons (pv 0) (pa_cons pe_int pa_nil))) pe_int (nomark _)) (pss_one (ps_expr (pe_bm PySem.F.plainAttrs_list PySem.F.slot_list_append PySem.F.type_list_append mt_append (pv 4) (pa_cons (pe_call GMe hrMe (by rfl) dMe.m dMe.F.kp dMe.b .nil pass0 (pa_cons (pv 0) (pa_cons (pv 6) pa_nil))) pa_nil)))) pss_nil) (pss_one (ps_if (pt_cmpR op_eq (pe_call GD hrD (by rfl) dD.m dD.F.kp dD.b .nil pass0 (pa_cons (pv 0) (pa_cons pe_int pa_nil))) pe_int (nomark _)) (pss_one (ps_expr (pe_bm PySem.F.plainAttrs_list PySem.F.slot_list_append PySem.F.type_list_append mt_append (pv 5) (pa_cons (pe_op op_add_str pe_str (pv 6)) pa_nil)))) pss_nil)))) (pss_cons (ps_par (i := 4) (j := 5) rfl scLCl.nd rfl rfl (by decide) rfl rfl (pa_cons (pe_tupleOf (by rfl) T.tuple (pv 4)) (pa_cons (pe_tupleOf (by rfl) T.tuple (pv 5)) pa_nil)) (by rfl)) (pss_one (ps_ret (pe_makeK (n := 2) CX.M GC hr9 (by rfl) CX.g kC2 pass0 (pa_cons (pv 1) (pa_cons (pv 2) pa_nil)) (pk_cons (pv 5) (pk_cons (pv 4) pk_nil)))))))), ?_⟩
    refine ⟨le_sz (Nat.le_of_ble_eq_true rfl), fun Ld hLd => ⟨le_sz (Nat.le_of_ble_eq_true rfl), fun Lr hLr => ?_⟩⟩
    have nLp : Ld ≠ p := W.ne hLd
    have s0 : Same H (upd (upd H Ld (.lst [])) Lr (.lst [])) := (new_same hLd).trans (new_same hLr)
    have gLd : (upd (upd H Ld (.lst [])) Lr (.lst [])) Ld = some (.lst []) := (new_same hLr) _ _ upd_same
    have gLr : (upd (upd H Ld (.lst [])) Lr (.lst [])) Lr = some (.lst []) := upd_same
    have nLL : Ld ≠ Lr := fun z => by rw [z] at hLd; rw [z, upd_same] at hLr; cases hLr
    have hLr0 : H Lr = none := Same.free (new_same hLd) hLr
    have nRp : Lr ≠ p := W.ne hLr0
    obtain ⟨H1, eH1⟩ : ∃ G, upd (upd H Ld (.lst [])) Lr (.lst []) = G := ⟨_, rfl⟩
    rw [eH1] at s0 gLd gLr ⊢
    refine ⟨_, _, rfl, ?_⟩
    refine ⟨_, rfl, tl, rfl, ⟨_, SqL.of (s0 _ _ htl)⟩, for_list (K := K) (a := tl) (xs := xs.map V.str) (fun i σ H2 => (∃ v6, σ = [some (.ref p), some (.str nm), some (.ref tb), some (.ref tl), some (.ref Ld), some (.ref Lr), v6]) ∧ 
      ∃ fl ml, fl.Sublist ((xs.take i).map fun x => ("f" ++ x : Str)) ∧ Deeds (xs.take i) ml ∧ DS K C f p Ld Lr H H2 (n + 4 * i) fl ml) ⟨⟨none, rfl⟩, [], [], List.Sublist.refl _, ⟨List.Sublist.refl _, fun _ z => nomatch z⟩, ⟨KeepB.of s0, by simpa using W.same s0, ⟨_, gLd, oh_nil⟩, gLr⟩⟩ (fun i σ H2 _ ⟨_, _, _, _, _, S⟩ => SqL.of (S.k _ _ ntp htl)) ?_ ?_⟩
    · rintro i y σ H2 hi ⟨⟨v6, rfl⟩, fl, ml, hfl, hml, S⟩
      obtain ⟨rfl, hm⟩ := get_str hi
      have hi2 : i < xs.length := by
        have := (List.getElem?_eq_some_iff.mp hi).1
        rwa [List.length_map] at this
      have ex : xs[i]? = some (xs.getD i "") := by simp only [List.getD, List.getElem?_eq_getElem hi2, Option.getD_some]
      obtain ⟨x, hx⟩ : ∃ x, xs.getD i "" = x := ⟨_, rfl⟩
      rw [hx] at ex hm ⊢
      have tkx := take_snoc ex
      refine ⟨_, rfl, p, 2, _, rfl, S.w, by omega, by decide, by decide, fun r zs r0 r2 W3 => ?_⟩
      have S3 := S.keep hml nLp nRp KeepB.at W3
      refine ⟨rfl, _, rfl, ?_⟩
      obtain ⟨H3, e3⟩ : ∃ G, upd H2 p (.lst zs) = G := ⟨_, rfl⟩
      rw [e3] at S3 ⊢
      by_cases hr : V.int r = V.int 0
      · rw [decide_eq_true hr]
        refine iteT ?_
        obtain ⟨dv, g3, o3⟩ := S3.d
        refine ⟨_, rfl, .inl ⟨rfl, _, SqL.of g3⟩, ?_⟩
        refine ⟨_, rfl, _, rfl, p, _, x, rfl, S3.w, by omega, fun ps r1 v H4 hps hr1 om k4 W4 => ?_⟩
        have S4 := S3.keep hml nLp nRp k4 W4
        obtain ⟨dv4, g4, o4⟩ := S4.d
        refine ⟨Ld, dv4, v, rfl, rfl, g4, ?_, ?_⟩
        · have l1 := OhAll.length _ _ o4
          have l2 := hml.sub.length_le
          rw [List.length_map] at l1 l2
          rw [List.length_take] at l2
          exact Nat.lt_of_le_of_lt (show dv4.length ≤ 2 by omega) (Nat.lt_of_lt_of_le (by decide : 2 < 100) (le_sz (Nat.le_refl _)))
        have S5 := S4.deed hml nLp nLL.symm hLd g4 om (mO_ok (C := C) (f := f) _ _ _).2.1
        have hml5 : Deeds (xs.take (i + 1)) (ml ++ [mdO x ps r1]) := ⟨by rw [tkx, List.map_append]; exact hml.sub.append (List.Sublist.refl _), fun m hm => by
          rcases List.mem_append.mp hm with h | h
          · exact hml.is m h
          · rw [List.mem_singleton.mp h]
            exact ⟨ps, hps, r1, hr1, rfl⟩⟩
        obtain ⟨H5, e5⟩ : ∃ G, upd H4 Ld (.lst (dv4 ++ [v])) = G := ⟨_, rfl⟩
        rw [e5] at S5 ⊢
        refine ⟨_, rfl, p, 3, _, rfl, S5.w, by omega, by decide, by decide, fun r' zs' r0' r3' W6 => ?_⟩
        have S6 := S5.keep hml5 nLp nRp KeepB.at W6
        obtain ⟨H6, e6⟩ : ∃ G, upd H5 p (.lst zs') = G := ⟨_, rfl⟩
        rw [e6] at S6 ⊢
        refine ⟨rfl, _, rfl, ?_⟩
        by_cases hr' : V.int r' = V.int 0
        · rw [decide_eq_true hr']
          refine iteT ?_
          have fl2 : fl.length ≤ 2 := Nat.le_trans hfl.length_le (by rw [List.length_map, List.length_take]; omega)
          refine ⟨_, rfl, .inl ⟨rfl, _, SqL.of S6.r⟩, ?_⟩
          refine ⟨_, rfl, _, _, rfl, rfl, Nat.le_trans (show (("f" : Str)).length + x.length ≤ 20 from Nat.add_le_add (by decide : (("f" : Str)).length ≤ 10) (hx10 x hm)) (Nat.le_trans (by decide : 20 ≤ 100) (le_sz (Nat.le_refl _))), Lr, _, _, rfl, rfl, S6.r, ?_, ?_⟩
          · rw [List.length_map]
            exact Nat.lt_of_le_of_lt fl2 (Nat.lt_of_lt_of_le (by decide : 2 < 100) (le_sz (Nat.le_refl _)))
          refine ⟨⟨_, rfl⟩, fl ++ [("f" ++ x : Str)], (ml ++ [mdO x ps r1]), ?_, hml5, (S6.room hml5 nRp nLL hLr0 _).le (by push_cast; omega)⟩
          rw [tkx, List.map_append]
          exact hfl.append (List.Sublist.refl _)
        · rw [decide_eq_false hr']
          refine iteF ⟨⟨_, rfl⟩, fl, (ml ++ [mdO x ps r1]), ?_, hml5, S6.le (by push_cast; omega)⟩
          rw [tkx, List.map_append]
          exact hfl.trans (List.sublist_append_left _ _)
      · rw [decide_eq_false hr]
        refine iteF ?_
        have S5 := S3
        have hml5 : Deeds (xs.take (i + 1)) ml := ⟨by rw [tkx]; exact hml.sub.trans (List.sublist_append_left _ _), hml.is⟩
        refine ⟨_, rfl, p, 3, _, rfl, S5.w, by omega, by decide, by decide, fun r' zs' r0' r3' W6 => ?_⟩
        have S6 := S5.keep hml5 nLp nRp KeepB.at W6
        obtain ⟨H6, e6⟩ : ∃ G, upd H3 p (.lst zs') = G := ⟨_, rfl⟩
        rw [e6] at S6 ⊢
        refine ⟨rfl, _, rfl, ?_⟩
        by_cases hr' : V.int r' = V.int 0
        · rw [decide_eq_true hr']
          refine iteT ?_
          have fl2 : fl.length ≤ 2 := Nat.le_trans hfl.length_le (by rw [List.length_map, List.length_take]; omega)
          refine ⟨_, rfl, .inl ⟨rfl, _, SqL.of S6.r⟩, ?_⟩
          refine ⟨_, rfl, _, _, rfl, rfl, Nat.le_trans (show (("f" : Str)).length + x.length ≤ 20 from Nat.add_le_add (by decide : (("f" : Str)).length ≤ 10) (hx10 x hm)) (Nat.le_trans (by decide : 20 ≤ 100) (le_sz (Nat.le_refl _))), Lr, _, _, rfl, rfl, S6.r, ?_, ?_⟩
          · rw [List.length_map]
            exact Nat.lt_of_le_of_lt fl2 (Nat.lt_of_lt_of_le (by decide : 2 < 100) (le_sz (Nat.le_refl _)))
          refine ⟨⟨_, rfl⟩, fl ++ [("f" ++ x : Str)], ml, ?_, hml5, (S6.room hml5 nRp nLL hLr0 _).le (by push_cast; omega)⟩
          rw [tkx, List.map_append]
          exact hfl.append (List.Sublist.refl _)
        · rw [decide_eq_false hr']
          refine iteF ⟨⟨_, rfl⟩, fl, ml, ?_, hml5, S6.le (by push_cast; omega)⟩
          rw [tkx, List.map_append]
          exact hfl.trans (List.sublist_append_left _ _)
    · rintro σ H2 ⟨⟨v6, rfl⟩, fl, ml, hfl, hml, S⟩
      rw [List.length_map, List.take_length] at hfl hml
      rw [List.length_map] at S
      obtain ⟨dv, gd, od⟩ := S.d
      refine ⟨_, rfl, .inl ⟨Ld, _, rfl, SqL.of gd, fun q1 h1 => ?_⟩⟩
      have sA := new_same (o := .tup dv) h1
      have gq1 : (upd H2 q1 (.tup dv)) q1 = some (.tup dv) := upd_same
      obtain ⟨H3, e3⟩ : ∃ G, upd H2 q1 (.tup dv) = G := ⟨_, rfl⟩
      rw [e3] at sA gq1 ⊢
      refine ⟨_, rfl, .inl ⟨Lr, _, rfl, SqL.of (sA _ _ S.r), fun q2 h2 => ?_⟩⟩
      have sB := new_same (o := .tup (fl.map V.str)) h2
      have gq2 : (upd H3 q2 (.tup (fl.map V.str))) q2 = some (.tup (fl.map V.str)) := upd_same
      obtain ⟨H4, e4⟩ : ∃ G, upd H3 q2 (.tup (fl.map V.str)) = G := ⟨_, rfl⟩
      rw [e4] at sB gq2 ⊢
      have sAB := sA.trans sB
      refine ⟨_, _, rfl, ?_⟩
      refine ⟨_, rfl, _, rfl, _, rfl, _, rfl, rfl, rfl, fun x dx nx nd ne => ?_⟩
      have nx1 : (upd H4 dx (.own x)) x = none := (upd_ne ne.symm).trans nx
      have s4 : Same H4 (upd (upd H4 dx (.own x)) x (.ins (C 2) dx [])) := (new_same nd).trans (new_same nx1)
      have sT := sAB.trans s4
      obtain ⟨ms, hp⟩ := W.lst
      have htb4 : SqT K (upd (upd H4 dx (.own x)) x (.ins (C 2) dx [])) tb (bs.map V.str) := SqT.same sT (SqT.keepB hp S.k htb)
      have all : OhAll K (clk C f) (upd (upd H4 dx (.own x)) x (.ins (C 2) dx [])) [.fl (.str nm), strsO bs, strsO fl, .fl .non, .tup (ml.map mO)] [.str nm, .ref tb, .ref q2, .non, .ref q1] :=
        oh_cons (oh_str _) (oh_cons (oh_tup htb4 strs_od) (oh_cons (oh_tup (SqT.of (s4 _ _ gq2)) strs_od) (oh_cons oh_non (oh_cons (oh_tup (SqT.of (s4 _ _ (sB _ _ gq1))) (OhAll.sm sT od)) oh_nil))))
      refine ⟨x, dx, _, _, rfl, upd_same, all, ⟨rfl, fun d hd => ?_⟩, fun H' kb o' => ⟨rfl, ?_⟩⟩
      · simp only [List.mem_cons, List.not_mem_nil, or_false] at hd
        obtain ⟨a1, a2, a3⟩ := ok_strs (S := S1 (clk C f)) (cl := clk C f) bs
        obtain ⟨b1, b2, b3⟩ := ok_strs (S := S1 (clk C f)) (cl := clk C f) fl
        obtain ⟨c1, c2, c3⟩ := partx (cl := clk C f) (S := S1 (clk C f)) (n := 5) hml.ok
        rcases hd with rfl | rfl | rfl | rfl | rfl
        · exact ⟨trivial, trivial, Nat.zero_le _⟩
        · exact ⟨a1, a2, Nat.le_trans (Nat.succ_le_succ a3) (by decide)⟩
        · exact ⟨b1, b2, Nat.le_trans (Nat.succ_le_succ b3) (by decide)⟩
        · exact ⟨trivial, trivial, Nat.zero_le _⟩
        · exact ⟨c1, c2, Nat.succ_le_succ c3⟩
      · have sF := sAB.trans (same_make nx nd kb)
        exact q fl ml _ H' hfl hml o' (S.k.trans (KeepB.of sF)) ((S.w.same sF).mono (by omega))
end

end Kx
set_option linter.all false
namespace Kx
open PySem L2 PySem.Spec PyProof.Rows
abbrev sLAb : Stmt := top 131
abbrev nLAb : List Str := ["_law_table", "_law_name", "_law_found", "_law_waiting", "_law_one_here"]
theorem scLAb : FnScope nLAb ["_law_table", "_law_name"] (defScope sLAb) := ⟨rfl, rfl, rfl, by decide +kernel, rfl, by decide +kernel, by decide +kernel⟩
/-! the law's own defs: the classes at or above a class -/
inductive AbvN (cs : List KD) : Nat → List Str → List Str → List Str → Prop
  | stop {r : List Str} : AbvN cs 0 r [] r
  | skip {n : Nat} {found w r : List Str} {t : Str} : t ∈ found → AbvN cs n found w r → AbvN cs (n + 1) found (w ++ [t]) r
  | take {n : Nat} {found w r : List Str} {t : Str} {k : KD} : t ∉ found → kd cs t = some k → AbvN cs n (found ++ [t]) (w ++ k.bases) r → AbvN cs (n + 1) found (w ++ [t]) r
theorem AbvN.len {cs : List KD} {n : Nat} {found w r : List Str} (h : AbvN cs n found w r) : w.length ≤ n := by
  induction h with
  | stop => exact Nat.le_refl _
  | skip _ _ ih => simp only [List.length_append, List.length_cons, List.length_nil]; omega
  | take _ _ _ ih => simp only [List.length_append, List.length_cons, List.length_nil] at ih ⊢; omega
theorem AbvN.mem {cs : List KD} {n : Nat} {found w r : List Str} (h : AbvN cs n found w r) : (∀ x ∈ found, x ∈ r) ∧ ∀ x ∈ w, x ∈ r := by
  induction h with
  | stop => exact ⟨fun _ z => z, fun _ z => nomatch z⟩
  | skip hm _ ih => exact ⟨ih.1, fun x hx => (List.mem_append.mp hx).elim (ih.2 x) fun z => by rw [List.mem_singleton.mp z]; exact ih.1 _ hm⟩
  | take _ _ _ ih => exact ⟨fun x hx => ih.1 x (List.mem_append_left _ hx), fun x hx => (List.mem_append.mp hx).elim (fun z => ih.2 x (List.mem_append_left _ z)) fun z => by rw [List.mem_singleton.mp z]; exact ih.1 _ (List.mem_append_right _ List.mem_cons_self)⟩
theorem AbvN.flen {cs : List KD} {n : Nat} {found w r : List Str} (h : AbvN cs n found w r) : r.length ≤ found.length + n := by
  induction h with
  | stop => exact Nat.le_refl _
  | skip _ _ ih => omega
  | take _ _ _ ih => simp only [List.length_append, List.length_cons, List.length_nil] at ih; omega
/-- a dict from names to classes -/
def TabO (K : PySem.W.Frag) (C f : Nat → Addr) (H : Hp) (T : Addr) (cs : List KD) : Prop := ∃ vs, H T = some (.dK ((cs.zip vs).map fun kv => (.inr kv.1.name, kv.2))) ∧ OhAll K (clk C f) H (cs.map kO) vs
theorem TabO.same {K : PySem.W.Frag} {C f : Nat → Addr} {H H' : Hp} {T : Addr} {cs : List KD} (s : Same H H') (h : TabO K C f H T cs) : TabO K C f H' T cs := let ⟨vs, a, b⟩ := h; ⟨vs, s _ _ a, OhAll.sm s b⟩
def spLAb (K : PySem.W.Frag) (C f : Nat → Addr) : Sp := fun vs H Q _ => ∃ (T : Addr) (cs : List KD) (nm : Str) (n : Nat) (r : List Str), vs = [.ref T, .str nm] ∧ TabO K C f H T cs ∧ AbvN cs n [] [nm] r ∧ n ≤ 40 ∧ OkS r ∧ ∀ L H', H L = none → Same H H' → H' L = some (.lst (r.map V.str)) → Q (.ref L) H'
section
variable {P : Program} {w : World} {K : PySem.W.Frag} {mg : Str → Option Value} {base : Heap} {C f : Nat → Addr}
theorem ok_lab {g : Addr} {fd : FuncData} (F : Fs K mg "_law_above" sLAb ["_law_table", "_law_name"] g fd) (X : Txt K mg C f) (ls : mg "list" = none) : FnOk P w K mg base CX0 2 g fd ["_law_table", "_law_name"] (spLAb K C f) := by
  refine F.F.ok scLAb (fun vs H Q E h => ?_) (fun cdv A outer s H vs Q E hr h => ?_)
  · obtain ⟨_, _, _, _, _, rfl, _⟩ := h
    rfl
  · obtain ⟨T, cs, nm, n, r, rfl, hT, hab, hn, hok, q⟩ := h
    have hu := hu_of hr
    refine ⟨_, (pss_cons (ps_par (i := 2) (j := 3) rfl scLAb.nd rfl rfl (by decide) rfl rfl (pa_cons (pe_lst pa_nil) (pa_cons (pe_lst (pa_cons (pv 1) pa_nil)) pa_nil)) (by rfl)) (pss_cons (ps_while PassesOwn.never (pt_cmpR (op_neD hr.units) (pv 3) (pe_lst pa_nil) (nomark _)) (pss_cons (ps_set (i := 4) scLAb.nd rfl (Or.inl rfl) (pe_bm0 PySem.F.plainAttrs_list PySem.F.slot_list_pop PySem.F.type_list_pop mt_pop (pv 3))) (pss_one (ps_if (pt_cmpR op_notIn_seq (pv 4) (pv 2) (by with_unfolding_all rfl)) (pss_cons (ps_expr (pe_bm PySem.F.plainAttrs_list PySem.F.slot_list_append PySem.F.type_list_append mt_append (pv 2) (pa_cons (pv 4) pa_nil))) (pss_one (ps_set (i := 3) scLAb.nd rfl (Or.inl rfl) (pe_op op_cat (pv 3) (pe_callTy call_list_of (by rfl) ls (by decide +kernel) (pa_cons (pe_fld (pe_dget hu (pv 0) (pv 4) (fun _ _ => rfl)) (by rfl)) pa_nil)))))) pss_nil)))) (pss_one (ps_ret (pv 2))))), ?_⟩
    refine ⟨le_sz (Nat.le_of_ble_eq_true rfl), fun F1 hF1 => ⟨_, rfl, le_sz (Nat.le_of_ble_eq_true rfl), fun W1 hW1 => ⟨_, _, rfl, ?_⟩⟩⟩
    have s0 : Same H (upd (upd H F1 (.lst [])) W1 (.lst [.str nm])) := (new_same hF1).trans (new_same hW1)
    have gF : (upd (upd H F1 (.lst [])) W1 (.lst [.str nm])) F1 = some (.lst []) := (new_same hW1) _ _ upd_same
    have gW : (upd (upd H F1 (.lst [])) W1 (.lst [.str nm])) W1 = some (.lst [.str nm]) := upd_same
    have hW0 : H W1 = none := Same.free (new_same hF1) hW1
    have nFW : F1 ≠ W1 := fun z => by rw [← z, upd_same] at hW1; cases hW1
    obtain ⟨H1, e1⟩ : ∃ G, upd (upd H F1 (.lst [])) W1 (.lst [.str nm]) = G := ⟨_, rfl⟩
    rw [e1] at s0 gF gW ⊢
    refine ⟨fun m σ H2 => ∃ Wa v4 found wl, σ = [some (.ref T), some (.str nm), some (.ref F1), some (.ref Wa), v4] ∧ Same H H2 ∧ H Wa = none ∧ Wa ≠ F1 ∧ H2 F1 = some (.lst (found.map V.str)) ∧ H2 Wa = some (.lst (wl.map V.str)) ∧ AbvN cs m found wl r ∧ m ≤ 40 ∧ found.length + m ≤ 40, ⟨n, W1, none, [], [nm], rfl, s0, hW0, nFW.symm, gF, gW, hab, hn, by simpa using hn⟩, ?_⟩
    rintro m σ H2 ⟨Wa, v4, found, wl, rfl, s2, hWa, nWF, g2F, g2W, ab, m40, fm⟩
    refine ⟨_, rfl, le_sz (Nat.le_of_ble_eq_true rfl), fun E1 hE1 => ?_⟩
    have sE := new_same (o := .lst []) hE1
    have gE : (upd H2 E1 (.lst [])) E1 = some (.lst (([] : List Str).map V.str)) := upd_same
    have s3 := s2.trans sE
    have g3F := sE _ _ g2F
    have g3W := sE _ _ g2W
    obtain ⟨H3, e3⟩ : ∃ G, upd H2 E1 (.lst []) = G := ⟨_, rfl⟩
    rw [e3] at gE s3 g3F g3W ⊢
    refine ne_strs (m := ([] : List Str)) (fun t ht => hok t (ab.mem.2 t ht)) (fun _ z => nomatch z) (SqL.of g3W) (SqL.of gE) ⟨_, rfl, ?_⟩
    rcases Nat.eq_zero_or_pos wl.length with z | z
    · have zw := List.eq_nil_of_length_eq_zero z
      subst zw
      refine iteF ⟨_, rfl, ?_⟩
      obtain rfl : found = r := by
        generalize ew : ([] : List Str) = w at ab
        cases ab with
        | stop => rfl
        | skip _ _ => simp at ew
        | take _ _ _ => simp at ew
      exact q F1 H3 hF1 s3 g3F
    · rw [show (!decide (wl = [])) = true by cases wl with | nil => simp at z | cons _ _ => simp]
      refine iteT ⟨fun σ' H' => ∃ m' Wa v4 found wl, m' < m ∧ σ' = [some (.ref T), some (.str nm), some (.ref F1), some (.ref Wa), v4] ∧ Same H H' ∧ H Wa = none ∧ Wa ≠ F1 ∧ H' F1 = some (.lst (found.map V.str)) ∧ H' Wa = some (.lst (wl.map V.str)) ∧ AbvN cs m' found wl r ∧ m' ≤ 40 ∧ found.length + m' ≤ 40, fun σ' H' ⟨m', a, b, c, d, e, h⟩ => ⟨m', e, a, b, c, d, h⟩, ?_⟩
      refine ⟨_, rfl, .inl ⟨rfl, _, SqL.of g3W⟩, Wa, _, .str (wl.getLast (fun y => by rw [y] at z; exact absurd z (by decide))), rfl, rfl, g3W, ?_, ?_⟩
      · rw [List.length_map, List.getElem?_map, ← List.getLast?_eq_getElem?, List.getLast?_eq_some_getLast]
        rfl
      have sP := same_upd (o := .lst (wl.map V.str).dropLast) hWa s3
      have g4W : (upd H3 Wa (.lst (wl.map V.str).dropLast)) Wa = some (.lst (wl.dropLast.map V.str)) := by rw [upd_same, List.map_dropLast]
      have g4F : (upd H3 Wa (.lst (wl.map V.str).dropLast)) F1 = some (.lst (found.map V.str)) := (upd_ne nWF.symm).trans g3F
      obtain ⟨H4, e4⟩ : ∃ G, upd H3 Wa (.lst (wl.map V.str).dropLast) = G := ⟨_, rfl⟩
      rw [e4] at sP g4W g4F ⊢
      obtain ⟨t, ht⟩ : ∃ t, wl.getLast (fun y => by rw [y] at z; exact absurd z (by decide)) = t := ⟨_, rfl⟩
      have hw : wl = wl.dropLast ++ [t] := by rw [← ht]; exact (List.dropLast_concat_getLast _).symm
      rw [ht]
      obtain ⟨w', hw'⟩ : ∃ w', wl.dropLast = w' := ⟨_, rfl⟩
      rw [hw'] at hw g4W
      rw [hw] at ab
      refine ⟨_, rfl, _, rfl, F1, _, rfl, .inl (SqL.of g4F), ?_⟩
      refine ⟨rfl, flat_strs _, ?_⟩
      rw [inV_str]
      have hab : (t ∈ found ∧ ∃ n, m = n + 1 ∧ AbvN cs n found w' r) ∨ (t ∉ found ∧ ∃ n k, m = n + 1 ∧ kd cs t = some k ∧ AbvN cs n (found ++ [t]) (w' ++ k.bases) r) := by
        generalize e : w' ++ [t] = W at ab
        cases ab with
        | stop => simp at e
        | skip hm a =>
          obtain ⟨rfl, e2⟩ := List.append_inj' e rfl
          cases e2
          exact .inl ⟨hm, _, rfl, a⟩
        | take hm hk a =>
          obtain ⟨rfl, e2⟩ := List.append_inj' e rfl
          cases e2
          exact .inr ⟨hm, _, _, rfl, hk, a⟩
      rcases hab with ⟨hm, n', rfl, a⟩ | ⟨hm, n', k, rfl, hk, a⟩
      · rw [decide_eq_true hm]
        exact ⟨_, rfl, iteF ⟨n', Wa, _, found, w', Nat.lt_succ_self _, rfl, sP, hWa, nWF, g4F, g4W, a, by omega, by omega⟩⟩
      · rw [decide_eq_false hm]
        refine ⟨_, rfl, iteT ?_⟩
        refine ⟨_, rfl, .inl ⟨rfl, _, SqL.of g4F⟩, _, rfl, F1, _, _, rfl, rfl, g4F, ?_, ?_⟩
        · rw [List.length_map]
          exact Nat.lt_of_le_of_lt (show found.length ≤ 40 by omega) (Nat.lt_of_lt_of_le (by decide : 40 < 100) (le_sz (Nat.le_refl _)))
        have s5 := same_upd (o := .lst (found.map V.str ++ [.str t])) hF1 sP
        have g5F : (upd H4 F1 (.lst (found.map V.str ++ [.str t]))) F1 = some (.lst ((found ++ [t]).map V.str)) := by rw [upd_same, List.map_append]; rfl
        have g5W : (upd H4 F1 (.lst (found.map V.str ++ [.str t]))) Wa = some (.lst (w'.map V.str)) := (upd_ne nWF).trans g4W
        obtain ⟨H5, e5⟩ : ∃ G, upd H4 F1 (.lst (found.map V.str ++ [.str t])) = G := ⟨_, rfl⟩
        rw [e5] at s5 g5F g5W ⊢
        obtain ⟨us, gT5, oT5⟩ := hT.same s5
        obtain ⟨u, eu, ou⟩ := (tab_look oT5).2 k hk
        obtain ⟨b, bx, bs, vb, vf, vm, vw, ys, rfl, KA⟩ := kO_get ou
        have hg := DGet.k (k := .inr t) gT5
        rw [eu] at hg
        refine ⟨_, rfl, _, rfl, _, rfl, T, _, rfl, hg, b, C 2, bx, bs, _, rfl, KA.ins, X.cls 2 (by decide), X.no 2 (by decide) _ (by decide), KA.b, ?_⟩
        refine ⟨vb, _, rfl, .inr KA.sb, fun L hL => ?_⟩
        have sL := new_same (o := .lst (k.bases.map V.str)) hL
        have gL : (upd H5 L (.lst (k.bases.map V.str))) L = some (.lst (k.bases.map V.str)) := upd_same
        have s6 := s5.trans sL
        have g6F := sL _ _ g5F
        have g6W := sL _ _ g5W
        obtain ⟨H6, e6⟩ : ∃ G, upd H5 L (.lst (k.bases.map V.str)) = G := ⟨_, rfl⟩
        rw [e6] at gL s6 g6F g6W ⊢
        have la := a.len
        refine ⟨Wa, L, _, _, rfl, rfl, g6W, gL, ?_, fun W2 hW2 => ?_⟩
        · rw [List.length_map, List.length_map]
          rw [List.length_append] at la
          exact Nat.le_trans (show w'.length + k.bases.length ≤ 40 by omega) (Nat.le_trans (by decide : 40 ≤ 100) (le_sz (Nat.le_refl _)))
        have s7 := new_same (o := .lst (w'.map V.str ++ k.bases.map V.str)) hW2
        have nW2 : W2 ≠ F1 := fun z => by rw [z, g6F] at hW2; cases hW2
        exact ⟨n', W2, _, found ++ [t], w' ++ k.bases, Nat.lt_succ_self _, rfl, s6.trans s7, Same.free s6 hW2, nW2, s7 _ _ g6F, by rw [upd_same, List.map_append], a, by omega, by rw [List.length_append, List.length_singleton]; omega⟩
end

end Kx
set_option linter.all false
namespace Kx
open PySem L2 PySem.Spec PyProof.Rows
/-! a list compared with an empty one by != -/
def rNeNil (K : PySem.W.Frag) : R2 := fun x y H Q => ∃ (a b : Addr) (xs : List V), x = .ref a ∧ y = .ref b ∧ SqL K H a xs ∧ SqL K H b [] ∧ Q (.bl !xs.isEmpty) H
theorem op_neNil {X : Cx} (hu : X.A.units + 64 < cLine) : OpR X (compareOp .NotEq) (rNeNil X.K) := by
  intro pins s σ H x y v u Q I rx ry h
  obtain ⟨a, b, xs, rfl, rfl, ha, hb, q⟩ := h
  obtain rfl : v = Value.ref a := rx
  obtain rfl : u = Value.ref b := ry
  obtain ⟨us, r1, p1, _⟩ := I.list ha
  obtain ⟨ws, r2, p2, _⟩ := I.list hb
  cases r2
  cases r1 with
  | nil =>
    refine SeqAt.RcNeAt.lists (e := fun _ => true) p1.isList p2.isList rfl (by omega) (fun j h1 _ => absurd h1 (Nat.not_lt_zero _)) X.prog X.w _ _ ?_
    exact ⟨.bl false, H, I, rfl, q⟩
  | cons r1 t =>
    refine SeqAt.RcNeAt.lists_lengths p1.isList p2.isList (by simp) (by omega) X.prog X.w _ _ ?_
    exact ⟨.bl true, H, I, rfl, q⟩
end Kx
set_option linter.all false
namespace Kx
open PySem L2 PySem.Spec PyProof.Rows
/-! the signs that the law's own due collects -/
abbrev Sg := List (Str × Str) × Str
abbrev sgO (s : Sg) : OD := .tup [.tup (s.1.map pairO), .fl (.str s.2)]
def sgPut (a : List (Str × List Sg)) (n : Str) (s : Sg) : List (Str × List Sg) := if n ∈ a.map (·.1) then a.map (fun e => if e.1 = n then (e.1, e.2 ++ [s]) else e) else a ++ [(n, [s])]
def sgAll (a : List (Str × List Sg)) (ms : List MD) : List (Str × List Sg) := ms.foldl (fun a m => sgPut a m.name (m.params, m.result)) a
def sgOf (a : List (Str × List Sg)) (n : Str) : List Sg := ((a.find? fun e => decide (e.1 = n)).map (·.2)).getD []
theorem sgPut_keys {a : List (Str × List Sg)} {n : Str} {s : Sg} : (sgPut a n s).map (·.1) = if n ∈ a.map (·.1) then a.map (·.1) else a.map (·.1) ++ [n] := by
  unfold sgPut
  split
  · rw [List.map_map]
    refine List.map_congr_left fun e _ => ?_
    show (if e.1 = n then (e.1, e.2 ++ [s]) else e).1 = e.1
    split <;> rfl
  · rw [List.map_append]; rfl
theorem sgPut_nd {a : List (Str × List Sg)} {n : Str} {s : Sg} (h : (a.map (·.1)).Nodup) : ((sgPut a n s).map (·.1)).Nodup := by
  rw [sgPut_keys]
  split
  · exact h
  · rename_i hn
    exact List.nodup_append.mpr ⟨h, by simp, fun x hx y hy => by rw [List.mem_singleton.mp hy]; exact fun z => hn (z ▸ hx)⟩
theorem sgPut_len {a : List (Str × List Sg)} {n : Str} {s : Sg} : (sgPut a n s).length ≤ a.length + 1 := by
  have := congrArg List.length (sgPut_keys (a := a) (n := n) (s := s))
  rw [List.length_map] at this
  rw [this]
  split <;> simp
def SgR (K : PySem.W.Frag) (C f : Nat → Addr) (H : Hp) (kv : Key × V) (e : Str × List Sg) : Prop := kv.1 = .inr e.1 ∧ ∃ A ys, kv.2 = .ref A ∧ H A = some (.lst ys) ∧ OhAll K (clk C f) H (e.2.map sgO) ys
theorem SgR.same {K : PySem.W.Frag} {C f : Nat → Addr} {H H' : Hp} {kv : Key × V} {e : Str × List Sg} (s : Same H H') (h : SgR K C f H kv e) : SgR K C f H' kv e := let ⟨a, A, ys, b, c, d⟩ := h; ⟨a, A, ys, b, s _ _ c, OhAll.sm s d⟩
section
variable {K : PySem.W.Frag} {C f : Nat → Addr} {H : Hp} {n : Str}
theorem sg_look : ∀ {kvs : List (Key × V)} {a : List (Str × List Sg)}, Paired (SgR K C f H) kvs a → (valV kvs (.inr n) = none ∧ n ∉ a.map (·.1)) ∨ ∃ v, valV kvs (.inr n) = some v ∧ n ∈ a.map (·.1) ∧ SgR K C f H (.inr n, v) (n, sgOf a n)
  | _, _, .nil => .inl ⟨rfl, fun z => nomatch z⟩
  | kv :: kvs, e :: a, .cons h p => by
    obtain ⟨h1, h2⟩ := h
    by_cases z : e.1 = n
    · refine .inr ⟨kv.2, valV_pos (by rw [h1, z]), by rw [List.map_cons, z]; exact List.mem_cons_self, rfl, ?_⟩
      show ∃ A ys, kv.2 = .ref A ∧ H A = some (.lst ys) ∧ OhAll K (clk C f) H ((sgOf (e :: a) n).map sgO) ys
      rw [show sgOf (e :: a) n = e.2 by unfold sgOf; rw [List.find?_cons, decide_eq_true z]; rfl]
      exact h2
    · have e1 : valV (kv :: kvs) (.inr n) = valV kvs (.inr n) := valV_neg (by rw [h1]; exact fun y => z (by injection y))
      have e2 : sgOf (e :: a) n = sgOf a n := by unfold sgOf; rw [List.find?_cons, decide_eq_false z]
      rw [e1, e2]
      rcases sg_look p with ⟨x, y⟩ | ⟨v, x, y, w⟩
      · exact .inl ⟨x, fun hm => (List.mem_cons.mp hm).elim (fun q => z q.symm) y⟩
      · exact .inr ⟨v, x, List.mem_cons_of_mem _ y, w⟩
theorem sg_put {kvs : List (Key × V)} {a : List (Str × List Sg)} {v : V} {s : Sg} (p : Paired (SgR K C f H) kvs a) (nd : (a.map (·.1)).Nodup) (h : SgR K C f H (.inr n, v) (n, sgOf a n ++ [s])) : Paired (SgR K C f H) (putK kvs (.inr n) v) (sgPut a n s) := by
  have hk : (kvs.any fun kv => decide (kv.1 = .inr n)) = decide (n ∈ a.map (·.1)) := by
    clear h nd
    induction p with
    | nil => rfl
    | cons h p ih =>
      rename_i kv e kvs a
      rw [List.any_cons, ih, List.map_cons, h.1, Bool.eq_iff_iff, Bool.or_eq_true, decide_eq_true_iff, decide_eq_true_iff, decide_eq_true_iff, List.mem_cons]
      constructor
      · rintro (z | z)
        · exact .inl (by injection z with z; exact z.symm)
        · exact .inr z
      · rintro (z | z)
        · exact .inl (by rw [z])
        · exact .inr z
  unfold putK sgPut
  rw [hk]
  by_cases hn : n ∈ a.map (·.1)
  · rw [if_pos (decide_eq_true hn), if_pos hn]
    clear hk
    have go : ∀ {kvs : List (Key × V)} {b : List (Str × List Sg)}, Paired (SgR K C f H) kvs b → (∀ e ∈ b, e.1 = n → e.2 = sgOf a n) → Paired (SgR K C f H) (kvs.map fun kv => if kv.1 = .inr n then (kv.1, v) else kv) (b.map fun e => if e.1 = n then (e.1, e.2 ++ [s]) else e) := by
      intro kvs b p hb
      induction p with
      | nil => exact .nil
      | cons hh p ih =>
        rename_i kv e kvs b
        rw [List.map_cons, List.map_cons]
        refine .cons ?_ (ih fun e he => hb e (List.mem_cons_of_mem _ he))
        by_cases z : e.1 = n
        · rw [if_pos (by rw [hh.1, z]), if_pos z]
          refine ⟨hh.1, ?_⟩
          rw [hb e List.mem_cons_self z]
          exact h.2
        · rw [if_neg (by rw [hh.1]; exact fun y => z (by injection y)), if_neg z]
          exact hh
    refine go p fun e he z => ?_
    unfold sgOf
    have : a.find? (fun e => decide (e.1 = n)) = some e := by
      clear go p h
      induction a with
      | nil => cases he
      | cons x a ih =>
        rw [List.find?_cons]
        rw [List.map_cons, List.nodup_cons] at nd
        rcases List.mem_cons.mp he with rfl | he
        · rw [decide_eq_true z]
        · have : x.1 ≠ n := fun y => nd.1 (by rw [y, ← z]; exact List.mem_map.mpr ⟨e, he, rfl⟩)
          rw [decide_eq_false this]
          exact ih nd.2 (List.mem_map.mpr ⟨e, he, z⟩) he
    rw [this]
    rfl
  · rw [if_neg (by rw [decide_eq_false hn]; exact Bool.false_ne_true), if_neg hn]
    refine paired_snoc p ?_
    have e0 : sgOf a n = [] := by
      unfold sgOf
      rw [List.find?_eq_none.mpr fun e he y => hn (List.mem_map.mpr ⟨e, he, of_decide_eq_true y⟩)]
      rfl
    rw [e0] at h
    exact h
end
theorem sgPut_bound {a : List (Str × List Sg)} {n : Str} {s : Sg} {t : Nat} (h : ∀ e ∈ a, e.2.length ≤ t) : ∀ e ∈ sgPut a n s, e.2.length ≤ t + 1 := by
  intro e he
  unfold sgPut at he
  split at he
  · obtain ⟨e0, h0, rfl⟩ := List.mem_map.mp he
    have := h e0 h0
    split
    · show (e0.2 ++ [s]).length ≤ t + 1
      rw [List.length_append]; simp; omega
    · omega
  · rcases List.mem_append.mp he with z | z
    · have := h e z; omega
    · rw [List.mem_singleton.mp z]; show 1 ≤ t + 1; omega
theorem sgAll_facts : ∀ {ms : List MD} {a : List (Str × List Sg)} {t : Nat}, (a.map (·.1)).Nodup → (∀ e ∈ a, e.2.length ≤ t) → a.length ≤ t → ((sgAll a ms).map (·.1)).Nodup ∧ (∀ e ∈ sgAll a ms, e.2.length ≤ t + ms.length) ∧ (sgAll a ms).length ≤ t + ms.length
  | [], a, t, h1, h2, h3 => ⟨h1, h2, h3⟩
  | m :: ms, a, t, h1, h2, h3 => by
    have l := sgPut_len (a := a) (n := m.name) (s := (m.params, m.result))
    have := sgAll_facts (ms := ms) (t := t + 1) (sgPut_nd (n := m.name) (s := (m.params, m.result)) h1) (sgPut_bound h2) (by omega)
    rw [show t + (m :: ms).length = t + 1 + ms.length by rw [List.length_cons]; omega]
    exact this
theorem sgOf_bound {a : List (Str × List Sg)} {n : Str} {t : Nat} (h : ∀ e ∈ a, e.2.length ≤ t) : (sgOf a n).length ≤ t := by
  unfold sgOf
  cases e : a.find? fun e => decide (e.1 = n) with
  | none => exact Nat.zero_le _
  | some x => exact h x (List.mem_of_find?_eq_some e)
theorem sgOf_mem {a : List (Str × List Sg)} (nd : (a.map (·.1)).Nodup) {e : Str × List Sg} (he : e ∈ a) : sgOf a e.1 = e.2 := by
  unfold sgOf
  have : a.find? (fun x => decide (x.1 = e.1)) = some e := by
    induction a with
    | nil => cases he
    | cons x a ih =>
      rw [List.find?_cons]
      rw [List.map_cons, List.nodup_cons] at nd
      rcases List.mem_cons.mp he with rfl | he
      · simp
      · have : x.1 ≠ e.1 := fun y => nd.1 (by rw [y]; exact List.mem_map.mpr ⟨e, he, rfl⟩)
        rw [decide_eq_false this]
        exact ih nd.2 he
  rw [this]
  rfl
/-- a heap without what stands at S -/
def hole (H : Hp) (S : Addr) : Hp := fun b => if b = S then none else H b
theorem hole_ne {H : Hp} {S b : Addr} (h : b ≠ S) : hole H S b = H b := if_neg h
theorem hole_at {H : Hp} {S : Addr} : hole H S S = none := if_pos rfl
theorem hole_to {H : Hp} {S : Addr} : Same (hole H S) H := fun b u e => by
  unfold hole at e
  split at e
  · cases e
  · exact e
theorem hole_keep {H H' : Hp} {S : Addr} (k : KeepB S H H') : Same (hole H S) (hole H' S) := fun b u e => by
  unfold hole at e ⊢
  split at e
  · cases e
  · rename_i z
    rw [if_neg z]
    exact k b u z e
theorem hole_in {H H' : Hp} {S : Addr} (n : H S = none) (k : KeepB S H H') : Same H (hole H' S) := fun b u e => by
  have z : b ≠ S := fun z => by rw [z, n] at e; cases e
  rw [hole_ne z]
  exact k b u z e
theorem hole_upd {H : Hp} {S : Addr} {o : HO} : hole (upd H S o) S = hole H S := by
  funext b
  unfold hole
  split
  · rfl
  · rename_i z; rw [upd_ne z]
def SG (K : PySem.W.Frag) (C f : Nat → Addr) (S : Addr) (H : Hp) (a : List (Str × List Sg)) : Prop := ∃ kvs, H S = some (.dK kvs) ∧ Paired (SgR K C f (hole H S)) kvs a
theorem SG.same {K : PySem.W.Frag} {C f : Nat → Addr} {S : Addr} {H H' : Hp} {a : List (Str × List Sg)} (s : Same H H') (h : SG K C f S H a) : SG K C f S H' a := let ⟨kvs, g, p⟩ := h; ⟨kvs, s _ _ g, L2.Paired.mapP p fun _ _ q => q.same (hole_keep (KeepB.of s))⟩
theorem same_both {G H : Hp} {p : Addr} {o : HO} (s : Same G H) : Same (upd G p o) (upd H p o) := fun b u e => by
  by_cases z : b = p
  · subst z; rw [upd_same] at e ⊢; exact e
  · rw [upd_ne z] at e ⊢; exact s b u e
end Kx
set_option linter.all false
namespace Kx
open PySem L2 PySem.Spec PyProof.Rows
abbrev sLDu : Stmt := top 132
abbrev nLDu : List Str := ["_law_table", "_law_name", "_law_rooms", "_law_one_here", "_law_signs", "_law_its", "_law_method_here"]
theorem scLDu : FnScope nLDu ["_law_table"] (defScope sLDu) := ⟨rfl, rfl, rfl, by decide +kernel, rfl, by decide +kernel, by decide +kernel⟩
/-! the law's own defs: what is due -/
def kfs (cs : List KD) (n : Str) : List Str := ((kd cs n).map (·.fields)).getD []
def kms (cs : List KD) (n : Str) : List MD := ((kd cs n).map (·.methods)).getD []
def rooms (cs : List KD) (l : List Str) : List Str := l.flatMap (kfs cs)
def sgs (cs : List KD) (l : List Str) : List (Str × List Sg) := sgAll [] (l.flatMap (kms cs))
/-- the signs of one method are not all the first -/
def sgBad (l : List Sg) : Bool := l.any fun s => !decide (l.head? = some s)
/-- what the law's own due asks of the classes: above tells of each name the classes at or above it -/
structure DueOk (cs : List KD) (above : Str → List Str) : Prop where
  nd : (cs.map (·.name)).Nodup
  few : cs.length ≤ 30
  ab : ∀ n ∈ cs.map (·.name), ∃ k, k ≤ 40 ∧ AbvN cs k [] [n] (above n)
  ok : ∀ n ∈ cs.map (·.name), OkS (above n)
  mem : ∀ n ∈ cs.map (·.name), ∀ x ∈ above n, x ∈ cs.map (·.name)
  rl : ∀ n ∈ cs.map (·.name), (rooms cs (above n)).length ≤ 60
  rs : ∀ n ∈ cs.map (·.name), ∀ x ∈ rooms cs (above n), x.length ≤ 1000
  ml : ∀ n ∈ cs.map (·.name), ((above n).flatMap (kms cs)).length ≤ 60
def spDu (K : PySem.W.Frag) (C f : Nat → Addr) : Sp := fun vs H Q _ => ∃ (T : Addr) (cs : List KD) (above : Str → List Str), vs = [.ref T] ∧ TabO K C f H T cs ∧ DueOk cs above ∧ ∀ ns : List Str, ns.Perm (cs.map (·.name)) → sortedS ns = true →
  (∀ i n, ns[i]? = some n → (∀ n' ∈ ns.take i, (rooms cs (above n')).Nodup) → ¬ (rooms cs (above n)).Nodup → ∀ p H', Same H H' → H' p = some (.tup [.str n, .str "double"]) → Q (.ref p) H') ∧
  ((∀ n ∈ ns, (rooms cs (above n)).Nodup) → (∀ n ∈ ns, ∀ e ∈ sgs cs (above n), sgBad e.2 = false) → ∀ H', Same H H' → Q .non H') ∧
  ((∀ n ∈ ns, (rooms cs (above n)).Nodup) → ∀ i n ys m, ns[i]? = some n → (∀ n' ∈ ns.take i, ∀ e ∈ sgs cs (above n'), sgBad e.2 = false) → ys.Perm ((sgs cs (above n)).map (·.1)) → sortedS ys = true → ys.find? (fun m => sgBad (sgOf (sgs cs (above n)) m)) = some m →
    ∀ p t H', Same H H' → H' t = some (.tup [.str n, .str m]) → H' p = some (.tup [.ref t, .str "inherited"]) → Q (.ref p) H')
abbrev Z0 : Nat → List OD → Prop := fun _ _ => False
theorem ocz {K : PySem.W.Frag} (cl : Nat → OCls) : OwnCls K cl Z0 := ⟨fun _ ⟨_, h⟩ => h.elim, fun _ ⟨_, h⟩ => h.elim, fun _ _ ⟨_, h⟩ => h.elim, fun _ _ ⟨_, h⟩ => h.elim, fun _ ⟨_, h⟩ => h.elim⟩
theorem ogz {X : Cx} (cl : Nat → OCls) : OwnGives X cl Z0 := fun _ _ h => h.elim
theorem op_neOTK {X : Cx} {K : PySem.W.Frag} (cl : Nat → OCls) (h : X.K = K) (hr : Room 4 X.A) : OpR X (compareOp .NotEq) (rNeOT K cl Z0 4) := h ▸ op_neOT (ocz cl) (ogz cl) hr
theorem pairs_eqo : ∀ {ps qs : List (Str × Str)}, eqoAll (ps.map pairO) (qs.map pairO) = decide (ps = qs)
  | [], [] => rfl
  | [], _ :: _ => rfl
  | _ :: _, [] => rfl
  | p :: ps, q :: qs => by
    show (eqo (pairO p) (pairO q) && eqoAll (ps.map pairO) (qs.map pairO)) = _
    rw [pairs_eqo]
    have : eqo (pairO p) (pairO q) = decide (p = q) := by
      obtain ⟨a, b⟩ := p
      obtain ⟨c, d⟩ := q
      show ((a == c) && ((b == d) && true)) = _
      rw [Bool.eq_iff_iff]
      simp
    rw [this, Bool.eq_iff_iff]
    simp
theorem sg_eqo {s u : Sg} : eqoAll [.tup (s.1.map pairO), .fl (.str s.2)] [.tup (u.1.map pairO), .fl (.str u.2)] = decide (s = u) := by
  show (eqoAll (s.1.map pairO) (u.1.map pairO) && ((s.2 == u.2) && true)) = _
  rw [pairs_eqo, Bool.eq_iff_iff]
  obtain ⟨a, b⟩ := s
  obtain ⟨c, d⟩ := u
  simp
theorem sg_need {cl : Nat → OCls} (s : Sg) : needAll cl [.tup (s.1.map pairO), .fl (.str s.2)] + 1 ≤ 4 := by
  have := (okx_pairs (S := Z0) (cl := cl) s.1).2.2
  show max (needAll cl (s.1.map pairO) + 1) (max 0 0) + 1 ≤ 4
  omega
section
variable {P : Program} {w : World} {K : PySem.W.Frag} {mg : Str → Option Value} {base : Heap} {C f : Nat → Addr}
theorem ok_due {g : Addr} {fd : FuncData} (F : Fs K mg "_law_due" sLDu ["_law_table"] g fd) (X : Txt K mg C f) (T : Bx mg) (ls : mg "list" = none) (hst : mg "set" = none) (dAb : ∃ g fd, Fs K mg "_law_above" sLAb ["_law_table", "_law_name"] g fd) : FnOk P w K mg base CX0 5 g fd ["_law_table"] (spDu K C f) := by
  obtain ⟨_, _, dAb⟩ := dAb
  have GAb : FnOk P w K mg base CX0 2 _ _ ["_law_table", "_law_name"] (spLAb K C f) := ok_lab dAb X ls
  refine F.F.ok scLDu (fun vs H Q E h => ?_) (fun cdv A outer s H vs Q E hr h => ?_)
  · obtain ⟨_, _, _, rfl, _⟩ := h
    rfl
  · obtain ⟨Tb, cs, above, rfl, hT, D, q⟩ := h
    have hrAb : Room 2 (A.deeper (envOfC "_law_due" (defScope sLDu) s.heap.objs.size g cdv)) := hr.mono (by decide)
    have hr4 : Room 4 (A.deeper (envOfC "_law_due" (defScope sLDu) s.heap.objs.size g cdv)) := hr
    have hu := hu_of hrAb
    refine ⟨_, (pss_cons (ps_for PassesOwn.never rfl (pi_list (pe_callB (call_sortedD rfl) (by rfl) T.sorted (by decide +kernel) (pa_cons (pv 0) pa_nil))) (pg_name (i := 1) scLDu.nd rfl (Or.inl rfl)) (pss_cons (ps_set (i := 2) scLDu.nd rfl (Or.inl rfl) (pe_lst pa_nil)) (pss_cons (ps_for PassesOwn.never rfl (pi_list (pe_call GAb hrAb (by rfl) dAb.m dAb.F.kp dAb.b .nil pass0 (pa_cons (pv 0) (pa_cons (pv 1) pa_nil)))) (pg_name (i := 3) scLDu.nd rfl (Or.inl rfl)) (pss_one (ps_set (i := 2) scLDu.nd rfl (Or.inl rfl) (pe_op op_cat (pv 2) (pe_callTy call_list_of (by rfl) ls (by decide +kernel) (pa_cons (pe_fld (pe_dget hu (pv 0) (pv 3) (fun _ _ => rfl)) (by rfl)) pa_nil)))))) (pss_one (ps_if (pt_cmpR op_ne (pe_callB call_lenX (by rfl) T.len PySem.boot_len (pa_cons (pe_callTy (cr_setTx rfl) (by rfl) hst (by decide +kernel) (pa_cons (pv 2) pa_nil)) pa_nil)) (pe_callB call_len_seq (by rfl) T.len PySem.boot_len (pa_cons (pv 2) pa_nil)) (nomark _)) (pss_one (ps_ret (pe_tup (pa_cons (pv 1) (pa_cons pe_str pa_nil))))) pss_nil))))) (pss_cons (ps_for PassesOwn.never rfl (pi_list (pe_callB (call_sortedD rfl) (by rfl) T.sorted (by decide +kernel) (pa_cons (pv 0) pa_nil))) (pg_name (i := 1) scLDu.nd rfl (Or.inl rfl)) (pss_cons (ps_set (i := 4) scLDu.nd rfl (Or.inr rfl) pe_dnewK) (pss_cons (ps_for PassesOwn.never rfl (pi_list (pe_call GAb hrAb (by rfl) dAb.m dAb.F.kp dAb.b .nil pass0 (pa_cons (pv 0) (pa_cons (pv 1) pa_nil)))) (pg_name (i := 3) scLDu.nd rfl (Or.inl rfl)) (pss_one (ps_for PassesOwn.never rfl (pi_tup (pe_fld (pe_dget hu (pv 0) (pv 3) (fun _ _ => rfl)) (by rfl))) (pg_name (i := 5) scLDu.nd rfl (Or.inl rfl)) (pss_one (ps_asg (pe_op op_cat (pe_dget2 hu (pv 4) (pe_fld (pv 5) (by rfl)) (pe_lst pa_nil) ⟨by rfl, by rfl, by rfl, by rfl⟩) (pe_lst (pa_cons (pe_tup (pa_cons (pe_fld (pv 5) (by rfl)) (pa_cons (pe_fld (pv 5) (by rfl)) pa_nil))) pa_nil))) (pg_sub (pv 4) (pe_fld (pv 5) (by rfl)) (set_dict hu))))))) (pss_one (ps_for PassesOwn.never rfl (pi_list (pe_callB (call_sortedD rfl) (by rfl) T.sorted (by decide +kernel) (pa_cons (pv 4) pa_nil))) (pg_name (i := 6) scLDu.nd rfl (Or.inr rfl)) (pss_one (ps_if (pt_cmpR (op_neNil hr.units) (pe_lc (own := [("_law_one_here", 3)]) (g := gName 3) rfl scLDu.nd (pi_list (pe_dget hu (pv 4) (pv 6) (fun _ _ => rfl))) (blkOk_by (N := nLDu) (sc := defScope sLDu) (by decide +kernel)) (fun _ _ _ _ _ => (pg_name (i := 3) scLDu.nd rfl (Or.inl rfl))) (fun _ _ _ _ _ => (pts_one (pt_cmpR (op_neOTK (K := K) (clk C f) rfl hr4) (pv 3) (pe_ix (ix_listK (K := K) rfl) (pe_dget hu (pv 4) (pv 6) (fun _ _ => rfl)) pe_int (fun _ _ => rfl)) (nomark _)))) (fun _ _ _ _ _ => (pv 3))) (pe_lst pa_nil) (nomark _)) (pss_one (ps_ret (pe_tup (pa_cons (pe_tup (pa_cons (pv 1) (pa_cons (pv 6) pa_nil))) (pa_cons pe_str pa_nil))))) pss_nil))))))) (pss_one (ps_ret pe_non)))), ?_⟩
    obtain ⟨us, gT, oT⟩ := id hT
    have lu : cs.length = us.length := by rw [← OhAll.length _ _ oT, List.length_map]
    have keys : ((cs.zip us).map fun kv => ((.inr kv.1.name : Key), kv.2)).map (·.1) = (cs.map (·.name)).map Sum.inr := by
      rw [List.map_map, List.map_map]
      refine List.ext_getElem (by simp [lu]) fun i h1 h2 => by simp
    have l30 := D.few
    have kdn : ∀ n ∈ cs.map (·.name), ∃ k, kd cs n = some k := fun n hn => kd_some hn
    refine ⟨_, rfl, Tb, _, cs.map (·.name), rfl, .inl gT, keys, by rw [List.length_map]; omega, fun ns L perm srt hL => ?_⟩
    obtain ⟨q1, q2, q3⟩ := q ns perm srt
    have mem : ∀ n, n ∈ ns ↔ n ∈ cs.map (·.name) := fun n => perm.mem_iff
    have sL := new_same (o := .lst (ns.map V.str)) hL
    have gL : (upd H L (.lst (ns.map V.str))) L = some (.lst (ns.map V.str)) := upd_same
    obtain ⟨H1, e1⟩ : ∃ G, upd H L (.lst (ns.map V.str)) = G := ⟨_, rfl⟩
    rw [e1] at sL gL ⊢
    refine ⟨L, rfl, ⟨_, SqL.of gL⟩, for_list (K := K) (a := L) (xs := ns.map V.str) (fun i σ H2 => (∃ v1 v2 v3, σ = [some (.ref Tb), v1, v2, v3, none, none, none]) ∧ Same H1 H2 ∧ ∀ n' ∈ ns.take i, (rooms cs (above n')).Nodup) ⟨⟨none, none, none, rfl⟩, Same.refl _, fun _ z => nomatch z⟩ (fun i σ H2 _ h => SqL.of (h.2.1 _ _ gL)) ?_ ?_⟩
    · rintro i y σ H2 hi ⟨⟨v1, v2, v3, rfl⟩, s2, hnd⟩
      obtain ⟨rfl, hm⟩ := get_str hi
      have hi2 : i < ns.length := by
        have := (List.getElem?_eq_some_iff.mp hi).1
        rwa [List.length_map] at this
      have ex : ns[i]? = some (ns.getD i "") := by simp only [List.getD, List.getElem?_eq_getElem hi2, Option.getD_some]
      obtain ⟨n, hn⟩ : ∃ x, ns.getD i "" = x := ⟨_, rfl⟩
      rw [hn] at ex hm ⊢
      have tkx := take_snoc ex
      have hmc := (mem n).mp hm
      refine ⟨le_sz (Nat.le_of_ble_eq_true rfl), fun R0 hR0 => ?_⟩
      have s3 := sL.trans (s2.trans (new_same (o := .lst []) hR0))
      have s13 := s2.trans (new_same (o := .lst []) hR0)
      have gR0 : (upd H2 R0 (.lst [])) R0 = some (.lst []) := upd_same
      obtain ⟨H3, e3⟩ : ∃ G, upd H2 R0 (.lst []) = G := ⟨_, rfl⟩
      rw [e3] at s3 s13 gR0 ⊢
      obtain ⟨kn, hk40, hab⟩ := D.ab n hmc
      refine ⟨_, rfl, _, rfl, Tb, cs, n, kn, above n, rfl, hT.same s3, hab, hk40, D.ok n hmc, fun L2 H4 hL2 s4 gL2 => ?_⟩
      have s14 := s13.trans s4
      refine ⟨L2, rfl, ⟨_, SqL.of gL2⟩, for_list (K := K) (a := L2) (xs := (above n).map V.str) (fun j σ H5 => (∃ Rl v3, σ = [some (.ref Tb), some (.str n), some (.ref Rl), v3, none, none, none] ∧ H5 Rl = some (.lst ((rooms cs ((above n).take j)).map V.str))) ∧ Same H4 H5) ⟨⟨R0, _, rfl, s4 _ _ gR0⟩, Same.refl _⟩ (fun j σ H5 _ h => SqL.of (h.2 _ _ gL2)) ?_ ?_⟩
      · rintro j y σ H5 hj ⟨⟨Rl, v3, rfl, gR⟩, s5⟩
        obtain ⟨rfl, hmj⟩ := get_str hj
        have hj2 : j < (above n).length := by
          have := (List.getElem?_eq_some_iff.mp hj).1
          rwa [List.length_map] at this
        have ej : (above n)[j]? = some ((above n).getD j "") := by simp only [List.getD, List.getElem?_eq_getElem hj2, Option.getD_some]
        obtain ⟨x, hx⟩ : ∃ x, (above n).getD j "" = x := ⟨_, rfl⟩
        rw [hx] at ej hmj ⊢
        obtain ⟨k, hk⟩ := kdn x (D.mem n hmc x hmj)
        have s15 := sL.trans (s14.trans s5)
        obtain ⟨us5, gT5, oT5⟩ := hT.same s15
        obtain ⟨u, eu, ou⟩ := (tab_look oT5).2 k hk
        obtain ⟨b, bx, bs, vb, vf, vm, vw, ys, rfl, KA⟩ := kO_get ou
        have hg := DGet.k (k := .inr x) gT5
        rw [eu] at hg
        refine ⟨_, rfl, _, rfl, _, rfl, Tb, _, rfl, hg, b, C 2, bx, bs, _, rfl, KA.ins, X.cls 2 (by decide), X.no 2 (by decide) _ (by decide), KA.fl, ?_⟩
        refine ⟨vf, _, rfl, .inr KA.sf, fun L5 hL5 => ?_⟩
        have s6 := new_same (o := .lst (k.fields.map V.str)) hL5
        have gL5 : (upd H5 L5 (.lst (k.fields.map V.str))) L5 = some (.lst (k.fields.map V.str)) := upd_same
        obtain ⟨H6, e6⟩ : ∃ G, upd H5 L5 (.lst (k.fields.map V.str)) = G := ⟨_, rfl⟩
        rw [e6] at s6 gL5 ⊢
        have tkj := take_snoc ej
        have rsnoc : rooms cs ((above n).take (j + 1)) = rooms cs ((above n).take j) ++ k.fields := by
          rw [tkj]
          unfold rooms
          rw [List.flatMap_append]
          simp [kfs, hk]
        have lsub : (rooms cs ((above n).take (j + 1))).length ≤ 60 := by
          refine Nat.le_trans ?_ (D.rl n hmc)
          have e := List.take_append_drop (j + 1) (above n)
          conv => rhs; rw [← e]
          unfold rooms
          rw [List.flatMap_append, List.length_append]
          exact Nat.le_add_right _ _
        refine ⟨Rl, L5, _, _, rfl, rfl, s6 _ _ gR, gL5, ?_, fun W2 hW2 => ?_⟩
        · rw [rsnoc, List.length_append] at lsub
          rw [List.length_map, List.length_map]
          exact Nat.le_trans lsub (Nat.le_trans (by decide : 60 ≤ 100) (le_sz (Nat.le_refl _)))
        exact ⟨⟨W2, _, rfl, by rw [upd_same, rsnoc, List.map_append]⟩, (s5.trans s6).trans (new_same hW2)⟩
      · rintro σ H5 ⟨⟨Rl, v3, rfl, gR⟩, s5⟩
        rw [List.length_map, List.take_length] at gR
        refine ⟨_, rfl, Rl, _, rfl, SqL.of gR, D.rl n hmc, fun p l' hp ndl le meml => ?_⟩
        have s6 := new_same (o := SetX P w p l') hp
        have l60 := D.rl n hmc
        have s16 := (s14.trans s5).trans s6
        refine ⟨p, l', rfl, upd_same, by omega, _, rfl, Rl, _, rfl, .inl (SqL.of (s6 _ _ gR)), rfl, ?_⟩
        rw [List.length_map]
        have hb : decide (V.int (l'.length : Int) = V.int ((rooms cs (above n)).length : Int)) = decide ((rooms cs (above n)).Nodup) := by
          rw [decide_eq_decide, ← nodup_len ndl meml]
          constructor
          · intro z; injection z with z; omega
          · intro z; rw [z]
        rw [hb]
        by_cases hdup : (rooms cs (above n)).Nodup
        · rw [decide_eq_true hdup]
          refine ⟨_, rfl, iteF ⟨⟨_, _, _, rfl⟩, s16, ?_⟩⟩
          rw [tkx]
          intro n' hn'
          rcases List.mem_append.mp hn' with h | h
          · exact hnd n' h
          · rw [List.mem_singleton.mp h]; exact hdup
        · rw [decide_eq_false hdup]
          refine ⟨_, rfl, iteT ⟨_, rfl, le_sz (Nat.le_of_ble_eq_true rfl), fun p2 hp2 => ?_⟩⟩
          exact q1 i n ex hnd hdup p2 _ ((sL.trans s16).trans (new_same hp2)) upd_same
    · rintro σ H2 ⟨⟨v1, v2, v3, rfl⟩, s2, hnd⟩
      rw [List.length_map, List.take_length] at hnd
      have sL2 := sL.trans s2
      obtain ⟨us2, gT2, oT2⟩ := hT.same sL2
      have lu2 : cs.length = us2.length := by rw [← OhAll.length _ _ oT2, List.length_map]
      have keys2 : ((cs.zip us2).map fun kv => ((.inr kv.1.name : Key), kv.2)).map (·.1) = (cs.map (·.name)).map Sum.inr := by
        rw [List.map_map, List.map_map]
        refine List.ext_getElem (by simp [lu2]) fun i h1 h2 => by simp
      refine ⟨_, rfl, Tb, _, cs.map (·.name), rfl, .inl gT2, keys2, by rw [List.length_map]; omega, fun ms Lm perm2 srt2 hLm => ?_⟩
      obtain ⟨_, r2, r3⟩ := q ms perm2 srt2
      have mem2 : ∀ n, n ∈ ms ↔ n ∈ cs.map (·.name) := fun n => perm2.mem_iff
      have hnd2 : ∀ n ∈ ms, (rooms cs (above n)).Nodup := fun n hn => hnd n ((mem n).mpr ((mem2 n).mp hn))
      replace r2 := r2 hnd2
      replace r3 := r3 hnd2
      have sM := new_same (o := .lst (ms.map V.str)) hLm
      have gM : (upd H2 Lm (.lst (ms.map V.str))) Lm = some (.lst (ms.map V.str)) := upd_same
      have s0 := sL2.trans sM
      obtain ⟨H3, e3⟩ : ∃ G, upd H2 Lm (.lst (ms.map V.str)) = G := ⟨_, rfl⟩
      rw [e3] at sM gM s0 ⊢
      refine ⟨Lm, rfl, ⟨_, SqL.of gM⟩, for_list (K := K) (a := Lm) (xs := ms.map V.str) (fun i σ H4 => (∃ v1 v2 v3 v4 v5 v6, σ = [some (.ref Tb), v1, v2, v3, v4, v5, v6]) ∧ Same H3 H4 ∧ ∀ n' ∈ ms.take i, ∀ e ∈ sgs cs (above n'), sgBad e.2 = false) ⟨⟨v1, v2, v3, none, none, none, rfl⟩, Same.refl _, fun _ z => nomatch z⟩ (fun i σ H4 _ h => SqL.of (h.2.1 _ _ gM)) ?_ ?_⟩
      · rintro i y σ H4 hi ⟨⟨v1, v2, v3, v4, v5, v6, rfl⟩, s4, hfine⟩
        obtain ⟨rfl, hm⟩ := get_str hi
        have hi2 : i < ms.length := by
          have := (List.getElem?_eq_some_iff.mp hi).1
          rwa [List.length_map] at this
        have ex : ms[i]? = some (ms.getD i "") := by simp only [List.getD, List.getElem?_eq_getElem hi2, Option.getD_some]
        obtain ⟨n, hn⟩ : ∃ x, ms.getD i "" = x := ⟨_, rfl⟩
        rw [hn] at ex hm ⊢
        have tkx := take_snoc ex
        have hmc := (mem2 n).mp hm
        refine fun S hS => ?_
        have hT4 := hT.same (s0.trans s4)
        have k45 : KeepB S H4 (upd H4 S (.dK [])) := KeepB.at
        have s45 := new_same (o := .dK []) hS
        have gS5 : (upd H4 S (.dK [])) S = some (.dK []) := upd_same
        obtain ⟨H5, e5⟩ : ∃ G, upd H4 S (.dK []) = G := ⟨_, rfl⟩
        rw [e5] at k45 s45 gS5 ⊢
        obtain ⟨kn, hk40, hab⟩ := D.ab n hmc
        refine ⟨_, rfl, _, rfl, Tb, cs, n, kn, above n, rfl, hT4.same s45, hab, hk40, D.ok n hmc, fun Lb H6 hL2 s6 gL2 => ?_⟩
        have nLS : Lb ≠ S := fun z => by rw [z, gS5] at hL2; cases hL2
        have k46 : KeepB S H4 H6 := k45.trans (KeepB.of s6)
        refine ⟨Lb, rfl, ⟨_, SqL.of gL2⟩, for_list (K := K) (a := Lb) (xs := (above n).map V.str) (fun j σ H7 => (∃ v2 v3 v5 v6, σ = [some (.ref Tb), some (.str n), v2, v3, some (.ref S), v5, v6]) ∧ KeepB S H6 H7 ∧ SG K C f S H7 (sgAll [] (((above n).take j).flatMap (kms cs)))) ⟨⟨_, _, _, _, rfl⟩, KeepB.of (Same.refl _), [], s6 _ _ gS5, .nil⟩ (fun j σ H7 _ h => SqL.of (h.2.1 _ _ nLS gL2)) ?_ ?_⟩
        · rintro j y σ H7 hj ⟨⟨v2, v3, v5, v6, rfl⟩, k67, G7⟩
          obtain ⟨rfl, hmj⟩ := get_str hj
          have hj2 : j < (above n).length := by
            have := (List.getElem?_eq_some_iff.mp hj).1
            rwa [List.length_map] at this
          have ej : (above n)[j]? = some ((above n).getD j "") := by simp only [List.getD, List.getElem?_eq_getElem hj2, Option.getD_some]
          obtain ⟨x, hx⟩ : ∃ x, (above n).getD j "" = x := ⟨_, rfl⟩
          rw [hx] at ej hmj ⊢
          obtain ⟨k, hk⟩ := kdn x (D.mem n hmc x hmj)
          obtain ⟨us7, gT7, oT7⟩ := hT4.same (hole_in hS (k46.trans k67))
          obtain ⟨u, eu, ou⟩ := (tab_look oT7).2 k hk
          obtain ⟨b, bx, bs, vb, vf, vm, vw, ys, rfl, KA⟩ := kO_get ou
          have hg := DGet.k (k := .inr x) (hole_to _ _ gT7)
          rw [eu] at hg
          obtain ⟨a0, ha0⟩ : ∃ a0, sgAll [] (((above n).take j).flatMap (kms cs)) = a0 := ⟨_, rfl⟩
          have tkj := take_snoc ej
          have hnext : sgAll [] (((above n).take (j + 1)).flatMap (kms cs)) = sgAll a0 k.methods := by
            rw [tkj, List.flatMap_append, ← ha0]
            unfold sgAll
            rw [List.foldl_append]
            simp [kms, hk]
          have lall : (((above n).take (j + 1)).flatMap (kms cs)).length ≤ 60 := by
            refine Nat.le_trans ?_ (D.ml n hmc)
            have e := List.take_append_drop (j + 1) (above n)
            conv => rhs; rw [← e]
            rw [List.flatMap_append, List.length_append]
            exact Nat.le_add_right _ _
          have lsplit : (((above n).take j).flatMap (kms cs)).length + k.methods.length ≤ 60 := by
            rw [tkj, List.flatMap_append, List.length_append] at lall
            simpa [kms, hk] using lall
          obtain ⟨f1, f2, f3⟩ := sgAll_facts (ms := ((above n).take j).flatMap (kms cs)) (a := []) (t := 0) List.nodup_nil (fun _ z => nomatch z) (Nat.le_refl _)
          rw [ha0] at f1 f2 f3 G7
          refine ⟨_, rfl, _, rfl, Tb, _, rfl, hg, b, C 2, bx, bs, _, rfl, hole_to _ _ KA.ins, X.cls 2 (by decide), X.no 2 (by decide) _ (by decide), KA.m, vm, rfl, ⟨_, SqT.same hole_to KA.sm⟩, for_tup (K := K) (a := vm) (xs := ys) (fun j2 σ H8 => (∃ v5 v6, σ = [some (.ref Tb), some (.str n), v2, some (.str x), some (.ref S), v5, v6]) ∧ KeepB S H7 H8 ∧ SG K C f S H8 (sgAll a0 (k.methods.take j2))) ⟨⟨_, _, rfl⟩, KeepB.of (Same.refl _), G7⟩ (fun j2 σ H8 _ h => SqT.same hole_to (SqT.same (hole_keep h.2.1) KA.sm)) ?_ ?_⟩
          · rintro j2 y2 σ H8 hj2' ⟨⟨v5, v6, rfl⟩, k78, G8⟩
            obtain ⟨d, hd, od⟩ := ohAll_get _ _ _ _ KA.om hj2'
            rw [List.getElem?_map] at hd
            obtain ⟨m, em, rfl⟩ := Option.map_eq_some_iff.mp hd
            have tkm := take_snoc em
            have hm8 := Oh.sm (hole_keep k78) od
            obtain ⟨b2, mx, mfs, vp, ps, w1, w2, wb, rfl, MA⟩ := mO_get hm8
            obtain ⟨kvs, gS8, pS⟩ := id G8
            have hj3 : j2 < k.methods.length := (List.getElem?_eq_some_iff.mp em).1
            obtain ⟨a1, ha1⟩ : ∃ a1, sgAll a0 (k.methods.take j2) = a1 := ⟨_, rfl⟩
            obtain ⟨u1, u2, u3⟩ := sgAll_facts (ms := k.methods.take j2) (a := a0) f1 f2 f3
            have hnx : sgAll a0 (k.methods.take (j2 + 1)) = sgPut a1 m.name (m.params, m.result) := by
              rw [tkm, ← ha1]
              unfold sgAll
              rw [List.foldl_append]
              rfl
            rw [ha1] at u1 u2 u3 pS
            rw [List.length_take] at u2 u3
            have lkv : kvs.length = a1.length := Paired.length pS
            refine ⟨_, rfl, S, rfl, .inl ⟨kvs, .inl gS8⟩, _, rfl, b2, C 1, mx, mfs, _, rfl, hole_to _ _ MA.ins, X.cls 1 (by decide), X.no 1 (by decide) _ (by decide), MA.nm, le_sz (Nat.le_of_ble_eq_true rfl), fun Z hZ => ?_⟩
            have s89 := new_same (o := .lst []) hZ
            have gZ : (upd H8 Z (.lst [])) Z = some (.lst []) := upd_same
            have nZS : Z ≠ S := fun z => by rw [z, gS8] at hZ; cases hZ
            obtain ⟨H9, e9⟩ : ∃ G, upd H8 Z (.lst []) = G := ⟨_, rfl⟩
            rw [e9] at s89 gZ ⊢
            have h89 := hole_keep (S := S) (KeepB.of s89)
            refine ⟨_, DGet.k (k := .inr m.name) (s89 _ _ gS8), ?_⟩
            have old : ∃ O ol, (valV kvs (.inr m.name)).getD (.ref Z) = .ref O ∧ H9 O = some (.lst ol) ∧ OhAll K (clk C f) (hole H9 S) ((sgOf a1 m.name).map sgO) ol := by
              rcases sg_look (n := m.name) pS with ⟨e, nm⟩ | ⟨v, e, _, _, A1, ys1, e2, g2, o2⟩
              · refine ⟨Z, [], by rw [e]; rfl, gZ, ?_⟩
                have e0 : sgOf a1 m.name = [] := by
                  unfold sgOf
                  rw [List.find?_eq_none.mpr fun e he y => nm (List.mem_map.mpr ⟨e, he, of_decide_eq_true y⟩)]
                  rfl
                rw [e0]
                exact oh_nil
              · exact ⟨A1, ys1, by rw [e]; exact e2, s89 _ _ (hole_to _ _ g2), OhAll.sm h89 o2⟩
            obtain ⟨O, ol, eO, gO, oO⟩ := old
            rw [eO]
            have i9 := s89 _ _ (hole_to _ _ MA.ins)
            refine ⟨_, rfl, b2, C 1, mx, mfs, _, rfl, i9, X.cls 1 (by decide), X.no 1 (by decide) _ (by decide), MA.p, _, rfl, b2, C 1, mx, mfs, _, rfl, i9, X.cls 1 (by decide), X.no 1 (by decide) _ (by decide), MA.r, le_sz (Nat.le_of_ble_eq_true rfl), fun t ht => ⟨le_sz (Nat.le_of_ble_eq_true rfl), fun Wl hWl => ?_⟩⟩
            have gS9 := s89 _ _ gS8
            have sA := new_same (o := .tup [V.ref vp, .str m.result]) ht
            have nTS : t ≠ S := fun z => by rw [z, gS9] at ht; cases ht
            have gt : (upd H9 t (.tup [V.ref vp, .str m.result])) t = some (.tup [V.ref vp, .str m.result]) := upd_same
            obtain ⟨Ha, ea⟩ : ∃ G, upd H9 t (.tup [V.ref vp, .str m.result]) = G := ⟨_, rfl⟩
            rw [ea] at sA gt hWl ⊢
            have sB := new_same (o := .lst [V.ref t]) hWl
            have gW : (upd Ha Wl (.lst [V.ref t])) Wl = some (.lst [.ref t]) := upd_same
            obtain ⟨Hb, eb⟩ : ∃ G, upd Ha Wl (.lst [V.ref t]) = G := ⟨_, rfl⟩
            rw [eb] at sB gW ⊢
            have lol : ol.length ≤ 60 := by
              rw [← OhAll.length _ _ oO, List.length_map]
              exact Nat.le_trans (sgOf_bound u2) (by omega)
            refine ⟨O, Wl, _, _, rfl, rfl, sB _ _ (sA _ _ gO), gW, Nat.le_trans (show ol.length + 1 ≤ 61 by omega) (Nat.le_trans (by decide : 61 ≤ 100) (le_sz (Nat.le_refl _))), fun V2 hV2 => ?_⟩
            have sC := new_same (o := .lst (ol ++ [.ref t])) hV2
            have gV : (upd Hb V2 (.lst (ol ++ [.ref t]))) V2 = some (.lst (ol ++ [.ref t])) := upd_same
            have gSb := sB _ _ (sA _ _ gS9)
            have nVS : V2 ≠ S := fun z => by rw [z, gSb] at hV2; cases hV2
            obtain ⟨Hc, ec⟩ : ∃ G, upd Hb V2 (.lst (ol ++ [.ref t])) = G := ⟨_, rfl⟩
            rw [ec] at sC gV ⊢
            have s9c := (sA.trans sB).trans sC
            have s8c := s89.trans s9c
            have h8c := hole_keep (S := S) (KeepB.of s8c)
            have h9c := hole_keep (S := S) (KeepB.of s9c)
            refine ⟨_, rfl, _, rfl, b2, C 1, mx, mfs, _, rfl, s8c _ _ (hole_to _ _ MA.ins), X.cls 1 (by decide), X.no 1 (by decide) _ (by decide), MA.nm, S, _, rfl, DPut.k (k := .inr m.name) (s8c _ _ gS8) (le_sz' (by omega)), ?_⟩
            have newR : SgR K C f (hole Hc S) (.inr m.name, .ref V2) (m.name, sgOf a1 m.name ++ [(m.params, m.result)]) := by
              refine ⟨rfl, V2, _, rfl, (hole_ne nVS).trans gV, ?_⟩
              rw [List.map_append]
              refine oha_snoc (cl := clk C f) (d := sgO (m.params, m.result)) ?_ (OhAll.sm h9c oO)
              exact oh_tup (SqT.of ((hole_ne nTS).trans (sC _ _ (sB _ _ gt)))) (oh_cons (Oh.sm h8c (oh_tup MA.sp MA.op)) (oh_cons (oh_str _) oh_nil))
            refine ⟨⟨_, _, rfl⟩, (k78.trans (KeepB.of s8c)).trans KeepB.at, ?_⟩
            rw [hnx]
            refine ⟨_, upd_same, ?_⟩
            rw [hole_upd]
            exact sg_put (L2.Paired.mapP pS fun _ _ q => q.same h8c) u1 newR
          · rintro σ H8 ⟨⟨v5, v6, rfl⟩, k78, G8⟩
            have lm : ys.length = k.methods.length := by rw [← OhAll.length _ _ KA.om, List.length_map]
            rw [lm, List.take_length] at G8
            rw [hnext]
            exact ⟨⟨_, _, _, _, rfl⟩, k67.trans k78, G8⟩
        · rintro σ H7 ⟨⟨v2, v3, v5, v6, rfl⟩, k67, G7⟩
          rw [List.length_map, List.take_length] at G7
          have s4' : Same H3 H4 := s4
          have k47 : KeepB S H4 H7 := k46.trans k67
          have s47 : Same H4 H7 := fun b u e => k47 b u (fun z => by rw [z, hS] at e; cases e) e
          obtain ⟨kvs, gS7, pS⟩ := id G7
          obtain ⟨f1, f2, f3⟩ := sgAll_facts (ms := (above n).flatMap (kms cs)) (a := []) (t := 0) List.nodup_nil (fun _ z => nomatch z) (Nat.le_refl _)
          have lml := D.ml n hmc
          have hsg : sgAll [] ((above n).flatMap (kms cs)) = sgs cs (above n) := rfl
          rw [hsg] at f1 f2 f3 pS G7
          have kk : kvs.map (·.1) = ((sgs cs (above n)).map (·.1)).map Sum.inr := by
            clear gS7 G7 f1 f2 f3 hsg
            generalize sgs cs (above n) = a at pS
            induction pS with
            | nil => rfl
            | cons h p ih => rw [List.map_cons, List.map_cons, List.map_cons, ih, h.1]
          refine ⟨_, rfl, S, kvs, (sgs cs (above n)).map (·.1), rfl, .inl gS7, kk, by rw [List.length_map]; omega, fun ws Lw permw srtw hLw => ?_⟩
          have s78 := new_same (o := .lst (ws.map V.str)) hLw
          have gW8 : (upd H7 Lw (.lst (ws.map V.str))) Lw = some (.lst (ws.map V.str)) := upd_same
          obtain ⟨H8, e8⟩ : ∃ G, upd H7 Lw (.lst (ws.map V.str)) = G := ⟨_, rfl⟩
          rw [e8] at s78 gW8 ⊢
          have s48 := s47.trans s78
          obtain ⟨al, hal⟩ : ∃ al, sgs cs (above n) = al := ⟨_, rfl⟩
          have r3' := r3 i n ws
          rw [hal] at f1 f2 f3 pS G7 permw r3'
          refine ⟨Lw, rfl, ⟨_, SqL.of gW8⟩, for_list (K := K) (a := Lw) (xs := ws.map V.str) (fun j σ H9 => (∃ v2 v3 v5 v6, σ = [some (.ref Tb), some (.str n), v2, v3, some (.ref S), v5, v6]) ∧ Same H8 H9 ∧ ∀ m ∈ ws.take j, sgBad (sgOf al m) = false) ⟨⟨_, _, _, _, rfl⟩, Same.refl _, fun _ z => nomatch z⟩ (fun j σ H9 _ h => SqL.of (h.2.1 _ _ gW8)) ?_ ?_⟩
          · rintro j y σ H9 hj ⟨⟨v2, v3, v5, v6, rfl⟩, s89, hgood⟩
            obtain ⟨rfl, hmj⟩ := get_str hj
            have hj2 : j < ws.length := by
              have := (List.getElem?_eq_some_iff.mp hj).1
              rwa [List.length_map] at this
            have ej : ws[j]? = some (ws.getD j "") := by simp only [List.getD, List.getElem?_eq_getElem hj2, Option.getD_some]
            obtain ⟨m, hx⟩ : ∃ x, ws.getD j "" = x := ⟨_, rfl⟩
            rw [hx] at ej hmj ⊢
            have hmk : m ∈ al.map (·.1) := permw.mem_iff.mp hmj
            have tkj := take_snoc ej
            rcases sg_look (n := m) pS with ⟨_, z⟩ | ⟨v, ev, _, _, A1, ys1, rfl, gA, oA⟩
            · exact absurd hmk z
            have s79 := s78.trans s89
            have h79 := hole_keep (S := S) (KeepB.of s79)
            have gA9 := s79 _ _ (hole_to _ _ gA)
            have hg := DGet.k (k := .inr m) (s79 _ _ gS7)
            rw [ev] at hg
            obtain ⟨l, hl⟩ : ∃ l, sgOf al m = l := ⟨_, rfl⟩
            have ll : l.length ≤ 60 := by rw [← hl]; exact Nat.le_trans (sgOf_bound f2) (by omega)
            have o9 : OhAll K (clk C f) H9 (l.map sgO) ys1 := by rw [← hl]; exact OhAll.sm (hole_to (H := H9) (S := S)) (OhAll.sm h79 oA)
            have ly : ys1.length = l.length := by rw [← OhAll.length _ _ o9, List.length_map]
            refine ⟨_, rfl, _, rfl, S, _, rfl, hg, A1, rfl, ⟨_, SqL.of gA9⟩, fun D0 hD0 => ?_⟩
            refine lc_it (walk_list (xs := ys1)) (g := gName 3) (vs := [3]) (te := tVar 3) (fun i Hq => Same H9 Hq ∧ ∃ acc, Hq D0 = some (.lst acc) ∧ acc.length ≤ i ∧ acc.isEmpty = !(l.take i).any fun s => !decide (l.head? = some s)) ⟨new_same hD0, [], upd_same, Nat.le_refl _, rfl⟩ (fun i Hq _ h => SqL.of (h.1 _ _ gA9)) ?_ ?_
            · rintro i' y' Hq Hr hi' ⟨sq, acc, gD, la, ea⟩ ⟨rfl, hy'⟩
              obtain ⟨d, hd, od⟩ := ohAll_get _ _ _ _ o9 hy'
              rw [List.getElem?_map] at hd
              obtain ⟨sg, es, rfl⟩ := Option.map_eq_some_iff.mp hd
              have hi3 := (List.getElem?_eq_some_iff.mp es).1
              have tks := take_snoc es
              have hgq : DGet Hr S (.str m) (some (.ref A1)) := by
                have := DGet.k (k := .inr m) (sq _ _ (s79 _ _ gS7))
                rw [ev] at this
                exact this
              cases l with
              | nil => simp at hi3
              | cons s0 l' =>
              cases ys1 with
              | nil => simp at ly
              | cons y0 ys2 =>
              have o0 := (ohAll_get _ _ 0 y0 o9 rfl)
              obtain ⟨d0, hd0, od0⟩ := o0
              obtain rfl : sgO s0 = d0 := Option.some.inj hd0
              refine ⟨rfl, _, rfl, _, rfl, _, rfl, S, _, rfl, hgq, A1, _, _, y0, rfl, rfl, SqL.of (sq _ _ gA9), at0, ?_⟩
              refine ⟨_, _, Oh.sm sq od, Oh.sm sq od0, ⟨(okx_pairs (S := Z0) (cl := clk C f) _).1, trivial, trivial⟩, ⟨(okx_pairs (S := Z0) (cl := clk C f) _).1, trivial, trivial⟩, sg_need sg, sg_need s0, fun Hs xs' => ?_⟩
              rw [sg_eqo]
              refine ⟨_, rfl, ?_⟩
              have sqs : Same H9 Hs := sq.trans xs'
              by_cases hq : sg = s0
              · rw [decide_eq_true hq]
                refine iteF ⟨sqs, acc, xs' _ _ gD, by omega, ?_⟩
                rw [tks, List.any_append, ea, hq]
                simp
              · rw [decide_eq_false hq]
                refine iteT ⟨_, rfl, acc, xs' _ _ gD, Nat.lt_of_le_of_lt (show acc.length ≤ 60 by omega) (Nat.lt_of_lt_of_le (by decide : 60 < 100) (le_sz (Nat.le_refl _))), same_D hD0 sqs, _, upd_same, by simp; omega, ?_⟩
                rw [tks, List.any_append]
                have h0 : decide (s0 = sg) = false := decide_eq_false (fun z => hq z.symm)
                cases acc <;> simp [h0]
            · rintro Hq ⟨sq, acc, gD, la, ea⟩
              rw [ly, List.take_length] at ea
              have ea' : acc.isEmpty = !sgBad l := ea
              refine ⟨le_sz (Nat.le_of_ble_eq_true rfl), fun E1 hE1 => ?_⟩
              have sE := new_same (o := .lst []) hE1
              refine ⟨D0, E1, acc, rfl, rfl, SqL.of (sE _ _ gD), SqL.of upd_same, _, rfl, ?_⟩
              rw [ea', Bool.not_not]
              cases hbad : sgBad l with
              | false =>
                refine iteF ⟨⟨_, _, _, _, rfl⟩, (s89.trans sq).trans sE, ?_⟩
                rw [tkj]
                intro m' hm'
                rcases List.mem_append.mp hm' with h | h
                · exact hgood m' h
                · rw [List.mem_singleton.mp h, hl]; exact hbad
              | true =>
                refine iteT ⟨_, rfl, _, rfl, le_sz (Nat.le_of_ble_eq_true rfl), fun t ht => ⟨le_sz (Nat.le_of_ble_eq_true rfl), fun p hp => ?_⟩⟩
                have st := new_same (o := .tup [V.str n, .str m]) ht
                have sp := new_same (o := .tup [V.ref t, .str "inherited"]) hp
                refine r3' m ex hfine permw srtw ?_ p t _ ((((s0.trans s4).trans (s48.trans s89)).trans (sq.trans sE)).trans (st.trans sp)) (sp _ _ upd_same) upd_same
                rw [List.find?_eq_some_iff_getElem]
                refine ⟨by rw [hl]; exact hbad, j, hj2, (List.getElem?_eq_some_iff.mp ej).2, fun j' hj' => ?_⟩
                have hin : ws[j']'(Nat.lt_trans hj' hj2) ∈ ws.take j := by
                  rw [List.mem_take_iff_getElem]
                  exact ⟨j', by rw [Nat.min_eq_left (Nat.le_of_lt hj2)]; exact hj', rfl⟩
                rw [hgood _ hin]
                rfl
          · rintro σ H9 ⟨⟨v2, v3, v5, v6, rfl⟩, s89, hgood⟩
            rw [List.length_map, List.take_length] at hgood
            refine ⟨⟨_, _, _, _, _, _, rfl⟩, s4.trans (s48.trans s89), ?_⟩
            rw [tkx]
            intro n' hn' e he
            rcases List.mem_append.mp hn' with h | h
            · exact hfine n' h e he
            · rw [List.mem_singleton.mp h, hal] at he
              have hw : e.1 ∈ ws := permw.mem_iff.mpr (List.mem_map.mpr ⟨e, he, rfl⟩)
              have := hgood e.1 hw
              rwa [sgOf_mem f1 he] at this
      · rintro σ H4 ⟨_, s4, hfine⟩
        rw [List.length_map, List.take_length] at hfine
        exact r2 hfine H4 (s0.trans s4)
end

end Kx
set_option linter.all false
namespace Kx
open PySem L2 PySem.Spec PyProof.Rows
abbrev sLTo : Stmt := top 133
abbrev nLTo : List Str := ["_law_some", "_law_order", "e"]
theorem scLTo : FnScope nLTo ["_law_some", "_law_order"] (defScope sLTo) := ⟨rfl, rfl, rfl, by decide +kernel, rfl, by decide +kernel, by decide +kernel⟩
/-! the law's own defs: how a library is refused -/
open StX (fn_star cxUp_none bind_star1 pe_makeR tMakeR)
section
variable {X : Cx}
theorem pe_xfE {a C : Addr} {oe : Obj} {cls : Value} {d : Option Addr} {pn : List (Addr × Obj)} {e : Expr} {te : TE} {pos : Pos} {n : PySem.Str} (T : XfC X.K C) (hno : PySem.W.findIn X.K (.ref C) n = some none) (hz : Zc cls d oe) (hf : ∃ vs, oe.data = .fields vs)
    (he : PE (X.suite a ((a, oe) :: pn)) e te) (hb : attributeBase e n X.env (eval e X.env) = eval e X.env := by rfl) : PE (X.suite a ((a, oe) :: pn)) (.Attribute e n pos)
      (fun σ H Q => te σ H fun x H1 => x = .ref a ∧ cls = .ref C ∧ ∃ (dd : Addr) (fs : List (PySem.Str × V)) (v : V), d = some dd ∧ H1 dd = some (exd dd fs) ∧ fs.lookup n = some v ∧ Q v H1) := by
  refine ⟨fun pins s σ H Q I h => attr_of hb (thn (he.run pins s σ H _ I h) fun u s1 hh => ?_)⟩
  obtain ⟨x, H1, I1, rx, rfl, rfl, dd, fs, v, rfl, ea, l, q⟩ := hh
  obtain rfl : u = Value.ref a := rx
  obtain ⟨ha, _⟩ := I1.pin (a, oe) (List.mem_append_left _ List.mem_cons_self)
  obtain ⟨vs, hd⟩ := hf
  obtain ⟨mA, hns, hr⟩ := exd_at I1.hok ea
  obtain ⟨od, ho, hl⟩ := lookIn_ns hns
  obtain ⟨u, hu, ru⟩ := RelO.some_of (v := v) (o := mA n) (by rw [← l]; exact hr n)
  have J : PySem.W.InstAt s1.heap a oe C (some od) := ⟨ha, hz.1, by unfold PySem.W.notCls; rw [hd] <;> rfl, by rw [hz.2]; exact ho⟩
  exact HandSPX.exc_get I1.kIn J T.ga T.gg T.exC (PySem.W.findObj_own T.hdC hno rfl (by rw [hl, hu])) (handed_of ru) ⟨v, H1, I1.tok _, ru, q⟩
end
def tMakeRS (C : Addr) (sp : Sp) (E : L2.St → XK) (t : TA) : TE := fun σ H Q => t σ H fun vs H1 => ∀ x dx, H1 x = Option.none → H1 dx = Option.none → dx ≠ x →
  sp (V.ref x :: vs) (upd (upd H1 dx (.own x)) x (.ins C dx [])) (fun v H2 => v = .non ∧ Q (.ref x) H2) (E σ)
section
variable {X : Cx} {CX : CXT} {k i : Nat} {f C : Addr} {sp : Sp} {E : L2.St → XK} {x : Str} {e fe : Expr} {es : List Expr} {te tf : TE} {t : TA} {p pos : Pos}
theorem run_makeRS {pins : List (Addr × Obj)} {σ : L2.St} {H : Hp} {s : Shared} {Q : VK} {us : List Value} {vs : List V} (M : Mk X.K C f) (F : FnR X.prog X.w X.K X.mg X.base CX k f sp) (hr : Room (k + 1) X.A) (hx : PassesAt CX X σ (E σ)) (I : Inv X pins σ H s) (r : Vals vs us)
    (h : ∀ x dx, H x = Option.none → H dx = Option.none → dx ≠ x → sp (V.ref x :: vs) (upd (upd H dx (.own x)) x (.ins C dx [])) (fun v H2 => v = .non ∧ Q (.ref x) H2) (E σ)) :
    wpAny (model X.prog X.w) X.A (call (.ref C) us) (EP X pins σ Q) X.xe s := by
  have hq := h (s.heap.objs.size + 1) s.heap.objs.size (I.hok.fresh (Nat.le_succ _)) (I.hok.fresh (Nat.le_refl _)) (Nat.ne_of_lt (Nat.lt_succ_self _))
  have I2 := Inv.made (C := C) I
  have r2 : Vals (V.ref (s.heap.objs.size + 1) :: vs) (Value.ref (s.heap.objs.size + 1) :: us) := .cons rfl r
  refine wpAny_call (make_map (f := f) I.kIn M.makes M.init (beq_iff_eq.mp M.fn) (codeAny_mono (F _ X.stack _ _ (Value.ref (s.heap.objs.size + 1) :: us) _ _ (E σ) (hr.make C us []) (I2.env0.make C us []) r2 hq) fun r s' hq' => ?_))
  cases r with
  | error e => exact hx pins _ _ e s' I2 hq'
  | ok fl =>
    cases fl with
    | ret u =>
      obtain ⟨v, H', I3, rv, ev, q3⟩ := I2.after hq'
      subst ev
      exact ⟨rv, ⟨V.ref (s.heap.objs.size + 1), H', I3, rfl, q3⟩⟩
    | next => exact False.elim hq'
    | brk => exact False.elim hq'
    | cont => exact False.elim hq'
theorem pe_makeRS (M : Mk X.K C f) (F : FnR X.prog X.w X.K X.mg X.base CX k f sp) (hr : Room (k + 1) X.A) (hg : Gl X x) (hm : X.mg x = some (.ref C)) (hx : ∀ σ, PassesAt CX X σ (E σ)) (ha : PA X (e :: es) t) (hdb : (x == ("__debug__" : Str)) = false := by decide)
    (he : starEach (e :: es) X.env = (false, eval e X.env) :: starEach es X.env := by rfl) (hpl : (backTo pos (starEach es X.env)).any (·.1) = false := by rfl) : PE X (.Call (.Name x p) (e :: es) [] pos) (tMakeRS C sp E t) := by
  refine ⟨fun pins s σ H Q I h => ?_⟩
  refine wpAny_Call_Name_kw (ld_glob I hg hm ?_ hdb)
  refine PySem.W.callWith_K (h₀ := X.base) I.ok.mod.kin M.kp (thn (ha.run pos pins s σ H _ I h) fun us s1 ⟨vs, H1, I1, r, q⟩ => ⟨I1.kIn, ?_⟩) he hpl
  exact run_makeRS M F hr (hx σ) I1 r q
end
def spTo (K : PySem.W.Frag) (C f : Nat → Addr) : Sp := fun vs H Q _ => ∃ (L R : Addr) (ls : List V) (i0 i1 i2 i3 : Int) (v0 v1 v2 v3 : V) (cs : List KD) (o : Ord) (rk : Str → Nat), vs = [.ref L, .ref R] ∧ H L = some (.lst ls) ∧ SqT K H R [.int i0, .int i1, .int i2, .int i3] ∧
  atI ls i0 = some v0 ∧ atI ls i1 = some v1 ∧ atI ls i2 = some v2 ∧ atI ls i3 = some v3 ∧ OhAll K (clk C f) H (cs.map kO) [v0, v1, v2, v3] ∧ LibFine cs o rk ∧
  ∀ ns : List Str, ns.Perm (cs.map (·.name)) → sortedS ns = true →
   (fdbl cs o ns = none → allAl cs o ns → ∀ H', Same H H' → Q .non H') ∧
   (∀ n, fdbl cs o ns = some n → ∀ p H', Same H H' → H' p = some (.tup [.str n, .str "double"]) → Q (.ref p) H') ∧
   (fdbl cs o ns = none → ∀ i n ys m, ns[i]? = some n → allAl cs o (ns.take i) → sortedS ys = true → ys.Nodup → (∀ x, x ∈ ys ↔ x ∈ mnames cs (ordOf o n)) → ys.find? (fun m => !alike cs (ordOf o n) m) = some m →
     ∀ p t H', Same H H' → H' t = some (.tup [.str n, .str m]) → H' p = some (.tup [.ref t, .str "inherited"]) → Q (.ref p) H')
section
variable {P : Program} {w : World} {K : PySem.W.Frag} {mg : Str → Option Value} {base : Heap} {C f : Nat → Addr} {CL B CB fB fi : Addr} {fdB fdi : FuncData}
theorem ok_told {g : Addr} {fd : FuncData} (F : Fs K mg "_law_told" sLTo ["_law_some", "_law_order"] g fd) (L : LiF K w mg C f CL) (W : BadL K mg B CB fB fdB) (Fi : Fun K "__init__" "Library.__init__" sLi fi fdi) (MK : Mk K CL fi) (gL : mg "Library" = some (.ref CL)) : FnOk P w K mg base CX0 39 g fd ["_law_some", "_law_order"] (spTo K C f) := by
  have GLi : FnR P w K mg base (L2N.CX P w) 37 fi (spLiR K C f CL CB) := fnR_li Fi L W
  refine F.F.ok scLTo (fun vs H Q E h => ?_) (fun cdv A outer s H vs Q E hr h => ?_)
  · obtain ⟨_, _, _, _, _, _, _, _, _, _, _, _, _, _, rfl, _⟩ := h
    rfl
  · obtain ⟨Ll, R, ls, i0, i1, i2, i3, v0, v1, v2, v3, cs, o, rk, rfl, hL, hR, a0, a1, a2, a3, oa, fine, q⟩ := h
    refine ⟨_, pss_one (L2N.ps_try_as (i := 2) (Wout := fun _ _ _ _ => False)
      (tb := fun Wx => tSeq (tDrop (tMakeRS CL (spLiR K C f CL CB) (WE Wx) (tCons (tOp (rIxL K) (tVar 0) (tOp (rIxT K) (tVar 1) (tC (.int 0)))) (tCons (tOp (rIxL K) (tVar 0) (tOp (rIxT K) (tVar 1) (tC (.int 1)))) (tCons (tOp (rIxL K) (tVar 0) (tOp (rIxT K) (tVar 1) (tC (.int 2)))) (tCons (tOp (rIxL K) (tVar 0) (tOp (rIxT K) (tVar 1) (tC (.int 3)))) tNil)))))) (tRet (tC .non)))
      (ts := fun a cls d => tRet (tTup (tCons (fun σ H Q => tVar 2 σ H fun x H1 => x = .ref a ∧ cls = .ref CB ∧ ∃ (dd : Addr) (fs : List (PySem.Str × V)) (v : V), d = some dd ∧ H1 dd = some (exd dd fs) ∧ fs.lookup ("at" : PySem.Str) = some v ∧ Q v H1) (tCons (fun σ H Q => tVar 2 σ H fun x H1 => x = .ref a ∧ cls = .ref CB ∧ ∃ (dd : Addr) (fs : List (PySem.Str × V)) (v : V), d = some dd ∧ H1 dd = some (exd dd fs) ∧ fs.lookup ("why" : PySem.Str) = some v ∧ Q v H1) tNil))))
      rfl rfl scLTo.nd rfl rfl ⟨rfl, by decide, .inl W.gm⟩ takesN0
      (fun Wx pn xe tk _ => pss_cons (ps_expr (pe_makeRS (E := WE Wx) MK GLi hr (by rfl) gL (fun σ => L2N.passAt tk σ) (pa_cons (pe_ix (ix_listK (K := K) rfl) (pv 0) (pe_ix (ix_tupK (K := K) rfl) (pv 1) pe_int (fun _ _ => rfl)) (fun _ _ => rfl)) (pa_cons (pe_ix (ix_listK (K := K) rfl) (pv 0) (pe_ix (ix_tupK (K := K) rfl) (pv 1) pe_int (fun _ _ => rfl)) (fun _ _ => rfl)) (pa_cons (pe_ix (ix_listK (K := K) rfl) (pv 0) (pe_ix (ix_tupK (K := K) rfl) (pv 1) pe_int (fun _ _ => rfl)) (fun _ _ => rfl)) (pa_cons (pe_ix (ix_listK (K := K) rfl) (pv 0) (pe_ix (ix_tupK (K := K) rfl) (pv 1) pe_int (fun _ _ => rfl)) (fun _ _ => rfl)) pa_nil)))))) (pss_one (ps_ret pe_non)))
      (fun a oe cls d pn hz hf => pss_one (ps_ret (pe_tup (pa_cons (pe_xfE (X := (cxOf CX0 P w K mg base nLTo "_law_told" (defScope sLTo) g cdv A outer s H E).nox) (n := "at") (C := CB) W.T.xf (W.no _ (by simp)) hz.zc hf (pv 2)) (pa_cons (pe_xfE (X := (cxOf CX0 P w K mg base nLTo "_law_told" (defScope sLTo) g cdv A outer s H E).nox) (n := "why") (C := CB) W.T.xf (W.no _ (by simp)) hz.zc hf (pv 2)) pa_nil)))))), ?_⟩
    refine ⟨_, rfl, _, rfl, R, _, _, _, rfl, rfl, hR, at0, Ll, ls, i0, v0, rfl, rfl, SqL.of hL, a0, ?_⟩
    refine ⟨_, rfl, _, rfl, R, _, _, _, rfl, rfl, hR, rfl, Ll, ls, i1, v1, rfl, rfl, SqL.of hL, a1, ?_⟩
    refine ⟨_, rfl, _, rfl, R, _, _, _, rfl, rfl, hR, rfl, Ll, ls, i2, v2, rfl, rfl, SqL.of hL, a2, ?_⟩
    refine ⟨_, rfl, _, rfl, R, _, _, _, rfl, rfl, hR, rfl, Ll, ls, i3, v3, rfl, rfl, SqL.of hL, a3, ?_⟩
    refine fun x dx nx nd ne => ?_
    have nx1 : (upd H dx (.own x)) x = none := (upd_ne ne.symm).trans nx
    have s2 : Same H (upd (upd H dx (.own x)) x (.ins CL dx [])) := (new_same nd).trans (new_same nx1)
    have g2 : (upd (upd H dx (.own x)) x (.ins CL dx [])) x = some (.ins CL dx []) := upd_same
    obtain ⟨H2, e2⟩ : ∃ G, upd (upd H dx (.own x)) x (.ins CL dx []) = G := ⟨_, rfl⟩
    rw [e2] at s2 g2 ⊢
    refine ⟨[.ref x], [v0, v1, v2, v3], rfl, rfl, le_sz (Nat.le_of_ble_eq_true rfl), fun p hp => ?_⟩
    have npx : x ≠ p := fun z => by rw [← z, g2] at hp; cases hp
    have hp0 : H p = none := Same.free s2 hp
    have sH0 := new_same (o := .tup [v0, v1, v2, v3]) hp0
    have exm : PySem.W.exmOne K (.ref CB) (.ref CB) = some true := PySem.W.exm_ref (by show PySem.W.mroIn K CB _ = _; rw [W.T.mro]; simp) W.T.hdC W.T.tyC (by show PySem.W.mroIn K CB _ = _; rw [W.T.mro]; simp)
    refine ⟨x, dx, p, [v0, v1, v2, v3], cs, o, rk, upd H p (.tup [v0, v1, v2, v3]), rfl, (upd_ne npx).trans g2, (upd_ne npx).trans nx, same_both s2, SqT.of upd_same, OhAll.sm sH0 oa, fine, fun ns perm srt => ?_⟩
    obtain ⟨q1, q2, q3⟩ := q ns perm srt
    refine ⟨fun h1 h2 H' s' => ⟨rfl, q1 h1 h2 H' (sH0.trans s')⟩, fun n hn d H' s' hd => ?_, fun h0 i n ys m h1 h2 h3 h4 h5 h6 d t H' s' ht hd => ?_⟩
    · refine ⟨true, exm, fun _ a' na => ?_, fun z => nomatch z⟩
      refine ⟨_, rfl, rfl, rfl, d, _, .str n, rfl, hd, rfl, _, rfl, rfl, rfl, d, _, .str "double", rfl, hd, rfl, le_sz (Nat.le_of_ble_eq_true rfl), fun p2 hp2 => ?_⟩
      exact q2 n hn p2 _ ((sH0.trans s').trans (new_same hp2)) upd_same
    · refine ⟨true, exm, fun _ a' na => ?_, fun z => nomatch z⟩
      refine ⟨_, rfl, rfl, rfl, d, _, .ref t, rfl, hd, rfl, _, rfl, rfl, rfl, d, _, .str "inherited", rfl, hd, rfl, le_sz (Nat.le_of_ble_eq_true rfl), fun p2 hp2 => ?_⟩
      exact q3 h0 i n ys m h1 h2 h3 h4 h5 h6 p2 t _ ((sH0.trans s').trans (new_same hp2)) ((new_same hp2) _ _ ht) upd_same
end

end Kx
set_option linter.all false
namespace Kx
open PySem L2 PySem.Spec PyProof.Rows
/-! what the law's own due says is what a library says -/
abbrev sgn (m : MD) : Sg := (m.params, m.result)
theorem sgOf_cons {e : Str × List Sg} {a : List (Str × List Sg)} {m : Str} : sgOf (e :: a) m = if e.1 = m then e.2 else sgOf a m := by
  unfold sgOf
  rw [List.find?_cons]
  by_cases z : e.1 = m
  · rw [decide_eq_true z, if_pos z]; rfl
  · rw [decide_eq_false z, if_neg z]
theorem sgOf_not {a : List (Str × List Sg)} {m : Str} (h : m ∉ a.map (·.1)) : sgOf a m = [] := by
  unfold sgOf
  rw [List.find?_eq_none.mpr fun e he y => h (List.mem_map.mpr ⟨e, he, of_decide_eq_true y⟩)]
  rfl
theorem sgOf_app {a b : List (Str × List Sg)} {m : Str} (h : m ∉ a.map (·.1)) : sgOf (a ++ b) m = sgOf b m := by
  induction a with
  | nil => rfl
  | cons e a ih =>
    rw [List.map_cons, List.mem_cons, not_or] at h
    rw [List.cons_append, sgOf_cons, if_neg (fun z => h.1 z.symm)]
    exact ih h.2
theorem sgOf_app' {a b : List (Str × List Sg)} {m : Str} (h : m ∈ a.map (·.1)) : sgOf (a ++ b) m = sgOf a m := by
  induction a with
  | nil => simp at h
  | cons e a ih =>
    rw [List.cons_append, sgOf_cons, sgOf_cons]
    by_cases z : e.1 = m
    · rw [if_pos z, if_pos z]
    · rw [if_neg z, if_neg z]
      exact ih ((List.mem_cons.mp h).resolve_left fun y => z y.symm)
theorem sgOf_map {a : List (Str × List Sg)} {n m : Str} {s : Sg} (h : m ∈ a.map (·.1) ∨ m ≠ n) : sgOf (a.map fun e => if e.1 = n then (e.1, e.2 ++ [s]) else e) m = if m = n then sgOf a m ++ [s] else sgOf a m := by
  induction a with
  | nil =>
    rcases h with h | h
    · simp at h
    · rw [if_neg h]; rfl
  | cons e a ih =>
    have e1 : (if e.1 = n then (e.1, e.2 ++ [s]) else e).1 = e.1 := by split <;> rfl
    rw [List.map_cons, sgOf_cons, sgOf_cons, e1]
    by_cases z : e.1 = m
    · rw [if_pos z, if_pos z]
      by_cases y : m = n
      · rw [if_pos y, if_pos (z.trans y)]
      · rw [if_neg y, if_neg (fun w => y (z.symm.trans w))]
    · rw [if_neg z, if_neg z]
      exact ih (h.imp (fun h => (List.mem_cons.mp h).resolve_left fun y => z y.symm) id)
theorem sgOf_put {a : List (Str × List Sg)} {n m : Str} {s : Sg} : sgOf (sgPut a n s) m = if m = n then sgOf a m ++ [s] else sgOf a m := by
  unfold sgPut
  by_cases hn : n ∈ a.map (·.1)
  · rw [if_pos hn]
    refine sgOf_map ?_
    by_cases y : m = n
    · exact .inl (y ▸ hn)
    · exact .inr y
  · rw [if_neg hn]
    by_cases y : m = n
    · subst y
      rw [if_pos rfl, sgOf_app hn, sgOf_not hn, sgOf_cons, if_pos rfl]
      rfl
    · rw [if_neg y]
      by_cases hm : m ∈ a.map (·.1)
      · exact sgOf_app' hm
      · rw [sgOf_app hm, sgOf_not hm, sgOf_cons, if_neg (fun z => y z.symm)]
        rfl
theorem sgOf_all {m : Str} : ∀ {ms : List MD} {a : List (Str × List Sg)}, sgOf (sgAll a ms) m = sgOf a m ++ (ms.filter fun d => decide (d.name = m)).map sgn
  | [], a => by simp [sgAll]
  | d :: ms, a => by
    show sgOf (sgAll (sgPut a d.name (sgn d)) ms) m = _
    rw [sgOf_all, sgOf_put, List.filter_cons]
    by_cases z : m = d.name
    · rw [if_pos z, if_pos (decide_eq_true z.symm), List.map_cons, List.append_assoc]; rfl
    · rw [if_neg z, if_neg (by rw [decide_eq_false (fun y => z y.symm)]; exact Bool.false_ne_true)]
theorem keys_all {m : Str} : ∀ {ms : List MD} {a : List (Str × List Sg)}, m ∈ (sgAll a ms).map (·.1) ↔ m ∈ a.map (·.1) ∨ m ∈ ms.map (·.name)
  | [], a => by simp [sgAll]
  | d :: ms, a => by
    show m ∈ (sgAll (sgPut a d.name (sgn d)) ms).map (·.1) ↔ _
    rw [keys_all, sgPut_keys, List.map_cons, List.mem_cons]
    by_cases z : d.name ∈ a.map (·.1)
    · rw [if_pos z]
      constructor
      · rintro (h | h)
        · exact .inl h
        · exact .inr (.inr h)
      · rintro (h | h | h)
        · exact .inl h
        · exact .inl (h ▸ z)
        · exact .inr h
    · rw [if_neg z, List.mem_append, List.mem_singleton]
      constructor
      · rintro ((h | h) | h)
        · exact .inl h
        · exact .inr (.inl h)
        · exact .inr (.inr h)
      · rintro (h | h | h)
        · exact .inl (.inl h)
        · exact .inl (.inr h)
        · exact .inr h
theorem sgBad_iff {l : List Sg} : sgBad l = false ↔ ∀ s ∈ l, ∀ u ∈ l, s = u := by
  unfold sgBad
  cases l with
  | nil => simp
  | cons x l =>
    rw [List.any_eq_false]
    constructor
    · intro h s hs u hu
      have f : ∀ y ∈ x :: l, x = y := fun y hy => by
        have := h y hy
        simpa using this
      exact (f s hs).symm.trans (f u hu)
    · intro h s hs
      have := h x List.mem_cons_self s hs
      simp [this]
/-- every class writes a method once -/
def OnceM (cs : List KD) : Prop := ∀ k ∈ cs, (k.methods.map (·.name)).Nodup
theorem wr_iff {k : KD} (nd : (k.methods.map (·.name)).Nodup) {m : Str} {d : MD} : wr k m = some d ↔ d ∈ k.methods ∧ d.name = m := by
  unfold wr
  constructor
  · intro h
    exact ⟨List.mem_of_find?_eq_some h, by simpa using List.find?_some h⟩
  · rintro ⟨h, e⟩
    generalize k.methods = ms at h nd
    induction ms with
    | nil => cases h
    | cons x l ih =>
      rw [List.map_cons, List.nodup_cons] at nd
      rw [List.find?_cons]
      rcases List.mem_cons.mp h with rfl | h
      · rw [decide_eq_true e]
      · have : x.name ≠ m := fun y => nd.1 (by rw [y, ← e]; exact List.mem_map.mpr ⟨d, h, rfl⟩)
        rw [decide_eq_false this]
        exact ih h nd.2
theorem mAt_iff {cs : List KD} (once : OnceM cs) {m e : Str} {d : MD} : mAt cs m e = some d ↔ ∃ k, kd cs e = some k ∧ d ∈ k.methods ∧ d.name = m := by
  unfold mAt
  constructor
  · intro h
    obtain ⟨k, hk, hw⟩ := Option.bind_eq_some_iff.mp h
    exact ⟨k, hk, (wr_iff (once k (kd_name hk).2)).mp hw⟩
  · rintro ⟨k, hk, h⟩
    rw [hk]
    exact (wr_iff (once k (kd_name hk).2)).mpr h
theorem sgs_mem {cs : List KD} (once : OnceM cs) {l : List Str} {m : Str} {s : Sg} : s ∈ sgOf (sgs cs l) m ↔ ∃ e ∈ l, ∃ d, mAt cs m e = some d ∧ s = sgn d := by
  unfold sgs
  rw [sgOf_all, sgOf_not (by simp), List.nil_append, List.mem_map]
  constructor
  · rintro ⟨d, hd, rfl⟩
    obtain ⟨hd, e⟩ := List.mem_filter.mp hd
    obtain ⟨x, hx, hm⟩ := List.mem_flatMap.mp hd
    refine ⟨x, hx, d, (mAt_iff once).mpr ?_, rfl⟩
    unfold kms at hm
    cases hk : kd cs x with
    | none => rw [hk] at hm; cases hm
    | some k => rw [hk] at hm; exact ⟨k, rfl, hm, of_decide_eq_true e⟩
  · rintro ⟨x, hx, d, hd, rfl⟩
    obtain ⟨k, hk, h1, h2⟩ := (mAt_iff once).mp hd
    refine ⟨d, List.mem_filter.mpr ⟨List.mem_flatMap.mpr ⟨x, hx, ?_⟩, decide_eq_true h2⟩, rfl⟩
    unfold kms
    rw [hk]
    exact h1
theorem alike_iff {cs : List KD} {l : List Str} {m : Str} : alike cs l m = true ↔ ∀ e ∈ l, ∀ d, mAt cs m e = some d → ∀ e' ∈ l, ∀ d', mAt cs m e' = some d' → sgn d = sgn d' := by
  unfold alike firstM
  have sg : ∀ a b : MD, sameSig a b = true ↔ sgn a = sgn b := fun a b => by
    unfold sameSig
    rw [Bool.and_eq_true, decide_eq_true_iff, decide_eq_true_iff, Prod.mk.injEq]
  cases hf : l.find? (hasM cs m) with
  | none =>
    refine ⟨fun _ e he d hd => ?_, fun _ => rfl⟩
    have := List.find?_eq_none.mp hf e he
    unfold hasM at this
    unfold mAt at hd
    rw [hd] at this
    simp at this
  | some x =>
    have hx := List.mem_of_find?_eq_some hf
    have hh := List.find?_some hf
    obtain ⟨d0, hd0⟩ := Option.isSome_iff_exists.mp (show (mAt cs m x).isSome = true from hh)
    show (match (mAt cs m x) with | none => true | some md0 => l.all (alikeTo cs m md0)) = true ↔ _
    rw [hd0]
    show l.all (alikeTo cs m d0) = true ↔ _
    rw [List.all_eq_true]
    have at_ : ∀ e d, mAt cs m e = some d → (alikeTo cs m d0 e = true ↔ sgn d = sgn d0) := fun e d h => by
      unfold alikeTo
      rw [h]
      exact sg d d0
    constructor
    · intro h e he d hd e' he' d' hd'
      exact ((at_ e d hd).mp (h e he)).trans ((at_ e' d' hd').mp (h e' he')).symm
    · intro h e he
      cases hm : mAt cs m e with
      | none => unfold alikeTo; rw [hm]
      | some d => exact (at_ e d hm).mpr (h e he d hm x hx d0 hd0)
/-- the two say the same of one method -/
theorem alike_bad {cs : List KD} (once : OnceM cs) {l l' : List Str} {m : Str} (h : ∀ x, x ∈ l ↔ x ∈ l') : alike cs l m = !sgBad (sgOf (sgs cs l') m) := by
  rw [Bool.eq_iff_iff, alike_iff, Bool.not_eq_true', sgBad_iff]
  constructor
  · intro a s hs u hu
    obtain ⟨e, he, d, hd, rfl⟩ := (sgs_mem once).mp hs
    obtain ⟨e', he', d', hd', rfl⟩ := (sgs_mem once).mp hu
    exact a e ((h e).mpr he) d hd e' ((h e').mpr he') d' hd'
  · intro a e he d hd e' he' d' hd'
    exact a _ ((sgs_mem once).mpr ⟨e, (h e).mp he, d, hd, rfl⟩) _ ((sgs_mem once).mpr ⟨e', (h e').mp he', d', hd', rfl⟩)
theorem keys_mem {cs : List KD} {l l' : List Str} (h : ∀ x, x ∈ l ↔ x ∈ l') {m : Str} : m ∈ (sgs cs l').map (·.1) ↔ m ∈ mnames cs l := by
  unfold sgs
  rw [keys_all]
  unfold mnames
  constructor
  · rintro (z | z)
    · simp at z
    · obtain ⟨d, hd, rfl⟩ := List.mem_map.mp z
      obtain ⟨x, hx, hm⟩ := List.mem_flatMap.mp hd
      refine List.mem_flatMap.mpr ⟨x, (h x).mpr hx, ?_⟩
      unfold kms at hm
      cases hk : kd cs x with
      | none => rw [hk] at hm; cases hm
      | some k => rw [hk] at hm; exact List.mem_map.mpr ⟨d, hm, rfl⟩
  · intro z
    obtain ⟨x, hx, hm⟩ := List.mem_flatMap.mp z
    refine .inr ?_
    cases hk : kd cs x with
    | none => rw [hk] at hm; cases hm
    | some k =>
      rw [hk] at hm
      obtain ⟨d, hd, rfl⟩ := List.mem_map.mp hm
      exact List.mem_map.mpr ⟨d, List.mem_flatMap.mpr ⟨x, (h x).mp hx, by unfold kms; rw [hk]; exact hd⟩, rfl⟩
end Kx
set_option linter.all false
namespace Kx
open PySem L2 PySem.Spec PyProof.Rows
/-! the order of classes does not matter -/
theorem kd_perm {cs cs' : List KD} (p : cs'.Perm cs) (nd : (cs.map (·.name)).Nodup) : kd cs' = kd cs := by
  have nd' : (cs'.map (·.name)).Nodup := (p.map _).nodup_iff.mpr nd
  have at_ : ∀ {l : List KD}, (l.map (·.name)).Nodup → ∀ {n : Str} {k : KD}, kd l n = some k ↔ k ∈ l ∧ k.name = n := by
    intro l nd n k
    unfold kd
    constructor
    · intro h
      exact ⟨List.mem_of_find?_eq_some h, by simpa using List.find?_some h⟩
    · rintro ⟨h, e⟩
      induction l with
      | nil => cases h
      | cons x l ih =>
        rw [List.map_cons, List.nodup_cons] at nd
        rw [List.find?_cons]
        rcases List.mem_cons.mp h with rfl | h
        · rw [decide_eq_true e]
        · have : x.name ≠ n := fun y => nd.1 (by rw [y, ← e]; exact List.mem_map.mpr ⟨k, h, rfl⟩)
          rw [decide_eq_false this]
          exact ih nd.2 h
  funext n
  cases h : kd cs n with
  | some k =>
    obtain ⟨a, b⟩ := (at_ nd).mp h
    exact (at_ nd').mpr ⟨p.mem_iff.mpr a, b⟩
  | none =>
    cases h' : kd cs' n with
    | none => rfl
    | some k =>
      obtain ⟨a, b⟩ := (at_ nd').mp h'
      rw [(at_ nd).mpr ⟨p.mem_iff.mp a, b⟩] at h
      cases h
section
variable {cs cs' : List KD} (h : kd cs' = kd cs)
include h
theorem rooms_perm : rooms cs' = rooms cs := by unfold rooms kfs; rw [h]
theorem fldsOf_perm : fldsOf cs' = fldsOf cs := by unfold fldsOf fldsL; rw [h]
theorem mnames_perm : mnames cs' = mnames cs := by unfold mnames; rw [h]
theorem mAt_perm : mAt cs' = mAt cs := by unfold mAt; rw [h]
theorem alike_perm : alike cs' = alike cs := by
  unfold alike firstM hasM alikeTo
  rw [mAt_perm h, h]
theorem sgs_perm : sgs cs' = sgs cs := by unfold sgs kms; rw [h]
theorem fdbl_perm : fdbl cs' = fdbl cs := by
  unfold fdbl dbl
  rw [h, fldsOf_perm h]
end
/-- fields at or above, in two orders -/
theorem rooms_nd {cs : List KD} {o : Ord} {n : Str} {l : List Str} (p : ((o n).getD []).Perm l) : (fldsOf cs o n).Nodup ↔ (rooms cs l).Nodup := by
  have : (fldsOf cs o n).Perm (rooms cs l) := by
    unfold fldsOf fldsL rooms kfs
    exact List.Perm.flatMap_right _ ((List.reverse_perm _).trans p)
  exact this.nodup_iff
/-! sorted texts without doubles are told by what they hold -/
theorem rising_pw : ∀ {l : List Str} {p : Str}, risingS p l = true → (p :: l).Pairwise fun a b => a.cps.toList ≤ b.cps.toList
  | [], p, _ => List.pairwise_singleton _ _
  | x :: r, p, h => by
    have h : (!ltCps x.cps.toList p.cps.toList && risingS x r) = true := h
    rw [Bool.and_eq_true, ltCps_eq] at h
    have ih := rising_pw h.2
    have hp : p.cps.toList ≤ x.cps.toList := by
      have := h.1
      simpa using this
    refine List.pairwise_cons.mpr ⟨fun y hy => ?_, ih⟩
    rcases List.mem_cons.mp hy with rfl | z
    · exact hp
    · exact List.le_trans hp ((List.pairwise_cons.mp ih).1 y z)
theorem sorted_pw : ∀ {l : List Str}, sortedS l = true → l.Pairwise fun a b => a.cps.toList ≤ b.cps.toList
  | [], _ => .nil
  | _ :: _, h => rising_pw h
theorem sorted_eq {l m : List Str} (h1 : sortedS l = true) (h2 : m.Pairwise fun a b => a.cps.toList ≤ b.cps.toList) (n1 : l.Nodup) (n2 : m.Nodup) (e : ∀ x, x ∈ l ↔ x ∈ m) : l = m :=
  List.Perm.eq_of_pairwise (fun a b _ _ x y => TL.ext_tl (List.le_antisymm x y)) (sorted_pw h1) h2 ((List.perm_ext_iff_of_nodup n1 n2).mpr e)
theorem sorted_uniq {l m : List Str} (h1 : sortedS l = true) (h2 : sortedS m = true) (n1 : l.Nodup) (n2 : m.Nodup) (e : ∀ x, x ∈ l ↔ x ∈ m) : l = m := sorted_eq h1 (sorted_pw h2) n1 n2 e
/-- what the law's own due gives -/
def DueV (K : PySem.W.Frag) (cs : List KD) (above : Str → List Str) (H : Hp) (v : V) : Prop := ∃ ns : List Str, ns.Perm (cs.map (·.name)) ∧ sortedS ns = true ∧
  ((v = .non ∧ (∀ n ∈ ns, (rooms cs (above n)).Nodup) ∧ (∀ n ∈ ns, ∀ e ∈ sgs cs (above n), sgBad e.2 = false)) ∨
   (∃ i n p, ns[i]? = some n ∧ (∀ n' ∈ ns.take i, (rooms cs (above n')).Nodup) ∧ ¬ (rooms cs (above n)).Nodup ∧ v = .ref p ∧ SqT K H p [.str n, .str "double"]) ∨
   (∃ i n ys m p t, (∀ n ∈ ns, (rooms cs (above n)).Nodup) ∧ ns[i]? = some n ∧ (∀ n' ∈ ns.take i, ∀ e ∈ sgs cs (above n'), sgBad e.2 = false) ∧ ys.Perm ((sgs cs (above n)).map (·.1)) ∧ sortedS ys = true ∧ ys.find? (fun m => sgBad (sgOf (sgs cs (above n)) m)) = some m ∧ v = .ref p ∧ SqT K H p [.ref t, .str "inherited"] ∧ SqT K H t [.str n, .str m]))
/-- what the law's own told gives -/
def ToldV (K : PySem.W.Frag) (cs : List KD) (o : Ord) (H : Hp) (v : V) : Prop := ∃ ns : List Str, ns.Perm (cs.map (·.name)) ∧ sortedS ns = true ∧
  ((v = .non ∧ fdbl cs o ns = none ∧ allAl cs o ns) ∨
   (∃ n p, fdbl cs o ns = some n ∧ v = .ref p ∧ SqT K H p [.str n, .str "double"]) ∨
   (∃ i n ys m p t, fdbl cs o ns = none ∧ ns[i]? = some n ∧ allAl cs o (ns.take i) ∧ sortedS ys = true ∧ ys.Nodup ∧ (∀ x, x ∈ ys ↔ x ∈ mnames cs (ordOf o n)) ∧ ys.find? (fun m => !alike cs (ordOf o n) m) = some m ∧ v = .ref p ∧ SqT K H p [.ref t, .str "inherited"] ∧ SqT K H t [.str n, .str m]))
theorem sgs_nd {cs : List KD} {l : List Str} : ((sgs cs l).map (·.1)).Nodup := by
  unfold sgs
  have go : ∀ {ms : List MD} {a : List (Str × List Sg)}, (a.map (·.1)).Nodup → ((sgAll a ms).map (·.1)).Nodup := by
    intro ms
    induction ms with
    | nil => exact fun h => h
    | cons d ms ih => exact fun h => ih (sgPut_nd h)
  exact go List.nodup_nil
theorem first_two {l : List Str} {p : Str → Bool} {i : Nat} {n : Str} (hi : l[i]? = some n) (hb : ∀ x ∈ l.take i, p x = false) (hp : p n = true) : l.find? p = some n := by
  obtain ⟨h, e⟩ := List.getElem?_eq_some_iff.mp hi
  rw [List.find?_eq_some_iff_getElem]
  refine ⟨hp, i, h, e, fun j hj => ?_⟩
  rw [hb _ (List.mem_take_iff_getElem.mpr ⟨j, by omega, rfl⟩)]
  rfl
theorem shp2 {a b : Str} (h1 : PyData.strOk a = true) (h2 : PyData.strOk b = true) : SeqAt.shaped (.tuple [.str a, .str b]) = true := by
  unfold SeqAt.shaped
  simp [PyData.canLay0, PyData.canLayAll0, PyData.depth, PyData.depthAll, h1, h2]
theorem shp3 {a b c : Str} (h1 : PyData.strOk a = true) (h2 : PyData.strOk b = true) (h3 : PyData.strOk c = true) : SeqAt.shaped (.tuple [.tuple [.str a, .str b], .str c]) = true := by
  unfold SeqAt.shaped
  simp [PyData.canLay0, PyData.canLayAll0, PyData.depth, PyData.depthAll, h1, h2, h3]
/-- the two give the same -/
theorem due_told {K : PySem.W.Frag} {cs cs' : List KD} {above : Str → List Str} {o : Ord} {H : Hp} {u v : V} (pc : cs'.Perm cs) (nd : (cs.map (·.name)).Nodup) (once : OnceM cs) (ho : ∀ n ∈ cs.map (·.name), (ordOf o n).Perm (above n))
    (ok : ∀ n ∈ cs.map (·.name), PyData.strOk n = true) (okm : ∀ k ∈ cs, ∀ d ∈ k.methods, PyData.strOk d.name = true) (d : DueV K cs above H v) (t : ToldV K cs' o H u) : ∃ z, Dp K H u z ∧ Dp K H v z ∧ SeqAt.shaped z = true := by
  have hk := kd_perm pc nd
  obtain ⟨ns, p1, s1, d⟩ := d
  obtain ⟨ns', p2, s2, t⟩ := t
  have en : ns = ns' := sorted_uniq s1 s2 (p1.nodup_iff.mpr nd) ((p2.trans (pc.map _)).nodup_iff.mpr nd) fun x => p1.mem_iff.trans (p2.trans (pc.map _)).mem_iff.symm
  subst en
  rw [fdbl_perm hk, show allAl cs' o = allAl cs o by funext ns; unfold allAl; rw [mnames_perm hk, alike_perm hk], mnames_perm hk, alike_perm hk] at t
  have mem : ∀ n, n ∈ ns ↔ n ∈ cs.map (·.name) := fun n => p1.mem_iff
  have hfd : fdbl cs o ns = ns.find? fun n => ((kd cs n).map (dbl cs o)).getD false := by
    unfold fdbl
    congr 1
    funext n
    cases kd cs n <;> rfl
  rw [hfd] at t
  have hd : ∀ n ∈ ns, (((kd cs n).map (dbl cs o)).getD false = !decide (rooms cs (above n)).Nodup) := fun n hn => by
    obtain ⟨k, hk'⟩ := kd_some ((mem n).mp hn)
    rw [hk']
    show dbl cs o k = _
    unfold dbl
    rw [(kd_name hk').1, decide_eq_decide.mpr (rooms_nd (ho n ((mem n).mp hn)))]
  have ha : ∀ n ∈ ns, ∀ m, alike cs (ordOf o n) m = !sgBad (sgOf (sgs cs (above n)) m) := fun n hn m => alike_bad once fun x => (ho n ((mem n).mp hn)).mem_iff
  have hkm : ∀ n ∈ ns, ∀ m, m ∈ (sgs cs (above n)).map (·.1) ↔ m ∈ mnames cs (ordOf o n) := fun n hn m => keys_mem fun x => (ho n ((mem n).mp hn)).mem_iff
  have hgood : ∀ n ∈ ns, (∀ m ∈ mnames cs (ordOf o n), alike cs (ordOf o n) m = true) ↔ (∀ e ∈ sgs cs (above n), sgBad e.2 = false) := fun n hn => by
    constructor
    · intro h e he
      have := h e.1 ((hkm n hn e.1).mp (List.mem_map.mpr ⟨e, he, rfl⟩))
      rw [ha n hn, sgOf_mem sgs_nd he, Bool.not_eq_true'] at this
      exact this
    · intro h m hm
      obtain ⟨e, he, rfl⟩ := List.mem_map.mp ((hkm n hn m).mpr hm)
      rw [ha n hn, sgOf_mem sgs_nd he, h e he]
      rfl
  have hnone : (∀ n ∈ ns, (rooms cs (above n)).Nodup) → (ns.find? fun n => ((kd cs n).map (dbl cs o)).getD false) = none := fun h => by
    rw [List.find?_eq_none]
    intro n hn
    rw [hd n hn, decide_eq_true (h n hn)]
    exact Bool.false_ne_true
  have hnodup : (ns.find? fun n => ((kd cs n).map (dbl cs o)).getD false) = none → ∀ n ∈ ns, (rooms cs (above n)).Nodup := fun h n hn => by
    have := List.find?_eq_none.mp h n hn
    rw [hd n hn] at this
    simpa using this
  have mem_of : ∀ {i : Nat} {n : Str}, ns[i]? = some n → n ∈ ns := fun h => List.mem_of_getElem? h
  have mem_tk : ∀ {i : Nat} {n : Str}, n ∈ ns.take i → n ∈ ns := fun h => List.mem_of_mem_take h
  have bad3 : ∀ {n : Str} {ys : List Str} {m : Str}, n ∈ ns → (∀ x, x ∈ ys ↔ x ∈ mnames cs (ordOf o n)) → ys.find? (fun m => !alike cs (ordOf o n) m) = some m → ¬ ∀ m ∈ mnames cs (ordOf o n), alike cs (ordOf o n) m = true := fun hn hy hf h => by
    have h1 := List.find?_some hf
    rw [h _ ((hy _).mp (List.mem_of_find?_eq_some hf))] at h1
    cases h1
  rcases d with ⟨rfl, d1, d2⟩ | ⟨i, n, p, d1, d2, d3, rfl, d4⟩ | ⟨i, n, ys, m, p, t0, d1, d2, d3, d4, d5, d6, rfl, d7, d8⟩
  · rcases t with ⟨rfl, _, _⟩ | ⟨n', p', t1, _⟩ | ⟨i', n', ys', m', p', t', t1, t2, t3, t4, t5, t6, t7, _⟩
    · exact ⟨.none, .non, .non, by decide +kernel⟩
    · rw [hnone d1] at t1; cases t1
    · exact absurd ((hgood n' (mem_of t2)).mpr (d2 n' (mem_of t2))) (bad3 (mem_of t2) t6 t7)
  · have hf : (ns.find? fun n => ((kd cs n).map (dbl cs o)).getD false) = some n := first_two d1 (fun x hx => by rw [hd x (mem_tk hx), decide_eq_true (d2 x hx)]; rfl) (by rw [hd n (mem_of d1), decide_eq_false d3]; rfl)
    rcases t with ⟨_, t1, _⟩ | ⟨n', p', t1, rfl, t2⟩ | ⟨i', n', ys', m', p', t', t1, _⟩
    · rw [hf] at t1; cases t1
    · rw [hf] at t1
      cases t1
      exact ⟨.tuple [.str n, .str "double"], .tup t2 (.cons (.str _) (.cons (.str _) .nil)), .tup d4 (.cons (.str _) (.cons (.str _) .nil)), shp2 (ok n ((mem n).mp (mem_of d1))) (by decide +kernel)⟩
    · rw [hf] at t1; cases t1
  · have hmn := mem_of d2
    have hyk : ∀ x, x ∈ ys ↔ x ∈ mnames cs (ordOf o n) := fun x => d4.mem_iff.trans (hkm n hmn x)
    have hfun : ∀ n ∈ ns, (fun m => sgBad (sgOf (sgs cs (above n)) m)) = fun m => !alike cs (ordOf o n) m := fun n hn => by funext m; rw [ha n hn, Bool.not_not]
    have hbad : ¬ ∀ m ∈ mnames cs (ordOf o n), alike cs (ordOf o n) m = true := bad3 hmn hyk (by rw [← hfun n hmn]; exact d6)
    rcases t with ⟨_, _, t1⟩ | ⟨n', p', t1, _⟩ | ⟨i', n', ys', m', p', t', t1, t2, t3, t4, t5, t6, t7, rfl, t8, t9⟩
    · exact absurd (t1 n hmn) hbad
    · rw [hnone d1] at t1; cases t1
    · have hmn' := mem_of t2
      have e1 : n = n' := by
        classical
        have f1 : ns.find? (fun n => decide (¬ ∀ m ∈ mnames cs (ordOf o n), alike cs (ordOf o n) m = true)) = some n := first_two d2 (fun x hx => decide_eq_false (fun z => z ((hgood x (mem_tk hx)).mpr (d3 x hx)))) (decide_eq_true hbad)
        have f2 : ns.find? (fun n => decide (¬ ∀ m ∈ mnames cs (ordOf o n), alike cs (ordOf o n) m = true)) = some n' := first_two t2 (fun x hx => decide_eq_false (fun z => z (t3 x hx))) (decide_eq_true (bad3 hmn' t6 t7))
        rw [f1] at f2
        cases f2
        rfl
      subst e1
      have e2 : ys = ys' := sorted_uniq d5 t4 (d4.nodup_iff.mpr sgs_nd) t5 fun x => (hyk x).trans (t6 x).symm
      subst e2
      obtain rfl : m' = m := Option.some.inj (by rw [← t7, ← hfun n hmn]; exact d6)
      have hm : m' ∈ mnames cs (ordOf o n) := (hyk m').mp (List.mem_of_find?_eq_some t7)
      have hmo : PyData.strOk m' = true := by
        unfold mnames at hm
        obtain ⟨x, hx, hm⟩ := List.mem_flatMap.mp hm
        cases hk2 : kd cs x with
        | none => rw [hk2] at hm; cases hm
        | some k =>
          rw [hk2] at hm
          obtain ⟨dd, hdd, rfl⟩ := List.mem_map.mp hm
          exact okm k (kd_name hk2).2 dd hdd
      refine ⟨.tuple [.tuple [.str n, .str m'], .str "inherited"], .tup t8 (.cons (.tup t9 (.cons (.str _) (.cons (.str _) .nil))) (.cons (.str _) .nil)), .tup d7 (.cons (.tup d8 (.cons (.str _) (.cons (.str _) .nil))) (.cons (.str _) .nil)), shp3 (ok n ((mem n).mp hmn)) hmo (by decide +kernel)⟩
end Kx
set_option linter.all false
namespace Kx
open PySem L2 PySem.Spec PyProof.Rows
/-! the four classes that the law draws -/
abbrev NSs : List (List Str) := [[], ["m", "n"], ["n", "m"], ["m"], ["m", "k"], ["n", "k"]]
structure KOk (nm : Str) (bs : List Str) (k : KD) : Prop where
  nm : k.name = nm
  bs : k.bases = bs
  wh : k.wh = ([], [])
  dr : ∃ xs ∈ NSs, k.fields.Sublist (xs.map fun x => ("f" ++ x : Str)) ∧ Deeds xs k.methods
structure Drawn (bs : List Str) (A B C D : KD) : Prop where
  hb : bs = (["a", "b"] : List Str) ∨ bs = (["b", "a"] : List Str)
  a : KOk "a" [] A
  b : KOk "b" [] B
  c : KOk "c" bs C
  d : KOk "d" ["c"] D
theorem areN_sub {l m : List Str} (s : l.Sublist m) (h : areN m 3 = true) : areN l 3 = true := by
  unfold areN at h ⊢
  rw [Bool.and_eq_true, Bool.and_eq_true, decide_eq_true_iff, decide_eq_true_iff, List.all_eq_true] at h ⊢
  obtain ⟨h1, h2, h3⟩ := h
  have := s.length_le
  exact ⟨by omega, fun x hx => h2 x (s.subset hx), h3.sublist s⟩
theorem nss : ∀ xs ∈ NSs, areN (xs.map fun x => ("f" ++ x : Str)) 3 = true ∧ areN xs 3 = true ∧ xs.length ≤ 2 ∧ (∀ x ∈ xs, x.length ≤ 10 ∧ PyData.strOk x = true) ∧ (∀ t ∈ xs.map fun x => ("f" ++ x : Str), t.length ≤ 20) := by decide +kernel
theorem areN_nd {l : List Str} (h : areN l 3 = true) : l.Nodup := by
  unfold areN at h
  rw [Bool.and_eq_true, Bool.and_eq_true, decide_eq_true_iff, decide_eq_true_iff] at h
  exact h.2.2
structure KFine (k : KD) : Prop where
  fd : areN k.fields 3 = true
  fl : k.fields.length ≤ 2
  me : areN (k.methods.map (·.name)) 3 = true
  ml : k.methods.length ≤ 2
  mn : ∀ m ∈ k.methods, m.name.length ≤ 10 ∧ PyData.strOk m.name = true
  is : ∀ m ∈ k.methods, ∃ ps ∈ pS, ∃ r ∈ rS, m = mdO m.name ps r
  fs : ∀ t ∈ k.fields, t.length ≤ 20
theorem KOk.fine {nm : Str} {bs : List Str} {k : KD} (h : KOk nm bs k) : KFine k := by
  obtain ⟨xs, hx, hf, hd⟩ := h.dr
  obtain ⟨n1, n2, n3, n4, n5⟩ := nss xs hx
  have l1 := hf.length_le
  have l2 := hd.sub.length_le
  rw [List.length_map] at l1 l2
  exact ⟨areN_sub hf n1, by omega, areN_sub hd.sub n2, by omega, fun m hm => n4 _ (hd.sub.subset (List.mem_map.mpr ⟨m, hm, rfl⟩)), hd.is, fun t ht => n5 t (hf.subset ht)⟩
/-- the orders -/
def oB (bs : List Str) : Ord := fun n => if n = "a" then some ["a"] else if n = "b" then some ["b"] else if n = "c" then some ("c" :: bs) else if n = "d" then some ("d" :: "c" :: bs) else none
def rkB (n : Str) : Nat := if n = "d" then 2 else if n = "c" then 1 else 0
abbrev nm4 : List Str := ["a", "b", "c", "d"]
section
variable {bs : List Str} {A B C D : KD}
theorem Drawn.names (h : Drawn bs A B C D) : [A, B, C, D].map (·.name) = nm4 := by
  simp [h.a.nm, h.b.nm, h.c.nm, h.d.nm]
theorem Drawn.case (h : Drawn bs A B C D) {k : KD} (hk : k ∈ [A, B, C, D]) : KFine k ∧ k.wh = ([], []) ∧ ((k.name = "a" ∧ k.bases = []) ∨ (k.name = "b" ∧ k.bases = []) ∨ (k.name = "c" ∧ k.bases = bs) ∨ (k.name = "d" ∧ k.bases = (["c"] : List Str))) := by
  simp only [List.mem_cons, List.not_mem_nil, or_false] at hk
  rcases hk with rfl | rfl | rfl | rfl
  · exact ⟨h.a.fine, h.a.wh, .inl ⟨h.a.nm, h.a.bs⟩⟩
  · exact ⟨h.b.fine, h.b.wh, .inr (.inl ⟨h.b.nm, h.b.bs⟩)⟩
  · exact ⟨h.c.fine, h.c.wh, .inr (.inr (.inl ⟨h.c.nm, h.c.bs⟩))⟩
  · exact ⟨h.d.fine, h.d.wh, .inr (.inr (.inr ⟨h.d.nm, h.d.bs⟩))⟩
/-- of each name, what its bases are -/
theorem look_is (h : Drawn bs A B C D) {X : Bs} (hX : ∀ n l, look X n = some l → ∃ k ∈ [A, B, C, D], k.name = n ∧ l = k.bases) {n : Str} {l : List Str} (hl : look X n = some l) : (n = "a" ∧ l = []) ∨ (n = "b" ∧ l = []) ∨ (n = "c" ∧ l = bs) ∨ (n = "d" ∧ l = (["c"] : List Str)) := by
  obtain ⟨k, hk, rfl, rfl⟩ := hX n l hl
  exact (h.case hk).2.2
theorem bsOk (h : Drawn bs A B C D) {X : Bs} (hX : ∀ n l, look X n = some l → ∃ k ∈ [A, B, C, D], k.name = n ∧ l = k.bases) (hs : ∀ n ∈ nm4, (look X n).isSome) (hl : X.length ≤ 31) : BsOk X := by
  refine ⟨fun n l e y hy => ?_, fun n l e => ?_, hl⟩
  · have hb := h.hb
    rcases look_is h hX e with ⟨_, rfl⟩ | ⟨_, rfl⟩ | ⟨_, rfl⟩ | ⟨_, rfl⟩
    · cases hy
    · cases hy
    · rcases hb with rfl | rfl
      · simp at hy; rcases hy with rfl | rfl <;> exact hs _ (by simp)
      · simp at hy; rcases hy with rfl | rfl <;> exact hs _ (by simp)
    · simp at hy; subst hy; exact hs _ (by simp)
  · have hb := h.hb
    rcases look_is h hX e with ⟨_, rfl⟩ | ⟨_, rfl⟩ | ⟨_, rfl⟩ | ⟨_, rfl⟩
    · simp
    · simp
    · rcases hb with rfl | rfl <;> simp
    · simp
theorem rk_lt (h : Drawn bs A B C D) {X : Bs} (hX : ∀ n l, look X n = some l → ∃ k ∈ [A, B, C, D], k.name = n ∧ l = k.bases) {n : Str} {l : List Str} (hl : look X n = some l) : ∀ y ∈ l, rkB y < rkB n := by
  intro y hy
  have hb := h.hb
  rcases look_is h hX hl with ⟨rfl, rfl⟩ | ⟨rfl, rfl⟩ | ⟨rfl, rfl⟩ | ⟨rfl, rfl⟩
  · cases hy
  · cases hy
  · rcases hb with rfl | rfl
    · simp at hy; rcases hy with rfl | rfl <;> decide +kernel
    · simp at hy; rcases hy with rfl | rfl <;> decide +kernel
  · simp at hy; subst hy; decide +kernel
theorem no_up (h : Drawn bs A B C D) {X : Bs} (hX : ∀ n l, look X n = some l → ∃ k ∈ [A, B, C, D], k.name = n ∧ l = k.bases) (n : Str) : ¬ Up X n n := by
  have go : ∀ x y, Up X x y → rkB y < rkB x := by
    intro x y u
    induction u with
    | one e m => exact rk_lt h hX e _ m
    | more _ e m ih => exact Nat.lt_trans (rk_lt h hX e _ m) ih
  exact fun u => Nat.lt_irrefl _ (go n n u)
end
end Kx
set_option linter.all false
namespace Kx
open PySem L2 PySem.Spec PyProof.Rows
/-! what a library asks, of the four classes in any order -/
theorem oB_case {bs : List Str} {n : Str} {l : List Str} (h : oB bs n = some l) : (n = "a" ∧ l = (["a"] : List Str)) ∨ (n = "b" ∧ l = (["b"] : List Str)) ∨ (n = "c" ∧ l = (("c" : Str) :: bs)) ∨ (n = "d" ∧ l = (("d" : Str) :: ("c" : Str) :: bs)) := by
  unfold oB at h
  split at h
  · rename_i z; cases h; exact .inl ⟨z, rfl⟩
  split at h
  · rename_i z; cases h; exact .inr (.inl ⟨z, rfl⟩)
  split at h
  · rename_i z; cases h; exact .inr (.inr (.inl ⟨z, rfl⟩))
  split at h
  · rename_i z; cases h; exact .inr (.inr (.inr ⟨z, rfl⟩))
  · cases h
def rowB (l : List Str) : Bool := !l.isEmpty && (decide l.Nodup && (l.all PyData.strOk && decide (l.length ≤ 20)))
theorem rowB_ok {l : List Str} (h : rowB l = true) : RowOk l ∧ l.length ≤ 20 := by
  unfold rowB at h
  rw [Bool.and_eq_true, Bool.and_eq_true, Bool.and_eq_true, decide_eq_true_iff, decide_eq_true_iff, List.all_eq_true] at h
  obtain ⟨h1, h2, h3, h4⟩ := h
  exact ⟨⟨(fun z => by rw [z] at h1; cases h1), h2, h3, (by omega)⟩, h4⟩
section
variable {bs : List Str} {A B C D : KD}
theorem oB_row (h : Drawn bs A B C D) {n : Str} {l : List Str} (e : oB bs n = some l) : RowOk l ∧ l.length ≤ 20 ∧ ∀ x ∈ l, x ∈ nm4 := by
  have hb := h.hb
  have f : rowB l = true ∧ ∀ x ∈ l, x ∈ nm4 := by
    rcases hb with rfl | rfl <;> rcases oB_case e with ⟨_, rfl⟩ | ⟨_, rfl⟩ | ⟨_, rfl⟩ | ⟨_, rfl⟩ <;> decide +kernel
  exact ⟨(rowB_ok f.1).1, (rowB_ok f.1).2, f.2⟩
theorem ord_eq (h : Drawn bs A B C D) {n : Str} {l : List Str} (e : (n = "a" ∧ l = []) ∨ (n = "b" ∧ l = []) ∨ (n = "c" ∧ l = bs) ∨ (n = "d" ∧ l = (["c"] : List Str))) : oB bs n = ordStep (oB bs) n l := by
  have hb := h.hb
  rcases hb with rfl | rfl <;> rcases e with ⟨rfl, rfl⟩ | ⟨rfl, rfl⟩ | ⟨rfl, rfl⟩ | ⟨rfl, rfl⟩ <;> decide +kernel
theorem kd_case (h : Drawn bs A B C D) {cs : List KD} (p : cs.Perm [A, B, C, D]) {k : KD} (hk : k ∈ cs) : KFine k ∧ k.wh = ([], []) ∧ ((k.name = "a" ∧ k.bases = []) ∨ (k.name = "b" ∧ k.bases = []) ∨ (k.name = "c" ∧ k.bases = bs) ∨ (k.name = "d" ∧ k.bases = (["c"] : List Str))) := h.case (p.mem_iff.mp hk)
theorem names_mem (h : Drawn bs A B C D) {cs : List KD} (p : cs.Perm [A, B, C, D]) {n : Str} : n ∈ cs.map (·.name) ↔ n ∈ nm4 := by
  rw [(p.map _).mem_iff, h.names]
theorem names_nd (h : Drawn bs A B C D) {cs : List KD} (p : cs.Perm [A, B, C, D]) : (cs.map (·.name)).Nodup := by
  rw [(p.map _).nodup_iff, h.names]
  decide +kernel
theorem pS_fine : ∀ ps ∈ pS, areN (ps.map (·.1)) 3 = true ∧ ps.length ≤ 2 ∧ (∀ p ∈ ps, p.1.length ≤ 10 ∧ (p.2 = "int" ∨ p.2 = "a")) := by decide +kernel
theorem rS_fine : ∀ r ∈ rS, r = "int" ∨ r = "a" := by decide +kernel
theorem nm4_ok : ∀ n ∈ nm4, isName n = true ∧ n.length ≤ 10 ∧ PyData.strOk n = true := by decide +kernel
theorem lib_fine (h : Drawn bs A B C D) {cs : List KD} (p : cs.Perm [A, B, C, D]) : LibFine cs (oB bs) rkB := by
  have l4 : cs.length = 4 := p.length_eq
  have mem : ∀ n, n ∈ cs.map (·.name) ↔ n ∈ nm4 := fun n => names_mem h p
  have hb := h.hb
  have bsm : ∀ k ∈ cs, areN k.bases 3 = true ∧ (∀ b ∈ k.bases, b ∈ nm4) ∧ k.bases.length ≤ 2 := fun k hk => by
    rcases (kd_case h p hk).2.2 with ⟨_, e⟩ | ⟨_, e⟩ | ⟨_, e⟩ | ⟨_, e⟩
    · rw [e]; decide +kernel
    · rw [e]; decide +kernel
    · rw [e]; rcases hb with rfl | rfl <;> decide +kernel
    · rw [e]; decide +kernel
  have h2 : ∀ n l, look (cs.map fun k => (k.name, k.bases)) n = some l → ∃ k ∈ [A, B, C, D], k.name = n ∧ l = k.bases := fun n l e => by
    unfold look at e
    obtain ⟨b, hb, rfl⟩ := Option.map_eq_some_iff.mp e
    obtain ⟨k, hk, rfl⟩ := List.mem_map.mp (List.mem_of_find?_eq_some hb)
    have := List.find?_some hb
    exact ⟨k, p.mem_iff.mp hk, by simpa using this, rfl⟩
  have s2 : ∀ n ∈ nm4, (look (cs.map fun k => (k.name, k.bases)) n).isSome := fun n hn => by
    obtain ⟨k, hk, rfl⟩ := List.mem_map.mp ((mem n).mpr hn)
    unfold look
    rw [Option.isSome_map, List.find?_isSome]
    exact ⟨_, List.mem_map.mpr ⟨k, hk, rfl⟩, by simp⟩
  have h1 : ∀ ns : List Str, ns.Perm (cs.map (·.name)) → ∀ n l, look (bsOf cs ns) n = some l → ∃ k ∈ [A, B, C, D], k.name = n ∧ l = k.bases := fun ns pn n l e => by
    have hm : n ∈ ns := by
      have := look_mem (bs := bsOf cs ns) (n := n) (by rw [e]; rfl)
      unfold bsOf at this
      rw [List.map_map] at this
      obtain ⟨y, hy, rfl⟩ := List.mem_map.mp this
      exact hy
    rw [bsOf_look hm] at e
    obtain ⟨k, hk⟩ := kd_some (pn.mem_iff.mp hm)
    rw [hk] at e
    cases e
    exact ⟨k, p.mem_iff.mp (kd_name hk).2, (kd_name hk).1, rfl⟩
  refine ⟨⟨names_nd h p, fun k hk => ?_, by omega⟩, fun k hk => ?_, fun ns pn => ⟨bsOk h (h1 ns pn) (fun n hn => ?_) ?_, no_up h (h1 ns pn)⟩, bsOk h h2 s2 (by rw [List.length_map]; omega), ⟨fun n l e => ord_eq h (look_is h h2 e), fun n l e => (oB_row h e).1, fun n l e ne => ?_, fun n l e => rk_lt h h2 e, fun n e => ?_⟩, fun n => ?_, ⟨fun n l e x hx => (mem x).mpr ((oB_row h e).2.2 x hx), fun n l e => (oB_row h e).1, fun n hn => ?_, fun k hk => ?_, fun k hk => ?_, fun n l e => (oB_row h e).2.1, fun k hk t ht => by have := (kd_case h p hk).1.fs t ht; omega⟩, fun k hk => ?_, fun k hk m hm => ?_, fun k hk m hm => ?_⟩
  · have := nm4_ok _ ((mem _).mp (List.mem_map.mpr ⟨k, hk, rfl⟩))
    exact ⟨this.1, by omega⟩
  · obtain ⟨b1, b2, b3⟩ := bsm k hk
    exact ⟨b1, fun b hb => (mem b).mpr (b2 b hb), by omega, fun b hb => by have := (nm4_ok b (b2 b hb)).2.1; omega⟩
  · rw [bsOf_look (pn.mem_iff.mpr ((mem n).mpr hn))]; rfl
  · unfold bsOf; rw [List.length_map, pn.length_eq, List.length_map]; omega
  · have f : rowB l = true := by
      rcases look_is h h2 e with ⟨_, rfl⟩ | ⟨_, rfl⟩ | ⟨_, rfl⟩ | ⟨_, rfl⟩
      · exact absurd rfl ne
      · exact absurd rfl ne
      · rcases hb with rfl | rfl <;> decide +kernel
      · decide +kernel
    exact (rowB_ok f).1
  · obtain ⟨l, hl⟩ := Option.isSome_iff_exists.mp e
    obtain ⟨k, hk, rfl, _⟩ := h2 n l hl
    exact (nm4_ok _ ((mem _).mp (List.mem_map.mpr ⟨k, p.mem_iff.mpr hk, rfl⟩))).2.2
  · unfold rkB; split <;> (try split) <;> decide
  · have hn := (mem n).mp hn
    simp only [List.mem_cons, List.not_mem_nil, or_false] at hn
    rcases hn with rfl | rfl | rfl | rfl <;> exact ⟨_, rfl⟩
  · have := (kd_case h p hk).1.fl; omega
  · have := (kd_case h p hk).1.ml; omega
  · obtain ⟨f, w, _⟩ := kd_case h p hk
    exact ⟨f.fd, (by rw [w]; exact fun _ z => nomatch z), (by rw [w]; exact fun _ z => nomatch z), (by rw [w]; exact Nat.zero_le _), (by rw [w]; exact Nat.zero_le _), f.me, fun m hm => by have := (f.mn m hm).1; omega⟩
  · obtain ⟨f, w, _⟩ := kd_case h p hk
    obtain ⟨ps, hps, r, hr, e⟩ := f.is m hm
    obtain ⟨p1, p2, p3⟩ := pS_fine ps hps
    have r1 := rS_fine r hr
    have ka : ∀ t : Str, t = "int" ∨ t = "a" → kindOk cs t := fun t ht => ht.imp id fun z => (mem t).mpr (by rw [z]; decide +kernel)
    rw [e]
    exact ⟨p1, by show ps.length ≤ 3; omega, fun q hq => by have := (p3 q hq).1; omega, fun q hq => ka _ (p3 q hq).2, ka _ r1, (fun _ z => nomatch z), (fun _ z => nomatch z), Nat.zero_le _, Nat.zero_le _⟩
  · obtain ⟨f, w, _⟩ := kd_case h p hk
    obtain ⟨ps, hps, r, hr, e⟩ := f.is m hm
    rw [e]
    have := (pS_fine ps hps).2.1
    exact ⟨by show ps.length ≤ 60; omega, rfl⟩
end
end Kx
set_option linter.all false
namespace Kx
open PySem L2 PySem.Spec PyProof.Rows
/-! what the law's own due asks, of the four classes -/
def abv (bs : List Str) (n : Str) : List Str := if n = "a" then ["a"] else if n = "b" then ["b"] else if n = "c" then ("c" : Str) :: bs.reverse else ("d" : Str) :: ("c" : Str) :: bs.reverse
theorem flat_len {α β : Type} {f : α → List β} {c : Nat} : ∀ {l : List α}, (∀ x ∈ l, (f x).length ≤ c) → (l.flatMap f).length ≤ c * l.length
  | [], _ => Nat.zero_le _
  | x :: l, h => by
    rw [List.flatMap_cons, List.length_append, List.length_cons, Nat.mul_add]
    have := h x List.mem_cons_self
    have := flat_len fun y hy => h y (List.mem_cons_of_mem _ hy)
    omega
section
variable {bs : List Str} {A B C D : KD}
theorem Drawn.kd (h : Drawn bs A B C D) : Kx.kd [A, B, C, D] "a" = some A ∧ Kx.kd [A, B, C, D] "b" = some B ∧ Kx.kd [A, B, C, D] "c" = some C ∧ Kx.kd [A, B, C, D] "d" = some D := by
  unfold Kx.kd
  simp only [List.find?_cons, h.a.nm, h.b.nm, h.c.nm, h.d.nm]
  refine ⟨?_, ?_, ?_, ?_⟩
  · rfl
  · rw [show decide (("a" : Str) = "b") = false by decide +kernel]
    rfl
  · rw [show decide (("a" : Str) = "c") = false by decide +kernel, show decide (("b" : Str) = "c") = false by decide +kernel]
    rfl
  · rw [show decide (("a" : Str) = "d") = false by decide +kernel, show decide (("b" : Str) = "d") = false by decide +kernel, show decide (("c" : Str) = "d") = false by decide +kernel]
    rfl
theorem ab_bs (h : Drawn bs A B C D) {f : List Str} (hf : ∀ x ∈ bs, x ∉ f) : AbvN [A, B, C, D] 2 f bs (f ++ bs.reverse) := by
  obtain ⟨ka, kb, kc, kdd⟩ := h.kd
  rcases h.hb with rfl | rfl
  · refine AbvN.take (w := ["a"]) (t := "b") (hf _ (by simp)) kb ?_
    rw [h.b.bs, List.append_nil]
    refine AbvN.take (w := []) (t := "a") (fun z => ?_) ka ?_
    · rcases List.mem_append.mp z with z | z
      · exact hf _ (by simp) z
      · exact absurd (List.mem_singleton.mp z) (by decide +kernel)
    · rw [h.a.bs]
      have : f ++ (["b"] : List Str) ++ (["a"] : List Str) = f ++ (["a", "b"] : List Str).reverse := by simp
      rw [this]
      exact .stop
  · refine AbvN.take (w := ["b"]) (t := "a") (hf _ (by simp)) ka ?_
    rw [h.a.bs, List.append_nil]
    refine AbvN.take (w := []) (t := "b") (fun z => ?_) kb ?_
    · rcases List.mem_append.mp z with z | z
      · exact hf _ (by simp) z
      · exact absurd (List.mem_singleton.mp z) (by decide +kernel)
    · rw [h.b.bs]
      have : f ++ (["a"] : List Str) ++ (["b"] : List Str) = f ++ (["b", "a"] : List Str).reverse := by simp
      rw [this]
      exact .stop
theorem ab_all (h : Drawn bs A B C D) {n : Str} (hn : n ∈ nm4) : ∃ k, k ≤ 40 ∧ AbvN [A, B, C, D] k [] [n] (abv bs n) := by
  obtain ⟨ka, kb, kc, kdd⟩ := h.kd
  simp only [List.mem_cons, List.not_mem_nil, or_false] at hn
  rcases hn with rfl | rfl | rfl | rfl
  · exact ⟨1, by decide, AbvN.take (w := []) (t := "a") (by simp) ka (by rw [h.a.bs]; exact .stop)⟩
  · exact ⟨1, by decide, AbvN.take (w := []) (t := "b") (by simp) kb (by rw [h.b.bs]; exact .stop)⟩
  · refine ⟨3, by decide, AbvN.take (w := []) (t := "c") (by simp) kc ?_⟩
    rw [h.c.bs]
    exact ab_bs (f := ["c"]) h (by rcases h.hb with rfl | rfl <;> decide +kernel)
  · refine ⟨4, by decide, AbvN.take (w := []) (t := "d") (by simp) kdd ?_⟩
    rw [h.d.bs]
    refine AbvN.take (w := []) (t := "c") (by decide +kernel) kc ?_
    rw [h.c.bs]
    exact ab_bs (f := ["d", "c"]) h (by rcases h.hb with rfl | rfl <;> decide +kernel)
theorem abv_is (h : Drawn bs A B C D) {n : Str} (hn : n ∈ nm4) : (∀ x ∈ abv bs n, x ∈ nm4 ∧ PyData.strOk x = true) ∧ (abv bs n).length ≤ 4 ∧ (ordOf (oB bs) n).Perm (abv bs n) := by
  simp only [List.mem_cons, List.not_mem_nil, or_false] at hn
  rcases h.hb with rfl | rfl <;> rcases hn with rfl | rfl | rfl | rfl <;> decide +kernel
theorem due_ok (h : Drawn bs A B C D) : DueOk [A, B, C, D] (abv bs) := by
  have mem : ∀ n, n ∈ [A, B, C, D].map (·.name) ↔ n ∈ nm4 := fun n => names_mem h (List.Perm.refl _)
  have kf : ∀ n, (kfs [A, B, C, D] n).length ≤ 2 ∧ (∀ t ∈ kfs [A, B, C, D] n, t.length ≤ 20) ∧ (kms [A, B, C, D] n).length ≤ 2 := fun n => by
    unfold kfs kms
    cases e : Kx.kd [A, B, C, D] n with
    | none => exact ⟨Nat.zero_le _, (fun _ z => nomatch z), Nat.zero_le _⟩
    | some k =>
      have f := (h.case (kd_name e).2).1
      exact ⟨f.fl, f.fs, f.ml⟩
  refine ⟨names_nd h (List.Perm.refl _), Nat.le_of_ble_eq_true rfl, fun n hn => ab_all h ((mem n).mp hn), fun n hn x hx => ((abv_is h ((mem n).mp hn)).1 x hx).2, fun n hn x hx => (mem x).mpr ((abv_is h ((mem n).mp hn)).1 x hx).1, fun n hn => ?_, fun n hn x hx => ?_, fun n hn => ?_⟩
  · have l := (abv_is h ((mem n).mp hn)).2.1
    have := flat_len (f := kfs [A, B, C, D]) (c := 2) (l := abv bs n) fun x _ => (kf x).1
    exact Nat.le_trans this (by omega)
  · obtain ⟨y, _, hy⟩ := List.mem_flatMap.mp hx
    have := (kf y).2.1 x hy
    omega
  · have l := (abv_is h ((mem n).mp hn)).2.1
    have := flat_len (f := kms [A, B, C, D]) (c := 2) (l := abv bs n) fun x _ => (kf x).2.2
    exact Nat.le_trans this (by omega)
/-- the two values of the law are told the same -/
theorem law_same (h : Drawn bs A B C D) {cs' : List KD} (p : cs'.Perm [A, B, C, D]) {K : PySem.W.Frag} {H : Hp} {u v : V} (d : DueV K [A, B, C, D] (abv bs) H v) (t : ToldV K cs' (oB bs) H u) : ∃ z, Dp K H u z ∧ Dp K H v z ∧ SeqAt.shaped z = true := by
  have mem : ∀ n, n ∈ [A, B, C, D].map (·.name) ↔ n ∈ nm4 := fun n => names_mem h (List.Perm.refl _)
  refine due_told p (names_nd h (List.Perm.refl _)) (fun k hk => areN_nd (h.case hk).1.me) (fun n hn => (abv_is h ((mem n).mp hn)).2.2) (fun n hn => (nm4_ok n ((mem n).mp hn)).2.2) (fun k hk m hm => ((h.case hk).1.mn m hm).2) d t
end
end Kx
set_option linter.all false
namespace Kx
open PySem L2 PySem.Spec PyProof.Rows
abbrev sLaw : Stmt := top 134
abbrev nLaw : List Str := ["_law_script", "_law_cell", "_law_well_here", "_law_turn", "_law_names", "_law_first", "_law_second", "_law_bases", "_law_third", "_law_last", "_law_some", "_law_due_here", "_law_order", "_law_one_here"]
theorem scLaw : FnScope nLaw ["_law_script"] (defScope sLaw) := ⟨rfl, rfl, rfl, by decide +kernel, rfl, by decide +kernel, by decide +kernel⟩
theorem kb_c1 {K : PySem.W.Frag} {f e0 e1 e2 : Addr} {fd : FuncData} (F : FunC K e0 e1 e2 f fd) : ∃ ds, Vals ([V.ref e1, .non, .ref e2]) ds ∧ Binds K fd pC ds :=
  FunD.binds (ps := pC) F 3 1 (by simp) rfl (fun T D doc pm an cdv ct us its ks h1 h2 h3 => match us, its, ks, h1, h2, h3 with | [_, _, _], [_], [_, _, _], _, _, _ => ⟨_, rfl, ⟨_, _, _, _, _, _, rfl, rfl, ⟨_, _, _, _, _, _, rfl, rfl, ⟨_, _, _, _, _, _, rfl, rfl, rfl⟩⟩⟩⟩) (by simp)
/-- the three specs of the law, with what they give told once -/
theorem due_go {K : PySem.W.Frag} {C f : Nat → Addr} {T : Addr} {cs : List KD} {above : Str → List Str} {H : Hp} {Q : VK} {E : XK} (hT : TabO K C f H T cs) (D : DueOk cs above) (k : ∀ v H', Same H H' → DueV K cs above H' v → Q v H') : spDu K C f [.ref T] H Q E :=
  ⟨T, cs, above, rfl, hT, D, fun ns p s => ⟨fun i n h1 h2 h3 pp H' s' g => k _ _ s' ⟨ns, p, s, .inr (.inl ⟨i, n, pp, h1, h2, h3, rfl, SqT.of g⟩)⟩, fun h1 h2 H' s' => k _ _ s' ⟨ns, p, s, .inl ⟨rfl, h1, h2⟩⟩,
    fun h0 i n ys m h1 h2 h3 h4 h5 pp t H' s' gt gp => k _ _ s' ⟨ns, p, s, .inr (.inr ⟨i, n, ys, m, pp, t, h0, h1, h2, h3, h4, h5, rfl, SqT.of gp, SqT.of gt⟩)⟩⟩⟩
theorem told_go {K : PySem.W.Frag} {C f : Nat → Addr} {L R : Addr} {ls : List V} {i0 i1 i2 i3 : Int} {v0 v1 v2 v3 : V} {cs : List KD} {o : Ord} {rk : Str → Nat} {H : Hp} {Q : VK} {E : XK} (hL : H L = some (.lst ls)) (hR : SqT K H R [.int i0, .int i1, .int i2, .int i3])
    (a0 : atI ls i0 = some v0) (a1 : atI ls i1 = some v1) (a2 : atI ls i2 = some v2) (a3 : atI ls i3 = some v3) (oa : OhAll K (clk C f) H (cs.map kO) [v0, v1, v2, v3]) (fine : LibFine cs o rk) (k : ∀ v H', Same H H' → ToldV K cs o H' v → Q v H') : spTo K C f [.ref L, .ref R] H Q E :=
  ⟨L, R, ls, i0, i1, i2, i3, v0, v1, v2, v3, cs, o, rk, rfl, hL, hR, a0, a1, a2, a3, oa, fine, fun ns p s => ⟨fun h1 h2 H' s' => k _ _ s' ⟨ns, p, s, .inl ⟨rfl, h1, h2⟩⟩, fun n h1 pp H' s' g => k _ _ s' ⟨ns, p, s, .inr (.inl ⟨n, pp, h1, rfl, SqT.of g⟩)⟩,
    fun h0 i n ys m h1 h2 h3 h4 h5 h6 pp t H' s' gt gp => k _ _ s' ⟨ns, p, s, .inr (.inr ⟨i, n, ys, m, pp, t, h0, h1, h2, h3, h4, h5, h6, rfl, SqT.of gp, SqT.of gt⟩)⟩⟩⟩
theorem cl_go {K : PySem.W.Frag} {C f : Nat → Addr} {p tb tl : Addr} {n : Int} {nm : Str} {bs xs : List Str} {H : Hp} {Q : VK} {E : XK} (W : WellAt H p n) (hn : n + 20 ≤ 1000000) (hb : SqT K H tb (bs.map V.str)) (hl : H tl = some (.lst (xs.map V.str))) (ne : tl ≠ p) (hx : xs ∈ NSs)
    (k : ∀ kk v H', KOk nm bs kk → Oh K (clk C f) H' (kO kk) v → noL (kO kk) → KeepB p H H' → WellAt H' p (n + 8) → Q v H') : spLCl K C f [.ref p, .str nm, .ref tb, .ref tl] H Q E := by
  obtain ⟨n1, n2, n3, n4, n5⟩ := nss xs hx
  refine ⟨p, tb, tl, n, nm, bs, xs, rfl, W, hn, hb, hl, ne, n3, fun x h => (n4 x h).1, fun fl ml v H' h1 h2 h3 h4 h5 => k _ v H' ⟨rfl, rfl, rfl, xs, hx, h1, h2⟩ h3 ?_ h4 h5⟩
  have l2 := (partx (cl := clk C f) (S := S1 (clk C f)) (n := 5) h2.ok).2.1
  exact ⟨trivial, (ok_strs (S := Sn) (cl := clk C f) bs).2.1, (ok_strs (S := Sn) (cl := clk C f) fl).2.1, (ok_cO (cl := clk C f) [] []).2, l2, trivial⟩
/-- ClassDef(name, bases) -/
theorem bare_go {K : PySem.W.Frag} {C f : Nat → Addr} {x dx tb e1 e2 : Addr} {nm : Str} {bs : List Str} {H : Hp} {Q : VK} {E : XK} (nx : H x = none) (nd : H dx = none) (ne : dx ≠ x) (hb : SqT K H tb (bs.map V.str)) (z1 : SqT K H e1 []) (z2 : SqT K H e2 [])
    (k : ∀ kk H', KOk nm bs kk → Oh K (clk C f) H' (kO kk) (.ref x) → noL (kO kk) → Same H H' → Q .non H') : spIn K (clk C f) 2 6 5 (S1 (clk C f)) [3] [.ref x, .str nm, .ref tb, .ref e1, .non, .ref e2] (upd (upd H dx (.own x)) x (.ins (C 2) dx [])) Q E := by
  have nx1 : (upd H dx (.own x)) x = none := (upd_ne ne.symm).trans nx
  have s4 : Same H (upd (upd H dx (.own x)) x (.ins (C 2) dx [])) := (new_same nd).trans (new_same nx1)
  have all : OhAll K (clk C f) (upd (upd H dx (.own x)) x (.ins (C 2) dx [])) [.fl (.str nm), strsO bs, strsO [], .fl .non, .tup []] [.str nm, .ref tb, .ref e1, .non, .ref e2] :=
    oh_cons (oh_str _) (oh_cons (oh_tup (SqT.same s4 hb) strs_od) (oh_cons (oh_tup (SqT.same s4 z1) oh_nil) (oh_cons oh_non (oh_cons (oh_tup (SqT.same s4 z2) oh_nil) oh_nil))))
  refine ⟨x, dx, _, _, rfl, upd_same, all, ⟨rfl, fun d hd => ?_⟩, fun H' kb o' => k (kdO nm bs [] []) H' ⟨rfl, rfl, rfl, [], by simp, List.Sublist.refl _, ⟨List.Sublist.refl _, fun _ z => nomatch z⟩⟩ o' ?_ (same_make nx nd kb)⟩
  · simp only [List.mem_cons, List.not_mem_nil, or_false] at hd
    obtain ⟨a1, a2, a3⟩ := ok_strs (S := S1 (clk C f)) (cl := clk C f) bs
    rcases hd with rfl | rfl | rfl | rfl | rfl
    · exact ⟨trivial, trivial, Nat.zero_le _⟩
    · exact ⟨a1, a2, Nat.le_trans (Nat.succ_le_succ a3) (by decide)⟩
    · exact ⟨trivial, trivial, Nat.le_of_ble_eq_true rfl⟩
    · exact ⟨trivial, trivial, Nat.zero_le _⟩
    · exact ⟨trivial, trivial, Nat.le_of_ble_eq_true rfl⟩
  · exact ⟨trivial, (ok_strs (S := Sn) (cl := clk C f) bs).2.1, trivial, (ok_cO (cl := clk C f) [] []).2, trivial, trivial⟩
/-- a class that is bare or drawn -/
theorem class_go {K : PySem.W.Frag} {C f : Nat → Addr} {σ : L2.St} {H : Hp} {Q : VK} {wl e1 e2 : Addr} {n : Int} {nm x1 x2 : Str} {bs : List Str} {tbx : TE} (hσ : σ[2]? = some (some (.ref wl))) (W : WellAt H wl n) (hn : n + 30 ≤ 1000000) (hx : [x1, x2] ∈ NSs)
    (hb : ∀ H1 Q', KeepB wl H H1 → (∀ tb H2, SqT K H2 tb (bs.map V.str) → Same H1 H2 → Q' (.ref tb) H2) → tbx σ H1 Q') (z1 : ∀ H, SqT K H e1 []) (z2 : ∀ H, SqT K H e2 [])
    (k : ∀ kk v H', KOk nm bs kk → Oh K (clk C f) H' (kO kk) v → noL (kO kk) → KeepB wl H H' → WellAt H' wl (n + 9) → Q v H') :
    tIf (tTest (tOp (rI0 fun i j => V.bl (decide (j < i))) (tCall spDraw [] E0 (tCons (tVar 2) (tCons (tC (.int 3)) tNil))) (tC (.int 0))))
      (tMake (C 2) (spIn K (clk C f) 2 6 5 (S1 (clk C f)) [3]) [.ref e1, .non, .ref e2] E0 (tCons (tC (.str nm)) (tCons tbx tNil)))
      (tCall (spLCl K C f) [] E0 (tCons (tVar 2) (tCons (tC (.str nm)) (tCons tbx (tCons (tLst (tCons (tC (.str x1)) (tCons (tC (.str x2)) tNil))) tNil))))) σ H Q := by
  refine ⟨_, hσ, wl, 3, n, rfl, W, by omega, by decide, by decide, fun r zs r0 r3 W1 => ?_⟩
  have k1 : KeepB wl H (upd H wl (.lst zs)) := KeepB.at
  obtain ⟨H1, e⟩ : ∃ G, upd H wl (.lst zs) = G := ⟨_, rfl⟩
  rw [e] at k1 W1 ⊢
  refine ⟨_, _, rfl, rfl, decide ((0 : Int) < r), rfl, ?_⟩
  cases decide ((0 : Int) < r) with
  | true =>
    refine iteT ?_
    refine hb H1 _ k1 fun tb H2 hb2 s2 => ?_
    refine fun x dx nx nd ne => ?_
    refine bare_go (E := E0) nx nd ne hb2 (z1 _) (z2 _) fun kk H' h1 h2 h3 h4 => ⟨rfl, ?_⟩
    exact k kk _ H' h1 h2 h3 ((k1.trans (KeepB.of s2)).trans (KeepB.of h4)) ((W1.same (s2.trans h4)).mono (by omega))
  | false =>
    refine iteF ⟨_, hσ, ?_⟩
    refine hb H1 _ k1 fun tb H2 hb2 s2 => ?_
    refine ⟨le_sz (Nat.le_of_ble_eq_true rfl), fun tl hl => ?_⟩
    have W2 := W1.same s2
    have s3 := new_same (o := .lst [V.str x1, .str x2]) hl
    refine cl_go (E := E0) (xs := [x1, x2]) (W2.same s3) (by omega) (SqT.same s3 hb2) upd_same (W2.ne hl) hx fun kk v H' h1 h2 h3 h4 h5 => ?_
    exact k kk v H' h1 h2 h3 (((k1.trans (KeepB.of s2)).trans (KeepB.of s3)).trans h4) (h5.mono (by omega))

end Kx
set_option linter.all false
namespace Kx
open PySem L2 PySem.Spec PyProof.Rows
/-! the law's own body -/
structure LawOf (K : PySem.W.Frag) (w : World) (mg : Str → Option Value) (C fe : Nat → Addr) (CL B CB fB fi fI fM fC e0 e1 e2 : Addr) (fdB fdi fdI fdM fdC : FuncData) : Prop where
  X : Txt K mg C fe
  N : NeC C
  M : CondMk K mg (C 0) fI fdI
  MX : MethMk K mg (C 1) fM fdM
  CX : ClsMk K mg (C 2) fC e0 e1 e2 fdC
  D : Drw K mg
  T : Bx mg
  L : LiF K w mg C fe CL
  W : BadL K mg B CB fB fdB
  Fi : Fun K "__init__" "Library.__init__" sLi fi fdi
  MK : Mk K CL fi
  gL : mg "Library" = some (.ref CL)
  ls : mg "list" = none
  st : mg "set" = none
  rng : mg "range" = none
  dict : mg "dict" = none
  z1 : ∀ H, SqT K H e1 []
  z2 : ∀ H, SqT K H e2 []
  me : ∃ g fd, Fs K mg "_law_method" sLMe ["_law_well_here", "_law_name"] g fd
  cl : ∃ g fd, Fs K mg "_law_class" sLCl ["_law_well_here", "_law_name", "_law_bases", "_law_names"] g fd
  ab : ∃ g fd, Fs K mg "_law_above" sLAb ["_law_table", "_law_name"] g fd
  du : ∃ g fd, Fs K mg "_law_due" sLDu ["_law_table"] g fd
  to : ∃ g fd, Fs K mg "_law_told" sLTo ["_law_some", "_law_order"] g fd
theorem cut_mem {xs : List V} {lo hi : Option Int} : ∀ v ∈ cutV xs lo hi, v ∈ xs := fun v h => List.mem_of_mem_drop (List.mem_of_mem_take h)
theorem DueV.mono {K : PySem.W.Frag} {cs : List KD} {above : Str → List Str} {H H' : Hp} {v : V} (d : DueV K cs above H v) (f : ∀ a xs, SqT K H a xs → SqT K H' a xs) : DueV K cs above H' v := by
  obtain ⟨ns, p, s, d⟩ := d
  refine ⟨ns, p, s, ?_⟩
  rcases d with d | ⟨i, n, q, h1, h2, h3, h4, h5⟩ | ⟨i, n, ys, m, q, t, h0, h1, h2, h3, h4, h5, h6, h7, h8⟩
  · exact .inl d
  · exact .inr (.inl ⟨i, n, q, h1, h2, h3, h4, f _ _ h5⟩)
  · exact .inr (.inr ⟨i, n, ys, m, q, t, h0, h1, h2, h3, h4, h5, h6, f _ _ h7, f _ _ h8⟩)
section
variable {P : Program} {w : World} {K : PySem.W.Frag} {mg : Str → Option Value} {base : Heap} {C fe : Nat → Addr} {CL B CB fB fi fI fM fC e0 e1 e2 : Addr} {fdB fdi fdI fdM fdC : FuncData}
theorem law_body {a : Addr} {ns : List Int} (Z : LawOf K w mg C fe CL B CB fB fi fI fM fC e0 e1 e2 fdB fdi fdI fdM fdC) (f : Addr) (cdv : Value) (A : Around) (outer : List Env) (s : Shared) (H : Hp) (E : XK) (hr : Room 40 (A.deeper (envOfC "law" (defScope sLaw) s.heap.objs.size f cdv)))
    (hS : SqL K H a (ns.map V.int)) (hn : ns.length ≤ 63) : ∃ t, PSs (cxOf CX0 P w K mg base nLaw "law" (defScope sLaw) f cdv A outer s H E).nox (defBody sLaw) t ∧ t { nx := fun _ _ => V.non = V.bl true, rt := fun v _ => v = V.bl true } (L2.start nLaw [.ref a]) H := by
  have X := Z.X
  have CX := Z.CX
  have T := Z.T
  have rng := Z.rng
  have hdict := Z.dict
  obtain ⟨_, _, dW⟩ := Z.D.well
  obtain ⟨_, _, dD⟩ := Z.D.draw
  obtain ⟨_, _, dO⟩ := Z.D.one
  obtain ⟨_, _, dCl⟩ := Z.cl
  obtain ⟨_, _, dDu⟩ := Z.du
  obtain ⟨_, _, dTo⟩ := Z.to
  obtain ⟨_, vC1, bC1⟩ := kb_c1 CX.F
  have GW : FnOk P w K mg base CX0 1 _ _ ["_law_cell"] spWell := ok_well dW.F Z.D.T
  have GD : FnOk P w K mg base CX0 1 _ _ ["_law_well_here", "_law_base"] spDraw := ok_draw dD.F Z.D.T
  have GO : FnOk P w K mg base CX0 2 _ _ ["_law_well_here", "_law_some"] (spOne K) := ok_one dO.F Z.D.T dD.F dD.b dD.m
  have GC : FnOk P w K mg base CX0 8 fC fdC pC (spIn K (clk C fe) 2 6 5 (S1 (clk C fe)) [3]) := ok_inC CX.F X Z.N Z.M
  have GCl : FnOk P w K mg base CX0 11 _ _ ["_law_well_here", "_law_name", "_law_bases", "_law_names"] (spLCl K C fe) := ok_lcl dCl X Z.N Z.M Z.MX CX Z.D T Z.me
  have GDu : FnOk P w K mg base CX0 5 _ _ ["_law_table"] (spDu K C fe) := ok_due dDu X T Z.ls Z.st Z.ab
  have GTo : FnOk P w K mg base CX0 39 _ _ ["_law_some", "_law_order"] (spTo K C fe) := ok_told dTo Z.L Z.W Z.Fi Z.MK Z.gL
  have rm : ∀ n, n ≤ 40 → Room n (A.deeper (envOfC "law" (defScope sLaw) s.heap.objs.size f cdv)) := fun n hn => hr.mono hn
  have hrW := rm 1 (by decide)
  have hrD := rm 1 (by decide)
  have hrO := rm 2 (by decide)
  have hr9 := rm 9 (by decide)
  have hrCl := rm 11 (by decide)
  have hrDu := rm 5 (by decide)
  have hrTo := rm 39 (by decide)
  have hr0 := hr
  refine ⟨_, (pss_cons (ps_for PassesOwn.never rfl (pi_list (pe_op op_cat (pe_slice sl_list (pv 0) po_none (po_some pe_int)) (pe_lst (pa_cons pe_int pa_nil)))) (pg_name (i := 1) scLaw.nd rfl (Or.inl rfl)) (pss_cons (ps_set (i := 2) scLaw.nd rfl (Or.inl rfl) (pe_call GW hrW (by rfl) dW.m dW.F.kp dW.b .nil pass0 (pa_cons (pv 1) pa_nil))) (pss_one (ps_for PassesOwn.never rfl (pi_range1 rfl rng (pa_cons pe_int pa_nil)) (pg_name (i := 3) scLaw.nd rfl (Or.inl rfl)) (pss_cons (ps_set (i := 4) scLaw.nd rfl (Or.inl rfl) (pe_call GO hrO (by rfl) dO.m dO.F.kp dO.b .nil pass0 (pa_cons (pv 2) (pa_cons (pe_lst (pa_cons (pe_lst (pa_cons pe_str (pa_cons pe_str pa_nil))) (pa_cons (pe_lst (pa_cons pe_str (pa_cons pe_str pa_nil))) (pa_cons (pe_lst (pa_cons pe_str pa_nil)) pa_nil)))) pa_nil)))) (pss_cons (ps_par (i := 5) (j := 6) rfl scLaw.nd rfl rfl (by decide) rfl rfl (pa_cons (pe_call GCl hrCl (by rfl) dCl.m dCl.F.kp dCl.b .nil pass0 (pa_cons (pv 2) (pa_cons pe_str (pa_cons (pe_tup pa_nil) (pa_cons (pv 4) pa_nil))))) (pa_cons (pe_call GCl hrCl (by rfl) dCl.m dCl.F.kp dCl.b .nil pass0 (pa_cons (pv 2) (pa_cons pe_str (pa_cons (pe_tup pa_nil) (pa_cons (pv 4) pa_nil))))) pa_nil)) (by rfl)) (pss_cons (ps_set (i := 7) scLaw.nd rfl (Or.inl rfl) (pe_call GO hrO (by rfl) dO.m dO.F.kp dO.b .nil pass0 (pa_cons (pv 2) (pa_cons (pe_lst (pa_cons (pe_tup (pa_cons pe_str (pa_cons pe_str pa_nil))) (pa_cons (pe_tup (pa_cons pe_str (pa_cons pe_str pa_nil))) pa_nil))) pa_nil)))) (pss_cons (ps_set (i := 8) scLaw.nd rfl (Or.inl rfl) (pe_ifExp (pt_cmpR op_gt (pe_call GD hrD (by rfl) dD.m dD.F.kp dD.b .nil pass0 (pa_cons (pv 2) (pa_cons pe_int pa_nil))) pe_int (nomark _)) (pe_make CX.M GC hr9 (by rfl) CX.g bC1 vC1 pass0 (pa_cons pe_str (pa_cons (pv 7) pa_nil))) (pe_call GCl hrCl (by rfl) dCl.m dCl.F.kp dCl.b .nil pass0 (pa_cons (pv 2) (pa_cons pe_str (pa_cons (pv 7) (pa_cons (pe_lst (pa_cons pe_str (pa_cons pe_str pa_nil))) pa_nil))))))) (pss_cons (ps_set (i := 9) scLaw.nd rfl (Or.inl rfl) (pe_ifExp (pt_cmpR op_gt (pe_call GD hrD (by rfl) dD.m dD.F.kp dD.b .nil pass0 (pa_cons (pv 2) (pa_cons pe_int pa_nil))) pe_int (nomark _)) (pe_make CX.M GC hr9 (by rfl) CX.g bC1 vC1 pass0 (pa_cons pe_str (pa_cons (pe_tup (pa_cons pe_str pa_nil)) pa_nil))) (pe_call GCl hrCl (by rfl) dCl.m dCl.F.kp dCl.b .nil pass0 (pa_cons (pv 2) (pa_cons pe_str (pa_cons (pe_tup (pa_cons pe_str pa_nil)) (pa_cons (pe_lst (pa_cons pe_str (pa_cons pe_str pa_nil))) pa_nil))))))) (pss_cons (ps_set (i := 10) scLaw.nd rfl (Or.inl rfl) (pe_lst (pa_cons (pv 5) (pa_cons (pv 6) (pa_cons (pv 8) (pa_cons (pv 9) pa_nil)))))) (pss_cons (ps_set (i := 11) scLaw.nd rfl (Or.inl rfl) (pe_call GDu hrDu (by rfl) dDu.m dDu.F.kp dDu.b .nil pass0 (pa_cons (pe_callTy (call_dictP rfl) (by rfl) hdict (by decide +kernel) (pa_cons (pe_lc (own := [("_law_one_here", 13)]) (g := gName 13) (tt := tYes) rfl scLaw.nd (pi_list (pv 10)) (blkOk_by (N := nLaw) (sc := defScope sLaw) (by decide +kernel)) (fun _ _ _ _ _ => (pg_name (i := 13) scLaw.nd rfl (Or.inl rfl))) (fun _ _ _ _ _ => pts_nil) (fun _ _ _ _ _ => (pe_tup (pa_cons (pe_fldK (K := K) rfl (pv 13) (by rfl)) (pa_cons (pv 13) pa_nil))))) pa_nil)) pa_nil))) (pss_cons (ps_set (i := 12) scLaw.nd rfl (Or.inl rfl) (pe_call GO hrO (by rfl) dO.m dO.F.kp dO.b .nil pass0 (pa_cons (pv 2) (pa_cons (pe_lst (pa_cons (pe_tup (pa_cons pe_int (pa_cons pe_int (pa_cons pe_int (pa_cons pe_int pa_nil))))) (pa_cons (pe_tup (pa_cons pe_int (pa_cons pe_int (pa_cons pe_int (pa_cons pe_int pa_nil))))) (pa_cons (pe_tup (pa_cons pe_int (pa_cons pe_int (pa_cons pe_int (pa_cons pe_int pa_nil))))) pa_nil)))) pa_nil)))) (pss_one (ps_if (pt_cmpR (op_neD hr.units) (pe_call GTo hrTo (by rfl) dTo.m dTo.F.kp dTo.b .nil pass0 (pa_cons (pv 10) (pa_cons (pv 12) pa_nil))) (pv 11) (nomark _)) (pss_one (ps_ret pe_bl)) pss_nil)))))))))))))) (pss_one (ps_ret pe_bl))), ?_⟩
  have hc : ∀ v ∈ cutV (ns.map V.int) none (some 6) ++ [V.int 0], ∃ c, v = V.int c := by
    intro v hv
    rcases List.mem_append.mp hv with h | h
    · obtain ⟨c, _, e⟩ := List.mem_map.mp (cut_mem v h)
      exact ⟨c, e.symm⟩
    · exact ⟨0, by simpa using h⟩
  have hcl : (cutV (ns.map V.int) none (some 6)).length ≤ 63 := Nat.le_trans (cutV_length _ _ _) (by rw [List.length_map]; exact hn)
  refine ⟨_, rfl, _, rfl, a, _, rfl, hS, fun l0 n0 => ?_⟩
  refine ⟨by show 1 ≤ sizeLine; decide, fun l1 n1 => ?_⟩
  have e01 : l0 ≠ l1 := ne_of_none (o := .lst (cutV (ns.map V.int) none (some 6))) upd_same n1
  refine ⟨l0, l1, _, _, rfl, rfl, (by rw [upd_ne e01]; exact upd_same), upd_same, (Nat.le_of_lt (small1000 (by show _ + 1 ≤ 1000; omega))), fun l2 n2 => ?_⟩
  refine ⟨l2, rfl, ⟨_, SqL.of upd_same⟩, ?_⟩
  refine for_list (K := K) (a := l2) (xs := cutV (ns.map V.int) none (some 6) ++ [V.int 0])
    (fun i σ H2 => (∃ o1 o2 o3 o4 o5 o6 o7 o8 o9 o10 o11 o12 : Option V, σ = [some (.ref a), o1, o2, o3, o4, o5, o6, o7, o8, o9, o10, o11, o12, none]) ∧ H2 l2 = some (.lst (cutV (ns.map V.int) none (some 6) ++ [V.int 0])))
    ⟨⟨none, none, none, none, none, none, none, none, none, none, none, none, rfl⟩, upd_same⟩ (fun i σ H2 _ h => SqL.of h.2) ?_ ?_
  · rintro i y σ H2 hi ⟨⟨o1, o2, o3, o4, o5, o6, o7, o8, o9, o10, o11, o12, rfl⟩, h2⟩
    obtain ⟨c, rfl⟩ := hc y (List.mem_of_getElem? hi)
    refine ⟨_, rfl, c, rfl, fun wl H3 nw s3 hW => ?_⟩
    have nl2 : l2 ≠ wl := ne_of_none h2 nw
    have h3 := s3 _ _ h2
    refine ⟨_, rfl, by decide, by decide, for_range (lo := 0) (n := 4) (fun j σ H4 => (∃ o3 o4 o5 o6 o7 o8 o9 o10 o11 o12 : Option V, σ = [some (.ref a), some (.int c), some (.ref wl), o3, o4, o5, o6, o7, o8, o9, o10, o11, o12, none]) ∧ H4 l2 = some (.lst (cutV (ns.map V.int) none (some 6) ++ [V.int 0])) ∧ WellAt H4 wl (40 * j)) ⟨⟨_, _, _, _, _, _, _, _, _, _, rfl⟩, h3, by simpa using hW⟩ ?_ ?_⟩
    · rintro j σ H4 hj ⟨⟨o3, o4, o5, o6, o7, o8, o9, o10, o11, o12, rfl⟩, h4, W4⟩
      have hjn : (40 * (j : Int)) ≤ 120 := by omega
      -- the names
      refine ⟨_, rfl, le_sz (Nat.le_of_ble_eq_true rfl), fun a1 h1 => ⟨le_sz (Nat.le_of_ble_eq_true rfl), fun a2 h2' => ⟨le_sz (Nat.le_of_ble_eq_true rfl), fun a3 h3' => ⟨le_sz (Nat.le_of_ble_eq_true rfl), fun q5 hq5 => ?_⟩⟩⟩⟩
      have sA := new_same (o := .lst [V.str "m", .str "n"]) h1
      have sB := new_same (o := .lst [V.str "n", .str "m"]) h2'
      have sC := new_same (o := .lst [V.str "m"]) h3'
      have sD := new_same (o := .lst [V.ref a1, .ref a2, .ref a3]) hq5
      have g1 := sD _ _ (sC _ _ (sB _ _ (show (upd H4 a1 (.lst [V.str "m", .str "n"])) a1 = _ from upd_same)))
      have g2 := sD _ _ (sC _ _ (show (upd (upd H4 a1 (.lst [V.str "m", .str "n"])) a2 (.lst [V.str "n", .str "m"])) a2 = _ from upd_same))
      have g3 := sD _ _ (show (upd (upd (upd H4 a1 (.lst [V.str "m", .str "n"])) a2 (.lst [V.str "n", .str "m"])) a3 (.lst [V.str "m"])) a3 = _ from upd_same)
      have s48 := ((sA.trans sB).trans sC).trans sD
      have gq : (upd (upd (upd (upd H4 a1 (.lst [V.str "m", .str "n"])) a2 (.lst [V.str "n", .str "m"])) a3 (.lst [V.str "m"])) q5 (.lst [V.ref a1, .ref a2, .ref a3])) q5 = some (.lst [V.ref a1, .ref a2, .ref a3]) := upd_same
      have na1 := W4.ne h1
      have na2 := (W4.same sA).ne h2'
      have na3 := (W4.same (sA.trans sB)).ne h3'
      have nq5 := (W4.same ((sA.trans sB).trans sC)).ne hq5
      obtain ⟨H8, e8⟩ : ∃ G, upd (upd (upd (upd H4 a1 (.lst [V.str "m", .str "n"])) a2 (.lst [V.str "n", .str "m"])) a3 (.lst [V.str "m"])) q5 (.lst [V.ref a1, .ref a2, .ref a3]) = G := ⟨_, rfl⟩
      rw [e8] at g1 g2 g3 s48 gq ⊢
      refine ⟨wl, q5, _, _, rfl, W4.same s48, by omega, nq5.symm, SqL.of gq, Nat.le_of_ble_eq_true rfl, Nat.le_of_ble_eq_true rfl, fun r v xs' hv W9 => ?_⟩
      have k89 : KeepB wl H8 (upd H8 wl (.lst xs')) := KeepB.at
      obtain ⟨H9, e9⟩ : ∃ G, upd H8 wl (.lst xs') = G := ⟨_, rfl⟩
      rw [e9] at k89 W9 ⊢
      obtain ⟨tl, xsn, rfl, hxn, gtl, ntl⟩ : ∃ (tl : Addr) (xsn : List Str), v = .ref tl ∧ xsn ∈ NSs ∧ H9 tl = some (.lst (xsn.map V.str)) ∧ tl ≠ wl := by
        have := List.mem_of_getElem? hv
        simp only [List.mem_cons, List.not_mem_nil, or_false] at this
        rcases this with rfl | rfl | rfl
        · exact ⟨a1, ["m", "n"], rfl, by simp, k89 _ _ na1 g1, na1⟩
        · exact ⟨a2, ["n", "m"], rfl, by simp, k89 _ _ na2 g2, na2⟩
        · exact ⟨a3, ["m"], rfl, by simp, k89 _ _ na3 g3, na3⟩
      have k49 : KeepB wl H4 H9 := (KeepB.of s48).trans k89
      -- the first two classes
      refine ⟨_, rfl, le_sz (Nat.le_of_ble_eq_true rfl), fun t0 ht0 => ⟨_, rfl, ?_⟩⟩
      have sT := new_same (o := .tup []) ht0
      have gT0 : (upd H9 t0 (.tup [])) t0 = some (.tup (([] : List Str).map V.str)) := upd_same
      obtain ⟨Ha, ea⟩ : ∃ G, upd H9 t0 (.tup []) = G := ⟨_, rfl⟩
      rw [ea] at sT gT0 ⊢
      refine cl_go (E := E0) (bs := []) (W9.same sT) (by omega) (SqT.of gT0) (sT _ _ gtl) ntl hxn fun kA vA Hb okA oA nA kAb WA => ?_
      refine ⟨_, rfl, le_sz (Nat.le_of_ble_eq_true rfl), fun t1 ht1 => ⟨_, rfl, ?_⟩⟩
      have nt1 := WA.ne ht1
      have sT1 := new_same (o := .tup []) ht1
      have gT1 : (upd Hb t1 (.tup [])) t1 = some (.tup (([] : List Str).map V.str)) := upd_same
      obtain ⟨Hc, ec⟩ : ∃ G, upd Hb t1 (.tup []) = G := ⟨_, rfl⟩
      rw [ec] at sT1 gT1 ⊢
      have W9s := W9.same sT
      obtain ⟨msA, hpA⟩ := W9s.lst
      obtain ⟨msB, hpB⟩ := (WA.same sT1).lst
      refine cl_go (E := E0) (bs := []) (WA.same sT1) (by omega) (SqT.of gT1) (sT1 _ _ (kAb _ _ ntl (sT _ _ gtl))) ntl hxn fun kB vB Hd okB oB nB kBd WB => ?_
      have oA2 := Oh.keepB hpB kBd _ _ nA (Oh.sm sT1 oA)
      have k9d : KeepB wl H9 Hd := ((KeepB.of sT).trans kAb).trans ((KeepB.of sT1).trans kBd)
      have k4d := k49.trans k9d
      refine ⟨_, _, rfl, ?_⟩
      -- the bases
      refine ⟨_, rfl, le_sz (Nat.le_of_ble_eq_true rfl), fun b1 hb1 => ⟨le_sz (Nat.le_of_ble_eq_true rfl), fun b2 hb2 => ⟨le_sz (Nat.le_of_ble_eq_true rfl), fun q6 hq6 => ?_⟩⟩⟩
      have uA := new_same (o := .tup [V.str "a", .str "b"]) hb1
      have uB := new_same (o := .tup [V.str "b", .str "a"]) hb2
      have uC := new_same (o := .lst [V.ref b1, .ref b2]) hq6
      have gb1 := uC _ _ (uB _ _ (show (upd Hd b1 (.tup [V.str "a", .str "b"])) b1 = _ from upd_same))
      have gb2 := uC _ _ (show (upd (upd Hd b1 (.tup [V.str "a", .str "b"])) b2 (.tup [V.str "b", .str "a"])) b2 = _ from upd_same)
      have gq6 : (upd (upd (upd Hd b1 (.tup [V.str "a", .str "b"])) b2 (.tup [V.str "b", .str "a"])) q6 (.lst [V.ref b1, .ref b2])) q6 = some (.lst [V.ref b1, .ref b2]) := upd_same
      have ude := (uA.trans uB).trans uC
      have nb1 := WB.ne hb1
      have nb2 := (WB.same uA).ne hb2
      have nq6 := (WB.same (uA.trans uB)).ne hq6
      obtain ⟨He, ee⟩ : ∃ G, upd (upd (upd Hd b1 (.tup [V.str "a", .str "b"])) b2 (.tup [V.str "b", .str "a"])) q6 (.lst [V.ref b1, .ref b2]) = G := ⟨_, rfl⟩
      rw [ee] at gb1 gb2 gq6 ude ⊢
      have We := WB.same ude
      obtain ⟨msE, hpE⟩ := We.lst
      refine ⟨wl, q6, _, _, rfl, We, by omega, nq6.symm, SqL.of gq6, Nat.le_of_ble_eq_true rfl, Nat.le_of_ble_eq_true rfl, fun r6 v6 xs6 hv6 Wf => ?_⟩
      have kef : KeepB wl He (upd He wl (.lst xs6)) := KeepB.at
      obtain ⟨Hf, ef⟩ : ∃ G, upd He wl (.lst xs6) = G := ⟨_, rfl⟩
      rw [ef] at kef Wf ⊢
      obtain ⟨tb, bs, rfl, hbs, gtb, ntb⟩ : ∃ (tb : Addr) (bs : List Str), v6 = .ref tb ∧ (bs = (["a", "b"] : List Str) ∨ bs = (["b", "a"] : List Str)) ∧ Hf tb = some (.tup (bs.map V.str)) ∧ tb ≠ wl := by
        have := List.mem_of_getElem? hv6
        simp only [List.mem_cons, List.not_mem_nil, or_false] at this
        rcases this with rfl | rfl
        · exact ⟨b1, ["a", "b"], rfl, .inl rfl, kef _ _ nb1 gb1, nb1⟩
        · exact ⟨b2, ["b", "a"], rfl, .inr rfl, kef _ _ nb2 gb2, nb2⟩
      have oA3 := Oh.keepB hpE kef _ _ nA (Oh.sm ude oA2)
      have oB3 := Oh.keepB hpE kef _ _ nB (Oh.sm ude oB)
      have k4f := k4d.trans ((KeepB.of ude).trans kef)
      obtain ⟨msF, hpF⟩ := Wf.lst
      refine class_go (bs := bs) (C := C) (f := fe) (wl := wl) rfl Wf (by omega) (by simp) (fun H1 Q' kk q' => ⟨_, rfl, q' tb H1 (SqT.of (kk _ _ ntb gtb)) (Same.refl _)⟩) Z.z1 Z.z2 fun kC vC Hg okC oC nC kfg WC => ?_
      have oA4 := Oh.keepB hpF kfg _ _ nA oA3
      have oB4 := Oh.keepB hpF kfg _ _ nB oB3
      obtain ⟨msG, hpG⟩ := WC.lst
      refine class_go (bs := (["c"] : List Str)) (C := C) (f := fe) (wl := wl) rfl WC (by omega) (by simp) (fun H1 Q' kk q' => ⟨le_sz (Nat.le_of_ble_eq_true rfl), fun t ht => q' t _ (SqT.of upd_same) (new_same ht)⟩) Z.z1 Z.z2 fun kD vD Hh okD oD nD kgh WD => ?_
      have oA5 := Oh.keepB hpG kgh _ _ nA oA4
      have oB5 := Oh.keepB hpG kgh _ _ nB oB4
      have oC5 := Oh.keepB hpG kgh _ _ nC oC
      have k4h := (k4f.trans kfg).trans kgh
      have dr : Drawn bs kA kB kC kD := ⟨hbs, okA, okB, okC, okD⟩
      have oall : OhAll K (clk C fe) Hh ([kA, kB, kC, kD].map kO) [vA, vB, vC, vD] := oh_cons oA5 (oh_cons oB5 (oh_cons oC5 (oh_cons oD oh_nil)))
      -- all four, and what is due
      refine ⟨_, rfl, _, rfl, _, rfl, _, rfl, le_sz (Nat.le_of_ble_eq_true rfl), fun S0 hS0 => ?_⟩
      have sS := new_same (o := .lst [vA, vB, vC, vD]) hS0
      have gS0 : (upd Hh S0 (.lst [vA, vB, vC, vD])) S0 = some (.lst [vA, vB, vC, vD]) := upd_same
      have nS0 := WD.ne hS0
      have WI := WD.same sS
      have oI := OhAll.sm sS oall
      obtain ⟨Hi, ei⟩ : ∃ G, upd Hh S0 (.lst [vA, vB, vC, vD]) = G := ⟨_, rfl⟩
      rw [ei] at sS gS0 WI oI ⊢
      have item : ∀ (i : Nat) (v : V), [vA, vB, vC, vD][i]? = some v → ∃ k, [kA, kB, kC, kD][i]? = some k ∧ Oh K (clk C fe) Hi (kO k) v := fun i v hv => by
        obtain ⟨d, hd, od⟩ := ohAll_get _ _ _ _ oI hv
        rw [List.getElem?_map] at hd
        obtain ⟨k, ek, rfl⟩ := Option.map_eq_some_iff.mp hd
        exact ⟨k, ek, od⟩
      obtain ⟨kvs, hkv⟩ : ∃ kvs : List (Key × V), (([kA, kB, kC, kD].zip [vA, vB, vC, vD]).map fun kv => ((.inr kv.1.name : Key), kv.2)) = kvs := ⟨_, rfl⟩
      refine ⟨_, rfl, S0, rfl, ⟨_, SqL.of gS0⟩, fun D0 hD0 => ?_⟩
      refine lc_it (walk_list (xs := [vA, vB, vC, vD])) (g := gName 13) (vs := [13]) (tt := tYes) (fun i Hq => Same Hi Hq ∧ ∃ ps : List Addr, Hq D0 = some (.lst (ps.map V.ref)) ∧ ps.length = i ∧ Paired (fun p (kv : Key × V) => SqT K Hq p [kV kv.1, kv.2]) ps (kvs.take i)) ⟨new_same hD0, [], upd_same, rfl, .nil⟩ (fun i Hq _ h => SqL.of (h.1 _ _ gS0)) ?_ ?_
      · rintro i' y' Hq Hr hi' ⟨sq, ps, gD, lp, pp⟩ ⟨rfl, hy'⟩
        obtain ⟨k, ek, od⟩ := item i' y' hy'
        have od2 := Oh.sm sq od
        obtain ⟨b, bx, bs', vb, vf, vm, vw, ys, rfl, KA⟩ := kO_get od2
        have hkvi : kvs[i']? = some (.inr k.name, .ref b) := by
          rw [← hkv, List.getElem?_map, List.getElem?_zip_eq_some.mpr (show [kA, kB, kC, kD][i']? = some ((k, V.ref b) : KD × V).1 ∧ _ from ⟨ek, hy'⟩)]
          rfl
        refine ⟨rfl, yes_of ⟨_, rfl, b, C 2, bx, bs', _, rfl, KA.ins, X.cls 2 (by decide), X.no 2 (by decide) _ (by decide), KA.nm, _, rfl, le_sz (Nat.le_of_ble_eq_true rfl), fun t ht => ?_⟩⟩
        have st := new_same (o := .tup [V.str k.name, .ref b]) ht
        have gt : (upd Hr t (.tup [V.str k.name, .ref b])) t = some (.tup [V.str k.name, .ref b]) := upd_same
        obtain ⟨Hu, eu⟩ : ∃ G, upd Hr t (.tup [V.str k.name, .ref b]) = G := ⟨_, rfl⟩
        rw [eu] at st gt ⊢
        refine ⟨ps.map V.ref, st _ _ gD, ?_, same_D hD0 (sq.trans st), ps ++ [t], by rw [upd_same, List.map_append]; rfl, by rw [List.length_append, lp]; rfl, ?_⟩
        · rw [List.length_map, lp]
          exact Nat.lt_of_le_of_lt (show i' ≤ 4 from Nat.le_of_lt hi') (Nat.lt_of_lt_of_le (by decide : 4 < 100) (le_sz (Nat.le_refl _)))
        rw [take_snoc hkvi]
        exact paired_snoc (_root_.L2.Paired.mapP pp fun p kv z => SqT.keepB (st _ _ gD) KeepB.at (SqT.same st z)) (SqT.keepB (st _ _ gD) KeepB.at (SqT.of gt))
      · rintro Hq ⟨sq, ps, gD, lp, pp⟩
        have lk4 : kvs.length = 4 := by rw [← hkv]; rfl
        rw [show [vA, vB, vC, vD].length = 4 from rfl, List.take_of_length_le (by omega)] at pp
        have hm : mergeK [] kvs = kvs := by
          rw [← hkv]
          simp only [List.zip_cons_cons, List.zip_nil_right, List.map_cons, List.map_nil, okA.nm, okB.nm, okC.nm, okD.nm]
          rfl
        refine ⟨D0, ps, kvs, rfl, SqL.of gD, pp, fun T0 hT0 => ?_⟩
        rw [hm]
        have sT0 := new_same (o := .dK kvs) hT0
        have tabo : TabO K C fe (upd Hq T0 (.dK kvs)) T0 [kA, kB, kC, kD] := ⟨_, by rw [upd_same, ← hkv], OhAll.sm (sq.trans sT0) oI⟩
        have sIT := sq.trans sT0
        obtain ⟨Hw, ew⟩ : ∃ G, upd Hq T0 (.dK kvs) = G := ⟨_, rfl⟩
        rw [ew] at tabo sIT ⊢
        dsimp only [tNil, List.append_nil]
        refine due_go (E := E0) tabo (due_ok dr) fun vd Hv sv dv => ?_
        have WV := WI.same (sIT.trans sv)
        have sIV := sIT.trans sv
        -- the order
        refine ⟨_, rfl, le_sz (Nat.le_of_ble_eq_true rfl), fun r1 hr1 => ⟨le_sz (Nat.le_of_ble_eq_true rfl), fun r2 hr2 => ⟨le_sz (Nat.le_of_ble_eq_true rfl), fun r3 hr3 => ⟨le_sz (Nat.le_of_ble_eq_true rfl), fun q7 hq7 => ?_⟩⟩⟩⟩
        have ra := new_same (o := .tup [V.int 0, .int 1, .int 2, .int 3]) hr1
        have rb := new_same (o := .tup [V.int 3, .int 2, .int 1, .int 0]) hr2
        have rc := new_same (o := .tup [V.int 2, .int 0, .int 3, .int 1]) hr3
        have rd := new_same (o := .lst [V.ref r1, .ref r2, .ref r3]) hq7
        have gr1 := rd _ _ (rc _ _ (rb _ _ (show (upd Hv r1 (.tup [V.int 0, .int 1, .int 2, .int 3])) r1 = _ from upd_same)))
        have gr2 := rd _ _ (rc _ _ (show (upd (upd Hv r1 (.tup [V.int 0, .int 1, .int 2, .int 3])) r2 (.tup [V.int 3, .int 2, .int 1, .int 0])) r2 = _ from upd_same))
        have gr3 := rd _ _ (show (upd (upd (upd Hv r1 (.tup [V.int 0, .int 1, .int 2, .int 3])) r2 (.tup [V.int 3, .int 2, .int 1, .int 0])) r3 (.tup [V.int 2, .int 0, .int 3, .int 1])) r3 = _ from upd_same)
        have gq7 : (upd (upd (upd (upd Hv r1 (.tup [V.int 0, .int 1, .int 2, .int 3])) r2 (.tup [V.int 3, .int 2, .int 1, .int 0])) r3 (.tup [V.int 2, .int 0, .int 3, .int 1])) q7 (.lst [V.ref r1, .ref r2, .ref r3])) q7 = some (.lst [V.ref r1, .ref r2, .ref r3]) := upd_same
        have rall := ((ra.trans rb).trans rc).trans rd
        have nr1 := WV.ne hr1
        have nr2 := (WV.same ra).ne hr2
        have nr3 := (WV.same (ra.trans rb)).ne hr3
        have nq7 := (WV.same ((ra.trans rb).trans rc)).ne hq7
        obtain ⟨Hx, ex⟩ : ∃ G, upd (upd (upd (upd Hv r1 (.tup [V.int 0, .int 1, .int 2, .int 3])) r2 (.tup [V.int 3, .int 2, .int 1, .int 0])) r3 (.tup [V.int 2, .int 0, .int 3, .int 1])) q7 (.lst [V.ref r1, .ref r2, .ref r3]) = G := ⟨_, rfl⟩
        rw [ex] at gr1 gr2 gr3 gq7 rall ⊢
        have Wx := WV.same rall
        obtain ⟨msX, hpX⟩ := Wx.lst
        refine ⟨wl, q7, _, _, rfl, Wx, by omega, nq7.symm, SqL.of gq7, Nat.le_of_ble_eq_true rfl, Nat.le_of_ble_eq_true rfl, fun r7 v7 xs7 hv7 Wy => ?_⟩
        have kxy : KeepB wl Hx (upd Hx wl (.lst xs7)) := KeepB.at
        obtain ⟨Hy, ey⟩ : ∃ G, upd Hx wl (.lst xs7) = G := ⟨_, rfl⟩
        rw [ey] at kxy Wy ⊢
        have shx := sS.trans (sIV.trans rall)
        have yA := Oh.keepB hpX kxy _ _ nA (Oh.sm shx oA5)
        have yB := Oh.keepB hpX kxy _ _ nB (Oh.sm shx oB5)
        have yC := Oh.keepB hpX kxy _ _ nC (Oh.sm shx oC5)
        have yD := Oh.keepB hpX kxy _ _ nD (Oh.sm shx oD)
        have gSy := kxy _ _ nS0 ((sIV.trans rall) _ _ gS0)
        obtain ⟨R, i0, i1, i2, i3, w0, w1, w2, w3, cs', rfl, pc, gR, b0, b1', b2', b3', ow⟩ : ∃ (R : Addr) (i0 i1 i2 i3 : Int) (w0 w1 w2 w3 : V) (cs' : List KD), v7 = .ref R ∧ cs'.Perm [kA, kB, kC, kD] ∧ SqT K Hy R [.int i0, .int i1, .int i2, .int i3] ∧ atI [vA, vB, vC, vD] i0 = some w0 ∧ atI [vA, vB, vC, vD] i1 = some w1 ∧ atI [vA, vB, vC, vD] i2 = some w2 ∧ atI [vA, vB, vC, vD] i3 = some w3 ∧ OhAll K (clk C fe) Hy (cs'.map kO) [w0, w1, w2, w3] := by
          have := List.mem_of_getElem? hv7
          simp only [List.mem_cons, List.not_mem_nil, or_false] at this
          rcases this with rfl | rfl | rfl
          · exact ⟨r1, 0, 1, 2, 3, _, _, _, _, [kA, kB, kC, kD], rfl, List.Perm.refl _, SqT.of (kxy _ _ nr1 gr1), rfl, rfl, rfl, rfl, oh_cons yA (oh_cons yB (oh_cons yC (oh_cons yD oh_nil)))⟩
          · exact ⟨r2, 3, 2, 1, 0, _, _, _, _, [kD, kC, kB, kA], rfl, List.reverse_perm [kA, kB, kC, kD], SqT.of (kxy _ _ nr2 gr2), rfl, rfl, rfl, rfl, oh_cons yD (oh_cons yC (oh_cons yB (oh_cons yA oh_nil)))⟩
          · exact ⟨r3, 2, 0, 3, 1, _, _, _, _, [kC, kA, kD, kB], rfl, (List.Perm.swap kA kC [kD, kB]).trans (.cons kA ((List.Perm.cons kC (.swap kB kD [])).trans (.swap kB kC [kD]))), SqT.of (kxy _ _ nr3 gr3), rfl, rfl, rfl, rfl, oh_cons yC (oh_cons yA (oh_cons yD (oh_cons yB oh_nil)))⟩
        refine ⟨_, rfl, _, rfl, ?_⟩
        dsimp only [tNil, List.append_nil]
        refine told_go (E := E0) gSy gR b0 b1' b2' b3' ow (lib_fine dr pc) fun vt Hz sz tv => ?_
        have dz := dv.mono fun aa xx q => SqT.same sz (SqT.keepB hpX kxy (SqT.same rall q))
        obtain ⟨z, z1, z2, z3⟩ := law_same dr pc dz tv
        refine ⟨_, rfl, z, z, z1, z2, z3, z3, ?_⟩
        rw [SeqAt.eqv_refl z (SeqAt.canLay_of_shaped z3)]
        refine ⟨_, rfl, iteF ⟨⟨_, _, _, _, _, _, _, _, _, _, rfl⟩, ?_, ?_⟩⟩
        · exact sz _ _ (kxy _ _ nl2 (rall _ _ (sIV _ _ (sS _ _ (k4h _ _ nl2 h4)))))
        · exact (Wy.same sz).mono (by push_cast; omega)
    · rintro σ H4 ⟨⟨o3, o4, o5, o6, o7, o8, o9, o10, o11, o12, rfl⟩, h4, W4⟩
      exact ⟨⟨_, _, _, _, _, _, _, _, _, _, _, _, rfl⟩, h4⟩
  · rintro σ H2 _
    rfl
end

end Kx
namespace Kx
open PySem L2 PySem.Spec PyProof.Rows
/-! the law's own call, by a caller around whom nothing is being shown -/
section
variable {P : Program} {w : World} {K : PySem.W.Frag} {mg mb : Str → Option Value} {fa a : Addr} {s : Shared} {vs : List Value} {ns : List Int}
abbrev oScript (vs : List Value) : Obj := { cls := .type "list", data := .seq vs.toArray }
/-- what may be tracked at the entry: the script, and nothing else -/
structure Entry (K : PySem.W.Frag) (H : Hp) (a : Addr) (vs : List Value) (ns : List Int) : Prop where
  only : ∀ b u, H b = some u → b = a ∧ u = .frz (oScript vs) (.lst (ns.map V.int)) ∧ K.lookup a = none
  seq : SqL K H a (ns.map V.int)
theorem entry_run {oc kV doc pm cdv ct : Value} {od an : Option Addr} {osl : Array (Option Value)} {H : Hp} (En : Entry K H a vs ns)
    (KX : K.In s.heap) (hns : s.heap.Ns mainGlobals mg) (hb : s.heap.Ns builtinsNs mb) (hbb : ∀ x : Str, x ≠ "__name__" → mb x = bootBuiltins x) (hlim : s.heap.NoLimit) (hg : s.gens = #[])
    (ha : s.heap.get? a = some (oScript vs)) (hi : IntsAre vs ns) (hl : ns.length ≤ 63)
    (lk : K.lookup fa = some ⟨oc, od, .func (PySem.W.fnOf "law" "law" (defArgs sLaw) (defBody sLaw) (defScope sLaw) .none kV doc pm an cdv ct), osl⟩) (hcd : PySem.W.codeIn K cdv "law" = true)
    (body : ∀ (base : Heap), K.In base → base.Ns mainGlobals mg → ∃ t, PSs (cxOf CX0 P w K mg base nLaw "law" (defScope sLaw) fa cdv callerA [] s H E0).nox (defBody sLaw) t ∧ t { nx := fun _ _ => V.non = V.bl true, rt := fun v _ => v = V.bl true } (start nLaw [.ref a]) H) :
    codeAny (model P w) callerA (.call (.ref fa) ⟨[.ref a], []⟩) (fun r s' => r = .ok (.ret (.bool true)) ∧ OldK s.heap s'.heap ∧ s'.os = s.os ∧ AllBare s'.gens) s := by
  have rv := vals_ints hi
  have free : ∀ {b : Addr} {o : Obj}, s.heap.get? b = some o → (b = a → o ≠ oScript vs) → H b = none := fun {b o} e d => by
    cases q : H b with
    | none => rfl
    | some u =>
      obtain ⟨rfl, _, _⟩ := En.only b u q
      rw [ha] at e
      exact absurd (Option.some.inj e).symm (d rfl)
  have freeD : ∀ {b : Addr} {o : Obj} {es : Array DictEntry} {ep : Nat}, s.heap.get? b = some o → o.data = .dict es ep → H b = none := fun {b o es ep} e d =>
    free e fun _ z => by
      rw [z] at d
      cases d
  have nsB : ∀ {b : Addr} {m : Str → Option Value}, s.heap.Ns b m → (hidT s.heap H).Ns b m := fun {b m} ⟨o, es, ep, e, d, r⟩ => ⟨o, es, ep, hidT_get e (freeD e d), d, r⟩
  have KB : K.In (hidT s.heap H) := fun b o e => hidT_get (KX b o e) (by
    cases q : H b with
    | none => rfl
    | some u =>
      obtain ⟨rfl, _, n⟩ := En.only b u q
      rw [n] at e
      cases e)
  have M : Mod K mg (hidT s.heap H) := ⟨KB, nsB hns, ⟨mb, nsB hb, hbb⟩, let ⟨mc, h1, h2⟩ := hlim; ⟨mc, nsB h1, h2⟩⟩
  have ok : HOk P w H s.heap := fun b u q => by
    obtain ⟨rfl, rfl, _⟩ := En.only b u q
    exact ⟨ha, by rw [List.length_map]; exact Nat.le_of_lt (small1000 (by omega)), vs, _, rv, ha⟩
  have e0 : Env0 P w K mg (hidT s.heap H) callerA [] s H := ⟨rfl, M, fun b o e => of_hidT e, Nat.le_of_eq (hidT_size _ _), trivial, fun b hb => absurd (show b ∈ ([] : List Addr) from hb) (by simp), ok, .of_eq hg⟩
  have F : FnScope nLaw ["_law_script"] (defScope sLaw) := scLaw
  have bd : BindsTo s (PySem.W.fnOf "law" "law" (defArgs sLaw) (defBody sLaw) (defScope sLaw) .none kV doc pm an cdv ct) ⟨[.ref a], []⟩ [("_law_script", .ref a)] := .of_eq rfl
  refine codeAny_call_function (by decide) (KX _ _ lk) rfl F.co F.gen rfl (PySem.W.codeRec_of KX hcd) (bd _ _ _ _ ?_)
  refine wpAny_newFunctionEnv_cells F.kind (fun y hy => ?_) fun env he s1 x => ?_
  · rw [List.mem_singleton.mp hy]
    exact .inl (by rfl)
  · subst he
    refine ⟨hlim.keeps x.toInCall.keep, codeAny_func ?_⟩
    obtain ⟨t, ht, hq⟩ := body _ KB (nsB hns)
    have I := inv_start (CX := CX0) (E := E0) (us := [.ref a]) (vs := [.ref a]) F (show callerA.handled = none from rfl) e0 rfl (.cons rfl .nil) x
    refine wpAny_mono (ht.run [] s1 _ H _ (I.wish _) hq) (fun fl s' hs => ?_) fun e s' hs => False.elim hs
    · cases fl with
      | ret u =>
        obtain ⟨v, σ', H', J, r, q⟩ := hs
        have q' : v = .bl true := q
        subst q'
        obtain rfl : u = Value.bool true := r
        refine ⟨rfl, OldK.of_keep fun b o e => ?_, J.os, J.bare⟩
        cases z : H b with
        | none => exact J.base.keep b o e z (fun y => absurd (show b ∈ ([] : List Addr) from y) (by simp)) (fun y => absurd (show b ∈ ([] : List Addr) from y) (by simp))
        | some u =>
          obtain ⟨rfl, rfl, _⟩ := En.only b u z
          obtain ⟨e2, _⟩ := J.hok b _ (J.base.frzs b _ _ z)
          rw [ha] at e
          cases e
          exact e2
      | next =>
        obtain ⟨_, _, _, q⟩ := hs
        cases (show V.non = V.bl true from q)
      | brk =>
        obtain ⟨_, _, _, q⟩ := hs
        exact False.elim q
      | cont =>
        obtain ⟨_, _, _, q⟩ := hs
        exact False.elim q
end
end Kx
set_option linter.all false
namespace Kx
open PySem L2 PySem.Spec PyProof.Rows
/-! what the top has left, and the law's head -/
structure Law (K : PySem.W.Frag) (w : World) (mg : Str → Option Value) (fa : Addr) : Prop where
  ex : ∃ (C fe : Nat → Addr) (CL B CB fB fi fI fM fC e0 e1 e2 : Addr) (fdB fdi fdI fdM fdC : FuncData), LawOf K w mg C fe CL B CB fB fi fI fM fC e0 e1 e2 fdB fdi fdI fdM fdC
  fn : ∃ (oc kV doc pm cdv ct : Value) (od an : Option Addr) (osl : Array (Option Value)), K.lookup fa = some ⟨oc, od, .func (PySem.W.fnOf "law" "law" (defArgs sLaw) (defBody sLaw) (defScope sLaw) .none kV doc pm an cdv ct), osl⟩ ∧ PySem.W.codeIn K cdv "law" = true
theorem walk {l : PySem.W.OpenLaw} {q : Program} {loose : List Str} {XP : (Str → Option Value) → Heap → Prop} {YP : World → Heap → Prop} {d : DefRec} {K : Params → PySem.W.Frag} (hn : l.most = some 63) (hdf : d.params.defaults = [])
    (hY : ∀ (w : World) (h : Heap), YP w h → (K w.params).In h)
    (F : ∀ (w : World) (mg : Str → Option Value) (fa : Addr) (h : Heap), (K w.params).In h → h.Ns mainGlobals mg → mg d.name = some (.ref fa) → Law (K w.params) w mg fa) :
    PySem.W.WalkO q loose XP YP l.row.toRowW d [] (fun f vs => PySem.call f vs) := by
  refine Att.attach_call hn hdf fun w s₀ s₁ mg mb fa o pm cd doc a vs ns G Y ho hd hcd hmg hobj hints hlen hg => ?_
  have KX := hY w _ Y
  obtain ⟨⟨C, fe, CL, B, CB, fB, fi, fI, fM, fC, e0, e1, e2, fdB, fdi, fdI, fdM, fdC, M⟩, ⟨oc, kV, dc, pm', cdv, ct, od, an, osl, lk, hc⟩⟩ := F w mg fa _ KX G.T.g hmg
  have go : ∀ H, Entry (K w.params) H a vs ns → _ := fun H En => entry_run (P := l.prog) (w := w) En KX G.T.g G.T.b G.T.builtins G.T.nolimit hg hobj hints hlen lk hc fun base _ _ =>
    law_body (P := l.prog) (w := w) (base := base) M fa cdv callerA [] s₁ H E0 (Room.deeper (k := 40) (A := callerA) ⟨rfl, by decide, by decide⟩ _) En.seq hlen
  cases hk : (K w.params).lookup a with
  | some ob =>
    have e := KX a ob hk
    rw [hobj] at e
    cases e
    exact go (fun _ => none) ⟨fun b u z => (by cases (show (none : Option HO) = some u from z)), .inr ⟨_, vs.toArray, _, hk, rfl, rfl, rfl, by rw [List.size_toArray, hints.length]; exact Nat.le_of_lt (small1000 (by omega)), by simpa using vals_ints hints⟩⟩
  | none =>
    refine go (fun b => if b = a then some (.frz (oScript vs) (.lst (ns.map V.int))) else none) ⟨fun b u z => ?_, .inl (.inr ⟨oScript vs, if_pos rfl⟩)⟩
    by_cases hb : b = a
    · have z' := (if_pos hb).symm.trans z
      exact ⟨hb, (Option.some.inj z').symm, hk⟩
    · have z' := (if_neg hb).symm.trans z
      cases z'
end Kx
set_option linter.all false
namespace Kx
open PySem L2 PySem.Spec PyProof.Rows

section
variable {K : PySem.W.Frag} {mg : Str → Option Value} {h : Heap}
theorem def_mk {x : Str} {st : Stmt} {ps : List Str} {f : Addr} {oc : Value} {od an : Option Addr} {osl : Array (Option Value)} {kV doc pm cdv ct : Value} (X : K.In h) (G : h.Ns mainGlobals mg) (m : PySem.W.nsIn K mainGlobals x = some (some (.ref f)))
    (l : K.lookup f = some ⟨oc, od, .func (PySem.W.fnOf x x (defArgs st) (defBody st) (defScope st) .none kV doc pm an cdv ct), osl⟩) (c : PySem.W.codeIn K cdv x = true) (k : PySem.W.keepIn K (.ref f) = true)
    (b : ∀ (kV doc pm : Value) (an : Option Addr) (cdv ct : Value) (us : List Value), us.length = ps.length → bindArgs (PySem.W.fnOf x x (defArgs st) (defBody st) (defScope st) .none kV doc pm an cdv ct) ⟨us, []⟩ = pure (ps.zip us)) :
    ∃ f fd, Fs K mg x st ps f fd := ⟨f, _, fun_mk l c k, (fun_mk (st := st) l c k).binds b, PySem.W.mg_of X G m⟩
theorem at_mk {x : Str} {st : Stmt} {ps : List Str} {f : Addr} {oc : Value} {od an : Option Addr} {osl : Array (Option Value)} {kV doc pm cdv ct : Value} (X : K.In h) (G : h.Ns mainGlobals mg) (m : PySem.W.nsIn K mainGlobals x = some (some (.ref f)))
    (l : K.lookup f = some ⟨oc, od, .func (PySem.W.fnOf x x (defArgs st) (defBody st) (defScope st) .none kV doc pm an cdv ct), osl⟩) (c : PySem.W.codeIn K cdv x = true) (k : PySem.W.keepIn K (.ref f) = true)
    (b : ∀ (kV doc pm : Value) (an : Option Addr) (cdv ct : Value) (us : List Value), us.length = ps.length → bindArgs (PySem.W.fnOf x x (defArgs st) (defBody st) (defScope st) .none kV doc pm an cdv ct) ⟨us, []⟩ = pure (ps.zip us)) :
    ∃ fd, Fs K mg x st ps f fd := ⟨_, fun_mk l c k, (fun_mk (st := st) l c k).binds b, PySem.W.mg_of X G m⟩
theorem fa_mk {g x : Str} {st : Stmt} {ps : List Str} {f : Addr} {oc : Value} {od an : Option Addr} {osl : Array (Option Value)} {kV doc pm cdv ct : Value} (X : K.In h) (G : h.Ns mainGlobals mg) (m : PySem.W.nsIn K mainGlobals g = some (some (.ref f)))
    (l : K.lookup f = some ⟨oc, od, .func (PySem.W.fnOf x x (defArgs st) (defBody st) (defScope st) .none kV doc pm an cdv ct), osl⟩) (c : PySem.W.codeIn K cdv x = true) (k : PySem.W.keepIn K (.ref f) = true)
    (b : ∀ (kV doc pm : Value) (an : Option Addr) (cdv ct : Value) (us : List Value), us.length = ps.length → bindArgs (PySem.W.fnOf x x (defArgs st) (defBody st) (defScope st) .none kV doc pm an cdv ct) ⟨us, []⟩ = pure (ps.zip us)) :
    ∃ f fd, Fa K mg g x st ps f fd := ⟨f, _, fun_mk l c k, (fun_mk (st := st) l c k).binds b, PySem.W.mg_of X G m⟩
theorem fun_bind {x q : Str} {st : Stmt} {ps : List Str} {f : Addr} {oc : Value} {od an : Option Addr} {osl : Array (Option Value)} {kV doc pm cdv ct : Value}
    (l : K.lookup f = some ⟨oc, od, .func (PySem.W.fnOf x q (defArgs st) (defBody st) (defScope st) .none kV doc pm an cdv ct), osl⟩) (c : PySem.W.codeIn K cdv q = true) (k : PySem.W.keepIn K (.ref f) = true)
    (b : ∀ (kV doc pm : Value) (an : Option Addr) (cdv ct : Value) (us : List Value), us.length = ps.length → bindArgs (PySem.W.fnOf x q (defArgs st) (defBody st) (defScope st) .none kV doc pm an cdv ct) ⟨us, []⟩ = pure (ps.zip us)) :
    ∃ fd, Fun K x q st f fd ∧ Binds K fd ps [] := ⟨_, fun_mk l c k, (fun_mk (st := st) l c k).binds fun kV' doc' pm' an' cdv' ct' us hl => b _ _ _ _ _ _ us hl⟩
theorem fun_only {x q : Str} {st : Stmt} {f : Addr} {oc : Value} {od an : Option Addr} {osl : Array (Option Value)} {kV doc pm cdv ct : Value} (l : K.lookup f = some ⟨oc, od, .func (PySem.W.fnOf x q (defArgs st) (defBody st) (defScope st) .none kV doc pm an cdv ct), osl⟩) (c : PySem.W.codeIn K cdv q = true) (k : PySem.W.keepIn K (.ref f) = true) :
    ∃ fd, Fun K x q st f fd := ⟨_, fun_mk l c k⟩
theorem m_mk {f D : Addr} {oc : Value} {od an : Option Addr} {osl : Array (Option Value)} {doc pm cdv ct : Value} (l : K.lookup f = some ⟨oc, od, .func (PySem.W.fnOf "__init__" "Method.__init__" (defArgs sInM) (defBody sInM) (defScope sInM) .none (.ref D) doc pm an cdv ct), osl⟩) (c : PySem.W.codeIn K cdv "Method.__init__" = true) (k : PySem.W.keepIn K (.ref f) = true)
    (h1 : PySem.W.nsIn K D "pre" = some (some .none)) (h2 : PySem.W.nsIn K D "post" = some (some .none)) : ∃ fd, FunM K f fd :=
  ⟨_, ⟨oc, od, .none, .ref D, doc, pm, an, cdv, ct, osl, rfl, l, c, .inl ⟨rfl, rfl⟩, .inr ⟨D, rfl, fun q hq => by
    simp only [List.mem_cons, List.not_mem_nil, or_false] at hq
    rcases hq with rfl | rfl
    · exact ⟨_, h1, rfl⟩
    · exact ⟨_, h2, rfl⟩⟩⟩, k⟩
theorem c_mk {f D T e0 e1 e2 : Addr} {oT : Obj} {n : Nat} {oc : Value} {od an : Option Addr} {osl : Array (Option Value)} {doc pm cdv ct : Value} (l : K.lookup f = some ⟨oc, od, .func (PySem.W.fnOf "__init__" "ClassDef.__init__" (defArgs sInC) (defBody sInC) (defScope sInC) (.ref T) (.ref D) doc pm an cdv ct), osl⟩) (c : PySem.W.codeIn K cdv "ClassDef.__init__" = true) (k : PySem.W.keepIn K (.ref f) = true)
    (lT : K.lookup T = some oT) (dT : oT.data = .seq ([Value.ref e0]).toArray n) (h1 : PySem.W.nsIn K D "fields" = some (some (.ref e1))) (h2 : PySem.W.nsIn K D "where" = some (some .none)) (h3 : PySem.W.nsIn K D "methods" = some (some (.ref e2))) : ∃ fd, FunC K e0 e1 e2 f fd :=
  ⟨_, ⟨oc, od, .ref T, .ref D, doc, pm, an, cdv, ct, osl, rfl, l, c, .inr ⟨by simp, T, oT, [.ref e0], n, rfl, lT, dT, .cons rfl .nil⟩, .inr ⟨D, rfl, fun q hq => by
    simp only [List.mem_cons, List.not_mem_nil, or_false] at hq
    rcases hq with rfl | rfl | rfl
    · exact ⟨_, h1, rfl⟩
    · exact ⟨_, h2, rfl⟩
    · exact ⟨_, h3, rfl⟩⟩⟩, k⟩
theorem emp {e : Addr} {oe : Obj} {n : Nat} (l : K.lookup e = some oe) (c : oe.cls = .type "tuple") (d : oe.data = .seq #[] n) : ∀ H, SqT K H e [] := fun H => .inr ⟨oe, #[], n, l, c, d, Nat.zero_le _, .nil⟩
theorem ct_mk {B C : Addr} {nm q : Str} {N : Addr} {bs : List Value} {sn : List Str} {sub : List Value} {ab : Bool} {col : Option Bool} {dd : Option Addr} {k0 k1 k2 k3 k5 : Option Value}
    (x : K.lookup C = some (excClassObj nm q C N bs (.ref B :: veL) true sn sub ab col dd k0 k1 k2 k3 k5 "ValueError.__new__")) (sa : PySem.W.findIn K (.ref C) "__setattr__" = some (some (.builtin "object.__setattr__")))
    (ga : PySem.W.findIn K (.ref C) "__getattribute__" = some (some (.builtin "BaseException.__getattribute__"))) (gg : PySem.W.findIn K (.ref C) "__getattr__" = some none) (tyC : PySem.W.typeIn K (.ref C) = some (.type "type")) (kC : PySem.W.keepIn K (.ref C) = true)
    (hdC : PySem.W.hasDictIn K C = true) (ha : PySem.W.findIn K (.ref C) "__class__" = some (some (.builtin "object.__class__"))) : Ct K B C := ⟨⟨nm, q, N, bs, sn, sub, ab, col, dd, k0, k1, k2, k3, k5, x⟩, sa, ga, gg, tyC, kC, hdC, ha⟩
/-- a tuple of texts that the module has written -/
def strV? : Value → Option Str
  | .str x _ => some x
  | _ => none
theorem vals_strs : ∀ {us : List Value} {l : List Str}, us.map strV? = l.map some → Vals (l.map V.str) us
  | [], [], _ => .nil
  | [], _ :: _, h => by cases h
  | _ :: _, [], h => by cases h
  | u :: us, x :: l, h => by
    have h2 : strV? u :: us.map strV? = some x :: l.map some := h
    injection h2 with a b
    refine .cons ?_ (vals_strs b)
    unfold strV? at a
    split at a
    · rename_i y t
      cases a
      exact ⟨t, rfl⟩
    · cases a
theorem strs_mk {e : Addr} {oe : Obj} {us : List Value} {n : Nat} {l : List Str} (lk : K.lookup e = some oe) (c : oe.cls = .type "tuple") (d : oe.data = .seq us.toArray n) (z : us.map strV? = l.map some) (sz : l.length ≤ 1000) : ∀ H, SqT K H e (l.map V.str) := fun H =>
  .inr ⟨oe, us.toArray, n, lk, c, d, by
    have := congrArg List.length z
    rw [List.length_map, List.length_map] at this
    rw [List.size_toArray, this, sizeLine_eq]
    omega, vals_strs z⟩
/-- a dict that the module has written -/
def keyS (e : DictEntry) : Option Str := match e.key with
  | .str x _ => some x
  | _ => none
theorem kwalk_mk {d : Addr} {es : Array DictEntry} {n : Nat} {ks : List Str} (lk : K.lookup d = some ⟨.type "dict", none, .dict es n, #[]⟩) (z : es.toList.map keyS = ks.map some) (lo : (d == sysModules) = false) : KWalk K d ks ⟨.type "dict", none, .dict es n, #[]⟩ es n := by
  refine ⟨lk, ⟨rfl, rfl, rfl⟩, rfl, ?_, lo, fun i k hk => ?_⟩
  · have := congrArg List.length z
    simpa using this
  · have h1 : (es.toList.map keyS)[i]? = (ks.map some)[i]? := by rw [z]
    rw [List.getElem?_map, List.getElem?_map, hk] at h1
    cases q : es.toList[i]? with
    | none => rw [q] at h1; cases h1
    | some en =>
      rw [q] at h1
      have h2 : keyS en = some k := Option.some.inj h1
      unfold keyS at h2
      split at h2
      · rename_i x t e
        cases h2
        exact ⟨en, t, by rw [← Array.getElem?_toList]; exact q, e⟩
      · cases h2
theorem kdct_mk {w : World} {d : Addr} {es : Array DictEntry} {n : Nat} {x : Str} {v : V} {u : Value} (lk : K.lookup d = some ⟨.type "dict", none, .dict es n, #[]⟩) (kl : PySem.W.KeysLit w.params es.toList) (e : PySem.W.nsIn K d x = some (some u)) (r : RelV v u) : KDct K w d x v := ⟨es, n, u, lk, kl, e, r⟩
end
structure CF (K : PySem.W.Frag) (C fi fe : Addr) (cd : ClassData) : Prop where
  c1 : PySem.W.plainGet K C Str.empty = true
  c2 : PySem.W.hasDictIn K C = true
  c3 : PySem.W.plainOver K C = true
  c4 : PySem.W.findIn K (.ref C) "__setattr__" = some (some (.builtin "object.__setattr__"))
  m1 : PySem.W.makesIn K C = true
  m2 : PySem.W.findIn K (.ref C) "__init__" = some (some (.ref fi))
  m3 : PySem.W.isFn K (.ref fi) = true
  m4 : PySem.W.keepIn K (.ref C) = true
  e1 : PySem.W.findIn K (.ref C) "__eq__" = some (some (.ref fe))
  e2 : PySem.W.isFn K (.ref fe) = true
  ne : PySem.W.findIn K (.ref C) "__ne__" = some (some (.builtin "object.__ne__"))
  mo : PySem.W.mroIn K C (.type "object") = some true
  y1 : PySem.W.findIn K (.ref C) "__class__" = some (some (.builtin "object.__class__"))
  kc : PySem.W.clsIn K C = some cd
  kt : PySem.W.typeIn K (.ref C) = some (.type "type")
  se : PySem.W.subIn K (.ref C) (.ref C) = some true
  a0 : PySem.W.subIn K (.type "NoneType") (.ref C) = some false
  b0 : PySem.W.subIn K (.ref C) (.type "NoneType") = some false
  a1 : PySem.W.subIn K (.type "bool") (.ref C) = some false
  b1 : PySem.W.subIn K (.ref C) (.type "bool") = some false
  a2 : PySem.W.subIn K (.type "int") (.ref C) = some false
  b2 : PySem.W.subIn K (.ref C) (.type "int") = some false
  a3 : PySem.W.subIn K (.type "str") (.ref C) = some false
  b3 : PySem.W.subIn K (.ref C) (.type "str") = some false
  a4 : PySem.W.subIn K (.type "tuple") (.ref C) = some false
  b4 : PySem.W.subIn K (.ref C) (.type "tuple") = some false
  a5 : PySem.W.subIn K (.type "list") (.ref C) = some false
  b5 : PySem.W.subIn K (.ref C) (.type "list") = some false
theorem CF.cls {K : PySem.W.Frag} {C fi fe : Addr} {cd : ClassData} (x : CF K C fi fe cd) : Cls K C := ⟨x.c1, x.c2, x.c3, x.c4⟩
theorem CF.sT {K : PySem.W.Frag} {C fi fe : Addr} {cd : ClassData} (x : CF K C fi fe cd) : ∀ T, T ∈ ["NoneType", "bool", "int", "str", "tuple", "list"] → PySem.W.subIn K (.type T) (.ref C) = some false ∧ PySem.W.subIn K (.ref C) (.type T) = some false := fun T hT => by
  simp only [List.mem_cons, List.not_mem_nil, or_false] at hT
  rcases hT with rfl | rfl | rfl | rfl | rfl | rfl
  · exact ⟨x.a0, x.b0⟩
  · exact ⟨x.a1, x.b1⟩
  · exact ⟨x.a2, x.b2⟩
  · exact ⟨x.a3, x.b3⟩
  · exact ⟨x.a4, x.b4⟩
  · exact ⟨x.a5, x.b5⟩
def pick (a b c : Addr) : Nat → Addr
  | 0 => a
  | 1 => b
  | _ => c
theorem three {P : Nat → Prop} {k : Nat} (hk : k < 3) (h0 : P 0) (h1 : P 1) (h2 : P 2) : P k := by
  have : k = 0 ∨ k = 1 ∨ k = 2 := by omega
  rcases this with rfl | rfl | rfl <;> assumption

theorem all_mk {K : PySem.W.Frag} {w : World} {mg : Str → Option Value} {h : Heap} {oc kV doc pm cdv ct : Value} {od an0 : Option Addr} {osl : Array (Option Value)} {fa fl C0 C1 C2 CL CS CSc CB B NN i0 q0 i1 q1 i2 q2 e0 e1 e2 iL gOd gFl gMo gWo gCo gIx iS iC gBh fB CW MW WR ST g0 g1 g2 g3 p0 p1 p2 p3 w0 w1 w2 w3 w4 w5 w6 w7 : Addr} {cdc0 : ClassData} {cdc1 : ClassData} {cdc2 : ClassData} {t1 : Tok} {tn0 : Tok} {tn1 : Tok} {tn2 : Tok} {tn3 : Tok} {tn4 : Tok} {tn5 : Tok} {tn6 : Tok} {tn7 : Tok} {tn8 : Tok} {tn9 : Tok} {tn10 : Tok} {tn11 : Tok} {esCW : Array DictEntry} {nCW : Nat} {esMW : Array DictEntry} {nMW : Nat} {esWR : Array DictEntry} {nWR : Nat} {esST : Array DictEntry} {nST : Nat} {tST : Tok}
    (X : K.In h) (G : h.Ns mainGlobals mg)
    (m_C0 : PySem.W.nsIn K mainGlobals "Cond" = some (some (.ref C0)))
    (m_C1 : PySem.W.nsIn K mainGlobals "Method" = some (some (.ref C1)))
    (m_C2 : PySem.W.nsIn K mainGlobals "ClassDef" = some (some (.ref C2)))
    (m_CL : PySem.W.nsIn K mainGlobals "Library" = some (some (.ref CL)))
    (m_CS : PySem.W.nsIn K mainGlobals "Seen" = some (some (.ref CS)))
    (m_CSc : PySem.W.nsIn K mainGlobals "Scope" = some (some (.ref CSc)))
    (m_CB : PySem.W.nsIn K mainGlobals "BadLibrary" = some (some (.ref CB)))
    (m_B : PySem.W.nsIn K mainGlobals "ContractError" = some (some (.ref B)))
    (m_NN : PySem.W.nsIn K mainGlobals "NO_NAMES" = some (some (.ref NN)))
    (F0 : CF K C0 i0 q0 cdc0)
    (n0_clauses : PySem.W.findIn K (.ref C0) "clauses" = some none)
    (F1 : CF K C1 i1 q1 cdc1)
    (n1_name : PySem.W.findIn K (.ref C1) "name" = some none)
    (n1_params : PySem.W.findIn K (.ref C1) "params" = some none)
    (n1_result : PySem.W.findIn K (.ref C1) "result" = some none)
    (n1_pre : PySem.W.findIn K (.ref C1) "pre" = some none)
    (n1_post : PySem.W.findIn K (.ref C1) "post" = some none)
    (n1_body : PySem.W.findIn K (.ref C1) "body" = some none)
    (F2 : CF K C2 i2 q2 cdc2)
    (n2_name : PySem.W.findIn K (.ref C2) "name" = some none)
    (n2_bases : PySem.W.findIn K (.ref C2) "bases" = some none)
    (n2_fields : PySem.W.findIn K (.ref C2) "fields" = some none)
    (n2_where : PySem.W.findIn K (.ref C2) "where" = some none)
    (n2_methods : PySem.W.findIn K (.ref C2) "methods" = some none)
    (nt : PySem.W.findIn K (.ref C0) "terms" = some none)
    (s01 : PySem.W.subIn K (.ref C1) (.ref C0) = some false)
    (s02 : PySem.W.subIn K (.ref C2) (.ref C0) = some false)
    (s10 : PySem.W.subIn K (.ref C0) (.ref C1) = some false)
    (s12 : PySem.W.subIn K (.ref C2) (.ref C1) = some false)
    (s20 : PySem.W.subIn K (.ref C0) (.ref C2) = some false)
    (s21 : PySem.W.subIn K (.ref C1) (.ref C2) = some false)
    (y2 : PySem.W.specialIn K (.builtin "object.__class__") "__get__" = some (some (.builtin "getset_descriptor.__get__")))
    (y3 : PySem.W.takesIn K (.builtin "object.__class__") = some true)
    (mLet : PySem.W.nsIn K mainGlobals "LETTERS" = some (some (.str lets t1)))
    (m_LONGEST_WORD : PySem.W.nsIn K mainGlobals "LONGEST_WORD" = some (some (.int 8 tn0)))
    (m_MOST_LITERALS : PySem.W.nsIn K mainGlobals "MOST_LITERALS" = some (some (.int 2 tn1)))
    (m_MOST_CLAUSES : PySem.W.nsIn K mainGlobals "MOST_CLAUSES" = some (some (.int 4 tn2)))
    (m_MOST_STATEMENTS : PySem.W.nsIn K mainGlobals "MOST_STATEMENTS" = some (some (.int 40 tn3)))
    (m_MOST_IFS : PySem.W.nsIn K mainGlobals "MOST_IFS" = some (some (.int 4 tn4)))
    (m_MOST_TRIES : PySem.W.nsIn K mainGlobals "MOST_TRIES" = some (some (.int 2 tn5)))
    (m_MOST_CALLS : PySem.W.nsIn K mainGlobals "MOST_CALLS" = some (some (.int 4 tn6)))
    (m_MOST_CLASSES : PySem.W.nsIn K mainGlobals "MOST_CLASSES" = some (some (.int 30 tn7)))
    (m_MOST_BASES : PySem.W.nsIn K mainGlobals "MOST_BASES" = some (some (.int 3 tn8)))
    (m_MOST_FIELDS : PySem.W.nsIn K mainGlobals "MOST_FIELDS" = some (some (.int 3 tn9)))
    (m_MOST_METHODS : PySem.W.nsIn K mainGlobals "MOST_METHODS" = some (some (.int 3 tn10)))
    (m_MOST_PARAMS : PySem.W.nsIn K mainGlobals "MOST_PARAMS" = some (some (.int 3 tn11)))
    (z_isinstance : PySem.W.nsIn K mainGlobals "isinstance" = some none)
    (z_int : PySem.W.nsIn K mainGlobals "int" = some none)
    (z_bool : PySem.W.nsIn K mainGlobals "bool" = some none)
    (z_str : PySem.W.nsIn K mainGlobals "str" = some none)
    (z_tuple : PySem.W.nsIn K mainGlobals "tuple" = some none)
    (z_len : PySem.W.nsIn K mainGlobals "len" = some none)
    (z_all : PySem.W.nsIn K mainGlobals "all" = some none)
    (z_sorted : PySem.W.nsIn K mainGlobals "sorted" = some none)
    (z_enumerate : PySem.W.nsIn K mainGlobals "enumerate" = some none)
    (z_any : PySem.W.nsIn K mainGlobals "any" = some none)
    (z_list : PySem.W.nsIn K mainGlobals "list" = some none)
    (z_set : PySem.W.nsIn K mainGlobals "set" = some none)
    (z_range : PySem.W.nsIn K mainGlobals "range" = some none)
    (z_dict : PySem.W.nsIn K mainGlobals "dict" = some none)
    (z_max : PySem.W.nsIn K mainGlobals "max" = some none)
    (z_sum : PySem.W.nsIn K mainGlobals "sum" = some none)
    (fi0 : ∃ fd, Fun K "__init__" "Cond.__init__" sInit i0 fd)
    (fi1 : ∃ fd, FunM K i1 fd)
    (fi2 : ∃ fd, FunC K e0 e1 e2 i2 fd)
    (v1 : ∀ H, SqT K H e1 [])
    (v2 : ∀ H, SqT K H e2 [])
    (vNN : ∀ H, SqT K H NN (noNames.map V.str))
    (c1CL : PySem.W.plainGet K CL Str.empty = true)
    (c2CL : PySem.W.hasDictIn K CL = true)
    (c3CL : PySem.W.plainOver K CL = true)
    (c4CL : PySem.W.findIn K (.ref CL) "__setattr__" = some (some (.builtin "object.__setattr__")))
    (nCL_classes : PySem.W.findIn K (.ref CL) "classes" = some none)
    (nCL_names : PySem.W.findIn K (.ref CL) "names" = some none)
    (nCL__table : PySem.W.findIn K (.ref CL) "_table" = some none)
    (nCL__orders : PySem.W.findIn K (.ref CL) "_orders" = some none)
    (k1CL : PySem.W.makesIn K CL = true)
    (k2CL : PySem.W.findIn K (.ref CL) "__init__" = some (some (.ref iL)))
    (k3CL : PySem.W.isFn K (.ref iL) = true)
    (k4CL : PySem.W.keepIn K (.ref CL) = true)
    (fiL : ∃ fd, Fun K "__init__" "Library.__init__" sLi iL fd)
    (agOd : PySem.W.findIn K (.ref CL) "order_of" = some (some (.ref gOd)))
    (igOd : PySem.W.isFn K (.ref gOd) = true)
    (kgOd : PySem.W.keepIn K (.ref gOd) = true)
    (fgOd : ∃ fd, Fun K "order_of" "Library.order_of" sOd gOd fd ∧ Binds K fd ["self", "name"] [])
    (agFl : PySem.W.findIn K (.ref CL) "fields_of" = some (some (.ref gFl)))
    (igFl : PySem.W.isFn K (.ref gFl) = true)
    (kgFl : PySem.W.keepIn K (.ref gFl) = true)
    (fgFl : ∃ fd, Fun K "fields_of" "Library.fields_of" sFl gFl fd ∧ Binds K fd ["self", "name"] [])
    (agMo : PySem.W.findIn K (.ref CL) "methods_of" = some (some (.ref gMo)))
    (igMo : PySem.W.isFn K (.ref gMo) = true)
    (kgMo : PySem.W.keepIn K (.ref gMo) = true)
    (fgMo : ∃ fd, Fun K "methods_of" "Library.methods_of" sMo gMo fd ∧ Binds K fd ["self", "name"] [])
    (agWo : PySem.W.findIn K (.ref CL) "writer_of" = some (some (.ref gWo)))
    (igWo : PySem.W.isFn K (.ref gWo) = true)
    (kgWo : PySem.W.keepIn K (.ref gWo) = true)
    (fgWo : ∃ fd, Fun K "writer_of" "Library.writer_of" sWo gWo fd ∧ Binds K fd ["self", "name", "method"] [])
    (aCo : PySem.W.findIn K (.ref CL) "__contains__" = some (some (.ref gCo)))
    (iCo : PySem.W.isFn K (.ref gCo) = true)
    (fCo : ∃ fd, Fun K "__contains__" "Library.__contains__" sCo gCo fd ∧ Binds K fd ["self", "name"] [])
    (aIx : PySem.W.findIn K (.ref CL) "__getitem__" = some (some (.ref gIx)))
    (iIx : PySem.W.isFn K (.ref gIx) = true)
    (nIx : PySem.W.fnIn K gIx = true)
    (fIx : ∃ fd, Fun K "__getitem__" "Library.__getitem__" sLix gIx fd ∧ Binds K fd ["self", "name"] [])
    (c1CS : PySem.W.plainGet K CS Str.empty = true)
    (c2CS : PySem.W.hasDictIn K CS = true)
    (c3CS : PySem.W.plainOver K CS = true)
    (c4CS : PySem.W.findIn K (.ref CS) "__setattr__" = some (some (.builtin "object.__setattr__")))
    (nCS_known : PySem.W.findIn K (.ref CS) "known" = some none)
    (nCS_view : PySem.W.findIn K (.ref CS) "view" = some none)
    (nCS_fresh : PySem.W.findIn K (.ref CS) "fresh" = some none)
    (k1CS : PySem.W.makesIn K CS = true)
    (k2CS : PySem.W.findIn K (.ref CS) "__init__" = some (some (.ref iS)))
    (k3CS : PySem.W.isFn K (.ref iS) = true)
    (k4CS : PySem.W.keepIn K (.ref CS) = true)
    (fiS : ∃ fd, Fun K "__init__" "Seen.__init__" sSIn iS fd ∧ Binds K fd ["self", "known", "view", "fresh"] [])
    (c1CSc : PySem.W.plainGet K CSc Str.empty = true)
    (c2CSc : PySem.W.hasDictIn K CSc = true)
    (c3CSc : PySem.W.plainOver K CSc = true)
    (c4CSc : PySem.W.findIn K (.ref CSc) "__setattr__" = some (some (.builtin "object.__setattr__")))
    (nCSc_library : PySem.W.findIn K (.ref CSc) "library" = some none)
    (nCSc_owner : PySem.W.findIn K (.ref CSc) "owner" = some none)
    (nCSc_method : PySem.W.findIn K (.ref CSc) "method" = some none)
    (nCSc_variables : PySem.W.findIn K (.ref CSc) "variables" = some none)
    (k1CSc : PySem.W.makesIn K CSc = true)
    (k2CSc : PySem.W.findIn K (.ref CSc) "__init__" = some (some (.ref iC)))
    (k3CSc : PySem.W.isFn K (.ref iC) = true)
    (k4CSc : PySem.W.keepIn K (.ref CSc) = true)
    (fiC : ∃ fd, Fun K "__init__" "Scope.__init__" sScI iC fd ∧ Binds K fd ["self", "library", "owner", "method", "variables"] [])
    (agBh : PySem.W.findIn K (.ref CSc) "behind" = some (some (.ref gBh)))
    (igBh : PySem.W.isFn K (.ref gBh) = true)
    (kgBh : PySem.W.keepIn K (.ref gBh) = true)
    (fgBh : ∃ fd, Fun K "behind" "Scope.behind" sBh gBh fd ∧ Binds K fd ["self", "statement"] [])
    (ctB : Ct K B CB)
    (nB_at : PySem.W.findIn K (.ref CB) "at" = some none)
    (nB_why : PySem.W.findIn K (.ref CB) "why" = some none)
    (iB : PySem.W.findIn K (.ref CB) "__init__" = some (some (.ref fB)))
    (tB : PySem.W.typeIn K (.ref fB) = some (.type "function"))
    (fiB : ∃ fd, Fun K "__init__" "BadLibrary.__init__" sBLi fB fd ∧ Binds K fd ["self", "at", "why"] [])
    (m_CW : PySem.W.nsIn K mainGlobals "CLASS_WORDS" = some (some (.ref CW)))
    (lCW : K.lookup CW = some ⟨.type "dict", none, .dict esCW nCW, #[]⟩)
    (klCW : PySem.W.KeysLit w.params esCW.toList)
    (wCW : esCW.toList.map keyS = (["fields", "double", "where", "methods"] : List Str).map some)
    (loCW : (CW == sysModules) = false)
    (m_MW : PySem.W.nsIn K mainGlobals "METHOD_WORDS" = some (some (.ref MW)))
    (lMW : K.lookup MW = some ⟨.type "dict", none, .dict esMW nMW, #[]⟩)
    (klMW : PySem.W.KeysLit w.params esMW.toList)
    (wMW : esMW.toList.map keyS = (["params", "result", "pre", "post"] : List Str).map some)
    (loMW : (MW == sysModules) = false)
    (m_WR : PySem.W.nsIn K mainGlobals "WRONG" = some (some (.ref WR)))
    (lWR : K.lookup WR = some ⟨.type "dict", none, .dict esWR nWR, #[]⟩)
    (klWR : PySem.W.KeysLit w.params esWR.toList)
    (wWR : esWR.toList.map keyS = (["term", "object", "class", "method", "next", "arguments", "own", "value"] : List Str).map some)
    (loWR : (WR == sysModules) = false)
    (m_ST : PySem.W.nsIn K mainGlobals "STATEMENTS" = some (some (.ref ST)))
    (lST : K.lookup ST = some ⟨.type "dict", none, .dict esST nST, #[]⟩)
    (klST : PySem.W.KeysLit w.params esST.toList)
    (wST : esST.toList.map keyS = (["return", "let", "if", "try", "halt"] : List Str).map some)
    (loST : (ST == sysModules) = false)
    (vCW_fields : PySem.W.nsIn K CW "fields" = some (some (.ref g0)))
    (vCW_double : PySem.W.nsIn K CW "double" = some (some (.ref g1)))
    (vCW_where : PySem.W.nsIn K CW "where" = some (some (.ref g2)))
    (vCW_methods : PySem.W.nsIn K CW "methods" = some (some (.ref g3)))
    (vMW_params : PySem.W.nsIn K MW "params" = some (some (.ref p0)))
    (vMW_result : PySem.W.nsIn K MW "result" = some (some (.ref p1)))
    (vMW_pre : PySem.W.nsIn K MW "pre" = some (some (.ref p2)))
    (vMW_post : PySem.W.nsIn K MW "post" = some (some (.ref p3)))
    (vWR_term : PySem.W.nsIn K WR "term" = some (some (.ref w0)))
    (vWR_object : PySem.W.nsIn K WR "object" = some (some (.ref w1)))
    (vWR_class : PySem.W.nsIn K WR "class" = some (some (.ref w2)))
    (vWR_method : PySem.W.nsIn K WR "method" = some (some (.ref w3)))
    (vWR_next : PySem.W.nsIn K WR "next" = some (some (.ref w4)))
    (vWR_arguments : PySem.W.nsIn K WR "arguments" = some (some (.ref w5)))
    (vWR_own : PySem.W.nsIn K WR "own" = some (some (.ref w6)))
    (vWR_value : PySem.W.nsIn K WR "value" = some (some (.ref w7)))
    (vST_halt : PySem.W.nsIn K ST "halt" = some (some (.int 1 tST)))
    (ng0 : (g0 == g1) = false)
    (ng2 : (g2 == g1) = false)
    (ng3 : (g3 == g1) = false)
    (dg0 : ∃ fd, Fs K mg "_has_wrong_fields" sHWF ["library", "name"] g0 fd)
    (dg1 : ∃ fd, Fs K mg "_has_double" sHDb ["library", "name"] g1 fd)
    (dg2 : ∃ fd, Fs K mg "_has_wrong_where" sHWW ["library", "name"] g2 fd)
    (dg3 : ∃ fd, Fs K mg "_has_wrong_methods" sHWM ["library", "name"] g3 fd)
    (dp0 : ∃ fd, Fs K mg "_has_wrong_params" sHWP ["library", "name", "method"] p0 fd)
    (dp1 : ∃ fd, Fs K mg "_has_wrong_result" sHWR ["library", "name", "method"] p1 fd)
    (dp2 : ∃ fd, Fs K mg "_has_wrong_pre" sHWPr ["library", "name", "method"] p2 fd)
    (dp3 : ∃ fd, Fs K mg "_has_wrong_post" sHWPo ["library", "name", "method"] p3 fd)
    (dw0 : ∃ fd, Fs K mg "_wrong_term" sW0 ["scope", "act"] w0 fd)
    (dw1 : ∃ fd, Fs K mg "_wrong_object" sW1 ["scope", "act"] w1 fd)
    (dw2 : ∃ fd, Fs K mg "_wrong_class" sW2 ["scope", "act"] w2 fd)
    (dw3 : ∃ fd, Fs K mg "_wrong_method" sW3 ["scope", "act"] w3 fd)
    (dw4 : ∃ fd, Fs K mg "_wrong_next" sW4 ["scope", "act"] w4 fd)
    (dw5 : ∃ fd, Fs K mg "_wrong_arguments" sW5 ["scope", "act"] w5 fd)
    (dw6 : ∃ fd, Fs K mg "_wrong_own" sW6 ["scope", "act"] w6 fd)
    (dw7 : ∃ fd, Fs K mg "_wrong_value" sW7 ["scope", "act"] w7 fd)
    (d_int : ∃ f fd, Fs K mg "is_integer" sIsInt ["thing"] f fd)
    (d_word : ∃ f fd, Fs K mg "is_word" sIsWord ["thing"] f fd)
    (d_term : ∃ f fd, Fs K mg "is_term" sIsTerm ["thing"] f fd)
    (d_lit : ∃ f fd, Fs K mg "is_literal" sIsLit ["thing"] f fd)
    (d_litT : ∃ f fd, Fs K mg "is_literal_over_terms" sLitT ["thing"] f fd)
    (d_cl : ∃ f fd, Fs K mg "is_clause" sIsCl ["thing", "most"] f fd)
    (d_stand : ∃ f fd, Fs K mg "_can_stand" sStand ["thing"] f fd)
    (d_isN : ∃ f fd, Fs K mg "is_name" sIsN ["thing"] f fd)
    (d_areN : ∃ f fd, Fs K mg "are_names" sAreN ["things", "most"] f fd)
    (d_wri : ∃ f fd, Fs K mg "written" sWri ["classdef", "name"] f fd)
    (d_fw : ∃ f fd, Fs K mg "_first_word" sFW ["thing"] f fd)
    (d_ll : ∃ f fd, Fs K mg "_looks_like" sLL ["thing"] f fd)
    (d_po : ∃ f fd, Fs K mg "parts_of" sPO ["statement"] f fd)
    (d_hf : ∃ f fd, Fs K mg "has_form" sHFm ["statement"] f fd)
    (d_ao : ∃ f fd, Fs K mg "act_of" sAO ["statement"] f fd)
    (d_hd : ∃ f fd, Fs K mg "handed" sHd ["act"] f fd)
    (d_ti : ∃ f fd, Fs K mg "terms_in" sTI ["act"] f fd)
    (d_oi : ∃ f fd, Fs K mg "objects_in" sOI ["act"] f fd)
    (d_sts : ∃ f fd, Fs K mg "_statements" sSts ["body"] f fd)
    (d_trs : ∃ f fd, Fs K mg "_tries" sTrs ["statement"] f fd)
    (d_cls : ∃ f fd, Fs K mg "_calls" sCls_ ["statement"] f fd)
    (d_tl : ∃ f fd, Fs K mg "is_too_large" sTL ["body"] f fd)
    (d_sa : ∃ f fd, Fs K mg "seen_as" sSA ["kind"] f fd)
    (d_ms : ∃ f fd, Fs K mg "method_scope" sMS ["library", "owner", "method"] f fd)
    (d_whe : ∃ f fd, Fs K mg "_wrong_here" sWHe ["scope", "statement"] f fd)
    (d_wmb : ∃ f fd, Fs K mg "wrong_method_body" sWMB ["library", "owner", "method"] f fd)
    (d_abv : ∃ f fd, Fs K mg "is_above_itself" sAbv ["bases", "name"] f fd)
    (d_allo : ∃ f fd, Fs K mg "all_orders" sAllO ["bases"] f fd)
    (d_put : ∃ f fd, Fs K mg "_put_order" sPut ["bases", "name", "orders"] f fd)
    (d_mer : ∃ f fd, Fs K mg "_merged" sMg ["rows"] f fd)
    (d_nx : ∃ f fd, Fs K mg "_next_of" sNx ["rows"] f fd)
    (d_to : ∃ f fd, Fs K mg "terms_of" sTO ["library", "name", "kind"] f fd)
    (d_fnc : ∃ f fd, Fs K mg "first_no_class" sFNC ["classes"] f fd)
    (d_wb : ∃ f fd, Fs K mg "wrong_bases" sWBs ["library"] f fd)
    (d_ac : ∃ f fd, Fs K mg "_are_classes" sAC ["library", "bases"] f fd)
    (d_wc : ∃ f fd, Fs K mg "wrong_class" sWC ["library"] f fd)
    (d_ov : ∃ f fd, Fs K mg "_is_over" sOv ["cond", "terms"] f fd)
    (d_en : ∃ f fd, Fs K mg "_entry_terms" sEnt ["library", "name", "method"] f fd)
    (d_ik : ∃ f fd, Fs K mg "_is_kind" sIK ["library", "thing"] f fd)
    (d_wm : ∃ f fd, Fs K mg "wrong_method" sWM ["library"] f fd)
    (d_wh : ∃ f fd, Fs K mg "wrong_heritage" sWH_ ["library"] f fd)
    (d_wa : ∃ f fd, Fs K mg "_is_written_alike" sWA ["library", "name", "method"] f fd)
    (d_rf : ∃ f fd, Fs K mg "_refuse" sRf ["found"] f fd)
    (d_wo : ∃ f fd, Fs K mg "_without_order" sWor ["library"] f fd)
    (d_well : ∃ f fd, Fs K mg "_law_well" sWell ["_law_cell"] f fd)
    (d_draw : ∃ f fd, Fs K mg "_law_draw" sDraw ["_law_well_here", "_law_base"] f fd)
    (d_one : ∃ f fd, Fs K mg "_law_one" sOne ["_law_well_here", "_law_some"] f fd)
    (d_lme : ∃ f fd, Fs K mg "_law_method" sLMe ["_law_well_here", "_law_name"] f fd)
    (d_lcl : ∃ f fd, Fs K mg "_law_class" sLCl ["_law_well_here", "_law_name", "_law_bases", "_law_names"] f fd)
    (d_lab : ∃ f fd, Fs K mg "_law_above" sLAb ["_law_table", "_law_name"] f fd)
    (d_ldu : ∃ f fd, Fs K mg "_law_due" sLDu ["_law_table"] f fd)
    (d_lto : ∃ f fd, Fs K mg "_law_told" sLTo ["_law_some", "_law_order"] f fd)
    (d_first : ∃ f fd, Fa K mg "first_wrong_conditions" "_first_wrong" sFirst ["clauses"] f fd)
    (d_fwb : ∃ f fd, Fa K mg "first_wrong_bodies" "_first_wrong" sFWb ["scope", "statement", "place"] f fd)
    (d_wbb : ∃ f fd, Fa K mg "wrong_body_bodies" "_wrong_body" sWBb ["scope", "body"] f fd)
    (d_wbl : ∃ f fd, Fa K mg "wrong_body_libraries" "_wrong_body" sWBl ["library"] f fd)
    (hfa : mg "law" = some (.ref fa)) (mL : PySem.W.nsIn K mainGlobals "law" = some (some (.ref fl))) (lL : K.lookup fl = some ⟨oc, od, .func (PySem.W.fnOf "law" "law" (defArgs sLaw) (defBody sLaw) (defScope sLaw) .none kV doc pm an0 cdv ct), osl⟩) (cL : PySem.W.codeIn K cdv "law" = true) : Law K w mg fa := by
  have e := hfa.symm.trans (PySem.W.mg_of X G mL)
  cases e
  have hy : ∀ {C fi fe : Addr} {cd : ClassData}, CF K C fi fe cd → ∀ (H : Hp) (a dx : Addr) (fs : List (Str × V)), H a = some (.ins C dx fs) → TyX K H (.ref a) (.ref C) := fun {C fi fe cd} x H a dx fs e => .base (.ins e x.cls x.y1 y2 y3 x.mo)
  let CC : Nat → Addr := pick C0 C1 C2
  let QQ : Nat → Addr := pick q0 q1 q2
  have subs : ∀ k, k < 3 → ∀ l, l < 3 → k ≠ l → PySem.W.subIn K (.ref (CC l)) (.ref (CC k)) = some false := by
    intro k hk l hl
    refine three (P := fun k => k ≠ l → PySem.W.subIn K (.ref (CC l)) (.ref (CC k)) = some false) hk ?_ ?_ ?_
    · exact three (P := fun l => 0 ≠ l → PySem.W.subIn K (.ref (CC l)) (.ref (CC 0)) = some false) hl (fun e => absurd rfl e) (fun _ => s01) (fun _ => s02)
    · exact three (P := fun l => 1 ≠ l → PySem.W.subIn K (.ref (CC l)) (.ref (CC 1)) = some false) hl (fun _ => s10) (fun e => absurd rfl e) (fun _ => s12)
    · exact three (P := fun l => 2 ≠ l → PySem.W.subIn K (.ref (CC l)) (.ref (CC 2)) = some false) hl (fun _ => s20) (fun _ => s21) (fun e => absurd rfl e)
  have selfs : ∀ k, k < 3 → PySem.W.subIn K (.ref (CC k)) (.ref (CC k)) = some true := fun k hk => three (P := fun k => PySem.W.subIn K (.ref (CC k)) (.ref (CC k)) = some true) hk F0.se F1.se F2.se
  have inj : ∀ k, k < 3 → ∀ l, l < 3 → CC k = CC l → k = l := by
    intro k hk l hl e
    by_cases ne : k = l
    · exact ne
    · have h1 := subs k hk l hl ne
      have h2 := selfs k hk
      rw [show CC l = CC k from e.symm, h2] at h1
      cases h1
  have W : OwnCls K (clk CC QQ) (S2 (clk CC QQ)) := by
    refine ⟨fun k ⟨ds, h⟩ => ?_, fun k ⟨ds, h⟩ => ?_, fun k l ⟨ds, h⟩ ⟨es, g⟩ e => inj k (s2_lt h) l (s2_lt g) e, fun k l ⟨ds, h⟩ ⟨es, g⟩ ne => subs k (s2_lt h) l (s2_lt g) ne, fun k ⟨ds, h⟩ => ?_⟩
    · exact three (P := fun k => PySem.W.findIn K (.ref (CC k)) "__eq__" = some (some (.ref (QQ k)))) (s2_lt h) F0.e1 F1.e1 F2.e1
    · exact three (P := fun k => PySem.W.isFn K (.ref (QQ k)) = true) (s2_lt h) F0.e2 F1.e2 F2.e2
    · exact three (P := fun k => ∀ T, T ∈ ["NoneType", "bool", "int", "str", "tuple", "list"] → PySem.W.subIn K (.type T) (.ref (CC k)) = some false ∧ PySem.W.subIn K (.ref (CC k)) (.type T) = some false) (s2_lt h) F0.sT F1.sT F2.sT
  have KT : Kits K (clk CC QQ) 3 := by
    refine ⟨fun k hk => ?_, fun k hk => ?_, fun k hk => ?_⟩
    · exact three (P := fun k => ∃ cd, PySem.W.clsIn K (CC k) = some cd) hk ⟨_, F0.kc⟩ ⟨_, F1.kc⟩ ⟨_, F2.kc⟩
    · exact three (P := fun k => PySem.W.typeIn K (.ref (CC k)) = some (.type "type")) hk F0.kt F1.kt F2.kt
    · exact three (P := fun k => ∀ (H : Hp) (a dx : Addr) (fs : List (Str × V)), H a = some (.ins (CC k) dx fs) → TyX K H (.ref a) (.ref (CC k))) hk (hy F0) (hy F1) (hy F2)
  have T : Txt K mg CC QQ := by
    refine ⟨W, KT, fun k hk => ?_, fun k hk => ?_, PySem.W.mg_none_of X G z_isinstance⟩
    · exact three (P := fun k => Cls K (CC k)) hk F0.cls F1.cls F2.cls
    · refine three (P := fun k => ∀ x ∈ nm k, NoAttr K (CC k) x) hk ?_ ?_ ?_
      · intro x hx
        have hx : x ∈ (["clauses", "terms"] : List Str) := hx
        simp only [List.mem_cons, List.not_mem_nil, or_false] at hx
        rcases hx with rfl | rfl
        · exact n0_clauses
        · exact nt
      · intro x hx
        have hx : x ∈ (["name", "params", "result", "pre", "post", "body"] : List Str) := hx
        simp only [List.mem_cons, List.not_mem_nil, or_false] at hx
        rcases hx with rfl | rfl | rfl | rfl | rfl | rfl
        · exact n1_name
        · exact n1_params
        · exact n1_result
        · exact n1_pre
        · exact n1_post
        · exact n1_body
      · intro x hx
        have hx : x ∈ (["name", "bases", "fields", "where", "methods"] : List Str) := hx
        simp only [List.mem_cons, List.not_mem_nil, or_false] at hx
        rcases hx with rfl | rfl | rfl | rfl | rfl
        · exact n2_name
        · exact n2_bases
        · exact n2_fields
        · exact n2_where
        · exact n2_methods
  obtain ⟨fdI, fi0⟩ := fi0
  obtain ⟨fdM, fi1⟩ := fi1
  obtain ⟨fdC, fi2⟩ := fi2
  have TB : Bx mg := ⟨PySem.W.mg_none_of X G z_isinstance, PySem.W.mg_none_of X G z_int, PySem.W.mg_none_of X G z_bool, PySem.W.mg_none_of X G z_str, PySem.W.mg_none_of X G z_tuple, PySem.W.mg_none_of X G z_len, PySem.W.mg_none_of X G z_all, PySem.W.mg_none_of X G z_sorted, PySem.W.mg_none_of X G z_enumerate, ⟨_, PySem.W.mg_of X G mLet⟩, ⟨_, PySem.W.mg_of X G m_LONGEST_WORD⟩⟩
  have FM : Forms K mg := ⟨TB, ⟨_, PySem.W.mg_of X G m_MOST_LITERALS⟩, ⟨_, PySem.W.mg_of X G m_MOST_CLAUSES⟩, d_int, d_word, d_term, d_lit, d_cl, d_stand, d_litT⟩
  have CM : CondMk K mg C0 i0 fdI := ⟨⟨F0.cls, n0_clauses, nt, PySem.W.mg_of X G m_C0, d_first, FM⟩, fi0, ⟨F0.m1, F0.m2, F0.m3, F0.m4⟩⟩
  have NC : NeC CC := ⟨fun e => (by decide : ¬ (0 : Nat) = 1) (inj 0 (by decide) 1 (by decide) e), fun e => (by decide : ¬ (0 : Nat) = 2) (inj 0 (by decide) 2 (by decide) e), fun e => (by decide : ¬ (1 : Nat) = 2) (inj 1 (by decide) 2 (by decide) e)⟩
  have D : Drw K mg := ⟨⟨PySem.W.mg_none_of X G z_int, PySem.W.mg_none_of X G z_len⟩, d_well, d_draw, d_one⟩
  obtain ⟨fdL, fiL⟩ := fiL
  obtain ⟨fd_fiS, fiS, b_fiS⟩ := fiS
  obtain ⟨fd_fiC, fiC, b_fiC⟩ := fiC
  obtain ⟨fd_fiB, fiB, b_fiB⟩ := fiB
  obtain ⟨fd_fgOd, fgOd, b_fgOd⟩ := fgOd
  obtain ⟨fd_fgFl, fgFl, b_fgFl⟩ := fgFl
  obtain ⟨fd_fgMo, fgMo, b_fgMo⟩ := fgMo
  obtain ⟨fd_fgWo, fgWo, b_fgWo⟩ := fgWo
  obtain ⟨fd_fCo, fCo, b_fCo⟩ := fCo
  obtain ⟨fd_fIx, fIx, b_fIx⟩ := fIx
  obtain ⟨fd_fgBh, fgBh, b_fgBh⟩ := fgBh
  have LM : Lm K mg CC QQ CL := ⟨⟨c1CL, c2CL, c3CL, c4CL⟩, (fun x hx => by
    have hx : x ∈ (["classes", "names", "_table", "_orders"] : List Str) := hx
    simp only [List.mem_cons, List.not_mem_nil, or_false] at hx
    rcases hx with rfl | rfl | rfl | rfl
    · exact nCL_classes
    · exact nCL_names
    · exact nCL__table
    · exact nCL__orders), ⟨_, _, ⟨aCo, iCo⟩, fCo, b_fCo⟩, ⟨_, _, ⟨aIx, iIx, nIx⟩, fIx, b_fIx⟩, ⟨_, _, ⟨agOd, igOd, kgOd⟩, fgOd, b_fgOd⟩, ⟨_, _, ⟨agFl, igFl, kgFl⟩, fgFl, b_fgFl⟩, ⟨_, _, ⟨agMo, igMo, kgMo⟩, fgMo, b_fgMo⟩, ⟨_, _, ⟨agWo, igWo, kgWo⟩, fgWo, b_fgWo⟩, d_wri, TB, T, PySem.W.mg_none_of X G z_list⟩
  have GM : Gm mg := ⟨⟨_, PySem.W.mg_of X G m_MOST_CLASSES⟩, ⟨_, PySem.W.mg_of X G m_MOST_BASES⟩, ⟨_, PySem.W.mg_of X G m_MOST_FIELDS⟩, ⟨_, PySem.W.mg_of X G m_MOST_METHODS⟩, ⟨_, PySem.W.mg_of X G m_MOST_PARAMS⟩⟩
  have NM : Nm K mg := ⟨d_isN, d_areN, d_word, ⟨NN, PySem.W.mg_of X G m_NN, vNN⟩, PySem.W.mg_none_of X G z_set⟩
  have CWD : ∃ CW g0 g1 g2 g3, CWd K w mg CW g0 g1 g2 g3 := ⟨CW, g0, g1, g2, g3, PySem.W.mg_of X G m_CW, ⟨_, _, _, kwalk_mk lCW wCW loCW⟩, kdct_mk lCW klCW vCW_fields rfl, kdct_mk lCW klCW vCW_double rfl, kdct_mk lCW klCW vCW_where rfl, kdct_mk lCW klCW vCW_methods rfl, (fun e => by rw [e, beq_self_eq_true] at ng0; cases ng0), (fun e => by rw [e, beq_self_eq_true] at ng2; cases ng2), (fun e => by rw [e, beq_self_eq_true] at ng3; cases ng3), dg0, dg1, dg2, dg3, d_ov, d_to⟩
  have MWD : ∃ MW, MWd K w mg MW := by
    obtain ⟨_, dp0⟩ := dp0
    obtain ⟨_, dp1⟩ := dp1
    obtain ⟨_, dp2⟩ := dp2
    obtain ⟨_, dp3⟩ := dp3
    exact ⟨MW, PySem.W.mg_of X G m_MW, ⟨_, _, _, kwalk_mk lMW wMW loMW⟩, ⟨_, _, kdct_mk lMW klMW vMW_params rfl, dp0⟩, ⟨_, _, kdct_mk lMW klMW vMW_result rfl, dp1⟩, ⟨_, _, kdct_mk lMW klMW vMW_pre rfl, dp2⟩, ⟨_, _, kdct_mk lMW klMW vMW_post rfl, dp3⟩, d_ik, d_en, d_ov, d_to⟩
  have WD : Wd K w mg WR := by
    obtain ⟨_, dw0⟩ := dw0
    obtain ⟨_, dw1⟩ := dw1
    obtain ⟨_, dw2⟩ := dw2
    obtain ⟨_, dw3⟩ := dw3
    obtain ⟨_, dw4⟩ := dw4
    obtain ⟨_, dw5⟩ := dw5
    obtain ⟨_, dw6⟩ := dw6
    obtain ⟨_, dw7⟩ := dw7
    exact ⟨PySem.W.mg_of X G m_WR, ⟨_, _, _, kwalk_mk lWR wWR loWR⟩, ⟨_, _, kdct_mk lWR klWR vWR_term rfl, dw0⟩, ⟨_, _, kdct_mk lWR klWR vWR_object rfl, dw1⟩, ⟨_, _, kdct_mk lWR klWR vWR_class rfl, dw2⟩, ⟨_, _, kdct_mk lWR klWR vWR_method rfl, dw3⟩, ⟨_, _, kdct_mk lWR klWR vWR_next rfl, dw4⟩, ⟨_, _, kdct_mk lWR klWR vWR_arguments rfl, dw5⟩, ⟨_, _, kdct_mk lWR klWR vWR_own rfl, dw6⟩, ⟨_, _, kdct_mk lWR klWR vWR_value rfl, dw7⟩⟩
  have SW : Sw K w mg ST := ⟨PySem.W.mg_of X G m_ST, ⟨_, _, ⟨lST, klST, loST⟩, _, vST_halt⟩, kdct_mk lST klST vST_halt ⟨_, rfl⟩, d_fw, d_ll, d_po, d_hf, d_ao, d_hd, d_ti, d_oi, d_sts, d_trs, d_cls, d_tl, TB, ⟨_, PySem.W.mg_of X G m_MOST_STATEMENTS⟩, ⟨_, PySem.W.mg_of X G m_MOST_IFS⟩, ⟨_, PySem.W.mg_of X G m_MOST_TRIES⟩, ⟨_, PySem.W.mg_of X G m_MOST_CALLS⟩, PySem.W.mg_none_of X G z_max, PySem.W.mg_none_of X G z_sum⟩
  have SC : Scm K mg CS CSc iS iC := ⟨⟨c1CS, c2CS, c3CS, c4CS⟩, (fun x hx => by
    have hx : x ∈ (["known", "view", "fresh"] : List Str) := hx
    simp only [List.mem_cons, List.not_mem_nil, or_false] at hx
    rcases hx with rfl | rfl | rfl
    · exact nCS_known
    · exact nCS_view
    · exact nCS_fresh), PySem.W.mg_of X G m_CS, ⟨k1CS, k2CS, k3CS, k4CS⟩, ⟨_, fiS, b_fiS⟩, ⟨c1CSc, c2CSc, c3CSc, c4CSc⟩, (fun x hx => by
    have hx : x ∈ (["library", "owner", "method", "variables"] : List Str) := hx
    simp only [List.mem_cons, List.not_mem_nil, or_false] at hx
    rcases hx with rfl | rfl | rfl | rfl
    · exact nCSc_library
    · exact nCSc_owner
    · exact nCSc_method
    · exact nCSc_variables), PySem.W.mg_of X G m_CSc, ⟨k1CSc, k2CSc, k3CSc, k4CSc⟩, ⟨_, fiC, b_fiC⟩, ⟨_, _, ⟨agBh, igBh, kgBh⟩, fgBh, b_fgBh⟩, d_sa, d_ms⟩
  have BD : ∃ CS CC fS fC WR ST, Bd K w mg CS CC fS fC WR ST   := ⟨CS, CSc, iS, iC, WR, ST, SW, WD, SC, d_whe, d_fwb, d_wbb, d_wmb⟩
  have LF : LiF K w mg CC QQ CL := ⟨LM, GM, NM, PySem.W.mg_of X G m_C0, PySem.W.mg_of X G m_C1, PySem.W.mg_of X G m_C2, PySem.W.mg_none_of X G z_any, d_fnc, d_wb, d_ac, d_abv, d_allo, d_put, d_mer, d_nx, d_rf, d_wo, d_wc, CWD, d_wm, MWD, d_wh, d_wa, d_wbl, BD⟩
  have BL : BadL K mg B CB fB fd_fiB := ⟨ctB, (fun x hx => by
    have hx : x ∈ (["at", "why"] : List Str) := hx
    simp only [List.mem_cons, List.not_mem_nil, or_false] at hx
    rcases hx with rfl | rfl
    · exact nB_at
    · exact nB_why), iB, tB, fiB, b_fiB, PySem.W.mg_of X G m_CB⟩
  exact ⟨⟨CC, QQ, CL, B, CB, fB, iL, i0, i1, i2, e0, e1, e2, fd_fiB, fdL, fdI, fdM, fdC, T, NC, CM, ⟨⟨F1.m1, F1.m2, F1.m3, F1.m4⟩, fi1, PySem.W.mg_of X G m_C1⟩, ⟨⟨F2.m1, F2.m2, F2.m3, F2.m4⟩, fi2, PySem.W.mg_of X G m_C2⟩, D, TB, LF, BL, fiL, ⟨k1CL, k2CL, k3CL, k4CL⟩, PySem.W.mg_of X G m_CL, PySem.W.mg_none_of X G z_list, PySem.W.mg_none_of X G z_set, PySem.W.mg_none_of X G z_range, PySem.W.mg_none_of X G z_dict, v1, v2, d_lme, d_lcl, d_lab, d_ldu, d_lto⟩, ⟨oc, kV, doc, pm, cdv, ct, od, an0, osl, lL, cL⟩⟩
end Kx
open PySem PySem.W PyProof.Rows
set_option maxRecDepth 100000 in
set_option maxHeartbeats 0 in
theorem PySem.Challenge.cw_contractheirs_k16_joined_classes_holds : PySem.Challenge.rw_contractheirs_k16_joined_classes.Holds := by
  refine kTop ?_
  k_fill
  refine Kx.walk (l := PySem.Challenge.rw_contractheirs_k16_joined_classes) rfl rfl (fun w h Y => PySem.W.kIn_of Y) ?F
  case F =>
    intro w mg fa h KX G hmg
    refine' Kx.all_mk KX G ?uh_m_C0 ?uh_m_C1 ?uh_m_C2 ?uh_m_CL ?uh_m_CS ?uh_m_CSc ?uh_m_CB ?uh_m_B ?uh_m_NN ⟨?u1, ?u2, ?u3, ?u4, ?u5, ?u6, ?u7, ?u8, ?u9, ?u10, ?u11, ?u12, ?u13, ?u14, ?u15, ?u16, ?u17, ?u18, ?u19, ?u20, ?u21, ?u22, ?u23, ?u24, ?u25, ?u26, ?u27, ?u28⟩ ?uh_n0_clauses ⟨?u29, ?u30, ?u31, ?u32, ?u33, ?u34, ?u35, ?u36, ?u37, ?u38, ?u39, ?u40, ?u41, ?u42, ?u43, ?u44, ?u45, ?u46, ?u47, ?u48, ?u49, ?u50, ?u51, ?u52, ?u53, ?u54, ?u55, ?u56⟩ ?uh_n1_name ?uh_n1_params ?uh_n1_result ?uh_n1_pre ?uh_n1_post ?uh_n1_body ⟨?u57, ?u58, ?u59, ?u60, ?u61, ?u62, ?u63, ?u64, ?u65, ?u66, ?u67, ?u68, ?u69, ?u70, ?u71, ?u72, ?u73, ?u74, ?u75, ?u76, ?u77, ?u78, ?u79, ?u80, ?u81, ?u82, ?u83, ?u84⟩ ?uh_n2_name ?uh_n2_bases ?uh_n2_fields ?uh_n2_where ?uh_n2_methods ?uh_nt ?uh_s01 ?uh_s02 ?uh_s10 ?uh_s12 ?uh_s20 ?uh_s21 ?uh_y2 ?uh_y3 ?uh_mLet ?uh_m_LONGEST_WORD ?uh_m_MOST_LITERALS ?uh_m_MOST_CLAUSES ?uh_m_MOST_STATEMENTS ?uh_m_MOST_IFS ?uh_m_MOST_TRIES ?uh_m_MOST_CALLS ?uh_m_MOST_CLASSES ?uh_m_MOST_BASES ?uh_m_MOST_FIELDS ?uh_m_MOST_METHODS ?uh_m_MOST_PARAMS ?uh_z_isinstance ?uh_z_int ?uh_z_bool ?uh_z_str ?uh_z_tuple ?uh_z_len ?uh_z_all ?uh_z_sorted ?uh_z_enumerate ?uh_z_any ?uh_z_list ?uh_z_set ?uh_z_range ?uh_z_dict ?uh_z_max ?uh_z_sum (Kx.fun_only ?u85 ?u86 ?u87) (Kx.m_mk ?u88 ?u89 ?u90 ?u91 ?u92) (Kx.c_mk ?u93 ?u94 ?u95 ?u96 ?u97 ?u98 ?u99 ?u100) (Kx.emp ?u101 ?u102 ?u103) (Kx.emp ?u104 ?u105 ?u106) (Kx.strs_mk ?u107 ?u108 ?u109 ?u110 ?u111) ?uh_c1CL ?uh_c2CL ?uh_c3CL ?uh_c4CL ?uh_nCL_classes ?uh_nCL_names ?uh_nCL__table ?uh_nCL__orders ?uh_k1CL ?uh_k2CL ?uh_k3CL ?uh_k4CL (Kx.fun_only ?u115 ?u116 ?u117) ?uh_agOd ?uh_igOd ?uh_kgOd (Kx.fun_bind (x := "order_of") (q := "Library.order_of") (st := Kx.sOd) (ps := ["self", "name"]) ?u118 ?u119 ?u120 (fun _ _ _ _ _ _ us hl => match us, hl with | [_, _], _ => rfl)) ?uh_agFl ?uh_igFl ?uh_kgFl (Kx.fun_bind (x := "fields_of") (q := "Library.fields_of") (st := Kx.sFl) (ps := ["self", "name"]) ?u121 ?u122 ?u123 (fun _ _ _ _ _ _ us hl => match us, hl with | [_, _], _ => rfl)) ?uh_agMo ?uh_igMo ?uh_kgMo (Kx.fun_bind (x := "methods_of") (q := "Library.methods_of") (st := Kx.sMo) (ps := ["self", "name"]) ?u124 ?u125 ?u126 (fun _ _ _ _ _ _ us hl => match us, hl with | [_, _], _ => rfl)) ?uh_agWo ?uh_igWo ?uh_kgWo (Kx.fun_bind (x := "writer_of") (q := "Library.writer_of") (st := Kx.sWo) (ps := ["self", "name", "method"]) ?u127 ?u128 ?u129 (fun _ _ _ _ _ _ us hl => match us, hl with | [_, _, _], _ => rfl)) ?uh_aCo ?uh_iCo (Kx.fun_bind (x := "__contains__") (q := "Library.__contains__") (st := Kx.sCo) (ps := ["self", "name"]) ?u130 ?u131 ?u132 (fun _ _ _ _ _ _ us hl => match us, hl with | [_, _], _ => rfl)) ?uh_aIx ?uh_iIx ?uh_nIx (Kx.fun_bind (x := "__getitem__") (q := "Library.__getitem__") (st := Kx.sLix) (ps := ["self", "name"]) ?u133 ?u134 ?u135 (fun _ _ _ _ _ _ us hl => match us, hl with | [_, _], _ => rfl)) ?uh_c1CS ?uh_c2CS ?uh_c3CS ?uh_c4CS ?uh_nCS_known ?uh_nCS_view ?uh_nCS_fresh ?uh_k1CS ?uh_k2CS ?uh_k3CS ?uh_k4CS (Kx.fun_bind (x := "__init__") (q := "Seen.__init__") (st := Kx.sSIn) (ps := ["self", "known", "view", "fresh"]) ?u136 ?u137 ?u138 (fun _ _ _ _ _ _ us hl => match us, hl with | [_, _, _, _], _ => rfl)) ?uh_c1CSc ?uh_c2CSc ?uh_c3CSc ?uh_c4CSc ?uh_nCSc_library ?uh_nCSc_owner ?uh_nCSc_method ?uh_nCSc_variables ?uh_k1CSc ?uh_k2CSc ?uh_k3CSc ?uh_k4CSc (Kx.fun_bind (x := "__init__") (q := "Scope.__init__") (st := Kx.sScI) (ps := ["self", "library", "owner", "method", "variables"]) ?u139 ?u140 ?u141 (fun _ _ _ _ _ _ us hl => match us, hl with | [_, _, _, _, _], _ => rfl)) ?uh_agBh ?uh_igBh ?uh_kgBh (Kx.fun_bind (x := "behind") (q := "Scope.behind") (st := Kx.sBh) (ps := ["self", "statement"]) ?u142 ?u143 ?u144 (fun _ _ _ _ _ _ us hl => match us, hl with | [_, _], _ => rfl)) (Kx.ct_mk ?u145 ?u146 ?u147 ?u148 ?u149 ?u150 ?u151 ?u152) ?uh_nB_at ?uh_nB_why ?uh_iB ?uh_tB (Kx.fun_bind (x := "__init__") (q := "BadLibrary.__init__") (st := Kx.sBLi) (ps := ["self", "at", "why"]) ?u153 ?u154 ?u155 (fun _ _ _ _ _ _ us hl => match us, hl with | [_, _, _], _ => rfl)) ?uh_m_CW ?uh_lCW ?uh_klCW ?uh_wCW ?uh_loCW ?uh_m_MW ?uh_lMW ?uh_klMW ?uh_wMW ?uh_loMW ?uh_m_WR ?uh_lWR ?uh_klWR ?uh_wWR ?uh_loWR ?uh_m_ST ?uh_lST ?uh_klST ?uh_wST ?uh_loST ?uh_vCW_fields ?uh_vCW_double ?uh_vCW_where ?uh_vCW_methods ?uh_vMW_params ?uh_vMW_result ?uh_vMW_pre ?uh_vMW_post ?uh_vWR_term ?uh_vWR_object ?uh_vWR_class ?uh_vWR_method ?uh_vWR_next ?uh_vWR_arguments ?uh_vWR_own ?uh_vWR_value ?uh_vST_halt ?uh_ng0 ?uh_ng2 ?uh_ng3 (Kx.at_mk (st := Kx.sHWF) (ps := ["library", "name"]) KX G ?u156 ?u157 ?u158 ?u159 (fun _ _ _ _ _ _ us hl => match us, hl with | [_, _], _ => rfl)) (Kx.at_mk (st := Kx.sHDb) (ps := ["library", "name"]) KX G ?u160 ?u161 ?u162 ?u163 (fun _ _ _ _ _ _ us hl => match us, hl with | [_, _], _ => rfl)) (Kx.at_mk (st := Kx.sHWW) (ps := ["library", "name"]) KX G ?u164 ?u165 ?u166 ?u167 (fun _ _ _ _ _ _ us hl => match us, hl with | [_, _], _ => rfl)) (Kx.at_mk (st := Kx.sHWM) (ps := ["library", "name"]) KX G ?u168 ?u169 ?u170 ?u171 (fun _ _ _ _ _ _ us hl => match us, hl with | [_, _], _ => rfl)) (Kx.at_mk (st := Kx.sHWP) (ps := ["library", "name", "method"]) KX G ?u172 ?u173 ?u174 ?u175 (fun _ _ _ _ _ _ us hl => match us, hl with | [_, _, _], _ => rfl)) (Kx.at_mk (st := Kx.sHWR) (ps := ["library", "name", "method"]) KX G ?u176 ?u177 ?u178 ?u179 (fun _ _ _ _ _ _ us hl => match us, hl with | [_, _, _], _ => rfl)) (Kx.at_mk (st := Kx.sHWPr) (ps := ["library", "name", "method"]) KX G ?u180 ?u181 ?u182 ?u183 (fun _ _ _ _ _ _ us hl => match us, hl with | [_, _, _], _ => rfl)) (Kx.at_mk (st := Kx.sHWPo) (ps := ["library", "name", "method"]) KX G ?u184 ?u185 ?u186 ?u187 (fun _ _ _ _ _ _ us hl => match us, hl with | [_, _, _], _ => rfl)) (Kx.at_mk (st := Kx.sW0) (ps := ["scope", "act"]) KX G ?u188 ?u189 ?u190 ?u191 (fun _ _ _ _ _ _ us hl => match us, hl with | [_, _], _ => rfl)) (Kx.at_mk (st := Kx.sW1) (ps := ["scope", "act"]) KX G ?u192 ?u193 ?u194 ?u195 (fun _ _ _ _ _ _ us hl => match us, hl with | [_, _], _ => rfl)) (Kx.at_mk (st := Kx.sW2) (ps := ["scope", "act"]) KX G ?u196 ?u197 ?u198 ?u199 (fun _ _ _ _ _ _ us hl => match us, hl with | [_, _], _ => rfl)) (Kx.at_mk (st := Kx.sW3) (ps := ["scope", "act"]) KX G ?u200 ?u201 ?u202 ?u203 (fun _ _ _ _ _ _ us hl => match us, hl with | [_, _], _ => rfl)) (Kx.at_mk (st := Kx.sW4) (ps := ["scope", "act"]) KX G ?u204 ?u205 ?u206 ?u207 (fun _ _ _ _ _ _ us hl => match us, hl with | [_, _], _ => rfl)) (Kx.at_mk (st := Kx.sW5) (ps := ["scope", "act"]) KX G ?u208 ?u209 ?u210 ?u211 (fun _ _ _ _ _ _ us hl => match us, hl with | [_, _], _ => rfl)) (Kx.at_mk (st := Kx.sW6) (ps := ["scope", "act"]) KX G ?u212 ?u213 ?u214 ?u215 (fun _ _ _ _ _ _ us hl => match us, hl with | [_, _], _ => rfl)) (Kx.at_mk (st := Kx.sW7) (ps := ["scope", "act"]) KX G ?u216 ?u217 ?u218 ?u219 (fun _ _ _ _ _ _ us hl => match us, hl with | [_, _], _ => rfl)) (Kx.def_mk (st := Kx.sIsInt) (ps := ["thing"]) KX G ?u220 ?u221 ?u222 ?u223 (fun _ _ _ _ _ _ us hl => match us, hl with | [_], _ => rfl)) (Kx.def_mk (st := Kx.sIsWord) (ps := ["thing"]) KX G ?u224 ?u225 ?u226 ?u227 (fun _ _ _ _ _ _ us hl => match us, hl with | [_], _ => rfl)) (Kx.def_mk (st := Kx.sIsTerm) (ps := ["thing"]) KX G ?u228 ?u229 ?u230 ?u231 (fun _ _ _ _ _ _ us hl => match us, hl with | [_], _ => rfl)) (Kx.def_mk (st := Kx.sIsLit) (ps := ["thing"]) KX G ?u232 ?u233 ?u234 ?u235 (fun _ _ _ _ _ _ us hl => match us, hl with | [_], _ => rfl)) (Kx.def_mk (st := Kx.sLitT) (ps := ["thing"]) KX G ?u236 ?u237 ?u238 ?u239 (fun _ _ _ _ _ _ us hl => match us, hl with | [_], _ => rfl)) (Kx.def_mk (st := Kx.sIsCl) (ps := ["thing", "most"]) KX G ?u240 ?u241 ?u242 ?u243 (fun _ _ _ _ _ _ us hl => match us, hl with | [_, _], _ => rfl)) (Kx.def_mk (st := Kx.sStand) (ps := ["thing"]) KX G ?u244 ?u245 ?u246 ?u247 (fun _ _ _ _ _ _ us hl => match us, hl with | [_], _ => rfl)) (Kx.def_mk (st := Kx.sIsN) (ps := ["thing"]) KX G ?u248 ?u249 ?u250 ?u251 (fun _ _ _ _ _ _ us hl => match us, hl with | [_], _ => rfl)) (Kx.def_mk (st := Kx.sAreN) (ps := ["things", "most"]) KX G ?u252 ?u253 ?u254 ?u255 (fun _ _ _ _ _ _ us hl => match us, hl with | [_, _], _ => rfl)) (Kx.def_mk (st := Kx.sWri) (ps := ["classdef", "name"]) KX G ?u256 ?u257 ?u258 ?u259 (fun _ _ _ _ _ _ us hl => match us, hl with | [_, _], _ => rfl)) (Kx.def_mk (st := Kx.sFW) (ps := ["thing"]) KX G ?u260 ?u261 ?u262 ?u263 (fun _ _ _ _ _ _ us hl => match us, hl with | [_], _ => rfl)) (Kx.def_mk (st := Kx.sLL) (ps := ["thing"]) KX G ?u264 ?u265 ?u266 ?u267 (fun _ _ _ _ _ _ us hl => match us, hl with | [_], _ => rfl)) (Kx.def_mk (st := Kx.sPO) (ps := ["statement"]) KX G ?u268 ?u269 ?u270 ?u271 (fun _ _ _ _ _ _ us hl => match us, hl with | [_], _ => rfl)) (Kx.def_mk (st := Kx.sHFm) (ps := ["statement"]) KX G ?u272 ?u273 ?u274 ?u275 (fun _ _ _ _ _ _ us hl => match us, hl with | [_], _ => rfl)) (Kx.def_mk (st := Kx.sAO) (ps := ["statement"]) KX G ?u276 ?u277 ?u278 ?u279 (fun _ _ _ _ _ _ us hl => match us, hl with | [_], _ => rfl)) (Kx.def_mk (st := Kx.sHd) (ps := ["act"]) KX G ?u280 ?u281 ?u282 ?u283 (fun _ _ _ _ _ _ us hl => match us, hl with | [_], _ => rfl)) (Kx.def_mk (st := Kx.sTI) (ps := ["act"]) KX G ?u284 ?u285 ?u286 ?u287 (fun _ _ _ _ _ _ us hl => match us, hl with | [_], _ => rfl)) (Kx.def_mk (st := Kx.sOI) (ps := ["act"]) KX G ?u288 ?u289 ?u290 ?u291 (fun _ _ _ _ _ _ us hl => match us, hl with | [_], _ => rfl)) (Kx.def_mk (st := Kx.sSts) (ps := ["body"]) KX G ?u292 ?u293 ?u294 ?u295 (fun _ _ _ _ _ _ us hl => match us, hl with | [_], _ => rfl)) (Kx.def_mk (st := Kx.sTrs) (ps := ["statement"]) KX G ?u296 ?u297 ?u298 ?u299 (fun _ _ _ _ _ _ us hl => match us, hl with | [_], _ => rfl)) (Kx.def_mk (st := Kx.sCls_) (ps := ["statement"]) KX G ?u300 ?u301 ?u302 ?u303 (fun _ _ _ _ _ _ us hl => match us, hl with | [_], _ => rfl)) (Kx.def_mk (st := Kx.sTL) (ps := ["body"]) KX G ?u304 ?u305 ?u306 ?u307 (fun _ _ _ _ _ _ us hl => match us, hl with | [_], _ => rfl)) (Kx.def_mk (st := Kx.sSA) (ps := ["kind"]) KX G ?u308 ?u309 ?u310 ?u311 (fun _ _ _ _ _ _ us hl => match us, hl with | [_], _ => rfl)) (Kx.def_mk (st := Kx.sMS) (ps := ["library", "owner", "method"]) KX G ?u312 ?u313 ?u314 ?u315 (fun _ _ _ _ _ _ us hl => match us, hl with | [_, _, _], _ => rfl)) (Kx.def_mk (st := Kx.sWHe) (ps := ["scope", "statement"]) KX G ?u316 ?u317 ?u318 ?u319 (fun _ _ _ _ _ _ us hl => match us, hl with | [_, _], _ => rfl)) (Kx.def_mk (st := Kx.sWMB) (ps := ["library", "owner", "method"]) KX G ?u320 ?u321 ?u322 ?u323 (fun _ _ _ _ _ _ us hl => match us, hl with | [_, _, _], _ => rfl)) (Kx.def_mk (st := Kx.sAbv) (ps := ["bases", "name"]) KX G ?u324 ?u325 ?u326 ?u327 (fun _ _ _ _ _ _ us hl => match us, hl with | [_, _], _ => rfl)) (Kx.def_mk (st := Kx.sAllO) (ps := ["bases"]) KX G ?u328 ?u329 ?u330 ?u331 (fun _ _ _ _ _ _ us hl => match us, hl with | [_], _ => rfl)) (Kx.def_mk (st := Kx.sPut) (ps := ["bases", "name", "orders"]) KX G ?u332 ?u333 ?u334 ?u335 (fun _ _ _ _ _ _ us hl => match us, hl with | [_, _, _], _ => rfl)) (Kx.def_mk (st := Kx.sMg) (ps := ["rows"]) KX G ?u336 ?u337 ?u338 ?u339 (fun _ _ _ _ _ _ us hl => match us, hl with | [_], _ => rfl)) (Kx.def_mk (st := Kx.sNx) (ps := ["rows"]) KX G ?u340 ?u341 ?u342 ?u343 (fun _ _ _ _ _ _ us hl => match us, hl with | [_], _ => rfl)) (Kx.def_mk (st := Kx.sTO) (ps := ["library", "name", "kind"]) KX G ?u344 ?u345 ?u346 ?u347 (fun _ _ _ _ _ _ us hl => match us, hl with | [_, _, _], _ => rfl)) (Kx.def_mk (st := Kx.sFNC) (ps := ["classes"]) KX G ?u348 ?u349 ?u350 ?u351 (fun _ _ _ _ _ _ us hl => match us, hl with | [_], _ => rfl)) (Kx.def_mk (st := Kx.sWBs) (ps := ["library"]) KX G ?u352 ?u353 ?u354 ?u355 (fun _ _ _ _ _ _ us hl => match us, hl with | [_], _ => rfl)) (Kx.def_mk (st := Kx.sAC) (ps := ["library", "bases"]) KX G ?u356 ?u357 ?u358 ?u359 (fun _ _ _ _ _ _ us hl => match us, hl with | [_, _], _ => rfl)) (Kx.def_mk (st := Kx.sWC) (ps := ["library"]) KX G ?u360 ?u361 ?u362 ?u363 (fun _ _ _ _ _ _ us hl => match us, hl with | [_], _ => rfl)) (Kx.def_mk (st := Kx.sOv) (ps := ["cond", "terms"]) KX G ?u364 ?u365 ?u366 ?u367 (fun _ _ _ _ _ _ us hl => match us, hl with | [_, _], _ => rfl)) (Kx.def_mk (st := Kx.sEnt) (ps := ["library", "name", "method"]) KX G ?u368 ?u369 ?u370 ?u371 (fun _ _ _ _ _ _ us hl => match us, hl with | [_, _, _], _ => rfl)) (Kx.def_mk (st := Kx.sIK) (ps := ["library", "thing"]) KX G ?u372 ?u373 ?u374 ?u375 (fun _ _ _ _ _ _ us hl => match us, hl with | [_, _], _ => rfl)) (Kx.def_mk (st := Kx.sWM) (ps := ["library"]) KX G ?u376 ?u377 ?u378 ?u379 (fun _ _ _ _ _ _ us hl => match us, hl with | [_], _ => rfl)) (Kx.def_mk (st := Kx.sWH_) (ps := ["library"]) KX G ?u380 ?u381 ?u382 ?u383 (fun _ _ _ _ _ _ us hl => match us, hl with | [_], _ => rfl)) (Kx.def_mk (st := Kx.sWA) (ps := ["library", "name", "method"]) KX G ?u384 ?u385 ?u386 ?u387 (fun _ _ _ _ _ _ us hl => match us, hl with | [_, _, _], _ => rfl)) (Kx.def_mk (st := Kx.sRf) (ps := ["found"]) KX G ?u388 ?u389 ?u390 ?u391 (fun _ _ _ _ _ _ us hl => match us, hl with | [_], _ => rfl)) (Kx.def_mk (st := Kx.sWor) (ps := ["library"]) KX G ?u392 ?u393 ?u394 ?u395 (fun _ _ _ _ _ _ us hl => match us, hl with | [_], _ => rfl)) (Kx.def_mk (st := Kx.sWell) (ps := ["_law_cell"]) KX G ?u396 ?u397 ?u398 ?u399 (fun _ _ _ _ _ _ us hl => match us, hl with | [_], _ => rfl)) (Kx.def_mk (st := Kx.sDraw) (ps := ["_law_well_here", "_law_base"]) KX G ?u400 ?u401 ?u402 ?u403 (fun _ _ _ _ _ _ us hl => match us, hl with | [_, _], _ => rfl)) (Kx.def_mk (st := Kx.sOne) (ps := ["_law_well_here", "_law_some"]) KX G ?u404 ?u405 ?u406 ?u407 (fun _ _ _ _ _ _ us hl => match us, hl with | [_, _], _ => rfl)) (Kx.def_mk (st := Kx.sLMe) (ps := ["_law_well_here", "_law_name"]) KX G ?u408 ?u409 ?u410 ?u411 (fun _ _ _ _ _ _ us hl => match us, hl with | [_, _], _ => rfl)) (Kx.def_mk (st := Kx.sLCl) (ps := ["_law_well_here", "_law_name", "_law_bases", "_law_names"]) KX G ?u412 ?u413 ?u414 ?u415 (fun _ _ _ _ _ _ us hl => match us, hl with | [_, _, _, _], _ => rfl)) (Kx.def_mk (st := Kx.sLAb) (ps := ["_law_table", "_law_name"]) KX G ?u416 ?u417 ?u418 ?u419 (fun _ _ _ _ _ _ us hl => match us, hl with | [_, _], _ => rfl)) (Kx.def_mk (st := Kx.sLDu) (ps := ["_law_table"]) KX G ?u420 ?u421 ?u422 ?u423 (fun _ _ _ _ _ _ us hl => match us, hl with | [_], _ => rfl)) (Kx.def_mk (st := Kx.sLTo) (ps := ["_law_some", "_law_order"]) KX G ?u424 ?u425 ?u426 ?u427 (fun _ _ _ _ _ _ us hl => match us, hl with | [_, _], _ => rfl)) (Kx.fa_mk (st := Kx.sFirst) (ps := ["clauses"]) KX G ?u428 ?u429 ?u430 ?u431 (fun _ _ _ _ _ _ us hl => match us, hl with | [_], _ => rfl)) (Kx.fa_mk (st := Kx.sFWb) (ps := ["scope", "statement", "place"]) KX G ?u432 ?u433 ?u434 ?u435 (fun _ _ _ _ _ _ us hl => match us, hl with | [_, _, _], _ => rfl)) (Kx.fa_mk (st := Kx.sWBb) (ps := ["scope", "body"]) KX G ?u436 ?u437 ?u438 ?u439 (fun _ _ _ _ _ _ us hl => match us, hl with | [_, _], _ => rfl)) (Kx.fa_mk (st := Kx.sWBl) (ps := ["library"]) KX G ?u440 ?u441 ?u442 ?u443 (fun _ _ _ _ _ _ us hl => match us, hl with | [_], _ => rfl)) hmg ?umL ?ulL ?ucL
    (case uh_m_C0 => k_is)
    (case uh_m_C1 => k_is)
    (case uh_m_C2 => k_is)
    (case uh_m_CL => k_is)
    (case uh_m_CS => k_is)
    (case uh_m_CSc => k_is)
    (case uh_m_CB => k_is)
    (case uh_m_B => k_is)
    (case uh_m_NN => k_is)
    (case uh_k2CL => k_is)
    (case uh_agOd => k_is)
    (case uh_agFl => k_is)
    (case uh_agMo => k_is)
    (case uh_agWo => k_is)
    (case uh_aCo => k_is)
    (case uh_aIx => k_is)
    (case uh_k2CS => k_is)
    (case uh_k2CSc => k_is)
    (case uh_agBh => k_is)
    (case uh_iB => k_is)
    (case uh_m_CW => k_is)
    (case uh_lCW => k_is)
    (case uh_m_MW => k_is)
    (case uh_lMW => k_is)
    (case uh_m_WR => k_is)
    (case uh_lWR => k_is)
    (case uh_m_ST => k_is)
    (case uh_lST => k_is)
    (case uh_vCW_fields => k_is)
    (case uh_vCW_double => k_is)
    (case uh_vCW_where => k_is)
    (case uh_vCW_methods => k_is)
    (case uh_vMW_params => k_is)
    (case uh_vMW_result => k_is)
    (case uh_vMW_pre => k_is)
    (case uh_vMW_post => k_is)
    (case uh_vWR_term => k_is)
    (case uh_vWR_object => k_is)
    (case uh_vWR_class => k_is)
    (case uh_vWR_method => k_is)
    (case uh_vWR_next => k_is)
    (case uh_vWR_arguments => k_is)
    (case uh_vWR_own => k_is)
    (case uh_vWR_value => k_is)
    (case uh_vST_halt => k_is)
    (case u1 => k_is)
    (case u2 => k_is)
    (case u3 => k_is)
    (case u4 => k_is)
    (case u5 => k_is)
    (case u6 => k_is)
    (case u7 => k_is)
    (case u8 => k_is)
    (case u9 => k_is)
    (case u10 => k_is)
    (case u11 => k_is)
    (case u12 => k_is)
    (case u13 => k_is)
    (case u14 => k_is)
    (case u15 => k_is)
    (case u16 => k_is)
    (case u17 => k_is)
    (case u18 => k_is)
    (case u19 => k_is)
    (case u20 => k_is)
    (case u21 => k_is)
    (case u22 => k_is)
    (case u23 => k_is)
    (case u24 => k_is)
    (case u25 => k_is)
    (case u26 => k_is)
    (case u27 => k_is)
    (case u28 => k_is)
    (case uh_n0_clauses => k_is)
    (case u29 => k_is)
    (case u30 => k_is)
    (case u31 => k_is)
    (case u32 => k_is)
    (case u33 => k_is)
    (case u34 => k_is)
    (case u35 => k_is)
    (case u36 => k_is)
    (case u37 => k_is)
    (case u38 => k_is)
    (case u39 => k_is)
    (case u40 => k_is)
    (case u41 => k_is)
    (case u42 => k_is)
    (case u43 => k_is)
    (case u44 => k_is)
    (case u45 => k_is)
    (case u46 => k_is)
    (case u47 => k_is)
    (case u48 => k_is)
    (case u49 => k_is)
    (case u50 => k_is)
    (case u51 => k_is)
    (case u52 => k_is)
    (case u53 => k_is)
    (case u54 => k_is)
    (case u55 => k_is)
    (case u56 => k_is)
    (case uh_n1_name => k_is)
    (case uh_n1_params => k_is)
    (case uh_n1_result => k_is)
    (case uh_n1_pre => k_is)
    (case uh_n1_post => k_is)
    (case uh_n1_body => k_is)
    (case u57 => k_is)
    (case u58 => k_is)
    (case u59 => k_is)
    (case u60 => k_is)
    (case u61 => k_is)
    (case u62 => k_is)
    (case u63 => k_is)
    (case u64 => k_is)
    (case u65 => k_is)
    (case u66 => k_is)
    (case u67 => k_is)
    (case u68 => k_is)
    (case u69 => k_is)
    (case u70 => k_is)
    (case u71 => k_is)
    (case u72 => k_is)
    (case u73 => k_is)
    (case u74 => k_is)
    (case u75 => k_is)
    (case u76 => k_is)
    (case u77 => k_is)
    (case u78 => k_is)
    (case u79 => k_is)
    (case u80 => k_is)
    (case u81 => k_is)
    (case u82 => k_is)
    (case u83 => k_is)
    (case u84 => k_is)
    (case uh_n2_name => k_is)
    (case uh_n2_bases => k_is)
    (case uh_n2_fields => k_is)
    (case uh_n2_where => k_is)
    (case uh_n2_methods => k_is)
    (case uh_nt => k_is)
    (case uh_s01 => k_is)
    (case uh_s02 => k_is)
    (case uh_s10 => k_is)
    (case uh_s12 => k_is)
    (case uh_s20 => k_is)
    (case uh_s21 => k_is)
    (case uh_y2 => k_is)
    (case uh_y3 => k_is)
    (case uh_mLet => k_is)
    (case uh_m_LONGEST_WORD => k_is)
    (case uh_m_MOST_LITERALS => k_is)
    (case uh_m_MOST_CLAUSES => k_is)
    (case uh_m_MOST_STATEMENTS => k_is)
    (case uh_m_MOST_IFS => k_is)
    (case uh_m_MOST_TRIES => k_is)
    (case uh_m_MOST_CALLS => k_is)
    (case uh_m_MOST_CLASSES => k_is)
    (case uh_m_MOST_BASES => k_is)
    (case uh_m_MOST_FIELDS => k_is)
    (case uh_m_MOST_METHODS => k_is)
    (case uh_m_MOST_PARAMS => k_is)
    (case uh_z_isinstance => k_is)
    (case uh_z_int => k_is)
    (case uh_z_bool => k_is)
    (case uh_z_str => k_is)
    (case uh_z_tuple => k_is)
    (case uh_z_len => k_is)
    (case uh_z_all => k_is)
    (case uh_z_sorted => k_is)
    (case uh_z_enumerate => k_is)
    (case uh_z_any => k_is)
    (case uh_z_list => k_is)
    (case uh_z_set => k_is)
    (case uh_z_range => k_is)
    (case uh_z_dict => k_is)
    (case uh_z_max => k_is)
    (case uh_z_sum => k_is)
    (case u85 => k_is)
    (case u86 => k_is)
    (case u87 => k_is)
    (case u88 => k_is)
    (case u89 => k_is)
    (case u90 => k_is)
    (case u91 => k_is)
    (case u92 => k_is)
    (case u93 => k_is)
    (case u94 => k_is)
    (case u95 => k_is)
    (case u96 => k_is)
    (case u97 => rfl)
    (case u98 => k_is)
    (case u99 => k_is)
    (case u100 => k_is)
    (case u101 => k_is)
    (case u102 => rfl)
    (case u103 => rfl)
    (case u104 => k_is)
    (case u105 => rfl)
    (case u106 => rfl)
    (case u107 => k_is)
    (case u108 => rfl)
    (case u109 => rfl)
    (case u110 => with_unfolding_all rfl)
    (case u111 => decide)
    (case uh_c1CL => k_is)
    (case uh_c2CL => k_is)
    (case uh_c3CL => k_is)
    (case uh_c4CL => k_is)
    (case uh_nCL_classes => k_is)
    (case uh_nCL_names => k_is)
    (case uh_nCL__table => k_is)
    (case uh_nCL__orders => k_is)
    (case uh_k1CL => k_is)
    (case uh_k3CL => k_is)
    (case uh_k4CL => k_is)
    (case u115 => k_is)
    (case u116 => k_is)
    (case u117 => k_is)
    (case uh_igOd => k_is)
    (case uh_kgOd => k_is)
    (case u118 => k_is)
    (case u119 => k_is)
    (case u120 => k_is)
    (case uh_igFl => k_is)
    (case uh_kgFl => k_is)
    (case u121 => k_is)
    (case u122 => k_is)
    (case u123 => k_is)
    (case uh_igMo => k_is)
    (case uh_kgMo => k_is)
    (case u124 => k_is)
    (case u125 => k_is)
    (case u126 => k_is)
    (case uh_igWo => k_is)
    (case uh_kgWo => k_is)
    (case u127 => k_is)
    (case u128 => k_is)
    (case u129 => k_is)
    (case uh_iCo => k_is)
    (case u130 => k_is)
    (case u131 => k_is)
    (case u132 => k_is)
    (case uh_iIx => k_is)
    (case uh_nIx => k_is)
    (case u133 => k_is)
    (case u134 => k_is)
    (case u135 => k_is)
    (case uh_c1CS => k_is)
    (case uh_c2CS => k_is)
    (case uh_c3CS => k_is)
    (case uh_c4CS => k_is)
    (case uh_nCS_known => k_is)
    (case uh_nCS_view => k_is)
    (case uh_nCS_fresh => k_is)
    (case uh_k1CS => k_is)
    (case uh_k3CS => k_is)
    (case uh_k4CS => k_is)
    (case u136 => k_is)
    (case u137 => k_is)
    (case u138 => k_is)
    (case uh_c1CSc => k_is)
    (case uh_c2CSc => k_is)
    (case uh_c3CSc => k_is)
    (case uh_c4CSc => k_is)
    (case uh_nCSc_library => k_is)
    (case uh_nCSc_owner => k_is)
    (case uh_nCSc_method => k_is)
    (case uh_nCSc_variables => k_is)
    (case uh_k1CSc => k_is)
    (case uh_k3CSc => k_is)
    (case uh_k4CSc => k_is)
    (case u139 => k_is)
    (case u140 => k_is)
    (case u141 => k_is)
    (case uh_igBh => k_is)
    (case uh_kgBh => k_is)
    (case u142 => k_is)
    (case u143 => k_is)
    (case u144 => k_is)
    (case u145 => k_is)
    (case u146 => k_is)
    (case u147 => k_is)
    (case u148 => k_is)
    (case u149 => k_is)
    (case u150 => k_is)
    (case u151 => k_is)
    (case u152 => k_is)
    (case uh_nB_at => k_is)
    (case uh_nB_why => k_is)
    (case uh_tB => k_is)
    (case u153 => k_is)
    (case u154 => k_is)
    (case u155 => k_is)
    (case uh_klCW => with_unfolding_all k_keys)
    (case uh_wCW => with_unfolding_all rfl)
    (case uh_loCW => decide)
    (case uh_klMW => with_unfolding_all k_keys)
    (case uh_wMW => with_unfolding_all rfl)
    (case uh_loMW => decide)
    (case uh_klWR => with_unfolding_all k_keys)
    (case uh_wWR => with_unfolding_all rfl)
    (case uh_loWR => decide)
    (case uh_klST => with_unfolding_all k_keys)
    (case uh_wST => with_unfolding_all rfl)
    (case uh_loST => decide)
    (case uh_ng0 => decide)
    (case uh_ng2 => decide)
    (case uh_ng3 => decide)
    (case u156 => k_is)
    (case u157 => k_is)
    (case u158 => k_is)
    (case u159 => k_is)
    (case u160 => k_is)
    (case u161 => k_is)
    (case u162 => k_is)
    (case u163 => k_is)
    (case u164 => k_is)
    (case u165 => k_is)
    (case u166 => k_is)
    (case u167 => k_is)
    (case u168 => k_is)
    (case u169 => k_is)
    (case u170 => k_is)
    (case u171 => k_is)
    (case u172 => k_is)
    (case u173 => k_is)
    (case u174 => k_is)
    (case u175 => k_is)
    (case u176 => k_is)
    (case u177 => k_is)
    (case u178 => k_is)
    (case u179 => k_is)
    (case u180 => k_is)
    (case u181 => k_is)
    (case u182 => k_is)
    (case u183 => k_is)
    (case u184 => k_is)
    (case u185 => k_is)
    (case u186 => k_is)
    (case u187 => k_is)
    (case u188 => k_is)
    (case u189 => k_is)
    (case u190 => k_is)
    (case u191 => k_is)
    (case u192 => k_is)
    (case u193 => k_is)
    (case u194 => k_is)
    (case u195 => k_is)
    (case u196 => k_is)
    (case u197 => k_is)
    (case u198 => k_is)
    (case u199 => k_is)
    (case u200 => k_is)
    (case u201 => k_is)
    (case u202 => k_is)
    (case u203 => k_is)
    (case u204 => k_is)
    (case u205 => k_is)
    (case u206 => k_is)
    (case u207 => k_is)
    (case u208 => k_is)
    (case u209 => k_is)
    (case u210 => k_is)
    (case u211 => k_is)
    (case u212 => k_is)
    (case u213 => k_is)
    (case u214 => k_is)
    (case u215 => k_is)
    (case u216 => k_is)
    (case u217 => k_is)
    (case u218 => k_is)
    (case u219 => k_is)
    (case u220 => k_is)
    (case u221 => k_is)
    (case u222 => k_is)
    (case u223 => k_is)
    (case u224 => k_is)
    (case u225 => k_is)
    (case u226 => k_is)
    (case u227 => k_is)
    (case u228 => k_is)
    (case u229 => k_is)
    (case u230 => k_is)
    (case u231 => k_is)
    (case u232 => k_is)
    (case u233 => k_is)
    (case u234 => k_is)
    (case u235 => k_is)
    (case u236 => k_is)
    (case u237 => k_is)
    (case u238 => k_is)
    (case u239 => k_is)
    (case u240 => k_is)
    (case u241 => k_is)
    (case u242 => k_is)
    (case u243 => k_is)
    (case u244 => k_is)
    (case u245 => k_is)
    (case u246 => k_is)
    (case u247 => k_is)
    (case u248 => k_is)
    (case u249 => k_is)
    (case u250 => k_is)
    (case u251 => k_is)
    (case u252 => k_is)
    (case u253 => k_is)
    (case u254 => k_is)
    (case u255 => k_is)
    (case u256 => k_is)
    (case u257 => k_is)
    (case u258 => k_is)
    (case u259 => k_is)
    (case u260 => k_is)
    (case u261 => k_is)
    (case u262 => k_is)
    (case u263 => k_is)
    (case u264 => k_is)
    (case u265 => k_is)
    (case u266 => k_is)
    (case u267 => k_is)
    (case u268 => k_is)
    (case u269 => k_is)
    (case u270 => k_is)
    (case u271 => k_is)
    (case u272 => k_is)
    (case u273 => k_is)
    (case u274 => k_is)
    (case u275 => k_is)
    (case u276 => k_is)
    (case u277 => k_is)
    (case u278 => k_is)
    (case u279 => k_is)
    (case u280 => k_is)
    (case u281 => k_is)
    (case u282 => k_is)
    (case u283 => k_is)
    (case u284 => k_is)
    (case u285 => k_is)
    (case u286 => k_is)
    (case u287 => k_is)
    (case u288 => k_is)
    (case u289 => k_is)
    (case u290 => k_is)
    (case u291 => k_is)
    (case u292 => k_is)
    (case u293 => k_is)
    (case u294 => k_is)
    (case u295 => k_is)
    (case u296 => k_is)
    (case u297 => k_is)
    (case u298 => k_is)
    (case u299 => k_is)
    (case u300 => k_is)
    (case u301 => k_is)
    (case u302 => k_is)
    (case u303 => k_is)
    (case u304 => k_is)
    (case u305 => k_is)
    (case u306 => k_is)
    (case u307 => k_is)
    (case u308 => k_is)
    (case u309 => k_is)
    (case u310 => k_is)
    (case u311 => k_is)
    (case u312 => k_is)
    (case u313 => k_is)
    (case u314 => k_is)
    (case u315 => k_is)
    (case u316 => k_is)
    (case u317 => k_is)
    (case u318 => k_is)
    (case u319 => k_is)
    (case u320 => k_is)
    (case u321 => k_is)
    (case u322 => k_is)
    (case u323 => k_is)
    (case u324 => k_is)
    (case u325 => k_is)
    (case u326 => k_is)
    (case u327 => k_is)
    (case u328 => k_is)
    (case u329 => k_is)
    (case u330 => k_is)
    (case u331 => k_is)
    (case u332 => k_is)
    (case u333 => k_is)
    (case u334 => k_is)
    (case u335 => k_is)
    (case u336 => k_is)
    (case u337 => k_is)
    (case u338 => k_is)
    (case u339 => k_is)
    (case u340 => k_is)
    (case u341 => k_is)
    (case u342 => k_is)
    (case u343 => k_is)
    (case u344 => k_is)
    (case u345 => k_is)
    (case u346 => k_is)
    (case u347 => k_is)
    (case u348 => k_is)
    (case u349 => k_is)
    (case u350 => k_is)
    (case u351 => k_is)
    (case u352 => k_is)
    (case u353 => k_is)
    (case u354 => k_is)
    (case u355 => k_is)
    (case u356 => k_is)
    (case u357 => k_is)
    (case u358 => k_is)
    (case u359 => k_is)
    (case u360 => k_is)
    (case u361 => k_is)
    (case u362 => k_is)
    (case u363 => k_is)
    (case u364 => k_is)
    (case u365 => k_is)
    (case u366 => k_is)
    (case u367 => k_is)
    (case u368 => k_is)
    (case u369 => k_is)
    (case u370 => k_is)
    (case u371 => k_is)
    (case u372 => k_is)
    (case u373 => k_is)
    (case u374 => k_is)
    (case u375 => k_is)
    (case u376 => k_is)
    (case u377 => k_is)
    (case u378 => k_is)
    (case u379 => k_is)
    (case u380 => k_is)
    (case u381 => k_is)
    (case u382 => k_is)
    (case u383 => k_is)
    (case u384 => k_is)
    (case u385 => k_is)
    (case u386 => k_is)
    (case u387 => k_is)
    (case u388 => k_is)
    (case u389 => k_is)
    (case u390 => k_is)
    (case u391 => k_is)
    (case u392 => k_is)
    (case u393 => k_is)
    (case u394 => k_is)
    (case u395 => k_is)
    (case u396 => k_is)
    (case u397 => k_is)
    (case u398 => k_is)
    (case u399 => k_is)
    (case u400 => k_is)
    (case u401 => k_is)
    (case u402 => k_is)
    (case u403 => k_is)
    (case u404 => k_is)
    (case u405 => k_is)
    (case u406 => k_is)
    (case u407 => k_is)
    (case u408 => k_is)
    (case u409 => k_is)
    (case u410 => k_is)
    (case u411 => k_is)
    (case u412 => k_is)
    (case u413 => k_is)
    (case u414 => k_is)
    (case u415 => k_is)
    (case u416 => k_is)
    (case u417 => k_is)
    (case u418 => k_is)
    (case u419 => k_is)
    (case u420 => k_is)
    (case u421 => k_is)
    (case u422 => k_is)
    (case u423 => k_is)
    (case u424 => k_is)
    (case u425 => k_is)
    (case u426 => k_is)
    (case u427 => k_is)
    (case u428 => k_is)
    (case u429 => k_is)
    (case u430 => k_is)
    (case u431 => k_is)
    (case u432 => k_is)
    (case u433 => k_is)
    (case u434 => k_is)
    (case u435 => k_is)
    (case u436 => k_is)
    (case u437 => k_is)
    (case u438 => k_is)
    (case u439 => k_is)
    (case u440 => k_is)
    (case u441 => k_is)
    (case u442 => k_is)
    (case u443 => k_is)
    (case umL => k_is)
    (case ulL => k_is)
    (case ucL => k_is)
