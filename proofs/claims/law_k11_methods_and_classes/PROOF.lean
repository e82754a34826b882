import PyProof.Rows.All
import Wide.All
import OpenK.AllK
import Wide.FinOn
import HandS.OwnEq
import OpenK.KOwn
import OpenK.KOps
import OpenK.KMake
import PyProof.EqKinds
import PyProof.InstNe
import HandS.ForMost
import HandS.SetBool
import HandS.SetTxt0
import HandS.Strs
import KE.GoesMore
import HandS.Iter
import HandS.ForExc
import HandS.Wide
import HandS.IsInst
import HandS.Flow
import HandS.Walk
import HandS.Text
import HandS.Conv
import HandS.Star
import HandS.TupAny
import HandS.ExcInit
import HandS.ExcValue
import HandS.ExcCtx
import HandS.HotCalls
import HandS.ExcIs
import HandS.ExcField
import KE.KExcIs
import OpenK.KMeth
import HandS.Deep
import HandS.ClsMeth
import HandS.Defaults
import HandS.MakeKw
import HandS.MakeKwOnly
import HandS.Style
import PySem.Challenge.RW_contractheirs_k11_methods_and_classes
set_option Elab.async false
set_option linter.all false
set_option maxRecDepth 100000
set_option maxHeartbeats 8000000
set_option linter.all false
/-! == and != of tuples and lists, with any answer, whose items may be objects with an own == -/
namespace PySem.SeqAt
open AutoSeq1 (wpAny_loadPart')
open MeetsSeq MeetsSeq2 MeetsSeq3 SeqRoads2
theorem str_eq_declines_plain (b : Str) (u : Tok) (l : Addr) (c : Value) (dd : Option Addr) (sl : Array (Option Value)) :
    Meets (Builtin.«str.__eq__» ⟨[.str b u, .ref l], []⟩) (fun _ R s => s.heap.get? l = some { cls := c, dict := dd, data := .plain, slots := sl } ∧ R (.ok (.ret .notImplemented)) s) :=
  .of_wp fun prog w A R s h => by obtain ⟨hp, g, d, tk, os⟩ := s; obtain ⟨hl, h⟩ := h; wp_walk using wpAny_loadPart' hl, wpAny_load hl; exact ⟨_, rfl, h⟩
theorem bool_eq_declines_plain (b : Bool) (l : Addr) (c : Value) (dd : Option Addr) (sl : Array (Option Value)) :
    Meets (Builtin.«int.__eq__» ⟨[.bool b, .ref l], []⟩) (fun _ R s => s.heap.get? l = some { cls := c, dict := dd, data := .plain, slots := sl } ∧ R (.ok (.ret .notImplemented)) s) :=
  .of_wp fun prog w A R s h => by obtain ⟨hp, g, d, tk, os⟩ := s; obtain ⟨hl, h⟩ := h; wp_walk using wpAny_loadPart' hl, wpAny_load hl; exact ⟨_, rfl, h⟩
theorem int_eq_declines_plain (b : Int) (u : Tok) (l : Addr) (c : Value) (dd : Option Addr) (sl : Array (Option Value)) :
    Meets (Builtin.«int.__eq__» ⟨[.int b u, .ref l], []⟩) (fun _ R s => s.heap.get? l = some { cls := c, dict := dd, data := .plain, slots := sl } ∧ R (.ok (.ret .notImplemented)) s) :=
  .of_wp fun prog w A R s h => by obtain ⟨hp, g, d, tk, os⟩ := s; obtain ⟨hl, h⟩ := h; wp_walk using wpAny_loadPart' hl, wpAny_load hl; exact ⟨_, rfl, h⟩
end PySem.SeqAt
namespace GQ
open PySem PySem.SeqAt
open AutoSeq1 (wpAny_loadPart')
open MeetsSeq MeetsSeq2 MeetsSeq3 SeqRoads2
section
variable {prog : Program} {w : World} {A : Around} {R : Result → Shared → Prop}
/-- what two rows of things give, by what each pair gives -/
def allEq (m n : Nat) (e : Nat → Bool) : Bool := (List.range (min m n)).all e && m == n
theorem tuple_eqB (l b : Addr) (items items2 : Array Value) (n n2 : Nat) (dd dd2 : Option Addr) (sl sl2 : Array (Option Value)) (e : Nat → Bool) (I : Nat → Shared → Prop)
    (turn : ∀ i (h1 : i < items.size) (h2 : i < items2.size) s, I i s → wpAny (model prog w) A.in1 (eqBool items[i] items2[i]) (fun r s' => r = e i ∧ I (i + 1) s') (fun e s' => R (.error e) s') s)
    (fin : ∀ i s, I i s → R (.ok (.ret (.bool (allEq items.size items2.size e)))) s) {s : Shared} (hl1 : s.heap.get? l = some { cls := .type "tuple", dict := dd, data := .seq items n, slots := sl }) (hb1 : s.heap.get? b = some { cls := .type "tuple", dict := dd2, data := .seq items2 n2, slots := sl2 }) (h : I 0 s) :
    wpAny (model prog w) A.in1 (Builtin.«tuple.__eq__» ⟨[.ref l, .ref b], []⟩) (FinOf prog w A R) (fun e s' => R (.error e) s') s := by
  have f2 := AutoSeq1.sub_tuple_tuple
  have hZ : (items.toList.zip items2.toList).length = min items.size items2.size := by simp
  have h0 := h
  obtain ⟨hp, g, d, tk, os⟩ := s
  wp_walk using wpAny_loadPart' hl1, wpAny_loadPart' hb1, wpAny_forIn_list _ (fun rest b s' => b.1 = none ∧ ∃ i, rest = (items.toList.zip items2.toList).drop i ∧ I i s' ∧ (((List.range (min items.size items2.size)).drop i).all e && items.size == items2.size) = allEq items.size items2.size e) _
  case turn =>
    rintro ⟨y, x⟩ rest b s' ⟨hb', i, hz, hI, hR⟩
    have hlt : i < (items.toList.zip items2.toList).length := by
      rcases Nat.lt_or_ge i (items.toList.zip items2.toList).length with h' | h'
      · exact h'
      · rw [List.drop_of_length_le h'] at hz; cases hz
    have hm : i < min items.size items2.size := hZ ▸ hlt
    have h1 : i < items.size := Nat.lt_of_lt_of_le hm (Nat.min_le_left _ _)
    have h2 : i < items2.size := Nat.lt_of_lt_of_le hm (Nat.min_le_right _ _)
    rw [List.drop_eq_getElem_cons hlt] at hz
    injection hz with hyx hrest
    have hy : y = items[i] := by have := congrArg Prod.fst hyx; simpa using this
    have hx : x = items2[i] := by have := congrArg Prod.snd hyx; simpa using this
    subst hy hx
    have hd : (List.range (min items.size items2.size)).drop i = i :: (List.range (min items.size items2.size)).drop (i + 1) := by simp [List.drop_eq_getElem_cons, hm]
    rw [hd, List.all_cons] at hR
    refine wpAny_bind (wpAny_mono (turn i h1 h2 s' hI) (fun r s2 q2 => ?_) fun _ _ x => x)
    obtain ⟨hr, q2⟩ := q2
    subst hr
    cases hy : e i with
    | true =>
      rw [hy] at hR
      wp_walk
      exact ⟨rfl, i + 1, hrest, q2, by simpa using hR⟩
    | false =>
      rw [hy] at hR
      have hf := fin _ _ q2
      rw [← hR] at hf
      wp_walk
      simpa using hf
  case fin =>
    rintro ⟨b1, b2⟩ s' ⟨hb', i, hz, hI, hR⟩
    simp only at hb'
    subst hb'
    have hge : min items.size items2.size ≤ i := by
      rcases Nat.lt_or_ge i (items.toList.zip items2.toList).length with h' | h'
      · rw [List.drop_eq_getElem_cons h'] at hz; cases hz
      · exact hZ ▸ h'
    rw [List.drop_of_length_le (by simpa using hge)] at hR
    have hf := fin _ _ hI
    rw [← hR] at hf
    wp_walk
    simpa [Builtin.Tuple.tupleCompareSizes] using hf
  case h =>
    exact ⟨rfl, 0, rfl, h0, rfl⟩
theorem tuple_neB (l b : Addr) (items items2 : Array Value) (n n2 : Nat) (dd dd2 : Option Addr) (sl sl2 : Array (Option Value)) (e : Nat → Bool) (I : Nat → Shared → Prop)
    (turn : ∀ i (h1 : i < items.size) (h2 : i < items2.size) s, I i s → wpAny (model prog w) A.in1 (eqBool items[i] items2[i]) (fun r s' => r = e i ∧ I (i + 1) s') (fun e s' => R (.error e) s') s)
    (fin : ∀ i s, I i s → R (.ok (.ret (.bool (!allEq items.size items2.size e)))) s) {s : Shared} (hl1 : s.heap.get? l = some { cls := .type "tuple", dict := dd, data := .seq items n, slots := sl }) (hb1 : s.heap.get? b = some { cls := .type "tuple", dict := dd2, data := .seq items2 n2, slots := sl2 }) (h : I 0 s) :
    wpAny (model prog w) A.in1 (Builtin.«tuple.__ne__» ⟨[.ref l, .ref b], []⟩) (FinOf prog w A R) (fun e s' => R (.error e) s') s := by
  have f2 := AutoSeq1.sub_tuple_tuple
  have hZ : (items.toList.zip items2.toList).length = min items.size items2.size := by simp
  have h0 := h
  obtain ⟨hp, g, d, tk, os⟩ := s
  wp_walk using wpAny_loadPart' hl1, wpAny_loadPart' hb1, wpAny_forIn_list _ (fun rest b s' => b.1 = none ∧ ∃ i, rest = (items.toList.zip items2.toList).drop i ∧ I i s' ∧ (((List.range (min items.size items2.size)).drop i).all e && items.size == items2.size) = allEq items.size items2.size e) _
  case turn =>
    rintro ⟨y, x⟩ rest b s' ⟨hb', i, hz, hI, hR⟩
    have hlt : i < (items.toList.zip items2.toList).length := by
      rcases Nat.lt_or_ge i (items.toList.zip items2.toList).length with h' | h'
      · exact h'
      · rw [List.drop_of_length_le h'] at hz; cases hz
    have hm : i < min items.size items2.size := hZ ▸ hlt
    have h1 : i < items.size := Nat.lt_of_lt_of_le hm (Nat.min_le_left _ _)
    have h2 : i < items2.size := Nat.lt_of_lt_of_le hm (Nat.min_le_right _ _)
    rw [List.drop_eq_getElem_cons hlt] at hz
    injection hz with hyx hrest
    have hy : y = items[i] := by have := congrArg Prod.fst hyx; simpa using this
    have hx : x = items2[i] := by have := congrArg Prod.snd hyx; simpa using this
    subst hy hx
    have hd : (List.range (min items.size items2.size)).drop i = i :: (List.range (min items.size items2.size)).drop (i + 1) := by simp [List.drop_eq_getElem_cons, hm]
    rw [hd, List.all_cons] at hR
    refine wpAny_bind (wpAny_mono (turn i h1 h2 s' hI) (fun r s2 q2 => ?_) fun _ _ x => x)
    obtain ⟨hr, q2⟩ := q2
    subst hr
    cases hy : e i with
    | true =>
      rw [hy] at hR
      wp_walk
      exact ⟨rfl, i + 1, hrest, q2, by simpa using hR⟩
    | false =>
      rw [hy] at hR
      have hf := fin _ _ q2
      rw [← hR] at hf
      wp_walk
      simpa using hf
  case fin =>
    rintro ⟨b1, b2⟩ s' ⟨hb', i, hz, hI, hR⟩
    simp only at hb'
    subst hb'
    have hge : min items.size items2.size ≤ i := by
      rcases Nat.lt_or_ge i (items.toList.zip items2.toList).length with h' | h'
      · rw [List.drop_eq_getElem_cons h'] at hz; cases hz
      · exact hZ ▸ h'
    rw [List.drop_of_length_le (by simpa using hge)] at hR
    have hf := fin _ _ hI
    rw [← hR] at hf
    wp_walk
    simpa [Builtin.Tuple.tupleCompareSizes, bne] using hf
  case h =>
    exact ⟨rfl, 0, rfl, h0, rfl⟩
/-- at each turn the two lists are read anew -/
def ListB (prog : Program) (w : World) (A : Around) (E : Value → Shared → Prop) (l b : Addr) (N : Nat) (e : Nat → Bool) (I : Nat → Shared → Prop) : Prop :=
  ∀ i s, I i s → ∃ (items items2 : Array Value) (n n2 : Nat), s.heap.get? l = some { cls := .type "list", data := .seq items n } ∧ s.heap.get? b = some { cls := .type "list", data := .seq items2 n2 } ∧ items.size = N ∧ items2.size = N ∧
    ∀ (h1 : i < items.size) (h2 : i < items2.size), wpAny (model prog w) A.in1 (eqBool items[i] items2[i]) (fun r s' => r = e i ∧ I (i + 1) s') E s
theorem eq_loopB (l b : Addr) (N : Nat) (e : Nat → Bool) (I : Nat → Shared → Prop) (hl : ListB prog w A (fun e s' => R (.error e) s') l b N e I)
    (fin : ∀ i s, I i s → R (.ok (.ret (.bool ((List.range N).all e)))) s) (k : Nat) :
    ∀ i : Nat, N - i = k → i ≤ N → ((List.range N).drop i).all e = (List.range N).all e → ∀ s, I i s →
      wpAny (model prog w) A.in1 (Builtin.«list.__eq__.loop» ⟨[.ref l, .ref b, rawInt i, rawInt 2], []⟩) (FinOf prog w A R) (fun e s' => R (.error e) s') s := by
  induction k with
  | zero =>
    intro i hk hi hv s h
    obtain ⟨items, items2, n, n2, hl1, hb1, hs1, hs2, _⟩ := hl _ _ h
    have hi' : i = N := by omega
    have hR := fin _ s h
    rw [← hv, hi', List.drop_of_length_le (by simp)] at hR
    obtain ⟨hp, g, d, tk, os⟩ := s
    wp_walk using wpAny_loadPart' hl1, wpAny_loadPart' hb1
    have hi1 : items[((i : Nat) : Int).toNat]? = none := by simp; omega
    have hi2 : items2[((i : Nat) : Int).toNat]? = none := by simp; omega
    rw [hi1, hi2]
    wp_walk using wpAny_loadPart' hl1, wpAny_loadPart' hb1
    show R (.ok (.ret (.bool (items.size == items2.size)))) _
    rw [hs1, hs2]
    simpa using hR
  | succ k ih =>
    intro i hk hi hv s h
    obtain ⟨items, items2, n, n2, hl1, hb1, hs1, hs2, turn⟩ := hl _ _ h
    have hlt : i < items.size := by omega
    have hlt2 : i < items2.size := by omega
    have ht := turn hlt hlt2
    have hd : (List.range N).drop i = i :: (List.range N).drop (i + 1) := by
      have hN : i < (List.range N).length := by simp; omega
      rw [List.drop_eq_getElem_cons hN]; simp
    rw [hd, List.all_cons] at hv
    obtain ⟨hp, g, d, tk, os⟩ := s
    wp_walk using wpAny_loadPart' hl1, wpAny_loadPart' hb1
    have hi1 : items[((i : Nat) : Int).toNat]? = some items[i] := by simp [hlt]
    have hi2 : items2[((i : Nat) : Int).toNat]? = some items2[i] := by simp [hlt2]
    have hc : ((i : Int) + 1) = ((i + 1 : Nat) : Int) := by omega
    rw [hi1, hi2]
    refine wpAny_bind (wpAny_mono ht (fun r s2 h2 => ?_) fun _ _ x => x)
    obtain ⟨hr, h2⟩ := h2
    subst hr
    cases hy : e i with
    | true =>
      rw [hy, Bool.true_and] at hv
      have hrec := ih (i + 1) (by omega) (by omega) hv s2 h2
      obtain ⟨hp2, g2, d2, tk2, os2⟩ := s2
      wp_walk
      rw [hc]
      exact ⟨plainId_quiet plain_eq_loop _, codeAny_builtin entry_eq_loop (by
        rw [Around.under_plainId plain_eq_loop _]
        exact hrec)⟩
    | false =>
      rw [hy, Bool.false_and] at hv
      have hf := fin _ _ h2
      rw [← hv] at hf
      obtain ⟨itemsA, itemsB, nA, nB, hA, hB, hsA, hsB, _⟩ := hl _ _ h2
      obtain ⟨hp2, g2, d2, tk2, os2⟩ := s2
      wp_walk using wpAny_loadPart' hA, wpAny_loadPart' hB
      have hiA : itemsA[((i : Nat) : Int).toNat]? = some (itemsA[i]'(by omega)) := by simp
      have hiB : itemsB[((i : Nat) : Int).toNat]? = some (itemsB[i]'(by omega)) := by simp
      rw [hiA, hiB]
      wp_walk
      simpa using hf
theorem list_eqB (l b : Addr) (N : Nat) (e : Nat → Bool) (I : Nat → Shared → Prop) (hl : ListB prog w A (fun e s' => R (.error e) s') l b N e I)
    (fin : ∀ i s, I i s → R (.ok (.ret (.bool ((List.range N).all e)))) s) {s : Shared} (h : I 0 s) :
    wpAny (model prog w) A.in1 (Builtin.«list.__eq__» ⟨[.ref l, .ref b], []⟩) (FinOf prog w A R) (fun e s' => R (.error e) s') s := by
  obtain ⟨items, items2, n, n2, hl1, hb1, hs1, hs2, _⟩ := hl _ _ h
  have hrec := eq_loopB (A := A) (R := R) l b N e I hl fin _ 0 rfl (Nat.zero_le _) rfl s h
  obtain ⟨hp, g, d, tk, os⟩ := s
  have f3 := AutoSeq1.sub_list_list
  have hne : ¬ (items.size != items2.size) = true := by simp [hs1, hs2]
  wp_walk using wpAny_loadPart' hl1, wpAny_loadPart' hb1
  exact ⟨plainId_quiet plain_eq_loop _, codeAny_builtin entry_eq_loop (by
    rw [Around.under_plainId plain_eq_loop _]
    exact hrec)⟩
end
section
variable {prog : Program} {w : World} {A : Around} {E : Value → Shared → Prop} {s : Shared}
theorem rc_listB {l b : Addr} {N : Nat} {e : Nat → Bool} {Q : Value → Shared → Prop} (hu : A.units < cLine) (I : Nat → Shared → Prop) (hl : ListB prog w A E l b N e I)
    (fin : ∀ i s, I i s → Q (.bool ((List.range N).all e)) s) (h : I 0 s) : wpAny (model prog w) A (richCompare .Eq (.ref l) (.ref b)) Q E s := by
  obtain ⟨items, items2, n, n2, hl1, hb1, _, _, _⟩ := hl _ _ h
  refine wpAny_richCompare_same_room (op := .Eq) ⟨_, hl1, rfl⟩ ⟨_, hb1, rfl⟩ F.slot_list_eq (call_here F.slot_list_eq ⟨_, hl1, rfl⟩ F.entry_list_eq (F.args_list_eq_2 _ _) ?_) hu
  exact list_eqB (R := wants (fun v s' => v ≠ .notImplemented ∧ Q v s') E) l b N e I hl (fun i s' q => ⟨(fun x => nomatch x), fin i s' q⟩) h
theorem rc_tupB {l b : Addr} {items items2 : Array Value} {e : Nat → Bool} {Q : Value → Shared → Prop} (hu : A.units < cLine) (I : Nat → Shared → Prop)
    (hl : s.heap.IsTuple l items) (hb : s.heap.IsTuple b items2)
    (turn : ∀ i (h1 : i < items.size) (h2 : i < items2.size) s, I i s → wpAny (model prog w) A.in1 (eqBool items[i] items2[i]) (fun r s' => r = e i ∧ I (i + 1) s') E s)
    (fin : ∀ i s, I i s → Q (.bool (allEq items.size items2.size e)) s) (h : I 0 s) : wpAny (model prog w) A (richCompare .Eq (.ref l) (.ref b)) Q E s := by
  obtain ⟨⟨cls, dd, data, sl⟩, ho, hc, n, hd⟩ := id hl
  obtain ⟨⟨cls2, dd2, data2, sl2⟩, ho2, hc2, n2, hd2⟩ := id hb
  simp only at hc hd hc2 hd2
  subst hc hd hc2 hd2
  refine wpAny_richCompare_same_room (op := .Eq) ⟨_, ho, rfl⟩ ⟨_, ho2, rfl⟩ F.slot_tuple_eq (call_here F.slot_tuple_eq ⟨_, ho, rfl⟩ F.entry_tuple_eq (F.args_tuple_eq_2 _ _) ?_) hu
  exact tuple_eqB (R := wants (fun v s' => v ≠ .notImplemented ∧ Q v s') E) l b items items2 n n2 dd dd2 sl sl2 e I turn (fun i s' q => ⟨(fun x => nomatch x), fin i s' q⟩) ho ho2 h
theorem rc_tupNeB {l b : Addr} {items items2 : Array Value} {e : Nat → Bool} {Q : Value → Shared → Prop} (hu : A.units < cLine) (I : Nat → Shared → Prop)
    (hl : s.heap.IsTuple l items) (hb : s.heap.IsTuple b items2)
    (turn : ∀ i (h1 : i < items.size) (h2 : i < items2.size) s, I i s → wpAny (model prog w) A.in1 (eqBool items[i] items2[i]) (fun r s' => r = e i ∧ I (i + 1) s') E s)
    (fin : ∀ i s, I i s → Q (.bool (!allEq items.size items2.size e)) s) (h : I 0 s) : wpAny (model prog w) A (richCompare .NotEq (.ref l) (.ref b)) Q E s := by
  obtain ⟨⟨cls, dd, data, sl⟩, ho, hc, n, hd⟩ := id hl
  obtain ⟨⟨cls2, dd2, data2, sl2⟩, ho2, hc2, n2, hd2⟩ := id hb
  simp only at hc hd hc2 hd2
  subst hc hd hc2 hd2
  refine wpAny_richCompare_same_room (op := .NotEq) ⟨_, ho, rfl⟩ ⟨_, ho2, rfl⟩ F.slot_tuple_ne (call_here F.slot_tuple_ne ⟨_, ho, rfl⟩ F.entry_tuple_ne (F.args_tuple_ne_2 _ _) ?_) hu
  exact tuple_neB (R := wants (fun v s' => v ≠ .notImplemented ∧ Q v s') E) l b items items2 n n2 dd dd2 sl sl2 e I turn (fun i s' q => ⟨(fun x => nomatch x), fin i s' q⟩) ho ho2 h
end
end GQ
namespace PySem.W
open PyProof.Rows
section
variable {prog : Program} {w : World} {A : Around} {E : Value → Shared → Prop} {s : Shared} {K : Frag} {x C L f : Addr} {h₀ : Heap} {m : Str → Option Value} {ox : Obj} {od : Option Obj}
/-- a builtin thing == an object with an own ==, which is asked because the thing does not know -/
theorem cmpR_K {a : Value} {Ta ida : String} {Q : Value → Shared → Prop} (hu : A.units < cLine) (F : Fr h₀ L s.heap m) (X₀ : K.In h₀) (I : InstAt s.heap x ox C od) (ha : s.TypeIs a Ta)
    (hsub : subIn K (.ref C) (.type Ta) = some false) (h1 : Slot Ta (cmpInfo .Eq).2.1 ida)
    (hc1 : ∀ Q' : Value → Shared → Prop, Q' .notImplemented s → wpAny (model prog w) A (call (.builtin ida) [a, .ref x]) Q' E s)
    (hs : findIn K (.ref C) (cmpInfo .Eq).2.2 = some (some (.ref f))) (hf : isFn K (.ref f) = true)
    (h : wpAny (model prog w) A (call (.ref f) [.ref x, a]) (CmpBack Q) E s) : wpAny (model prog w) A (richCompare .Eq a (.ref x)) Q E s := by
  have X := X₀.keeps F.keep
  have one : wpAny (model prog w) A (tryCompare (.ref x) (cmpInfo .Eq).2.2 a) (fun r s' => ∃ v, r = some v ∧ Q v s') E s := by
    unfold tryCompare
    refine wpAny_bind (ifBound_K X I hs hf (wpAny_mono h (fun v s' hv => ?_) fun _ _ e => e))
    cases v <;> first | exact hv.elim | exact wpAny_pure ⟨_, rfl, hv⟩
  rcases hi : cmpInfo CmpOp.Eq with ⟨sym, fn, r⟩
  rw [hi] at h1 one
  simp only [richCompare, hi, ha.oneThing_none]
  try with_reducible refine wpAny_holding ?_
  refine wpAny_bind (wpAny_cRoomFor_or (.inr hu) ?_)
  refine wpAny_bind (wpAny_typeOf ha (wpAny_bind (I.type.here ?_)))
  have hne : (Value.type Ta != Value.ref C) = true := by simp
  simp only [hne, if_true]
  refine wpAny_bind ((looks_subIn X hsub).here ?_)
  simp only [Bool.false_eq_true, if_false, Bool.not_false, if_true]
  refine wpAny_bind (m := tryCompare a _ (.ref x)) (wpAny_tryCompare_declines ha h1 (hc1 _ ⟨rfl, ?_⟩))
  refine wpAny_bind (m := tryCompare (.ref x) _ a) (wpAny_mono one (fun r s' z => ?_) fun _ _ e => e)
  obtain ⟨v, rfl, hq⟩ := z
  exact wpAny_pure hq
end
end PySem.W
set_option linter.all false
/-! data with objects that have an own ==: what == says of two of them -/
namespace PySem.SeqAt
open AutoSeq1 (wpAny_loadPart')
open MeetsSeq MeetsSeq2 MeetsSeq3 SeqRoads2
section
variable {prog : Program} {w : World} {A : Around} {R : Result → Shared → Prop}
theorem tuple_eq_declines_own (l x : Addr) (items : Array Value) (n : Nat) (dd : Option Addr) (sl : Array (Option Value)) {s : Shared} (hI : PySem.W.Looks (model prog w) s.heap (isInstance (.ref x) (.type "tuple")) false)
    (hl : s.heap.get? l = some { cls := .type "tuple", dict := dd, data := .seq items n, slots := sl }) (hR : R (.ok (.ret .notImplemented)) s) :
    wpAny (model prog w) A.in1 (Builtin.«tuple.__eq__» ⟨[.ref l, .ref x], []⟩) (GQ.FinOf prog w A R) (fun e s' => R (.error e) s') s := by
  obtain ⟨hp, g, d, tk, os⟩ := s
  wp_walk using wpAny_loadPart' hl, hI.here
  exact hR
theorem list_eq_declines_own (l x : Addr) (items : Array Value) (n : Nat) {s : Shared} (hI : PySem.W.Looks (model prog w) s.heap (isInstance (.ref x) (.type "list")) false)
    (hl : s.heap.get? l = some { cls := .type "list", data := .seq items n }) (hR : R (.ok (.ret .notImplemented)) s) :
    wpAny (model prog w) A.in1 (Builtin.«list.__eq__» ⟨[.ref l, .ref x], []⟩) (GQ.FinOf prog w A R) (fun e s' => R (.error e) s') s := by
  obtain ⟨hp, g, d, tk, os⟩ := s
  wp_walk using wpAny_loadPart' hl, hI.here
  exact hR
end
end PySem.SeqAt
namespace L2
open PySem PySem.Spec PyProof.Rows
inductive OD where
  | fl (v : V)
  | tup (xs : List OD)
  | lst (xs : List OD)
  | obj (k : Nat) (xs : List OD)
structure OCls where
  C : Addr
  f : Addr
  names : List Str
  lv : Nat
section
variable (K : PySem.W.Frag) (cl : Nat → OCls) (H : Hp)
mutual
def Oh : OD → V → Prop
  | .fl v, x => x = v ∧ flatV v = true
  | .tup ds, x => ∃ a xs, x = .ref a ∧ SqT K H a xs ∧ OhAll ds xs
  | .lst ds, x => ∃ a xs, x = .ref a ∧ H a = some (.lst xs) ∧ OhAll ds xs
  | .obj k ds, x => ∃ a dx fs xs, x = .ref a ∧ H a = some (.ins (cl k).C dx fs) ∧ (cl k).names.map (fun n => fs.lookup n) = xs.map some ∧ OhAll ds xs
def OhAll : List OD → List V → Prop
  | [], xs => xs = []
  | d :: ds, xs => ∃ x ys, xs = x :: ys ∧ Oh d x ∧ OhAll ds ys
end
mutual
def eqo : OD → OD → Bool
  | .fl v, .fl w => eqV v w
  | .tup xs, .tup ys => eqoAll xs ys
  | .lst xs, .lst ys => eqoAll xs ys
  | .obj k xs, .obj l ys => k == l && eqoAll xs ys
  | _, _ => false
def eqoAll : List OD → List OD → Bool
  | [], [] => true
  | x :: xs, y :: ys => eqo x y && eqoAll xs ys
  | _, _ => false
end
mutual
def need : OD → Nat
  | .fl _ => 0
  | .tup xs => needAll xs + 1
  | .lst xs => needAll xs + 1
  | .obj k _ => (cl k).lv
def needAll : List OD → Nat
  | [] => 0
  | x :: xs => max (need x) (needAll xs)
end
variable (S : Nat → List OD → Prop)
mutual
def okO : OD → Prop
  | .fl _ => True
  | .tup xs => okAll xs
  | .lst xs => okAll xs
  | .obj k xs => S k xs ∧ okAll xs
def okAll : List OD → Prop
  | [] => True
  | x :: xs => okO x ∧ okAll xs
end
end
def flTy : V → String
  | .non => "NoneType"
  | .bl _ => "bool"
  | .int _ => "int"
  | _ => "str"
/-- the classes that are spoken of -/
def Dm (S : Nat → List OD → Prop) (k : Nat) : Prop := ∃ ds, S k ds
/-- what the text must have of the classes with an own == -/
structure OwnCls (K : PySem.W.Frag) (cl : Nat → OCls) (S : Nat → List OD → Prop) : Prop where
  eqf : ∀ k, Dm S k → PySem.W.findIn K (.ref (cl k).C) "__eq__" = some (some (.ref (cl k).f))
  isf : ∀ k, Dm S k → PySem.W.isFn K (.ref (cl k).f) = true
  inj : ∀ k l, Dm S k → Dm S l → (cl k).C = (cl l).C → k = l
  sub : ∀ k l, Dm S k → Dm S l → k ≠ l → PySem.W.subIn K (.ref (cl l).C) (.ref (cl k).C) = some false
  sT : ∀ k, Dm S k → ∀ T, T ∈ ["NoneType", "bool", "int", "str", "tuple", "list"] → PySem.W.subIn K (.type T) (.ref (cl k).C) = some false ∧ PySem.W.subIn K (.ref (cl k).C) (.type T) = some false
/-- what the own == of these classes promise -/
def OwnGives (X : Cx) (cl : Nat → OCls) (S : Nat → List OD → Prop) : Prop :=
  ∀ k ds, S k ds → ∀ (A : Around) (pins : List (Addr × Obj)) (s : Shared) (σ : St) (H : Hp) (a : Addr) (e : OD) (y : V) (v : Value), Sub X (cl k).lv A → Inv X pins σ H s → RelV y v → Oh X.K cl H (.obj k ds) (.ref a) → Oh X.K cl H e y → okAll S ds → okO S e →
    wpAny (model X.prog X.w) A (call (.ref (cl k).f) [.ref a, v]) (fun r s' => r = .bool (eqo (.obj k ds) e) ∧ ∃ H', Inv X pins σ H' s' ∧ Ext H H') X.xe s
section
variable {K : PySem.W.Frag} {cl : Nat → OCls} {S : Nat → List OD → Prop}
mutual
theorem Oh.ext {H H' : Hp} (x : Ext H H') : ∀ (d : OD) (v : V), Oh K cl H d v → Oh K cl H' d v
  | .fl _, _, h => h
  | .tup ds, _, ⟨a, xs, e, h, q⟩ => ⟨a, xs, e, h.ext x, OhAll.ext x ds xs q⟩
  | .lst ds, _, ⟨a, xs, e, h, q⟩ => ⟨a, xs, e, x _ _ h, OhAll.ext x ds xs q⟩
  | .obj _ ds, _, ⟨a, dx, fs, xs, e, h, l, q⟩ => ⟨a, dx, fs, xs, e, x _ _ h, l, OhAll.ext x ds xs q⟩
theorem OhAll.ext {H H' : Hp} (x : Ext H H') : ∀ (ds : List OD) (xs : List V), OhAll K cl H ds xs → OhAll K cl H' ds xs
  | [], _, h => h
  | d :: ds, _, ⟨v, ys, e, h, q⟩ => ⟨v, ys, e, Oh.ext x d v h, OhAll.ext x ds ys q⟩
end
theorem OhAll.length {H : Hp} : ∀ (ds : List OD) (xs : List V), OhAll K cl H ds xs → ds.length = xs.length
  | [], _, h => by cases h; rfl
  | d :: ds, _, ⟨v, ys, e, _, q⟩ => by rw [e, List.length_cons, List.length_cons, OhAll.length ds ys q]
theorem eqV_refl {v : V} (h : flatV v = true) : eqV v v = true := by
  cases v with
  | non => rfl
  | bl b => show (b == b) = true; exact beq_self_eq_true b
  | int b => show (b == b) = true; exact beq_self_eq_true b
  | str b => show (b == b) = true; exact beq_self_eq_true b
  | _ => cases h
theorem relV_inj {x y : V} {u : Value} (h : RelV x u) (h' : RelV y u) : x = y := by
  cases x <;> cases y <;> simp_all [RelV]
  all_goals (obtain ⟨t, rfl⟩ := h; obtain ⟨t', e⟩ := h'; cases e; try rfl)
theorem map_some_inj : ∀ {xs ys : List V}, xs.map some = ys.map some → xs = ys
  | [], [], _ => rfl
  | [], _ :: _, h => by cases h
  | _ :: _, [], h => by cases h
  | x :: xs, y :: ys, h => by
    rw [List.map_cons, List.map_cons] at h
    injection h with h1 h2
    rw [Option.some.inj h1, map_some_inj h2]
theorem vals_inj : ∀ {xs ys : List V} {us : List Value}, Vals xs us → Vals ys us → xs = ys
  | _, _, _, .nil, .nil => rfl
  | _, _, _, .cons a r, .cons b t => by rw [relV_inj a b, vals_inj r t]
section
variable {X : Cx} {pins : List (Addr × Obj)} {s : Shared} {σ : St} {H : Hp}
theorem tup_obj {a C dx : Addr} {xs : List V} {fs : List (Str × V)} (I : Inv X pins σ H s) (h : SqT X.K H a xs) (h' : H a = some (.ins C dx fs)) : False := by
  obtain ⟨its, r, t, z⟩ := I.tuple h
  obtain ⟨o, ho, hc, _⟩ := t
  obtain ⟨_, O, _⟩ := ins_get I.hok h'
  rw [O.obj] at ho
  cases ho
  cases hc
mutual
theorem eqo_same (W : OwnCls X.K cl S) (I : Inv X pins σ H s) : ∀ (d e : OD) (x : V), Oh X.K cl H d x → Oh X.K cl H e x → okO S d → okO S e → eqo d e = true
  | .fl v, .fl w, x, hd, he, _, _ => by
    obtain ⟨rfl, h⟩ := hd
    obtain ⟨rfl, h'⟩ := he
    exact eqV_refl h
  | .tup ds, .tup es, x, hd, he, oD, oE => by
    obtain ⟨a, xs, rfl, h, q⟩ := hd
    obtain ⟨b, ys, e, h', q'⟩ := he
    cases e
    obtain ⟨its, r, t, z⟩ := I.tuple h
    obtain ⟨its', r', t', z'⟩ := I.tuple h'
    obtain ⟨o, ho, _, n, hn⟩ := t
    obtain ⟨o', ho', _, n', hn'⟩ := t'
    rw [ho] at ho'
    cases ho'
    rw [hn] at hn'
    have e1 : its = its' := by injection hn' with e1 _; exact congrArg Array.toList e1
    subst e1
    rw [← vals_inj r r'] at q'
    exact eqoAll_same W I ds es xs q q' oD oE
  | .lst ds, .lst es, x, hd, he, oD, oE => by
    obtain ⟨a, xs, rfl, h, q⟩ := hd
    obtain ⟨b, ys, e, h', q'⟩ := he
    cases e
    rw [h] at h'
    cases h'
    exact eqoAll_same W I ds es xs q q' oD oE
  | .obj k ds, .obj l es, x, hd, he, oD, oE => by
    obtain ⟨a, dx, fs, xs, rfl, h, n, q⟩ := hd
    obtain ⟨b, dy, gs, ys, e, h', n', q'⟩ := he
    cases e
    rw [h] at h'
    have e1 : (cl k).C = (cl l).C := by injection h' with h'; injection h' with h'
    have e2 : fs = gs := by injection h' with h'; injection h' with _ _ h'
    have e3 := W.inj k l ⟨_, oD.1⟩ ⟨_, oE.1⟩ e1
    subst e3 e2
    rw [n] at n'
    have e4 : xs = ys := map_some_inj n'
    subst e4
    show (k == k && eqoAll ds es) = true
    rw [beq_self_eq_true, eqoAll_same W I ds es xs q q' oD.2 oE.2]
    rfl
  | .fl v, .tup _, x, hd, he, _, _ => by obtain ⟨rfl, h⟩ := hd; obtain ⟨a, xs, rfl, _⟩ := he; cases h
  | .fl v, .lst _, x, hd, he, _, _ => by obtain ⟨rfl, h⟩ := hd; obtain ⟨a, xs, rfl, _⟩ := he; cases h
  | .fl v, .obj _ _, x, hd, he, _, _ => by obtain ⟨rfl, h⟩ := hd; obtain ⟨a, dx, fs, xs, rfl, _⟩ := he; cases h
  | .tup _, .fl v, x, hd, he, _, _ => by obtain ⟨rfl, h⟩ := he; obtain ⟨a, xs, rfl, _⟩ := hd; cases h
  | .lst _, .fl v, x, hd, he, _, _ => by obtain ⟨rfl, h⟩ := he; obtain ⟨a, xs, rfl, _⟩ := hd; cases h
  | .obj _ _, .fl v, x, hd, he, _, _ => by obtain ⟨rfl, h⟩ := he; obtain ⟨a, dx, fs, xs, rfl, _⟩ := hd; cases h
  | .tup _, .lst _, x, hd, he, _, _ => by
    obtain ⟨a, xs, rfl, h, _⟩ := hd
    obtain ⟨b, ys, e, h', _⟩ := he
    cases e
    obtain ⟨its, r, t, z⟩ := I.tuple h
    obtain ⟨z2, its2, k2, r2, e2⟩ := I.hok _ _ h'
    exact absurd rfl (SeqAt.ne_of_list_tuple ⟨_, e2, rfl, _, rfl⟩ t)
  | .lst _, .tup _, x, hd, he, _, _ => by
    obtain ⟨a, xs, rfl, h, _⟩ := he
    obtain ⟨b, ys, e, h', _⟩ := hd
    cases e
    obtain ⟨its, r, t, z⟩ := I.tuple h
    obtain ⟨z2, its2, k2, r2, e2⟩ := I.hok _ _ h'
    exact absurd rfl (SeqAt.ne_of_list_tuple ⟨_, e2, rfl, _, rfl⟩ t)
  | .tup _, .obj _ _, x, hd, he, _, _ => by
    obtain ⟨a, xs, rfl, h, _⟩ := hd
    obtain ⟨b, dx, fs, ys, e, h', _⟩ := he
    cases e
    exact (tup_obj I h h').elim
  | .obj _ _, .tup _, x, hd, he, _, _ => by
    obtain ⟨a, xs, rfl, h, _⟩ := he
    obtain ⟨b, dx, fs, ys, e, h', _⟩ := hd
    cases e
    exact (tup_obj I h h').elim
  | .lst _, .obj _ _, x, hd, he, _, _ => by
    obtain ⟨a, xs, rfl, h, _⟩ := hd
    obtain ⟨b, dx, fs, ys, e, h', _⟩ := he
    cases e
    rw [h] at h'
    cases h'
  | .obj _ _, .lst _, x, hd, he, _, _ => by
    obtain ⟨a, xs, rfl, h, _⟩ := he
    obtain ⟨b, dx, fs, ys, e, h', _⟩ := hd
    cases e
    rw [h] at h'
    cases h'
theorem eqoAll_same (W : OwnCls X.K cl S) (I : Inv X pins σ H s) : ∀ (ds es : List OD) (xs : List V), OhAll X.K cl H ds xs → OhAll X.K cl H es xs → okAll S ds → okAll S es → eqoAll ds es = true
  | [], [], _, _, _, _, _ => rfl
  | d :: ds, e :: es, _, ⟨x, xs, rfl, h, q⟩, ⟨y, ys, e1, h', q'⟩, oD, oE => by
    cases e1
    show (eqo d e && eqoAll ds es) = true
    rw [eqo_same W I d e x h h' oD.1 oE.1, eqoAll_same W I ds es xs q q' oD.2 oE.2]
    rfl
  | [], e :: es, _, h, ⟨y, ys, e1, h', q'⟩, _, _ => by
    have h : _ = [] := h
    rw [e1] at h
    cases h
  | d :: ds, [], _, ⟨y, ys, e1, h', q'⟩, h, _, _ => by
    have h : _ = [] := h
    rw [e1] at h
    cases h
end
end
end
end L2
set_option linter.all false
namespace L2
open PySem PySem.Spec PyProof.Rows
section
variable {cl : Nat → OCls} {S : Nat → List OD → Prop} {X : Cx}
/-- what is asked where == is asked -/
abbrev After (X : Cx) (pins : List (Addr × Obj)) (σ : St) (H : Hp) (b : Bool) : Value → Shared → Prop := fun r s' => r = .bool b ∧ ∃ H', Inv X pins σ H' s' ∧ Ext H H'
theorem own_back (G : OwnGives X cl S) {k : Nat} {ds : List OD} (hk : S k ds) {A : Around} {pins : List (Addr × Obj)} {s : Shared} {σ : St} {H : Hp} {a : Addr} {e : OD} {y : V} {v : Value} (sb : Sub X (cl k).lv A) (I : Inv X pins σ H s) (ry : RelV y v) (h : Oh X.K cl H (.obj k ds) (.ref a)) (he : Oh X.K cl H e y) (oD : okAll S ds) (oE : okO S e) :
    wpAny (model X.prog X.w) A (call (.ref (cl k).f) [.ref a, v]) (PySem.W.CmpBack (After X pins σ H (eqo (.obj k ds) e))) X.xe s :=
  wpAny_mono (G k ds hk A pins s σ H a e y v sb I ry h he oD oE) (fun r s' q => by
    obtain ⟨rfl, q⟩ := q
    exact ⟨rfl, q⟩) fun _ _ e => e
theorem flTy_looks {x : V} {u : Value} (h : flatV x = true) (r : RelV x u) {M : Model} {hp : Heap} : PySem.W.Looks M hp (typeOf u) (.type (flTy x)) := by
  cases x with
  | non => cases r; exact PySem.W.Looks.of_pure rfl
  | bl b => cases r; exact PySem.W.Looks.of_pure rfl
  | int b => obtain ⟨t, rfl⟩ := r; exact PySem.W.Looks.of_pure rfl
  | str b => obtain ⟨t, rfl⟩ := r; exact PySem.W.Looks.of_pure rfl
  | _ => cases h
theorem flTy_mem {x : V} (h : flatV x = true) : flTy x ∈ ["NoneType", "bool", "int", "str", "tuple", "list"] := by
  cases x with
  | non => decide
  | bl b => simp [flTy]
  | int b => simp [flTy]
  | str b => simp [flTy]
  | _ => cases h
theorem ty_looks (W : OwnCls X.K cl S) {pins : List (Addr × Obj)} {s : Shared} {σ : St} {H : Hp} (I : Inv X pins σ H s) {k : Nat} (hk : Dm S k) {e : OD} {y : V} {v : Value} (ry : RelV y v) (he : Oh X.K cl H e y) (oE : okO S e) :
    ∃ tb, PySem.W.Looks (model X.prog X.w) s.heap (typeOf v) tb ∧ PySem.W.notFirst X.K (cl k).C tb = true := by
  cases e with
  | fl w =>
    obtain ⟨rfl, h⟩ := he
    refine ⟨_, flTy_looks h ry, ?_⟩
    unfold PySem.W.notFirst
    rw [(W.sT k hk _ (flTy_mem h)).1]
    simp
  | tup es =>
    obtain ⟨b, xs, rfl, h, _⟩ := he
    obtain rfl : v = Value.ref b := ry
    obtain ⟨its, r, ht, hz⟩ := I.tuple h
    obtain ⟨o, ho, hc⟩ := ht.typeIs
    refine ⟨.type "tuple", hc ▸ (PySem.W.Looks.ld ho).andThen .now, ?_⟩
    unfold PySem.W.notFirst
    rw [(W.sT k hk "tuple" (by decide)).1]
    simp
  | lst es =>
    obtain ⟨b, xs, rfl, h, _⟩ := he
    obtain rfl : v = Value.ref b := ry
    obtain ⟨z2, its2, k2, r2, e2⟩ := I.hok _ _ h
    refine ⟨.type "list", (PySem.W.Looks.ld e2).andThen .now, ?_⟩
    unfold PySem.W.notFirst
    rw [(W.sT k hk "list" (by decide)).1]
    simp
  | obj l es =>
    obtain ⟨b, dx, fs, xs, rfl, h, _, _⟩ := he
    obtain rfl : v = Value.ref b := ry
    obtain ⟨_, O2, _⟩ := ins_get I.hok h
    obtain ⟨o2, J2, _⟩ := O2.look
    refine ⟨.ref (cl l).C, J2.type, ?_⟩
    unfold PySem.W.notFirst
    by_cases hl : k = l
    · subst hl; simp
    · rw [W.sub k l hk ⟨_, oE.1⟩ hl]; simp
/-- an object with an own == on the left -/
theorem rcB_objL (W : OwnCls X.K cl S) (G : OwnGives X cl S) {k : Nat} {A : Around} {pins : List (Addr × Obj)} {s : Shared} {σ : St} {H : Hp} {ds : List OD} {e : OD} {x y : V} {u v : Value} (sb : Sub X (cl k).lv A) (I : Inv X pins σ H s) (rx : RelV x u) (ry : RelV y v) (h : Oh X.K cl H (.obj k ds) x) (he : Oh X.K cl H e y) (oD : okO S (.obj k ds)) (oE : okO S e) :
    wpAny (model X.prog X.w) A (richCompare .Eq u v) (After X pins σ H (eqo (.obj k ds) e)) X.xe s := by
  obtain ⟨a, dx, fs, xs, rfl, hi, hn, hq⟩ := id h
  cases rx
  obtain ⟨_, O1, _⟩ := ins_get I.hok hi
  obtain ⟨o1, J1, _⟩ := O1.look
  obtain ⟨m, hF⟩ := I.fr
  obtain ⟨tb, L, hn⟩ := ty_looks W I ⟨_, oD.1⟩ ry he oE
  exact PySem.W.cmp_K (op := .Eq) (tb := tb) sb.room.units0 hF I.ok.mod.kin J1 L hn (W.eqf k ⟨_, oD.1⟩) (W.isf k ⟨_, oD.1⟩) (own_back G oD.1 sb I ry h he oD.2 oE)
theorem eqo_obj_fl {k : Nat} {ds : List OD} {w : V} : eqo (.obj k ds) (.fl w) = false := by rw [eqo]; all_goals simp
theorem eqo_fl_obj {k : Nat} {ds : List OD} {w : V} : eqo (.fl w) (.obj k ds) = false := by rw [eqo]; all_goals simp
theorem eqo_obj_tup {k : Nat} {ds es : List OD} : eqo (.obj k ds) (.tup es) = false := by rw [eqo]; all_goals simp
theorem eqo_tup_obj {k : Nat} {ds es : List OD} : eqo (.tup es) (.obj k ds) = false := by rw [eqo]; all_goals simp
theorem eqo_obj_lst {k : Nat} {ds es : List OD} : eqo (.obj k ds) (.lst es) = false := by rw [eqo]; all_goals simp
theorem eqo_lst_obj {k : Nat} {ds es : List OD} : eqo (.lst es) (.obj k ds) = false := by rw [eqo]; all_goals simp
theorem rcB_flObj (W : OwnCls X.K cl S) (G : OwnGives X cl S) {k : Nat} {A : Around} {pins : List (Addr × Obj)} {s : Shared} {σ : St} {H : Hp} {ds : List OD} {w : V} {x y : V} {u v : Value} (sb : Sub X (cl k).lv A) (I : Inv X pins σ H s) (rx : RelV x u) (ry : RelV y v) (h : Oh X.K cl H (.fl w) x) (he : Oh X.K cl H (.obj k ds) y) (oE : okO S (.obj k ds)) :
    wpAny (model X.prog X.w) A (richCompare .Eq u v) (After X pins σ H (eqo (.fl w) (.obj k ds))) X.xe s := by
  obtain ⟨a, dx, fs, xs, rfl, hi, hn, hq⟩ := id he
  cases ry
  obtain ⟨_, O1, _⟩ := ins_get I.hok hi
  obtain ⟨o1, J1, _⟩ := O1.look
  obtain ⟨m, hF⟩ := I.fr
  have hb := own_back G oE.1 sb I rx he h oE.2 trivial
  rw [eqo_obj_fl] at hb
  rw [eqo_fl_obj]
  obtain ⟨rfl, hf⟩ := h
  have sT := (W.sT k ⟨_, oE.1⟩ _ (flTy_mem hf)).2
  have ox := O1.obj
  cases x with
  | non =>
    cases rx
    exact PySem.W.cmpR_K sb.room.units0 hF I.ok.mod.kin J1 rfl sT F.slot_NoneType_eq (fun _ hq => call_gives F.slot_NoneType_eq rfl F.entry_NoneType_eq (F.args_NoneType_eq_2 _ _) (SeqAt.NoneType___eq___none_ref_0 _) hq) (W.eqf k ⟨_, oE.1⟩) (W.isf k ⟨_, oE.1⟩) hb
  | int b =>
    obtain ⟨t, rfl⟩ := rx
    exact PySem.W.cmpR_K sb.room.units0 hF I.ok.mod.kin J1 (typeIs_int s b t) sT F.slot_int_eq (fun _ hq => call_meets F.slot_int_eq (typeIs_int s b t) F.entry_int_eq (F.args_int_eq_2 _ _) (SeqAt.int_eq_declines_plain b t _ _ _ _) ⟨ox, hq⟩) (W.eqf k ⟨_, oE.1⟩) (W.isf k ⟨_, oE.1⟩) hb
  | str b =>
    obtain ⟨t, rfl⟩ := rx
    exact PySem.W.cmpR_K sb.room.units0 hF I.ok.mod.kin J1 (typeIs_str s b t) sT F.slot_str_eq (fun _ hq => call_meets F.slot_str_eq (typeIs_str s b t) F.entry_str_eq (F.args_str_eq_2 _ _) (SeqAt.str_eq_declines_plain b t _ _ _ _) ⟨ox, hq⟩) (W.eqf k ⟨_, oE.1⟩) (W.isf k ⟨_, oE.1⟩) hb
  | bl b =>
    cases rx
    exact PySem.W.cmpR_K sb.room.units0 hF I.ok.mod.kin J1 (PySem.typeIs_bool s b) sT F.slot_bool_eq (fun _ hq => call_meets F.slot_bool_eq (PySem.typeIs_bool s b) F.entry_int_eq (F.args_int_eq_2 _ _) (SeqAt.bool_eq_declines_plain b _ _ _ _) ⟨ox, hq⟩) (W.eqf k ⟨_, oE.1⟩) (W.isf k ⟨_, oE.1⟩) hb
  | _ => cases hf
theorem rcB_tupObj (W : OwnCls X.K cl S) (G : OwnGives X cl S) {k : Nat} {A : Around} {pins : List (Addr × Obj)} {s : Shared} {σ : St} {H : Hp} {ds es : List OD} {x y : V} {u v : Value} (sb : Sub X (cl k).lv A) (I : Inv X pins σ H s) (rx : RelV x u) (ry : RelV y v) (h : Oh X.K cl H (.tup es) x) (he : Oh X.K cl H (.obj k ds) y) (oD : okO S (.tup es)) (oE : okO S (.obj k ds)) :
    wpAny (model X.prog X.w) A (richCompare .Eq u v) (After X pins σ H (eqo (.tup es) (.obj k ds))) X.xe s := by
  obtain ⟨a, dx, fs, xs, rfl, hi, hn, hq⟩ := id he
  cases ry
  obtain ⟨_, O1, _⟩ := ins_get I.hok hi
  obtain ⟨o1, J1, _⟩ := O1.look
  obtain ⟨m, hF⟩ := I.fr
  have hb := own_back G oE.1 sb I rx he h oE.2 oD
  rw [eqo_obj_tup] at hb
  rw [eqo_tup_obj]
  obtain ⟨b, ys, rfl, hs, _⟩ := h
  cases rx
  obtain ⟨its, r, ht, hz⟩ := I.tuple hs
  have sT := (W.sT k ⟨_, oE.1⟩ "tuple" (by decide)).2
  have hI : PySem.W.Looks (model X.prog X.w) s.heap (isInstance (.ref a) (.type "tuple")) false := J1.type.andThen (PySem.W.looks_subIn (I.ok.mod.kin.keeps hF.keep) sT)
  obtain ⟨⟨cls, dd, data, sl⟩, ho, hc, n, hd⟩ := id ht
  simp only at hc hd
  subst hc hd
  exact PySem.W.cmpR_K sb.room.units0 hF I.ok.mod.kin J1 ⟨_, ho, rfl⟩ sT F.slot_tuple_eq (fun Q' hq => GQ.call_here F.slot_tuple_eq ⟨_, ho, rfl⟩ F.entry_tuple_eq (F.args_tuple_eq_2 _ _) (SeqAt.tuple_eq_declines_own (R := wants Q' X.xe) b a _ n dd sl hI ho hq)) (W.eqf k ⟨_, oE.1⟩) (W.isf k ⟨_, oE.1⟩) hb
theorem rcB_lstObj (W : OwnCls X.K cl S) (G : OwnGives X cl S) {k : Nat} {A : Around} {pins : List (Addr × Obj)} {s : Shared} {σ : St} {H : Hp} {ds es : List OD} {x y : V} {u v : Value} (sb : Sub X (cl k).lv A) (I : Inv X pins σ H s) (rx : RelV x u) (ry : RelV y v) (h : Oh X.K cl H (.lst es) x) (he : Oh X.K cl H (.obj k ds) y) (oD : okO S (.lst es)) (oE : okO S (.obj k ds)) :
    wpAny (model X.prog X.w) A (richCompare .Eq u v) (After X pins σ H (eqo (.lst es) (.obj k ds))) X.xe s := by
  obtain ⟨a, dx, fs, xs, rfl, hi, hn, hq⟩ := id he
  cases ry
  obtain ⟨_, O1, _⟩ := ins_get I.hok hi
  obtain ⟨o1, J1, _⟩ := O1.look
  obtain ⟨m, hF⟩ := I.fr
  have hb := own_back G oE.1 sb I rx he h oE.2 oD
  rw [eqo_obj_lst] at hb
  rw [eqo_lst_obj]
  obtain ⟨b, ys, rfl, hs, _⟩ := h
  cases rx
  obtain ⟨z, its, n, r, ho⟩ := I.hok _ _ hs
  have sT := (W.sT k ⟨_, oE.1⟩ "list" (by decide)).2
  have hI : PySem.W.Looks (model X.prog X.w) s.heap (isInstance (.ref a) (.type "list")) false := J1.type.andThen (PySem.W.looks_subIn (I.ok.mod.kin.keeps hF.keep) sT)
  exact PySem.W.cmpR_K sb.room.units0 hF I.ok.mod.kin J1 ⟨_, ho, rfl⟩ sT F.slot_list_eq (fun Q' hq => GQ.call_here F.slot_list_eq ⟨_, ho, rfl⟩ F.entry_list_eq (F.args_list_eq_2 _ _) (SeqAt.list_eq_declines_own (R := wants Q' X.xe) b a _ n hI ho hq)) (W.eqf k ⟨_, oE.1⟩) (W.isf k ⟨_, oE.1⟩) hb
theorem allEq_eqo : ∀ (ds es : List OD) (e : Nat → Bool), (∀ i d c, ds[i]? = some d → es[i]? = some c → e i = eqo d c) → GQ.allEq ds.length es.length e = eqoAll ds es
  | [], [], e, _ => rfl
  | [], _ :: _, e, _ => by simp [GQ.allEq, eqoAll]
  | _ :: _, [], e, _ => by simp [GQ.allEq, eqoAll]
  | d :: ds, c :: es, e, h => by
    have ih := allEq_eqo ds es (fun i => e (i + 1)) fun i d' c' h1 h2 => h (i + 1) d' c' (by simpa using h1) (by simpa using h2)
    have h0 : e 0 = eqo d c := h 0 d c rfl rfl
    unfold GQ.allEq at ih ⊢
    rw [eqoAll, ← ih, ← h0]
    have hm : min (d :: ds).length (c :: es).length = min ds.length es.length + 1 := by simp [Nat.succ_min_succ]
    rw [hm, List.range_succ_eq_map, List.all_cons, List.all_map]
    simp [Function.comp_def, Bool.and_assoc]
theorem need_get : ∀ (ds : List OD) (i : Nat) (d : OD), ds[i]? = some d → need cl d ≤ needAll cl ds
  | [], i, d, h => by simp at h
  | x :: xs, 0, d, h => by
    simp at h
    subst h
    show need cl x ≤ max (need cl x) (needAll cl xs)
    omega
  | x :: xs, i + 1, d, h => by
    have := need_get xs i d (by simpa using h)
    show need cl d ≤ max (need cl x) (needAll cl xs)
    omega
theorem okAll_get : ∀ (ds : List OD) (i : Nat) (d : OD), okAll S ds → ds[i]? = some d → okO S d
  | [], i, d, _, h => by simp at h
  | x :: xs, 0, d, o, h => by simp at h; subst h; exact o.1
  | x :: xs, i + 1, d, o, h => okAll_get xs i d o.2 (by simpa using h)
theorem ohAll_get {K : PySem.W.Frag} {H : Hp} : ∀ (ds : List OD) (xs : List V) (i : Nat) (x : V), OhAll K cl H ds xs → xs[i]? = some x → ∃ d, ds[i]? = some d ∧ Oh K cl H d x
  | [], xs, i, x, h, e => by cases h; simp at e
  | d :: ds, _, 0, x, ⟨y, ys, rfl, h, q⟩, e => by simp at e; subst e; exact ⟨d, rfl, h⟩
  | d :: ds, _, i + 1, x, ⟨y, ys, rfl, h, q⟩, e => by
    obtain ⟨d', h1, h2⟩ := ohAll_get ds ys i x q (by simpa using e)
    exact ⟨d', by simpa using h1, h2⟩
def EqOD (X : Cx) (cl : Nat → OCls) (S : Nat → List OD → Prop) (d e : OD) : Prop :=
  ∀ (A : Around) (pins : List (Addr × Obj)) (s : Shared) (σ : St) (H : Hp) (x y : V) (u v : Value), Sub X (max (need cl d) (need cl e)) A → Inv X pins σ H s → RelV x u → RelV y v → Oh X.K cl H d x → Oh X.K cl H e y → okO S d → okO S e →
    wpAny (model X.prog X.w) A (eqBool u v) (fun r s' => r = eqo d e ∧ ∃ H', Inv X pins σ H' s' ∧ Ext H H') X.xe s
def RcOD (X : Cx) (cl : Nat → OCls) (S : Nat → List OD → Prop) (d e : OD) : Prop :=
  ∀ (A : Around) (pins : List (Addr × Obj)) (s : Shared) (σ : St) (H : Hp) (x y : V) (u v : Value), Sub X (max (need cl d) (need cl e)) A → Inv X pins σ H s → RelV x u → RelV y v → Oh X.K cl H d x → Oh X.K cl H e y → okO S d → okO S e →
    wpAny (model X.prog X.w) A (richCompare .Eq u v) (After X pins σ H (eqo d e)) X.xe s
/-- what the items of two rows need -/
theorem turnOD {ds es : List OD} (h : ∀ (i : Nat) (d e : OD), ds[i]? = some d → es[i]? = some e → EqOD X cl S d e) {A : Around} (sb : Sub X (max (needAll cl ds) (needAll cl es) + 1) A) {pins : List (Addr × Obj)} {σ : St} {H : Hp} {xs ys : List V} {its its2 : List Value}
    (p : OhAll X.K cl H ds xs) (q : OhAll X.K cl H es ys) (oD : okAll S ds) (oE : okAll S es) (r : Vals xs its) (r2 : Vals ys its2) (c : Nat → Bool) (hc : ∀ (i : Nat) (d e : OD), ds[i]? = some d → es[i]? = some e → c i = eqo d e)
    (i : Nat) (h1 : i < its.toArray.size) (h2 : i < its2.toArray.size) (s' : Shared) (l : LoopI X pins σ H s') :
    wpAny (model X.prog X.w) A.in1 (eqBool its.toArray[i] its2.toArray[i]) (fun r s2 => r = c i ∧ LoopI X pins σ H s2) X.xe s' := by
  obtain ⟨H1, I1, e1⟩ := l
  have g1 : its[i]? = some its.toArray[i] := by
    have h1' : i < its.length := by simpa using h1
    rw [List.getElem?_eq_getElem h1'] <;> simp
  have g2 : its2[i]? = some its2.toArray[i] := by
    have h2' : i < its2.length := by simpa using h2
    rw [List.getElem?_eq_getElem h2'] <;> simp
  have k1 : i < xs.length := by rw [r.length]; simpa using h1
  have k2 : i < ys.length := by rw [r2.length]; simpa using h2
  obtain ⟨u, hu, ru⟩ := r.get (List.getElem?_eq_getElem k1)
  obtain ⟨v, hv, rv⟩ := r2.get (List.getElem?_eq_getElem k2)
  rw [g1] at hu
  rw [g2] at hv
  rw [Option.some.inj hu, Option.some.inj hv]
  obtain ⟨d, hd, od⟩ := ohAll_get ds xs i _ p (List.getElem?_eq_getElem k1)
  obtain ⟨e, he, oe⟩ := ohAll_get es ys i _ q (List.getElem?_eq_getElem k2)
  have n1 := need_get (cl := cl) ds i d hd
  have n2 := need_get (cl := cl) es i e he
  refine wpAny_mono (h i d e hd he A.in1 pins s' σ H1 _ _ u v (sb.in1.mono (by omega)) I1 ru rv (Oh.ext e1 _ _ od) (Oh.ext e1 _ _ oe) (okAll_get ds i d oD hd) (okAll_get es i e oE he)) (fun r s2 q => ?_) fun _ _ x => x
  obtain ⟨hr, H2, I2, e2⟩ := q
  exact ⟨hr.trans (hc i d e hd he).symm, H2, I2, e1.trans e2⟩
/-- the answers of the pairs -/
def pairs (ds es : List OD) (i : Nat) : Bool := match ds[i]?, es[i]? with
  | some d, some e => eqo d e
  | _, _ => false
theorem pairs_eq {ds es : List OD} {i : Nat} {d e : OD} (h1 : ds[i]? = some d) (h2 : es[i]? = some e) : pairs ds es i = eqo d e := by unfold pairs; rw [h1, h2]
theorem rcOD_tup {ds es : List OD} (h : ∀ (i : Nat) (d e : OD), ds[i]? = some d → es[i]? = some e → EqOD X cl S d e) : RcOD X cl S (.tup ds) (.tup es) := by
  intro A pins s σ H x y u v sb I rx ry hd he oD oE
  obtain ⟨a, xs, rfl, ha, p⟩ := hd
  obtain ⟨b, ys, rfl, hb, q⟩ := he
  cases rx
  cases ry
  obtain ⟨its, r, e, z⟩ := I.tuple ha
  obtain ⟨its2, r2, e2, z2⟩ := I.tuple hb
  have sb' : Sub X (max (needAll cl ds) (needAll cl es) + 1) A := sb.mono (by show _ ≤ max (needAll cl ds + 1) (needAll cl es + 1); omega)
  have z1 : GQ.allEq its.toArray.size its2.toArray.size (pairs ds es) = eqo (.tup ds) (.tup es) := by
    rw [List.size_toArray, List.size_toArray, ← r.length, ← r2.length, ← OhAll.length ds xs p, ← OhAll.length es ys q]
    exact allEq_eqo ds es _ fun i d c h1 h2 => pairs_eq h1 h2
  exact GQ.rc_tupB sb.room.units0 (fun _ s' => LoopI X pins σ H s') e e2 (fun i h1 h2 s' l => turnOD h sb' p q oD oE r r2 (pairs ds es) (fun i d c h1 h2 => pairs_eq h1 h2) i h1 h2 s' l) (fun i s' l => by rw [z1]; exact ⟨rfl, l⟩) ⟨H, I, Ext.rfl'⟩
theorem rcOD_lst {ds es : List OD} (h : ∀ (i : Nat) (d e : OD), ds[i]? = some d → es[i]? = some e → EqOD X cl S d e) : RcOD X cl S (.lst ds) (.lst es) := by
  intro A pins s σ H x y u v sb I rx ry hd he oD oE
  obtain ⟨a, xs, rfl, ha, p⟩ := hd
  obtain ⟨b, ys, rfl, hb, q⟩ := he
  cases rx
  cases ry
  have sb' : Sub X (max (needAll cl ds) (needAll cl es) + 1) A := sb.mono (by show _ ≤ max (needAll cl ds + 1) (needAll cl es + 1); omega)
  have l1 := OhAll.length ds xs p
  have l2 := OhAll.length es ys q
  by_cases hl : ds.length = es.length
  · have z1 : (List.range ds.length).all (pairs ds es) = eqo (.lst ds) (.lst es) := by
      have := allEq_eqo ds es (pairs ds es) fun i d c h1 h2 => pairs_eq h1 h2
      unfold GQ.allEq at this
      rw [show eqo (.lst ds) (.lst es) = eqoAll ds es from rfl, ← this, ← hl]
      simp
    refine GQ.rc_listB (N := ds.length) (e := pairs ds es) sb.room.units0 (fun _ s' => LoopI X pins σ H s') (fun i s' l => ?_) (fun i s' l => by rw [z1]; exact ⟨rfl, l⟩) ⟨H, I, Ext.rfl'⟩
    obtain ⟨H1, I1, e1⟩ := id l
    obtain ⟨z, its, k, r, e⟩ := I1.hok a _ (e1 _ _ ha)
    obtain ⟨z2, its2, k2, r2, e2⟩ := I1.hok b _ (e1 _ _ hb)
    refine ⟨its.toArray, its2.toArray, k, k2, e, e2, by rw [List.size_toArray, ← r.length, l1], by rw [List.size_toArray, ← r2.length, hl, l2], fun h1 h2 => ?_⟩
    exact turnOD h sb' p q oD oE r r2 (pairs ds es) (fun i d c h1 h2 => pairs_eq h1 h2) i h1 h2 s' l
  · obtain ⟨z, its, k, r, e⟩ := I.hok a _ ha
    obtain ⟨z2, its2, k2, r2, e2⟩ := I.hok b _ hb
    have z1 : eqo (.lst ds) (.lst es) = false := by
      have := allEq_eqo ds es (pairs ds es) fun i d c h1 h2 => pairs_eq h1 h2
      unfold GQ.allEq at this
      rw [show eqo (.lst ds) (.lst es) = eqoAll ds es from rfl, ← this]
      simp [hl]
    rw [z1]
    exact SeqAt.RcAt.lists_lengths ⟨_, e, rfl, _, rfl⟩ ⟨_, e2, rfl, _, rfl⟩ (by rw [List.size_toArray, List.size_toArray, ← r.length, ← r2.length, ← l1, ← l2]; simpa using hl) sb.room.units0 X.prog X.w X.xe _ ⟨rfl, H, I, Ext.rfl'⟩
theorem eqOD_ref (W : OwnCls X.K cl S) {d e : OD} (h : RcOD X cl S d e) (hd : ∀ H x, Oh X.K cl H d x → ∃ a, x = .ref a) (he : ∀ H x, Oh X.K cl H e x → ∃ a, x = .ref a) : EqOD X cl S d e := by
  intro A pins s σ H x y u v sb I rx ry od oe oD oE
  obtain ⟨a, rfl⟩ := hd _ _ od
  obtain ⟨b, rfl⟩ := he _ _ oe
  cases rx
  cases ry
  by_cases hab : a = b
  · subst hab
    have e1 := eqo_same W I d e _ od oe oD oE
    exact SeqAt.EqAt.same (A := A) (s := s) (.ref a) X.prog X.w X.xe _ ⟨e1.symm, H, I, Ext.rfl'⟩
  · refine GQ.eqBool_refG hab (wpAny_mono (h A pins s σ H (.ref a) (.ref b) _ _ sb I rfl rfl od oe oD oE) (fun r s' q => ?_) fun _ _ x => x)
    obtain ⟨hr', q⟩ := q
    exact ⟨_, hr', rfl, q⟩
theorem oh_tup_ref {K : PySem.W.Frag} {ds : List OD} (H : Hp) (x : V) (h : Oh K cl H (.tup ds) x) : ∃ a, x = .ref a := let ⟨a, _, e, _⟩ := h; ⟨a, e⟩
theorem oh_lst_ref {K : PySem.W.Frag} {ds : List OD} (H : Hp) (x : V) (h : Oh K cl H (.lst ds) x) : ∃ a, x = .ref a := let ⟨a, _, e, _⟩ := h; ⟨a, e⟩
theorem oh_obj_ref {K : PySem.W.Frag} {k : Nat} {ds : List OD} (H : Hp) (x : V) (h : Oh K cl H (.obj k ds) x) : ∃ a, x = .ref a := let ⟨a, _, _, _, e, _⟩ := h; ⟨a, e⟩
theorem eqo_fl_tup {w : V} {ds : List OD} : eqo (.fl w) (.tup ds) = false := by rw [eqo]; all_goals simp
theorem eqo_tup_fl {w : V} {ds : List OD} : eqo (.tup ds) (.fl w) = false := by rw [eqo]; all_goals simp
theorem eqo_fl_lst {w : V} {ds : List OD} : eqo (.fl w) (.lst ds) = false := by rw [eqo]; all_goals simp
theorem eqo_lst_fl {w : V} {ds : List OD} : eqo (.lst ds) (.fl w) = false := by rw [eqo]; all_goals simp
theorem eqo_tup_lst {es ds : List OD} : eqo (.tup ds) (.lst es) = false := by rw [eqo]; all_goals simp
theorem eqo_lst_tup {es ds : List OD} : eqo (.lst ds) (.tup es) = false := by rw [eqo]; all_goals simp
theorem eqBool_no {P : Program} {w : World} {A : Around} {E : Value → Shared → Prop} {s : Shared} {u v : Value} {Q : Bool → Shared → Prop} (hn : (u == v) = false) (hf : ∀ x t, u ≠ .float x t) (h : wpAny (model P w) A (richCompare .Eq u v) (fun v s' => ∃ r, v = .bool r ∧ Q r s') E s) : wpAny (model P w) A (eqBool u v) Q E s := by
  unfold eqBool
  refine wpAny_holding ?_
  refine wpAny_ite_split (fun hab => absurd hab (by rw [hn]; exact Bool.false_ne_true)) (fun _ => ?_)
  have fin : wpAny (model P w) A (richCompare .Eq u v >>= truthOfDropped) Q E s := by
    refine wpAny_bind (wpAny_mono h (fun v s' hv => ?_) fun _ _ x => x)
    obtain ⟨r, rfl, q⟩ := hv
    exact wpAny_truthy_bool q
  cases u with
  | float x t => exact absurd rfl (hf x t)
  | _ => exact fin
theorem flat_ne_ref {x : V} {u : Value} {a : Addr} (h : flatV x = true) (r : RelV x u) : (u == .ref a) = false ∧ (Value.ref a == u) = false ∧ ∀ x t, u ≠ .float x t := by
  cases x with
  | non => cases r; exact ⟨rfl, rfl, nofun⟩
  | bl b => cases r; exact ⟨rfl, rfl, nofun⟩
  | int b => obtain ⟨t, rfl⟩ := r; exact ⟨rfl, rfl, nofun⟩
  | str b => obtain ⟨t, rfl⟩ := r; exact ⟨rfl, rfl, nofun⟩
  | _ => cases h
theorem flat_tup {x : V} {u : Value} (h : flatV x = true) (r : RelV x u) {A : Around} {s : Shared} {b : Addr} {items : Array Value} (ht : s.heap.IsTuple b items) (hu : A.units < cLine) : SeqAt.EqAt A s u (.ref b) false ∧ SeqAt.EqAt A s (.ref b) u false := by
  cases x with
  | non => cases r; exact ⟨SeqAt.EqAt.none_tuple ht hu, SeqAt.EqAt.tuple_none ht hu⟩
  | bl b => cases r; exact ⟨SeqAt.EqAt.bool_tuple b ht hu, SeqAt.EqAt.tuple_bool b ht hu⟩
  | int b => obtain ⟨t, rfl⟩ := r; exact ⟨SeqAt.EqAt.int_tuple b t ht hu, SeqAt.EqAt.tuple_int b t ht hu⟩
  | str b => obtain ⟨t, rfl⟩ := r; exact ⟨SeqAt.EqAt.str_tuple b t ht hu, SeqAt.EqAt.tuple_str b t ht hu⟩
  | _ => cases h
theorem flat_lst {x : V} {u : Value} (h : flatV x = true) (r : RelV x u) {A : Around} {s : Shared} {b : Addr} {items : Array Value} (ht : s.heap.IsList b items) (hu : A.units < cLine) : SeqAt.EqAt A s u (.ref b) false ∧ SeqAt.EqAt A s (.ref b) u false := by
  cases x with
  | non => cases r; exact ⟨SeqAt.EqAt.none_list ht hu, SeqAt.EqAt.list_none ht hu⟩
  | bl b => cases r; exact ⟨SeqAt.EqAt.bool_list b ht hu, SeqAt.EqAt.list_bool b ht hu⟩
  | int b => obtain ⟨t, rfl⟩ := r; exact ⟨SeqAt.EqAt.int_list b t ht hu, SeqAt.EqAt.list_int b t ht hu⟩
  | str b => obtain ⟨t, rfl⟩ := r; exact ⟨SeqAt.EqAt.str_list b t ht hu, SeqAt.EqAt.list_str b t ht hu⟩
  | _ => cases h
theorem eq_fl_fl (v w : V) : EqOD X cl S (.fl v) (.fl w) := by
  intro A pins s σ H x y u u' sb I rx ry od oe oD oE
  obtain ⟨rfl, h⟩ := od
  obtain ⟨rfl, h'⟩ := oe
  exact eqAt_V (A := A) (s := s) rx ry h h' X.prog X.w X.xe _ ⟨rfl, H, I, Ext.rfl'⟩
theorem eq_fl_tup (v : V) (ds : List OD) : EqOD X cl S (.fl v) (.tup ds) ∧ EqOD X cl S (.tup ds) (.fl v) := by
  refine ⟨fun A pins s σ H x y u u' sb I rx ry od oe oD oE => ?_, fun A pins s σ H x y u u' sb I rx ry oe od oE oD => ?_⟩
  · obtain ⟨rfl, h⟩ := od
    obtain ⟨b, ys, rfl, hb, q⟩ := oe
    cases ry
    obtain ⟨its, r, e, z⟩ := I.tuple hb
    exact (flat_tup h rx e sb.room.units0).1 X.prog X.w X.xe _ ⟨eqo_fl_tup.symm, H, I, Ext.rfl'⟩
  · obtain ⟨rfl, h⟩ := od
    obtain ⟨b, ys, rfl, hb, q⟩ := oe
    cases rx
    obtain ⟨its, r, e, z⟩ := I.tuple hb
    exact (flat_tup h ry e sb.room.units0).2 X.prog X.w X.xe _ ⟨eqo_tup_fl.symm, H, I, Ext.rfl'⟩
theorem eq_fl_lst (v : V) (ds : List OD) : EqOD X cl S (.fl v) (.lst ds) ∧ EqOD X cl S (.lst ds) (.fl v) := by
  refine ⟨fun A pins s σ H x y u u' sb I rx ry od oe oD oE => ?_, fun A pins s σ H x y u u' sb I rx ry oe od oE oD => ?_⟩
  · obtain ⟨rfl, h⟩ := od
    obtain ⟨b, ys, rfl, hb, q⟩ := oe
    cases ry
    obtain ⟨z, its, n, r, e⟩ := I.hok _ _ hb
    exact (flat_lst h rx ⟨_, e, rfl, _, rfl⟩ sb.room.units0).1 X.prog X.w X.xe _ ⟨eqo_fl_lst.symm, H, I, Ext.rfl'⟩
  · obtain ⟨rfl, h⟩ := od
    obtain ⟨b, ys, rfl, hb, q⟩ := oe
    cases rx
    obtain ⟨z, its, n, r, e⟩ := I.hok _ _ hb
    exact (flat_lst h ry ⟨_, e, rfl, _, rfl⟩ sb.room.units0).2 X.prog X.w X.xe _ ⟨eqo_lst_fl.symm, H, I, Ext.rfl'⟩
theorem eq_tup_lst (ds es : List OD) : EqOD X cl S (.tup ds) (.lst es) ∧ EqOD X cl S (.lst es) (.tup ds) := by
  refine ⟨fun A pins s σ H x y u u' sb I rx ry od oe oD oE => ?_, fun A pins s σ H x y u u' sb I rx ry oe od oE oD => ?_⟩
  · obtain ⟨a, xs, rfl, ha, _⟩ := od
    obtain ⟨b, ys, rfl, hb, q⟩ := oe
    cases rx
    cases ry
    obtain ⟨its, r, t, z⟩ := I.tuple ha
    obtain ⟨z, its, n, r, e⟩ := I.hok _ _ hb
    exact SeqAt.EqAt.tuple_list t ⟨_, e, rfl, _, rfl⟩ sb.room.units0 X.prog X.w X.xe _ ⟨eqo_tup_lst.symm, H, I, Ext.rfl'⟩
  · obtain ⟨a, xs, rfl, ha, _⟩ := od
    obtain ⟨b, ys, rfl, hb, q⟩ := oe
    cases rx
    cases ry
    obtain ⟨its, r, t, z⟩ := I.tuple ha
    obtain ⟨z, its, n, r, e⟩ := I.hok _ _ hb
    exact SeqAt.EqAt.list_tuple ⟨_, e, rfl, _, rfl⟩ t sb.room.units0 X.prog X.w X.xe _ ⟨eqo_lst_tup.symm, H, I, Ext.rfl'⟩
theorem rc_obj (W : OwnCls X.K cl S) (G : OwnGives X cl S) (k : Nat) (ds : List OD) (e : OD) : RcOD X cl S (.obj k ds) e :=
  fun A pins s σ H x y u v sb I rx ry od oe oD oE => rcB_objL W G (sb.mono (Nat.le_max_left _ _)) I rx ry od oe oD oE
theorem rc_flObj (W : OwnCls X.K cl S) (G : OwnGives X cl S) (k : Nat) (ds : List OD) (w : V) : RcOD X cl S (.fl w) (.obj k ds) :=
  fun A pins s σ H x y u v sb I rx ry od oe oD oE => rcB_flObj W G (sb.mono (Nat.le_max_right _ _)) I rx ry od oe oE
theorem rc_tupObj (W : OwnCls X.K cl S) (G : OwnGives X cl S) (k : Nat) (ds es : List OD) : RcOD X cl S (.tup es) (.obj k ds) :=
  fun A pins s σ H x y u v sb I rx ry od oe oD oE => rcB_tupObj W G (sb.mono (Nat.le_max_right _ _)) I rx ry od oe oD oE
theorem rc_lstObj (W : OwnCls X.K cl S) (G : OwnGives X cl S) (k : Nat) (ds es : List OD) : RcOD X cl S (.lst es) (.obj k ds) :=
  fun A pins s σ H x y u v sb I rx ry od oe oD oE => rcB_lstObj W G (sb.mono (Nat.le_max_right _ _)) I rx ry od oe oD oE
theorem eq_of_rc_fl {k : Nat} {ds : List OD} {w : V} (h1 : RcOD X cl S (.fl w) (.obj k ds)) (h2 : RcOD X cl S (.obj k ds) (.fl w)) : EqOD X cl S (.fl w) (.obj k ds) ∧ EqOD X cl S (.obj k ds) (.fl w) := by
  refine ⟨fun A pins s σ H x y u u' sb I rx ry od oe oD oE => ?_, fun A pins s σ H x y u u' sb I rx ry od oe oD oE => ?_⟩
  · have q := h1 A pins s σ H x y u u' sb I rx ry od oe oD oE
    obtain ⟨rfl, h⟩ := od
    obtain ⟨a, rfl⟩ := oh_obj_ref _ _ oe
    cases ry
    obtain ⟨n1, n2, n3⟩ := flat_ne_ref (a := a) h rx
    exact eqBool_no n1 n3 (wpAny_mono q (fun r s' z => ⟨_, z.1, rfl, z.2⟩) fun _ _ x => x)
  · have q := h2 A pins s σ H x y u u' sb I rx ry od oe oD oE
    obtain ⟨rfl, h⟩ := oe
    obtain ⟨a, rfl⟩ := oh_obj_ref _ _ od
    cases rx
    obtain ⟨n1, n2, n3⟩ := flat_ne_ref (a := a) h ry
    exact eqBool_no n2 nofun (wpAny_mono q (fun r s' z => ⟨_, z.1, rfl, z.2⟩) fun _ _ x => x)
mutual
theorem eqOD (W : OwnCls X.K cl S) (G : OwnGives X cl S) : ∀ (d e : OD), EqOD X cl S d e
  | .fl v, .fl w => eq_fl_fl v w
  | .fl v, .tup ds => (eq_fl_tup v ds).1
  | .fl v, .lst ds => (eq_fl_lst v ds).1
  | .fl v, .obj k ds => (eq_of_rc_fl (rc_flObj W G k ds v) (rc_obj W G k ds (.fl v))).1
  | .tup ds, .fl v => (eq_fl_tup v ds).2
  | .lst ds, .fl v => (eq_fl_lst v ds).2
  | .obj k ds, .fl v => (eq_of_rc_fl (rc_flObj W G k ds v) (rc_obj W G k ds (.fl v))).2
  | .tup ds, .lst es => (eq_tup_lst ds es).1
  | .lst ds, .tup es => (eq_tup_lst es ds).2
  | .tup ds, .obj k es => eqOD_ref W (rc_tupObj W G k es ds) oh_tup_ref oh_obj_ref
  | .lst ds, .obj k es => eqOD_ref W (rc_lstObj W G k es ds) oh_lst_ref oh_obj_ref
  | .obj k es, .tup ds => eqOD_ref W (rc_obj W G k es (.tup ds)) oh_obj_ref oh_tup_ref
  | .obj k es, .lst ds => eqOD_ref W (rc_obj W G k es (.lst ds)) oh_obj_ref oh_lst_ref
  | .obj k es, .obj l ds => eqOD_ref W (rc_obj W G k es (.obj l ds)) oh_obj_ref oh_obj_ref
  | .tup ds, .tup es => eqOD_ref W (rcOD_tup (eqODs W G ds es)) oh_tup_ref oh_tup_ref
  | .lst ds, .lst es => eqOD_ref W (rcOD_lst (eqODs W G ds es)) oh_lst_ref oh_lst_ref
theorem eqODs (W : OwnCls X.K cl S) (G : OwnGives X cl S) : ∀ (ds es : List OD) (i : Nat) (d e : OD), ds[i]? = some d → es[i]? = some e → EqOD X cl S d e
  | x :: xs, y :: ys, 0, d, e, h1, h2 => by
    have q := eqOD W G x y
    simp at h1 h2
    subst h1 h2
    exact q
  | x :: xs, y :: ys, i + 1, d, e, h1, h2 => eqODs W G xs ys i d e (by simpa using h1) (by simpa using h2)
  | [], es, i, d, e, h1, h2 => by simp at h1
  | x :: xs, [], i, d, e, h1, h2 => by simp at h2
end
end
end L2
set_option linter.all false
namespace PySem.W
open PyProof.Rows Builtin
section
variable {prog : Program} {w : World} {A : Around} {E : Value → Shared → Prop} {s : Shared} {K : Frag} {x C L f : Addr} {h₀ : Heap} {m : Str → Option Value} {ox : Obj} {od : Option Obj} {b tb : Value}
theorem ifBound_objNe {M : Model} {args : List Value} {Q : Option Value → Shared → Prop} (X : K.In s.heap) (I : InstAt s.heap x ox C od) (hs : findIn K (.ref C) "__ne__" = some (some (.builtin "object.__ne__")))
    (h : wpAny M A (call (.builtin "object.__ne__") (.ref x :: args)) (fun v => Q (some v)) E s) : wpAny M A (callSpecialIfBound? (.ref x) "__ne__" args) Q E s := by
  simp only [callSpecialIfBound?, bindSpecialIfBound?]
  refine wpAny_holding (wpAny_bind (wpAny_bind (wpAny_bind (I.type.here ((looks_findIn X hs).here ?_)))))
  refine wpAny_bind (wpAny_askSetting (wpAny_ite ?_))
  have fin : wpAny M A (call (.builtin "object.__ne__") ([.ref x] ++ args) >>= fun v => pure (some v)) Q E s := wpAny_bind (wpAny_mono h (fun v s' h' => wpAny_pure h') fun _ _ h' => h')
  split
  · exact wpAny_bind (wpAny_of_eq (F.cmp_object.ne.bind _) (wpAny_pure (by exact fin)))
  · exact wpAny_tryCatch (wpAny_bind (wpAny_of_eq (F.cmp_object.ne.bind _) (wpAny_pure (by exact fin))))
theorem objNe_entry {Q : Fin → Shared → Prop} (X : K.In s.heap) (I : InstAt s.heap x ox C od) (he : findIn K (.ref C) "__eq__" = some (some (.ref f))) (hf : isFn K (.ref f) = true) (hu : A.units < cLine)
    (hcall : wpAny (model prog w) A (call (.ref f) [.ref x, b]) (fun v s' => ∃ b, v = .bool b ∧ Q (.done (.ret (.bool (!b)))) s') E s) :
    wpAny (model prog w) A (Builtin.«object.__ne__» ⟨[.ref x, b], []⟩) Q E s := by
  unfold Builtin.«object.__ne__»
  repeat (first
    | with_reducible refine wpAny_cRoomFor hu ?_
    | (refine wpAny_bind (m := callSpecialIfBound? (.ref x) (Str.ofString "__eq__") [b])
        (ifBound_K X I he hf (wpAny_mono hcall (fun v s' hr => by
          obtain ⟨b, rfl, hq⟩ := hr
          repeat (first | exact hq | exact wpAny_pure hq | exact wpAny_truthy_bool hq | (refine wpAny_bind (m := truthy (.bool _)) (wpAny_truthy_bool ?_)) | wp_step)) fun _ _ e => e)))
    | wp_step)
/-- x != b, x an object with an own == and no != -/
theorem ne_K {Q : Value → Shared → Prop} (hu : A.units + 1 < cLine) (F0 : Fr h₀ L s.heap m) (X₀ : K.In h₀) (I : InstAt s.heap x ox C od) (hb : Looks (model prog w) s.heap (typeOf b) tb) (hn : notFirst K C tb = true)
    (hm : mroIn K C (.type "object") = some true) (hs : findIn K (.ref C) "__ne__" = some (some (.builtin "object.__ne__"))) (he : findIn K (.ref C) "__eq__" = some (some (.ref f))) (hf : isFn K (.ref f) = true)
    (h : wpAny (model prog w) A.in1 (call (.ref f) [.ref x, b]) (fun v s' => ∃ k, v = .bool k ∧ Q (.bool (!k)) s') E s) : wpAny (model prog w) A (richCompare .NotEq (.ref x) b) Q E s := by
  have X := X₀.keeps F0.keep
  have one : wpAny (model prog w) A (tryCompare (.ref x) (cmpInfo .NotEq).2.1 b) (fun r s' => ∃ v, r = some v ∧ Q v s') E s := by
    unfold tryCompare
    refine wpAny_bind (ifBound_objNe X I hs ?_)
    refine wpAny_call (codeAny_call_builtin F.cmp_object.ne.plain F.cmpEntry_ne (check_slot F.cmpKind_ne F.cmpSplit_ne (I.type.andThen (looks_mroIn X hm)) (F.cmpArgs_ne _ _) ?_))
    refine objNe_entry (A := A.in1) X I he hf (by show A.units + 1 < cLine; exact hu) (wpAny_mono h (fun v s' hv => ?_) fun _ _ e => e)
    obtain ⟨k, rfl, hq⟩ := hv
    first | exact ⟨k, rfl, wpAny_pure ⟨_, rfl, hq⟩⟩ | exact ⟨k, rfl, ⟨_, rfl, hq⟩⟩
  unfold richCompare
  simp only [oneThing_ref]
  refine wpAny_holding (wpAny_bind (wpAny_cRoomFor (Nat.lt_of_succ_lt hu) ?_))
  refine wpAny_bind (I.type.here (wpAny_bind (hb.here ?_)))
  split
  · rename_i q
    have e : subIn K tb (.ref C) = some false := by
      rcases Bool.or_eq_true_iff.mp hn with e | e
      · rw [beq_iff_eq.mp e] at q; simp at q
      · exact beq_iff_eq.mp e
    refine wpAny_bind ((looks_subIn X e).here ?_)
    simp only [Bool.false_eq_true, if_false]
    refine wpAny_bind (wpAny_mono one (fun r s' z => ?_) fun _ _ e => e)
    obtain ⟨v, rfl, hq⟩ := z
    exact wpAny_pure hq
  · refine wpAny_bind (wpAny_pure ?_)
    simp only [Bool.false_eq_true, if_false]
    refine wpAny_bind (wpAny_mono one (fun r s' z => ?_) fun _ _ e => e)
    obtain ⟨v, rfl, hq⟩ := z
    exact wpAny_pure hq
end
end PySem.W
namespace L2
open PySem PySem.Spec PyProof.Rows
section
variable {cl : Nat → OCls} {S : Nat → List OD → Prop} {X : Cx}
theorem rc_flat {A : Around} {s : Shared} {y x : V} {u v : Value} (ry : RelV y u) (rx : RelV x v) (fy : flatV y = true) (fx : flatV x = true) : SeqAt.RcAt A s u v (eqV y x) := by
  cases y with
  | non =>
    cases ry
    cases x with
    | non => cases rx; exact SeqAt.RcAt.none_none
    | bl b => cases rx; exact SeqAt.RcAt.none_bool b
    | int b => obtain ⟨t, rfl⟩ := rx; exact SeqAt.RcAt.none_int b t
    | str b => obtain ⟨t, rfl⟩ := rx; exact SeqAt.RcAt.none_str b t
    | _ => cases fx
  | bl a =>
    cases ry
    cases x with
    | non => cases rx; exact SeqAt.RcAt.bool_none a
    | bl b => cases rx; exact SeqAt.RcAt.bool_bool a b
    | int b => obtain ⟨t, rfl⟩ := rx; exact SeqAt.RcAt.bool_int a b t
    | str b => obtain ⟨t, rfl⟩ := rx; exact SeqAt.RcAt.bool_str a b t
    | _ => cases fx
  | int a =>
    obtain ⟨ta, rfl⟩ := ry
    cases x with
    | non => cases rx; exact SeqAt.RcAt.int_none a ta
    | bl b => cases rx; exact SeqAt.RcAt.int_bool a ta b
    | int b => obtain ⟨t, rfl⟩ := rx; exact SeqAt.RcAt.int_int a ta b t
    | str b => obtain ⟨t, rfl⟩ := rx; exact SeqAt.RcAt.int_str a ta b t
    | _ => cases fx
  | str a =>
    obtain ⟨ta, rfl⟩ := ry
    cases x with
    | non => cases rx; exact SeqAt.RcAt.str_none a ta
    | bl b => cases rx; exact SeqAt.RcAt.str_bool a ta b
    | int b => obtain ⟨t, rfl⟩ := rx; exact SeqAt.RcAt.str_int a ta b t
    | str b => obtain ⟨t, rfl⟩ := rx; exact SeqAt.RcAt.str_str a ta b t
    | _ => cases fx
  | _ => cases fy
theorem rc_flTup {x : V} {u : Value} (h : flatV x = true) (r : RelV x u) {A : Around} {s : Shared} {b : Addr} {items : Array Value} (ht : s.heap.IsTuple b items) (hu : A.units < cLine) : SeqAt.RcAt A s u (.ref b) false ∧ SeqAt.RcAt A s (.ref b) u false := by
  cases x with
  | non => cases r; exact ⟨SeqAt.RcAt.none_tuple ht hu, SeqAt.RcAt.tuple_none ht hu⟩
  | bl b => cases r; exact ⟨SeqAt.RcAt.bool_tuple b ht hu, SeqAt.RcAt.tuple_bool b ht hu⟩
  | int b => obtain ⟨t, rfl⟩ := r; exact ⟨SeqAt.RcAt.int_tuple b t ht hu, SeqAt.RcAt.tuple_int b t ht hu⟩
  | str b => obtain ⟨t, rfl⟩ := r; exact ⟨SeqAt.RcAt.str_tuple b t ht hu, SeqAt.RcAt.tuple_str b t ht hu⟩
  | _ => cases h
/-- == of the two sides, where no list is -/
def noLst : OD → Prop
  | .lst _ => False
  | _ => True
theorem rcOD (W : OwnCls X.K cl S) (G : OwnGives X cl S) : ∀ (d e : OD), noLst d → noLst e → RcOD X cl S d e
  | .fl v, .fl w, _, _ => fun A pins s σ H x y u u' sb I rx ry od oe oD oE => by
    obtain ⟨rfl, h⟩ := od
    obtain ⟨rfl, h'⟩ := oe
    exact rc_flat (A := A) (s := s) rx ry h h' X.prog X.w X.xe _ ⟨rfl, H, I, Ext.rfl'⟩
  | .fl v, .tup ds, _, _ => fun A pins s σ H x y u u' sb I rx ry od oe oD oE => by
    obtain ⟨rfl, h⟩ := od
    obtain ⟨b, ys, rfl, hb, q⟩ := oe
    cases ry
    obtain ⟨its, r, e, z⟩ := I.tuple hb
    rw [eqo_fl_tup]
    exact (rc_flTup h rx e sb.room.units0).1 X.prog X.w X.xe _ ⟨rfl, H, I, Ext.rfl'⟩
  | .tup ds, .fl v, _, _ => fun A pins s σ H x y u u' sb I rx ry oe od oE oD => by
    obtain ⟨rfl, h⟩ := od
    obtain ⟨b, ys, rfl, hb, q⟩ := oe
    cases rx
    obtain ⟨its, r, e, z⟩ := I.tuple hb
    rw [eqo_tup_fl]
    exact (rc_flTup h ry e sb.room.units0).2 X.prog X.w X.xe _ ⟨rfl, H, I, Ext.rfl'⟩
  | .fl v, .obj k ds, _, _ => rc_flObj W G k ds v
  | .tup ds, .obj k es, _, _ => rc_tupObj W G k es ds
  | .obj k es, e, _, _ => rc_obj W G k es e
  | .tup ds, .tup es, _, _ => rcOD_tup (eqODs W G ds es)
  | .lst _, _, h, _ => h.elim
  | .fl _, .lst _, _, h => h.elim
  | .tup _, .lst _, _, h => h.elim
def rEqO (K : PySem.W.Frag) (cl : Nat → OCls) (S : Nat → List OD → Prop) (n : Nat) : R2 := fun x y H Q => ∃ d e, Oh K cl H d x ∧ Oh K cl H e y ∧ okO S d ∧ okO S e ∧ need cl d ≤ n ∧ need cl e ≤ n ∧ noLst d ∧ noLst e ∧ ∀ H', Ext H H' → Q (.bl (eqo d e)) H'
theorem op_eqO (W : OwnCls X.K cl S) (G : OwnGives X cl S) {n : Nat} (hr : Room n X.A) : OpR X (compareOp .Eq) (rEqO X.K cl S n) := by
  intro pins s σ H x y v u Q I rx ry h
  obtain ⟨d, e, hd, he, oD, oE, n1, n2, l1, l2, q⟩ := h
  show wpAny (model X.prog X.w) X.A (richCompare .Eq v u) (EP X pins σ Q) X.xe s
  refine wpAny_mono (rcOD W G d e l1 l2 X.A pins s σ H x y v u ⟨hr.mono (by omega), rfl⟩ I rx ry hd he oD oE) (fun r s' z => ?_) fun _ _ x => x
  obtain ⟨rfl, H', I', e'⟩ := z
  exact ⟨.bl _, H', I', rfl, q H' e'⟩
/-- two lists -/
def rEqOL (K : PySem.W.Frag) (cl : Nat → OCls) (S : Nat → List OD → Prop) (n : Nat) : R2 := fun x y H Q => ∃ ds es, Oh K cl H (.lst ds) x ∧ Oh K cl H (.lst es) y ∧ okAll S ds ∧ okAll S es ∧ needAll cl ds + 1 ≤ n ∧ needAll cl es + 1 ≤ n ∧ ∀ H', Ext H H' → Q (.bl (eqoAll ds es)) H'
theorem op_eqOL (W : OwnCls X.K cl S) (G : OwnGives X cl S) {n : Nat} (hr : Room n X.A) : OpR X (compareOp .Eq) (rEqOL X.K cl S n) := by
  intro pins s σ H x y v u Q I rx ry h
  obtain ⟨ds, es, hd, he, oD, oE, n1, n2, q⟩ := h
  show wpAny (model X.prog X.w) X.A (richCompare .Eq v u) (EP X pins σ Q) X.xe s
  refine wpAny_mono (rcOD_lst (eqODs W G ds es) X.A pins s σ H x y v u ⟨hr.mono (by show max (needAll cl ds + 1) (needAll cl es + 1) ≤ n; omega), rfl⟩ I rx ry hd he oD oE) (fun r s' z => ?_) fun _ _ x => x
  obtain ⟨rfl, H', I', e'⟩ := z
  exact ⟨.bl _, H', I', rfl, q H' e'⟩
/-- != of two tuples -/
def rNeOT (K : PySem.W.Frag) (cl : Nat → OCls) (S : Nat → List OD → Prop) (n : Nat) : R2 := fun x y H Q => ∃ ds es, Oh K cl H (.tup ds) x ∧ Oh K cl H (.tup es) y ∧ okAll S ds ∧ okAll S es ∧ needAll cl ds + 1 ≤ n ∧ needAll cl es + 1 ≤ n ∧ ∀ H', Ext H H' → Q (.bl (!eqoAll ds es)) H'
theorem op_neOT (W : OwnCls X.K cl S) (G : OwnGives X cl S) {n : Nat} (hr : Room n X.A) : OpR X (compareOp .NotEq) (rNeOT X.K cl S n) := by
  intro pins s σ H x y v u Q I rx ry h
  obtain ⟨ds, es, hd, he, oD, oE, n1, n2, q⟩ := h
  obtain ⟨a, xs, rfl, ha, p⟩ := hd
  obtain ⟨b, ys, rfl, hb, q'⟩ := he
  cases rx
  cases ry
  obtain ⟨its, r, e, z⟩ := I.tuple ha
  obtain ⟨its2, r2, e2, z2⟩ := I.tuple hb
  have sb' : Sub X (max (needAll cl ds) (needAll cl es) + 1) X.A := ⟨hr.mono (by omega), rfl⟩
  have z1 : GQ.allEq its.toArray.size its2.toArray.size (pairs ds es) = eqoAll ds es := by
    rw [List.size_toArray, List.size_toArray, ← r.length, ← r2.length, ← OhAll.length ds xs p, ← OhAll.length es ys q']
    exact allEq_eqo ds es _ fun i d c h1 h2 => pairs_eq h1 h2
  show wpAny (model X.prog X.w) X.A (richCompare .NotEq (.ref a) (.ref b)) (EP X pins σ Q) X.xe s
  exact GQ.rc_tupNeB sb'.room.units0 (fun _ s' => LoopI X pins σ H s') e e2 (fun i h1 h2 s' l => turnOD (eqODs W G ds es) sb' p q' oD oE r r2 (pairs ds es) (fun i d c h1 h2 => pairs_eq h1 h2) i h1 h2 s' l)
    (fun i s' l => by rw [z1]; obtain ⟨H', I', e'⟩ := l; exact ⟨.bl _, H', I', rfl, q H' e'⟩) ⟨H, I, Ext.rfl'⟩
/-- what != asks of the class -/
structure NoNe (K : PySem.W.Frag) (C : Addr) : Prop where
  mo : PySem.W.mroIn K C (.type "object") = some true
  ne : PySem.W.findIn K (.ref C) "__ne__" = some (some (.builtin "object.__ne__"))
/-- != of an object with an own == and anything -/
def rNeOO (K : PySem.W.Frag) (cl : Nat → OCls) (S : Nat → List OD → Prop) (n : Nat) : R2 := fun x y H Q => ∃ k ds e, Oh K cl H (.obj k ds) x ∧ Oh K cl H e y ∧ okO S (.obj k ds) ∧ okO S e ∧ (cl k).lv ≤ n ∧ NoNe K (cl k).C ∧ ∀ H', Ext H H' → Q (.bl (!eqo (.obj k ds) e)) H'
theorem op_neOO (W : OwnCls X.K cl S) (G : OwnGives X cl S) {n : Nat} (hr : Room (n + 1) X.A) : OpR X (compareOp .NotEq) (rNeOO X.K cl S n) := by
  intro pins s σ H x y v u Q I rx ry h
  obtain ⟨k, ds, e, hd, he, oD, oE, n1, nn, q⟩ := h
  obtain ⟨a, dx, fs, xs, rfl, hi, hn, hq⟩ := id hd
  cases rx
  obtain ⟨_, O1, _⟩ := ins_get I.hok hi
  obtain ⟨o1, J1, _⟩ := O1.look
  obtain ⟨m, hF⟩ := I.fr
  obtain ⟨tb, L, hn⟩ := ty_looks W I ⟨_, oD.1⟩ ry he oE
  show wpAny (model X.prog X.w) X.A (richCompare .NotEq (.ref a) u) (EP X pins σ Q) X.xe s
  refine PySem.W.ne_K (tb := tb) (by have := hr.un; omega) hF I.ok.mod.kin J1 L hn nn.mo nn.ne (W.eqf k ⟨_, oD.1⟩) (W.isf k ⟨_, oD.1⟩) ?_
  refine wpAny_mono (G k ds oD.1 X.A.in1 pins s σ H a e y u ⟨hr.in1.mono n1, rfl⟩ I ry hd he oD.2 oE) (fun r s' z => ?_) fun _ _ e => e
  obtain ⟨rfl, H', I', e'⟩ := z
  exact ⟨_, rfl, .bl _, H', I', rfl, q H' e'⟩
end
end L2
namespace Kx
open PySem L2 PySem.Spec PyProof.Rows PySem.Froz
/-! sets of texts that can be walked and sorted -/
structure GoodX (P : Program) (w : World) (D : SD) (l : List Str) : Prop where
  tx : TxOk P w D l
  nd : l.Nodup
  ris : Ris D.2.2.place.toList
  led : w.params.followText "set-order" = true ∨ D.2.2.led = true
theorem tailTx_ris {ep : Nat} {es : Array (Int × Value)} {t : SetTable} {b : Bool} (r : Ris t.place.toList) : Ris (tailTx ep es t b).2.2.place.toList := by
  unfold tailTx
  by_cases c : (!b && t.tooFull) = true
  · rw [if_pos c]; exact relayAll_ris _ _ _
  · rw [if_neg c]; exact r
theorem tailTx_led {ep : Nat} {es : Array (Int × Value)} {t : SetTable} {b : Bool} : (tailTx ep es t b).2.2.led = t.led := by
  unfold tailTx
  by_cases c : (!b && t.tooFull) = true
  · rw [if_pos c]; exact relayAll_led _ _ _
  · rw [if_neg c]
theorem off_ris {t : SetTable} (r : Ris t.place.toList) : Ris (if t.plain = true then { t with plain := false } else t).place.toList := by
  by_cases c : t.plain = true
  · rw [if_pos c]; exact r
  · rw [if_neg c]; exact r
theorem off_led {t : SetTable} : (if t.plain = true then { t with plain := false } else t).led = t.led := by
  by_cases c : t.plain = true
  · rw [if_pos c]
  · rw [if_neg c]
theorem addTx_ris {hh : Int} {v : Value} {D : SD} (r : Ris D.2.2.place.toList) : Ris (addTx hh v D).2.2.place.toList := by
  unfold addTx
  exact tailTx_ris (off_ris (layNew_ris _ _ _ _ r))
theorem addTx_led {hh : Int} {v : Value} {D : SD} : (addTx hh v D).2.2.led = D.2.2.led := by
  unfold addTx
  rw [tailTx_led, off_led, layNew_led]
theorem GoodX.add {P : Program} {w : World} {D : SD} {l : List Str} {k : Str} (u : Tok) (G : GoodX P w D l) (hk : k ∉ l) : GoodX P w (addTx (hashStr w k) (.str k u) D) (k :: l) :=
  ⟨add_ok u G.tx, List.nodup_cons.mpr ⟨hk, G.nd⟩, addTx_ris G.ris, G.led.imp id fun z => by rw [addTx_led]; exact z⟩
section
variable {P : Program} {w : World} {A : Around} {E : Value → Shared → Prop} {s : Shared}
theorem add_old {a : Addr} {D : SD} {l : List Str} {k : Str} {u : Tok} {Q : Bool → Shared → Prop} (ho : s.heap.get? a = some (sObj "set" D)) (F : TxOk P w D l) (hk : k ∈ l) (hb : l.length < scanBound)
    (h : Q false s) : wpAny (model P w) A (setAddHashed a (.str k u) (hashStr w k)) Q E s := by
  obtain ⟨es, ep, t⟩ := D
  have hd : (sObj "set" (es, ep, t)).data = .set es ep t := rfl
  have hf : t.fits es.size = true := F.fit
  have he : ElemsOf (strKind P w) es.toList := F.el
  have hz : es.size < scanBound := by rw [show es.size = l.length from F.sz]; exact hb
  unfold setAddHashed setAddHashedIn
  refine wpAny_holding (wpAny_bind (wpAny_setState_of ho hd hf ?_))
  dsimp only
  rw [byScan_of rfl hz he]
  simp only [↓reduceIte]
  unfold setAddByScan
  refine wpAny_bind (wpAny_bind (wpAny_rule (wpAny_bind (wpAny_setScan_of (knd := strKind P w) (k := k) (is_str k u) ho hd hf he ?_))))
  cases hr : List.findIdx? (fun e => (strKind P w).is k e.2) es.toList with
  | some j => exact wpAny_pure (wpAny_pure h)
  | none =>
    obtain ⟨e, hm, q⟩ := (F.mem k).mp hk
    have c := List.findIdx?_eq_none_iff.mp hr e hm
    rw [q] at c
    cases c
end
/-- the set of texts at a: its members, each once -/
def TxAt (P : Program) (w : World) (h : Heap) (a : Addr) (l : List Str) : Prop := ∃ D, h.get? a = some (sObj "set" D) ∧ GoodX P w D l
/-- a text put into a list of texts -/
def put (l : List Str) (k : Str) : List Str := if k ∈ l then l else k :: l
theorem mem_put {l : List Str} {k x : Str} : x ∈ put l k ↔ x ∈ l ∨ x = k := by
  unfold put
  by_cases h : k ∈ l
  · rw [if_pos h]
    exact ⟨.inl, fun z => z.elim id fun e => e ▸ h⟩
  · rw [if_neg h, List.mem_cons]
    exact Or.comm
theorem put_len {l : List Str} {k : Str} : (put l k).length ≤ l.length + 1 := by
  unfold put
  by_cases h : k ∈ l
  · rw [if_pos h]; exact Nat.le_succ _
  · rw [if_neg h]; exact Nat.le_refl _
section
variable {P : Program} {w : World} {A : Around} {E : Value → Shared → Prop} {s : Shared}
theorem txAt_new {h : Heap} : TxAt P w (h.push { cls := .type "set", dict := none, data := .set #[] 0 (.fresh 0 0 (!w.params.followText "set-order")) }) h.objs.size [] :=
  ⟨(#[], 0, .fresh 0 0 (!w.params.followText "set-order")), Heap.get?_push_size _ rfl, TxOk.nil rfl, List.nodup_nil, List.Pairwise.nil, by
    show _ ∨ (!w.params.followText "set-order") = true
    cases w.params.followText "set-order"
    · exact .inr rfl
    · exact .inl rfl⟩
/-- found.add(k) -/
theorem tx_add {a : Addr} {l : List Str} {k : Str} {u : Tok} {Q : Value → Shared → Prop} (R : TxAt P w s.heap a l) (room : l.length + 1 < scanBound)
    (hQ : ∀ h' : Heap, Heap.SameBut a s.heap h' → TxAt P w h' a (put l k) → Q .none { s with heap := h', toks := s.toks + 1 }) :
    wpAny (model P w) A (call (.builtin "set.add") [.ref a, .str k u]) Q E s := by
  obtain ⟨D, ho, G⟩ := R
  have hT : s.TypeIs (.ref a) "set" := ⟨_, ho, rfl⟩
  refine wpAny_call_entry F.slot_set_add hT F.entry_set_add ?_ (F.args_set_add_2 _ _)
  unfold Builtin.«set.add» Builtin.Frozenset.oneOther
  simp only [List.isEmpty_nil, bind_assoc]
  unfold Builtin.Frozenset.addrOf setAdd
  refine wpAny_bind (wpAny_pure ?_)
  try dsimp only
  refine wpAny_bind (wpAny_pure ?_)
  try dsimp only
  refine wpAny_bind (wpAny_holding (wpAny_bind ((strKind P w).pyHash (is_str k u) ?_)))
  by_cases hk : k ∈ l
  · refine add_old (s := { s with toks := s.toks + 1 }) ho G.tx hk (by omega) ?_
    have q := hQ s.heap (Heap.SameBut.refl a s.heap) ⟨D, ho, by unfold put; rw [if_pos hk]; exact G⟩
    show wpAny _ _ (ret Value.none) _ _ _
    exact wpAny_pure ⟨_, rfl, q⟩
  · refine add_x (s := { s with toks := s.toks + 1 }) ho G.tx hk room ?_
    have q := hQ _ (Heap.SameBut.update s.heap a (fun _ => sObj "set" (addTx (hashStr w k) (.str k u) D))) ⟨_, get_upd _ ho rfl, by unfold put; rw [if_neg hk]; exact G.add u hk⟩
    show wpAny _ _ (ret Value.none) _ _ _
    exact wpAny_pure ⟨_, rfl, q⟩
theorem strs_of_kind {l : List Str} {D : SD} (F : TxOk P w D l) : ∀ v ∈ D.1.toList.map (·.2), ∃ x t, v = Value.str x t := fun v hv => by
  obtain ⟨e, he, rfl⟩ := List.mem_map.mp hv
  obtain ⟨⟨k, h1, _⟩, _⟩ := F.el e he
  obtain ⟨t, z⟩ := Value.isStrOf_shape (x := k) (v := e.2) h1
  exact ⟨k, t, z⟩
def txt : Value → Str
  | .str x _ => x
  | _ => ⟨#[]⟩
theorem strsAre_txt : ∀ {vs : List Value}, (∀ v ∈ vs, ∃ x t, v = Value.str x t) → StrsAre vs (vs.map txt)
  | [], _ => .nil
  | v :: vs, h => by
    obtain ⟨x, t, rfl⟩ := h v List.mem_cons_self
    exact .cons x t (strsAre_txt fun u hu => h u (List.mem_cons_of_mem _ hu))
theorem perm_of_sub : ∀ {l m : List Str}, l.Nodup → (∀ x ∈ l, x ∈ m) → m.length = l.length → m.Perm l
  | [], m, _, _, h => by
    rw [List.eq_nil_of_length_eq_zero h]
  | x :: l, m, nd, sub, h => by
    obtain ⟨n1, n2⟩ := List.nodup_cons.mp nd
    have hx : x ∈ m := sub x List.mem_cons_self
    have p := List.perm_cons_erase hx
    have hl : (m.erase x).length = l.length := by
      have q := p.length_eq
      rw [List.length_cons] at q h
      omega
    refine p.trans (List.Perm.cons x (perm_of_sub n2 (fun y hy => ?_) hl))
    have ne : y ≠ x := fun e => n1 (e ▸ hy)
    exact (List.mem_erase_of_ne ne).mpr (sub y (List.mem_cons_of_mem _ hy))
/-- sorted(found), fewer than 64 members -/
theorem tx_sorted {a : Addr} {l : List Str} {Q : Value → Shared → Prop} (R : TxAt P w s.heap a l) (hh : A.handled = none) (h64 : l.length < 64)
    (hQ : ∀ (s' : Shared) (p : Addr) (out : Array Value) (c : Nat) (ys : List Str), (∀ b o, s.heap.get? b = some o → s'.heap.get? b = some o) → s'.gens = s.gens → s'.os = s.os → s.heap.objs.size ≤ p →
      s'.heap.get? p = some (seqObj "list" out c) → StrsAre out.toList ys → sortedS ys = true → ys.Perm l → Q (.ref p) s') :
    wpAny (model P w) A (call (.builtin "sorted") [.ref a]) Q E s := by
  obtain ⟨⟨es, ep, t⟩, ho, G⟩ := R
  have hz : es.size = l.length := G.tx.sz
  have lim : scanBound > 64 := by decide
  refine Calls.call_function_entry kind_sorted plain_sorted entry_sorted (args_sorted1 _) ?_
  unfold Builtin.«sorted»
  refine wpAny_bind (m := checkCount "sorted" 1 1 _) (wpAny_pure ?_)
  refine wpAny_bind (collect_set (A := A.in1) hh ⟨_, ho, rfl, rfl⟩ G.tx.fit (by show es.size < _; omega) G.ris G.led fun s1 vs k1 z1 g1 o1 pm => ?_)
  have pm' : vs.Perm (es.toList.map (·.2)) := pm
  have hvl : vs.length = l.length := by rw [pm'.length_eq, List.length_map, Array.length_toList]; exact hz
  have hstr : ∀ v ∈ vs, ∃ x t, v = Value.str x t := fun v hv => strs_of_kind G.tx v (pm'.mem_iff.mp hv)
  have hS := strsAre_txt hstr
  have hperm : (vs.map txt).Perm l := (pm'.map txt).trans <| perm_of_sub G.nd (fun x hx => by
      obtain ⟨e, he, q⟩ := (G.tx.mem x).mp hx
      obtain ⟨t', z⟩ := Value.isStrOf_shape (x := x) (v := e.2) q
      exact List.mem_map.mpr ⟨e.2, List.mem_map.mpr ⟨e, he, rfl⟩, by rw [z]; rfl⟩) (by rw [List.length_map, List.length_map, Array.length_toList]; exact hz)
  refine wpAny_bind (wpAny_newList ?_ (by rw [hvl, sizeLine_eq]; omega))
  have hoL : (s1.heap.push (seqObj "list" vs.toArray 0)).get? s1.heap.objs.size = some (seqObj "list" vs.toArray 0) := Heap.get?_push_size _ rfl
  refine wpAny_bind (wpAny_holding (wpAny_call_entry slot_list_sort ⟨_, hoL, rfl⟩ entry_list_sort
    (list_sort_treeK strKind_oneLt hoL hS.keysOf (fun v₁ v₂ rest e => keyKind_strs (by rw [← e]; exact hS)) (by rw [hvl]; exact h64) fun st' a1 a2 => ⟨_, rfl, ?_⟩) (args_list_sort _)))
  obtain ⟨ys, b1, b2, b3⟩ := sorted_out_str hS a1 a2
  obtain ⟨c, hc⟩ := sortedHeap_at (vs := vs) (out := (arrOf st').map (·.2)) hoL
  refine wpAny_pure ⟨_, rfl, hQ _ s1.heap.objs.size _ c ys (fun b u e => ?_) g1 o1 z1 hc b1 b3 (b2.trans hperm)⟩
  have q := k1 b u e
  have hlt := Heap.lt_size q
  show (sortedHeap (s1.heap.push (seqObj "list" vs.toArray 0)) s1.heap.objs.size vs _).get? b = some u
  rw [sortedHeap_old (Nat.ne_of_lt hlt) (by rw [size_push']; exact Nat.lt_succ_of_lt hlt)]
  exact Heap.get?_push_of_some _ q
end
/-! ### as tracked things -/
def SetX (P : Program) (w : World) (a : Addr) (l : List Str) : HO := .ext fun h => TxAt P w h a l
theorem setX_new {w : World} {P : Program} {H : Hp} {h : Heap} {a : Addr} {l : List Str} (R : TxAt P w h a l) : ObjOk P w H h a (SetX P w a l) := by
  obtain ⟨D, ho, G⟩ := R
  exact ⟨⟨D, ho, G⟩, ⟨_, ho⟩, fun h1 h2 p k => let ⟨D', ho', G'⟩ := p; ⟨D', k _ ho', G'⟩⟩
section
variable {X : Cx}
theorem setX_get {pins : List (Addr × Obj)} {σ : L2.St} {H : Hp} {s : Shared} {a : Addr} {l : List Str} (I : Inv X pins σ H s) (ha : H a = some (SetX X.prog X.w a l)) : TxAt X.prog X.w s.heap a l := (I.hok a _ ha).1
theorem addX_ok {pins : List (Addr × Obj)} {σ : L2.St} {H : Hp} {s : Shared} {E : Value → Shared → Prop} {D : Addr} {l : List Str} {k : Str} {u : Tok} {Q : Value → Shared → Prop} (I : Inv X pins σ H s) (hD : H D = some (SetX X.prog X.w D l)) (room : l.length + 1 < scanBound)
    (h : ∀ s', Inv X pins σ (upd H D (SetX X.prog X.w D (put l k))) s' → Q .none s') : wpAny (model X.prog X.w) X.A (call (.builtin "set.add") [.ref D, .str k u]) Q E s := by
  refine tx_add (setX_get I hD) room fun h' sb new => ?_
  have he : ∃ u, h'.get? D = some u := let ⟨_, ho, _⟩ := new; ⟨_, ho⟩
  exact h _ (I.write (e := D) (t' := s.toks + 1) (by rw [hD]; trivial) (.inl rfl) (fun b u hb hu => (sb.2 b hb).trans hu) he (setX_new new))
def rSortedX (P : Program) (w : World) : List V → Hp → VK → Prop := fun vs H Q => ∃ (a : Addr) (l : List Str), vs = [V.ref a] ∧ H a = some (SetX P w a l) ∧ l.length < 64 ∧
  ∀ (ys : List Str) (p : Addr), sortedS ys = true → ys.Perm l → H p = none → Q (.ref p) (upd H p (.lst (ys.map V.str)))
theorem cr_sortedX (hc : X.calm = true) : CallR X (.builtin "sorted") (rSortedX X.prog X.w) := by
  intro pins s σ H vs us Q I r h
  obtain ⟨a, l, rfl, ha, h64, q⟩ := h
  rw [Vals.ref1 r]
  refine tx_sorted (setX_get I ha) (I.ok.hd hc) h64 fun s' p out c ys k g o hp hg hi hs hl => ?_
  have hlen : (ys.map V.str).length ≤ sizeLine := by rw [List.length_map, hl.length_eq, sizeLine_eq]; omega
  have hn : H p = none := I.hok.fresh hp
  have J : Inv X pins σ (upd H p (.lst (ys.map V.str))) { s with heap := s'.heap, gens := s'.gens, drawn := s'.drawn, toks := s'.toks } :=
    I.call (ch := []) (Un.laid k hp hn) (I.hok.laid k hp ⟨hlen, out.toList, c, vals_of_strs hi, hg⟩) (by rw [g]; exact I.bare) (fun _ z => nomatch z)
  have e : s' = { s with heap := s'.heap, gens := s'.gens, drawn := s'.drawn, toks := s'.toks } := by
    cases s'; cases s; cases o; rfl
  rw [e]
  exact ⟨.ref p, _, J, rfl, q ys p hs hl hn⟩
end
end Kx
namespace Kx
open PySem L2 PySem.Spec PyProof.Rows PpSet
/-! set comprehensions of texts, with several clauses -/
/-- one turn of a clause, whatever is done with an element that passes -/
def turnOf (tg : Expr) (pos : Pos) (ifs : List Expr) (body : Sem Unit) (c : Expr) (j : Nat) (it acc : Value) (env : Env) : Sem Fin := do
  standAt pos
  match ← pyNext it with
  | none => pure (.done .next)
  | some v =>
    letOwnedTupleGo tg it v
    assign tg env v
    let mut ok := true
    for c in ifs do
      if ok then ok ← isTrue c env (eval c env)
    if ok then body
    again (.compLoop c j it acc env)
abbrev testsOf (ifs : List Expr) (env : Env) : Sem Bool := forIn ifs true fun c r => if r = true then do let ok ← isTrue c env (eval c env); pure (ForInStep.yield ok) else pure (ForInStep.yield r)
section
variable {P : Program} {w : World} {A : Around} {R : Result → Shared → Prop} {s : Shared} {elt tg : Expr} {gs : List Comprehension} {scope : Scope} {cp : Pos} {j : Nat} {ifs : List Expr} {pos : Pos} {it acc : Value} {env : Env} {body : Sem Unit}
abbrev NoE : Value → Shared → Prop := fun _ _ => False
theorem loop_gen (hturn : compTurn (.SetComp elt gs scope cp) j it acc env = turnOf tg pos ifs body (.SetComp elt gs scope cp) j it acc env) (I : Nat → Shared → Prop)
    (turn : ∀ n s, I n s → wpAny (model P w) A (pyNext it) (fun r s1 => match r with
      | none => R (.ok .next) s1
      | some v => wpAny (model P w) A (letOwnedTupleGo tg it v) (fun _ s2 => wpAny (model P w) A (assign tg env v) (fun _ s3 => wpAny (model P w) A (testsOf ifs env) (fun ok s4 =>
          if ok = true then wpAny (model P w) A body (fun _ s5 => ∃ m, m < n ∧ I m s5) NoE s4 else ∃ m, m < n ∧ I m s4) NoE s3) NoE s2) NoE s1) NoE s)
    (n : Nat) (h : I n s) : codeAny (model P w) A (.compLoop (.SetComp elt gs scope cp) j it acc env) R s := by
  refine codeAny_loop rfl I (fun n s hI => ?_) n h
  show wpAny _ A ((compTurn (.SetComp elt gs scope cp) j it acc env).onRaise (fun x => do noteFrame x env; theTreesLotGoes x)) _ _ s
  refine wpAny_noted ?_
  rw [hturn]
  unfold turnOf
  refine wpAny_bind (wpAny_standAt (wpAny_bind (thnF (turn n s hI) fun r s1 h1 => ?_)))
  cases r with
  | none => exact wpAny_pure h1
  | some v =>
    refine wpAny_bind (thnF h1 fun _ s2 h2 => ?_)
    refine wpAny_bind (thnF h2 fun _ s3 h3 => wpAny_bind (thnF h3 fun ok s4 h4 => ?_))
    cases ok with
    | false => exact wpAny_pure ⟨rfl, h4⟩
    | true => exact wpAny_bind (thnF h4 fun _ s5 h5 => wpAny_pure ⟨rfl, h5⟩)
end
abbrev TB := L2.St → Hp → (Hp → Prop) → Prop
/-- what is done with an element, in a block -/
structure PB (Y : Cx) (body : Sem Unit) (vs : List Nat) (tb : TB) : Prop where
  run : ∀ (pins : List (Addr × Obj)) (s : Shared) (σ : L2.St) (H : Hp) (Q : Hp → Prop), Inv Y pins σ H s → tb σ H Q → wpAny (model Y.prog Y.w) Y.A body (fun _ s' => ∃ H', Inv Y pins (wipe σ vs) H' s' ∧ Q H') NoE s
def tElt (P : Program) (w : World) (te : TE) (D : Addr) : TB := fun σ H Q => te σ H fun y H1 => ∃ (l : List Str) (k : Str), y = .str k ∧ H1 D = some (SetX P w D l) ∧ l.length + 1 < scanBound ∧ Q (upd H1 D (SetX P w D (put l k)))
def tNest (wi : TI) (g : TG) (tt : TT) (tb : TB) (vs : List Nat) : TB := fun σ H Q => wi σ H fun J H1 => ∃ W : Nat → Nat → Hp → Prop, (∃ m, W 0 m H1) ∧ ∀ i m H, W i m H →
  (J.stop i H ∧ Q H) ∨ (J.go i H ∧ ∃ Nx : Hp → Prop, (∀ H', Nx H' → ∃ m', m' < m ∧ W (i + 1) m' H') ∧ ∀ x H', J.yld i H x H' → g x (wipe σ vs) H' fun σ2 H2 => wipe σ2 vs = wipe σ vs ∧ tt σ2 H2 fun b H3 => if b = true then tb σ2 H3 Nx else Nx H3)
section
variable {Y : Cx} {elt tg iter ee : Expr} {gs : List Comprehension} {scope : Scope} {cp : Pos} {ifs : List Expr} {te : TE} {D : Addr} {wi : TI} {g : TG} {tt : TT} {tb : TB} {vs vs' : List Nat} {j : Nat} {acc : Value} {body : Sem Unit}
theorem pb_elt (hx : Y.xe = NoE) (he : PE Y elt te) : PB Y (do let v ← eval elt Y.env; standAt elt.pos; let _ ← call (.builtin "set.add") [.ref D, v]) [] (tElt Y.prog Y.w te D) := by
  refine ⟨fun pins s σ H Q I h => ?_⟩
  have z := he.run pins s σ H _ I h
  rw [hx] at z
  refine wpAny_bind (thnF z fun u s1 ⟨y, H1, I1, r, l, k, e, hD, room, q⟩ => wpAny_bind (wpAny_standAt ?_))
  subst e
  obtain ⟨t, rfl⟩ := r
  exact wpAny_bind (addX_ok I1 hD room fun s2 I2 => wpAny_pure ⟨_, I2, q⟩)
/-- a further clause's start -/
def StartOk (c : Expr) (j : Nat) (acc : Value) (env : Env) : Prop := ∀ (P : Program) (w : World) (A : Around) (R : Result → Shared → Prop) (s : Shared) (it : Value), codeAny (model P w) A (.compLoop c j it acc env) R s →
  (∀ E, wpAny (model P w) A (pyIter it) (fun it' s' => codeAny (model P w) A (.compLoop c j it' acc env) R s') E s) → codeAny (model P w) A (.compStart c j it acc env) R s
theorem pb_nest (sub : ∀ i ∈ vs', i ∈ vs) (hc : Y.calm = true) (hx : Y.xe = NoE) (hi : PI Y tg iter wi) (hg : PG Y tg g) (ht : PTs Y ifs tt) (hb : PB Y body vs' tb) (hs : ∀ x, foldedSetIterable iter Y.env x = pure x)
    (hturn : ∀ it, compTurn (.SetComp ee gs scope cp) j (.ref it) acc Y.env = turnOf tg iter.pos ifs body (.SetComp ee gs scope cp) j (.ref it) acc Y.env) (hst : StartOk (.SetComp ee gs scope cp) j acc Y.env) :
    PB Y (do let x ← eval iter Y.env; standAt iter.pos; let x ← foldedSetIterable iter Y.env x; let _ ← runOwn (.compStart (.SetComp ee gs scope cp) j (← holding [x] (pyIter x)) acc Y.env) Y.env) vs (tNest wi g tt tb vs) := by
  refine ⟨fun pins s σ H Q I h => ?_⟩
  have z := hi.run pins s σ H _ I h
  rw [hx] at z
  refine wpAny_bind (thnF z fun xv s1 hv => ?_)
  refine wpAny_bind (wpAny_standAt (wpAny_bind (wpAny_of_eq (hs xv) (wpAny_bind (wpAny_holding (thnF hv fun itv s2 h2 => ?_))))))
  obtain ⟨it, fp, tn, J, H1, e, I1, T, st, fo, W, ⟨m0, w0⟩, turn⟩ := h2
  subst e
  refine wpAny_bind (wpAny_runOwn ?_)
  rw [Around.mark_none]
  have stat : ∀ {H' : Hp}, (∀ b ∈ fp, H' b = none) → ∀ b ∈ fp, FpOk Y pins H' b := fun hn b hb => ⟨hn b hb, (fo b hb).2⟩
  have loop : codeAny (model Y.prog Y.w) Y.A (.compLoop (.SetComp ee gs scope cp) j (.ref it) acc Y.env) (fun r s' => match r with
      | .ok _ => ∃ H', Inv Y pins (wipe σ vs) H' s' ∧ Q H'
      | .error _ => False) s2 := by
    refine loop_gen (hturn it) (fun k s' => ∃ i H', Inv Y pins (wipe σ vs) H' s' ∧ tn i s'.heap ∧ (∀ b ∈ fp, H' b = none) ∧ W i k H') ?_ m0 ⟨0, H1, I1.weak (wipe_length _ _) (fun j v e => (wipe_some e).1), st, fun b hb => (fo b hb).1, w0⟩
    rintro k s3 ⟨i, H3, I3, st3, n3, w3⟩
    rcases turn i k H3 w3 with ⟨stop, q⟩ | ⟨go, Nx, hNx, step⟩
    · refine thnF (T.done Y rfl rfl rfl hc i _ s3 (wipe σ vs) H3 NoE I3 (stat n3) st3 stop) fun r s4 ⟨hr, I4⟩ => ?_
      subst hr
      exact ⟨H3, I4, q⟩
    · refine thnF (T.item Y rfl rfl rfl hc i _ s3 (wipe σ vs) H3 NoE I3 (stat n3) st3 go) fun r s4 ⟨u, hr, h4⟩ => ?_
      subst hr
      refine thnF h4 fun _ s5 ⟨x, H5, I5, r5, y5, st5, n5⟩ => ?_
      have I5' := I5.pinned (stat n5) (T.obj _ _ st5)
      have z6 := hg.run _ s5 (wipe σ vs) H5 x u _ I5' r5 (step x H5 y5)
      rw [hx] at z6
      refine thnF z6 fun _ s6 ⟨σ6, H6, I6, hw, q6⟩ => ?_
      have z7 := ht.run _ s6 σ6 H6 _ I6 q6
      rw [hx] at z7
      refine thnF z7 fun b s7 ⟨H7, I7, q7⟩ => ?_
      have fin : ∀ {vs1 : List Nat} {s' : Shared} {H' : Hp}, (∀ i ∈ vs1, i ∈ vs) → Inv Y (pins ++ pinsAt fp s5.heap) (wipe σ6 vs1) H' s' → Nx H' → ∃ m, m < k ∧ ∃ i H', Inv Y pins (wipe σ vs) H' s' ∧ tn i s'.heap ∧ (∀ b ∈ fp, H' b = none) ∧ W i m H' := fun {vs1 s' H'} hv I' nx => by
        obtain ⟨m', hm, w'⟩ := hNx H' nx
        have pin' : ∀ b ∈ fp, ∀ o, s5.heap.get? b = some o → s'.heap.get? b = some o ∧ H' b = none := fun b hb o e =>
          let z := I'.pin (b, o) (List.mem_append_right _ (List.mem_append_right _ (mem_pinsAt hb e)))
          ⟨z.1, z.2.1⟩
        refine ⟨m', hm, i + 1, H', I'.unpinned.weak (by rw [← hw, wipe_length, wipe_length]) (fun j v e => ?_), T.keep _ _ _ st5 fun b hb o e => (pin' b hb o e).1, fun b hb => ?_, w'⟩
        · rw [← hw] at e
          obtain ⟨e1, e2⟩ := wipe_some e
          rw [wipe_out fun z => e2 (hv j z)]
          exact e1
        · obtain ⟨o, e, _⟩ := T.obj _ _ st5 b hb
          exact (pin' b hb o e).2
      cases b with
      | false =>
        simp only [Bool.false_eq_true, if_false] at q7 ⊢
        exact fin (vs1 := []) (fun i z => nomatch z) I7 q7
      | true =>
        simp only [if_true] at q7 ⊢
        exact thnF (hb.run _ s7 σ6 H7 _ I7 q7) fun _ s8 ⟨H8, I8, q8⟩ => fin sub I8 q8
  refine codeAny_mono (hst _ _ _ _ _ _ loop fun E => T.self Y.A 0 _ _ _ st loop) fun r s' hr => ?_
  cases r with
  | ok f =>
    first
      | exact wpAny_pure hr
      | exact wpAny_bind (wpAny_pure (wpAny_pure hr))
  | error e => exact hr.elim
end
end Kx
namespace Kx
open PySem L2 PySem.Spec PyProof.Rows PpSet
def tScN (P : Program) (w : World) (wi : TI) (g : TG) (tt : TT) (tb : Addr → TB) (vs : List Nat) : TE := fun σ H Q => wi σ H fun J H1 => ∀ D, H1 D = none → ∃ W : Nat → Nat → Hp → Prop, (∃ m, W 0 m (upd H1 D (SetX P w D []))) ∧ ∀ i m H, W i m H →
  (J.stop i H ∧ Q (.ref D) H) ∨ (J.go i H ∧ ∃ Nx : Hp → Prop, (∀ H', Nx H' → ∃ m', m' < m ∧ W (i + 1) m' H') ∧ ∀ x H', J.yld i H x H' → g x (wipe σ vs) H' fun σ2 H2 => wipe σ2 vs = wipe σ vs ∧ tt σ2 H2 fun b H3 => if b = true then tb D σ2 H3 Nx else Nx H3)
section
variable {X : Cx} {elt tg iter : Expr} {ifs : List Expr} {gs : List Comprehension} {scope : Scope} {own : List (PySem.Str × Nat)} {cp : Pos} {wi : TI} {g : TG} {tt : TT} {tb : Addr → TB} {body : Addr → Env → Sem Unit} {vs' : List Nat}
theorem pe_scN (hc : X.calm = true) (hN : X.N.Nodup) (hi : PI X tg iter wi) (ok : BlkOk X.N X.env.scope scope own) (sub : ∀ i ∈ vs', i ∈ own.map (·.2))
    (hg : ∀ (s : Shared) (H : Hp) (C : Addr) (cl : List (PySem.Str × Addr)) (fp : List Addr), PG (X.blk s H scope (compEnvC scope cl C X.env) fp) tg g)
    (ht : ∀ (s : Shared) (H : Hp) (C : Addr) (cl : List (PySem.Str × Addr)) (fp : List Addr), PTs (X.blk s H scope (compEnvC scope cl C X.env) fp) ifs tt)
    (hb : ∀ (s : Shared) (H : Hp) (C : Addr) (cl : List (PySem.Str × Addr)) (fp : List Addr) (D : Addr), PB (X.blk s H scope (compEnvC scope cl C X.env) fp) (body D (compEnvC scope cl C X.env)) vs' (tb D))
    (hturn : ∀ it D env, compTurn (.SetComp elt (⟨tg, iter, ifs, 0⟩ :: gs) scope cp) 0 (.ref it) (.ref D) env = turnOf tg iter.pos ifs (body D env) (.SetComp elt (⟨tg, iter, ifs, 0⟩ :: gs) scope cp) 0 (.ref it) (.ref D) env)
    (hs : ∀ x, foldedSetIterable iter X.env x = pure x := by intro _; rfl) : PE X (.SetComp elt (⟨tg, iter, ifs, 0⟩ :: gs) scope cp) (tScN X.prog X.w wi g tt tb (own.map (·.2))) := by
  refine ⟨fun pins s σ H Q I h => ?_⟩
  rw [eval_SetComp]
  have fr : ∀ y ∈ scope.names, y.2 = .free → ∃ c, X.env.cells.lookup y.1 = some c := fun y hy e => I.ok.has _ (ok.free y hy e)
  refine wpAny_comprehension_free (use := none) rfl hs (closure_ok fr) ok.kind (fun y hy e => by rw [ok.uniq y hy, e]) (thn (hi.run pins s σ H _ I h) fun xv sa hx => thn hx fun itv sb hb' => ?_)
  obtain ⟨it, fp, tn, J, Hb, e, Ib, T, stb, fb, q⟩ := hb'
  subst e
  refine newSet_ok (newEnv_comp ?_)
  obtain ⟨D, hD⟩ : ∃ D, sb.heap.objs.size = D := ⟨_, rfl⟩
  have hDn : Hb D = none := Ib.hok.fresh (Nat.le_of_eq hD)
  obtain ⟨W, ⟨m0, w0⟩, turn⟩ := q D hDn
  obtain ⟨sc, hsc⟩ : ∃ sc : Shared, ({ sb with heap := sb.heap.push { cls := .type "set", dict := none, data := .set #[] 0 (.fresh 0 0 (!X.w.params.followText "set-order")) } } : Shared) = sc := ⟨_, rfl⟩
  have hch : sc.heap = sb.heap.push { cls := .type "set", dict := none, data := .set #[] 0 (.fresh 0 0 (!X.w.params.followText "set-order")) } := by rw [← hsc]
  have Ic : Inv X pins σ (upd Hb D (SetX X.prog X.w D [])) sc := by
    rw [← hsc]
    refine Ib.laid (t' := sb.toks) (fun b o z => Heap.get?_push_of_some _ z) (Nat.le_of_eq hD) ?_
    rw [← hD]
    exact setX_new txAt_new
  have lt : ∀ b ∈ fp, b < sb.heap.objs.size := fun b hb => let ⟨o, z, _⟩ := T.obj _ _ stb b hb; Heap.lt_size z
  have fc : ∀ b ∈ fp, FpOk X pins (upd Hb D (SetX X.prog X.w D [])) b ∧ b < sc.heap.objs.size := fun b hb =>
    ⟨⟨by rw [upd_ne (by rw [← hD]; exact Nat.ne_of_lt (lt b hb))]; exact (fb b hb).1, (fb b hb).2⟩, by rw [hch, Heap.size_push]; exact Nat.lt_succ_of_lt (lt b hb)⟩
  have stc : tn 0 sc.heap := T.keep _ _ _ stb fun b _ o z => by rw [hch]; exact Heap.get?_push_of_some _ z
  have Id0 := block_start Ic ok hN fc
  rw [hD]
  have pg := hg sc (upd Hb D (SetX X.prog X.w D [])) sc.heap.objs.size (cellsFrom (sc.heap.objs.size + 1) scope.names (cloFrom X.env.cells scope.names [])) fp
  have pt := ht sc (upd Hb D (SetX X.prog X.w D [])) sc.heap.objs.size (cellsFrom (sc.heap.objs.size + 1) scope.names (cloFrom X.env.cells scope.names [])) fp
  have pb := hb sc (upd Hb D (SetX X.prog X.w D [])) sc.heap.objs.size (cellsFrom (sc.heap.objs.size + 1) scope.names (cloFrom X.env.cells scope.names [])) fp D
  rw [show ({ sb with heap := sb.heap.push { cls := .type "set", dict := none, data := .set #[] 0 (.fresh 0 0 (!X.w.params.followText "set-order")) } } : Shared) = sc from hsc]
  obtain ⟨ce, hce⟩ : ∃ ce, compEnvC scope (cellsFrom (sc.heap.objs.size + 1) scope.names (cloFrom X.env.cells scope.names [])) sc.heap.objs.size X.env = ce := ⟨_, rfl⟩
  have cL : ce.locals = sc.heap.objs.size := by rw [← hce] <;> rfl
  obtain ⟨Hc, hHc⟩ : ∃ Hc, upd Hb D (SetX X.prog X.w D []) = Hc := ⟨_, rfl⟩
  obtain ⟨sd, hsd⟩ : ∃ sd : Shared, ({ sc with heap := pushCells (sc.heap.push { cls := .type "dict", data := .dict #[] }) scope.names } : Shared) = sd := ⟨_, rfl⟩
  have kd : ∀ b o, sc.heap.get? b = some o → sd.heap.get? b = some o := fun b o z => by rw [← hsd]; exact pushCells_keeps _ _ _ _ (Heap.get?_push_of_some _ z)
  rw [hce] at Id0 pg pt pb
  rw [hHc] at Id0 pg pt pb w0 Ic fc
  rw [hsd] at Id0
  have std : tn 0 sd.heap := T.keep _ _ _ stc fun b _ o z => kd b o z
  have stat : ∀ {σ' : L2.St} {H' : Hp} {s' : Shared}, Inv (X.blk sc Hc scope ce fp) [] σ' H' s' → (∀ b ∈ fp, H' b = none) → ∀ b ∈ fp, FpOk (X.blk sc Hc scope ce fp) [] H' b := fun {σ' H' s'} I' hn b hb =>
    ⟨hn b hb, (I'.ok.exf b hb).1, I'.ok.exfs b hb, .inl hb, fun x c z => (I'.ok.exf b hb).2 x c z, fun p hp => absurd (show p ∈ ([] : List (Addr × Obj)) ++ [] from hp) (by simp)⟩
  have loop : codeAny (model X.prog X.w) X.A (.compLoop (.SetComp elt (⟨tg, iter, ifs, 0⟩ :: gs) scope cp) 0 (.ref it) (.ref D) ce) (compPost (model X.prog X.w) X.A X.xe none (EP X pins σ Q) (.ref D) sc.heap.objs.size) sd := by
    refine loop_gen (hturn it D ce) (fun n s' => ∃ i H', Inv (X.blk sc Hc scope ce fp) [] (wipe σ (own.map (·.2))) H' s' ∧ tn i s'.heap ∧ (∀ b ∈ fp, H' b = none) ∧ W i n H') ?_ m0 ⟨0, Hc, Id0, std, fun b hb => (fc b hb).1.1, w0⟩
    rintro n s5 ⟨i, H5, I5, st5, n5, w5⟩
    rcases turn i n H5 w5 with ⟨stop, qq⟩ | ⟨go, Nx, hNx, step⟩
    · refine thnF (T.done (X.blk sc Hc scope ce fp) rfl rfl rfl hc i [] s5 _ H5 NoE I5 (stat I5 n5) st5 stop) fun r s6 ⟨hr, I6⟩ => ?_
      subst hr
      have I7 : Inv X pins σ H5 s6 := Ic.call' (ch := fp) I6.os I6.base I6.hok I6.bare fun b hb => ⟨(fc b hb).1.2.2.2.1, (fc b hb).1.2.1, (fc b hb).1.2.2.2.2.1, (fc b hb).1.2.2.2.2.2⟩
      have nC : H5 sc.heap.objs.size = none := by
        have z : H5 ce.locals = none := I6.free
        rw [cL] at z
        exact z
      obtain ⟨m, hn, _⟩ := I6.loc
      have hn : s6.heap.Ns ce.locals m := hn
      rw [cL] at hn
      obtain ⟨f0, f1, f2, f3, f4, f5⟩ := Ic.fpOk (Nat.le_refl _) nC
      exact ⟨m, hn, fun h'' sb' => ⟨.ref D, H5, I7.turned (t' := s6.toks) (fun b o hb z => (sb'.2 b hb).trans z) f0 f1 f3 f4 f5, rfl, qq⟩⟩
    · refine thnF (T.item (X.blk sc Hc scope ce fp) rfl rfl rfl hc i [] s5 _ H5 NoE I5 (stat I5 n5) st5 go) fun r s6 ⟨u, hr, h6⟩ => ?_
      subst hr
      refine thnF h6 fun _ s7 ⟨x, H7, I7, r7, y7, st7, n7⟩ => ?_
      have J7 := I7.pinned (stat I7 n7) (T.obj _ _ st7)
      refine thnF (pg.run _ s7 _ H7 x u _ J7 r7 (step x H7 y7)) fun _ s8 ⟨σ8, H8, I8, hw8, q8⟩ => ?_
      refine thnF (pt.run _ s8 σ8 H8 _ I8 q8) fun b s9 ⟨H9, I9, q9⟩ => ?_
      have fin : ∀ {vs1 : List Nat} {s' : Shared} {H' : Hp}, (∀ i ∈ vs1, i ∈ own.map (·.2)) → Inv (X.blk sc Hc scope ce fp) ([] ++ pinsAt fp s7.heap) (wipe σ8 vs1) H' s' → Nx H' → ∃ m, m < n ∧ ∃ i H', Inv (X.blk sc Hc scope ce fp) [] (wipe σ (own.map (·.2))) H' s' ∧ tn i s'.heap ∧ (∀ b ∈ fp, H' b = none) ∧ W i m H' := fun {vs1 s' H'} hv I' nx => by
        obtain ⟨m', hm, w'⟩ := hNx H' nx
        have pin' : ∀ b ∈ fp, ∀ o, s7.heap.get? b = some o → s'.heap.get? b = some o ∧ H' b = none := fun b hb o z =>
          let k := I'.pin (b, o) (List.mem_append_right _ (List.mem_append_right _ (mem_pinsAt hb z)))
          ⟨k.1, k.2.1⟩
        refine ⟨m', hm, i + 1, H', (I'.unpinned (pins := [])).weak (by rw [← hw8, wipe_length, wipe_length]) (fun j v z => ?_), T.keep _ _ _ st7 fun b hb o z => (pin' b hb o z).1, fun b hb => ?_, w'⟩
        · rw [← hw8] at z
          obtain ⟨e1, e2⟩ := wipe_some z
          rw [wipe_out fun k => e2 (hv j k)]
          exact e1
        · obtain ⟨o, z, _⟩ := T.obj _ _ st7 b hb
          exact (pin' b hb o z).2
      cases b with
      | false =>
        simp only [Bool.false_eq_true, if_false] at q9 ⊢
        exact fin (vs1 := []) (fun i z => nomatch z) I9 q9
      | true =>
        simp only [if_true] at q9 ⊢
        exact thnF (pb.run _ s9 σ8 H9 _ I9 q9) fun _ s10 ⟨H10, I10, q10⟩ => fin sub I10 q10
  rw [← hce] at loop
  rw [← hsd] at loop
  exact codeAny_compStart_set loop (T.self X.A 0 _ _ _ (by rw [hsd]; exact std) loop)
end
/-! three clauses -/
section
variable {elt t0 i0 t1 i1 t2 i2 : Expr} {f0 f1 f2 : List Expr} {scope : Scope} {cp : Pos}
theorem start1 (acc : Value) (env : Env) : StartOk (.SetComp elt [⟨t0, i0, f0, 0⟩, ⟨t1, i1, f1, 0⟩, ⟨t2, i2, f2, 0⟩] scope cp) 1 acc env := by
  intro P w A R s it h0 h
  refine codeAny_of_tree ?_
  show wpAny _ _ ((compStart (.SetComp elt [⟨t0, i0, f0, 0⟩, ⟨t1, i1, f1, 0⟩, ⟨t2, i2, f2, 0⟩] scope cp) 1 it acc env).onRaise (fun x => do noteFrame x env; standAt theWindowsPlace)) _ _ s
  refine wpAny_notedAt ?_
  unfold compStart
  show wpAny _ _ (ask >>= _) _ _ s
  refine wpAny_bind (wpAny_askSetting (wpAny_ite ?_))
  split
  · first
      | exact wpAny_bind (wpAny_pure (wpAny_pure (And.intro rfl h0)))
      | exact wpAny_pure (And.intro rfl h0)
  · refine wpAny_bind (wpAny_rule ?_)
    show wpAny _ _ (standAt i1.pos >>= _) _ _ s
    exact wpAny_bind (wpAny_standAt (wpAny_bind (thn (h _) fun it' s' h' => wpAny_pure (And.intro rfl h'))))
theorem start2 (acc : Value) (env : Env) : StartOk (.SetComp elt [⟨t0, i0, f0, 0⟩, ⟨t1, i1, f1, 0⟩, ⟨t2, i2, f2, 0⟩] scope cp) 2 acc env := by
  intro P w A R s it h0 h
  refine codeAny_of_tree ?_
  show wpAny _ _ ((compStart (.SetComp elt [⟨t0, i0, f0, 0⟩, ⟨t1, i1, f1, 0⟩, ⟨t2, i2, f2, 0⟩] scope cp) 2 it acc env).onRaise (fun x => do noteFrame x env; standAt theWindowsPlace)) _ _ s
  refine wpAny_notedAt ?_
  unfold compStart
  show wpAny _ _ (ask >>= _) _ _ s
  refine wpAny_bind (wpAny_askSetting (wpAny_ite ?_))
  split
  · first
      | exact wpAny_bind (wpAny_pure (wpAny_pure (And.intro rfl h0)))
      | exact wpAny_pure (And.intro rfl h0)
  · refine wpAny_bind (wpAny_rule ?_)
    show wpAny _ _ (standAt i2.pos >>= _) _ _ s
    exact wpAny_bind (wpAny_standAt (wpAny_bind (thn (h _) fun it' s' h' => wpAny_pure (And.intro rfl h'))))
abbrev c3 (elt t0 i0 t1 i1 t2 i2 : Expr) (f0 f1 f2 : List Expr) (scope : Scope) (cp : Pos) : Expr := .SetComp elt [⟨t0, i0, f0, 0⟩, ⟨t1, i1, f1, 0⟩, ⟨t2, i2, f2, 0⟩] scope cp
abbrev bElt (elt : Expr) (D : Addr) (env : Env) : Sem Unit := do let v ← eval elt env; standAt elt.pos; let _ ← call (.builtin "set.add") [.ref D, v]
abbrev bNest (c : Expr) (j : Nat) (iter : Expr) (D : Addr) (env : Env) : Sem Unit := do let x ← eval iter env; standAt iter.pos; let x ← foldedSetIterable iter env x; let _ ← runOwn (.compStart c j (← holding [x] (pyIter x)) (.ref D) env) env
theorem turn3_0 (it D : Addr) (env : Env) : compTurn (c3 elt t0 i0 t1 i1 t2 i2 f0 f1 f2 scope cp) 0 (.ref it) (.ref D) env = turnOf t0 i0.pos f0 (bNest (c3 elt t0 i0 t1 i1 t2 i2 f0 f1 f2 scope cp) 1 i1 D env) (c3 elt t0 i0 t1 i1 t2 i2 f0 f1 f2 scope cp) 0 (.ref it) (.ref D) env := by
  have e : compTurn (c3 elt t0 i0 t1 i1 t2 i2 f0 f1 f2 scope cp) 0 (.ref it) (.ref D) env = (do
      standAt i0.pos
      match ← pyNext (.ref it) with
      | none => pure (.done .next)
      | some v =>
        letOwnedTupleGo t0 (.ref it) v
        assign t0 env v
        let mut ok := true
        for c in f0 do
          if ok then ok ← isTrue c env (eval c env)
        if ok then
          let x ← eval i1 env
          standAt i1.pos
          let x ← foldedSetIterable i1 env x
          let _ ← runOwn (.compStart (c3 elt t0 i0 t1 i1 t2 i2 f0 f1 f2 scope cp) 1 (← holding [x] (pyIter x)) (.ref D) env) env
        again (.compLoop (c3 elt t0 i0 t1 i1 t2 i2 f0 f1 f2 scope cp) 0 (.ref it) (.ref D) env)) := by rfl
  rw [e]
  unfold turnOf
  simp only [bind_assoc, pure_bind]
  all_goals rfl
theorem turn3_1 (it D : Addr) (env : Env) : compTurn (c3 elt t0 i0 t1 i1 t2 i2 f0 f1 f2 scope cp) 1 (.ref it) (.ref D) env = turnOf t1 i1.pos f1 (bNest (c3 elt t0 i0 t1 i1 t2 i2 f0 f1 f2 scope cp) 2 i2 D env) (c3 elt t0 i0 t1 i1 t2 i2 f0 f1 f2 scope cp) 1 (.ref it) (.ref D) env := by
  have e : compTurn (c3 elt t0 i0 t1 i1 t2 i2 f0 f1 f2 scope cp) 1 (.ref it) (.ref D) env = (do
      standAt i1.pos
      match ← pyNext (.ref it) with
      | none => pure (.done .next)
      | some v =>
        letOwnedTupleGo t1 (.ref it) v
        assign t1 env v
        let mut ok := true
        for c in f1 do
          if ok then ok ← isTrue c env (eval c env)
        if ok then
          let x ← eval i2 env
          standAt i2.pos
          let x ← foldedSetIterable i2 env x
          let _ ← runOwn (.compStart (c3 elt t0 i0 t1 i1 t2 i2 f0 f1 f2 scope cp) 2 (← holding [x] (pyIter x)) (.ref D) env) env
        again (.compLoop (c3 elt t0 i0 t1 i1 t2 i2 f0 f1 f2 scope cp) 1 (.ref it) (.ref D) env)) := by rfl
  rw [e]
  unfold turnOf
  simp only [bind_assoc, pure_bind]
  all_goals rfl
theorem turn3_2 (it D : Addr) (env : Env) : compTurn (c3 elt t0 i0 t1 i1 t2 i2 f0 f1 f2 scope cp) 2 (.ref it) (.ref D) env = turnOf t2 i2.pos f2 (bElt elt D env) (c3 elt t0 i0 t1 i1 t2 i2 f0 f1 f2 scope cp) 2 (.ref it) (.ref D) env := by rfl
end
section
variable {X : Cx} {elt t0 i0 t1 i1 t2 i2 : Expr} {f0 f1 f2 : List Expr} {scope : Scope} {own : List (PySem.Str × Nat)} {cp : Pos} {w0 w1 w2 : TI} {g0 g1 g2 : TG} {tt0 tt1 tt2 : TT} {te : TE} {vs1 vs2 : List Nat}
theorem pe_sc3 (hc : X.calm = true) (hN : X.N.Nodup) (hi : PI X t0 i0 w0) (ok : BlkOk X.N X.env.scope scope own) (h1 : ∀ i ∈ vs1, i ∈ own.map (·.2)) (h2 : ∀ i ∈ vs2, i ∈ vs1)
    (hg0 : ∀ (s : Shared) (H : Hp) (C : Addr) (cl : List (PySem.Str × Addr)) (fp : List Addr), PG (X.blk s H scope (compEnvC scope cl C X.env) fp) t0 g0)
    (ht0 : ∀ (s : Shared) (H : Hp) (C : Addr) (cl : List (PySem.Str × Addr)) (fp : List Addr), PTs (X.blk s H scope (compEnvC scope cl C X.env) fp) f0 tt0)
    (hi1 : ∀ (s : Shared) (H : Hp) (C : Addr) (cl : List (PySem.Str × Addr)) (fp : List Addr), PI (X.blk s H scope (compEnvC scope cl C X.env) fp) t1 i1 w1)
    (hg1 : ∀ (s : Shared) (H : Hp) (C : Addr) (cl : List (PySem.Str × Addr)) (fp : List Addr), PG (X.blk s H scope (compEnvC scope cl C X.env) fp) t1 g1)
    (ht1 : ∀ (s : Shared) (H : Hp) (C : Addr) (cl : List (PySem.Str × Addr)) (fp : List Addr), PTs (X.blk s H scope (compEnvC scope cl C X.env) fp) f1 tt1)
    (hi2 : ∀ (s : Shared) (H : Hp) (C : Addr) (cl : List (PySem.Str × Addr)) (fp : List Addr), PI (X.blk s H scope (compEnvC scope cl C X.env) fp) t2 i2 w2)
    (hg2 : ∀ (s : Shared) (H : Hp) (C : Addr) (cl : List (PySem.Str × Addr)) (fp : List Addr), PG (X.blk s H scope (compEnvC scope cl C X.env) fp) t2 g2)
    (ht2 : ∀ (s : Shared) (H : Hp) (C : Addr) (cl : List (PySem.Str × Addr)) (fp : List Addr), PTs (X.blk s H scope (compEnvC scope cl C X.env) fp) f2 tt2)
    (he : ∀ (s : Shared) (H : Hp) (C : Addr) (cl : List (PySem.Str × Addr)) (fp : List Addr), PE (X.blk s H scope (compEnvC scope cl C X.env) fp) elt te)
    (hs : ∀ x, foldedSetIterable i0 X.env x = pure x := by intro _; rfl) (hs1 : ∀ env x, foldedSetIterable i1 env x = pure x := by intro _ _; rfl) (hs2 : ∀ env x, foldedSetIterable i2 env x = pure x := by intro _ _; rfl) :
    PE X (c3 elt t0 i0 t1 i1 t2 i2 f0 f1 f2 scope cp) (tScN X.prog X.w w0 g0 tt0 (fun D => tNest w1 g1 tt1 (tNest w2 g2 tt2 (tElt X.prog X.w te D) vs2) vs1) (own.map (·.2))) :=
  pe_scN (gs := [⟨t1, i1, f1, 0⟩, ⟨t2, i2, f2, 0⟩]) (body := fun D env => bNest (c3 elt t0 i0 t1 i1 t2 i2 f0 f1 f2 scope cp) 1 i1 D env) hc hN hi ok h1 hg0 ht0
    (fun s H C cl fp D => pb_nest (ee := elt) (gs := [⟨t0, i0, f0, 0⟩, ⟨t1, i1, f1, 0⟩, ⟨t2, i2, f2, 0⟩]) (scope := scope) (cp := cp) (Y := X.blk s H scope (compEnvC scope cl C X.env) fp) h2 hc rfl (hi1 s H C cl fp) (hg1 s H C cl fp) (ht1 s H C cl fp)
      (pb_nest (ee := elt) (gs := [⟨t0, i0, f0, 0⟩, ⟨t1, i1, f1, 0⟩, ⟨t2, i2, f2, 0⟩]) (scope := scope) (cp := cp) (Y := X.blk s H scope (compEnvC scope cl C X.env) fp) (vs' := []) (fun i z => nomatch z) hc rfl (hi2 s H C cl fp) (hg2 s H C cl fp) (ht2 s H C cl fp)
        (pb_elt (Y := X.blk s H scope (compEnvC scope cl C X.env) fp) rfl (he s H C cl fp)) (hs2 _) (fun it => turn3_2 it D _) (start2 _ _))
      (hs1 _) (fun it => turn3_1 it D _) (start1 _ _))
    (fun it D env => turn3_0 it D env) hs
end
end Kx
/-! enumerate over a tuple -/
namespace PySem
open Sem (wp)
open AutoSeq1 (wpAny_loadPart')
theorem new_enumT (t : Addr) (its : Array Value) (n : Nat) (dd : Option Addr) (sl : Array (Option Value)) : Meets (Builtin.«enumerate.__new__» ⟨[.type "enumerate", .ref t], []⟩)
    (fun _ R s => s.heap.get? t = some { cls := .type "tuple", dict := dd, data := .seq its n, slots := sl } ∧ R (.ok (.ret (.ref (s.heap.push { cls := .type "tuple_iterator", data := .fields #[.ref t, .int 0 0] }).objs.size)))
      { s with heap := (s.heap.push { cls := .type "tuple_iterator", data := .fields #[.ref t, .int 0 0] }).push { cls := .type "enumerate", data := .fields #[.none, .bool false, .ref s.heap.objs.size, rawInt 0, .none, .none] } }) :=
  .of_wp fun P w A R s h => by
    obtain ⟨hp, g, d, k, os⟩ := s
    obtain ⟨ht, h⟩ := h
    have hs := sub_enumerate
    have hT : Heap.IsTuple (Shared.heap ⟨hp, g, d, k, os⟩) t its := ⟨_, ht, rfl, n, rfl⟩
    wp_walk using wpAny_loadPart' ht
    refine wpAny_stack_any fun st => wpAny_pure ?_
    split
    · rename_i c _ _ _ _ _
      cases (c == Value.type "enumerate") <;>
        (wp_walk using wpAny_loadPart' ht, wpAny_pyIter_tuple hT; exact ⟨_, rfl, h⟩)
    · wp_walk using wpAny_loadPart' ht, wpAny_pyIter_tuple hT
      exact ⟨_, rfl, h⟩
section
variable {P : Program} {w : World} {A : Around} {E : Value → Shared → Prop} {s : Shared}
theorem call_enumT {t : Addr} {its : Array Value} {Q : Value → Shared → Prop} (hT : s.heap.IsTuple t its)
    (h : ∀ h' : Heap, IsEnum h' (s.heap.objs.size + 1) s.heap.objs.size 0 .none → h'.IsTupleIter s.heap.objs.size t 0 → h'.objs.size = s.heap.objs.size + 2 → (∀ b o, s.heap.get? b = some o → h'.get? b = some o) → Q (.ref (s.heap.objs.size + 1)) { s with heap := h' }) :
    wpAny (model P w) A (call (.type "enumerate") [.ref t]) Q E s := by
  obtain ⟨⟨c, dd, dt, sl⟩, ht, hc, n, hd⟩ := hT
  have hc' : c = .type "tuple" := hc
  have hd' : dt = .seq its n := hd
  subst hc' hd'
  refine callType_new F.called_enumerate (by decide) (F.typeCall_enumerate_1 _) (F.newCall_enumerate_1 _) (fun obj => F.args_object_init_2 obj _) F.entry_enumerate_new (new_enumT t its n dd sl) ⟨ht, ?_⟩
  obtain ⟨h1, e1⟩ : ∃ h1, s.heap.push { cls := .type "tuple_iterator", data := .fields #[.ref t, .int 0 0] } = h1 := ⟨_, rfl⟩
  have z1 : h1.objs.size = s.heap.objs.size + 1 := by rw [← e1]; exact Heap.size_push ..
  have i1 : h1.get? s.heap.objs.size = some { cls := .type "tuple_iterator", data := .fields #[.ref t, .int 0 0] } := by rw [← e1]; exact Heap.get?_push_size _ rfl
  have k1 : ∀ b o, s.heap.get? b = some o → h1.get? b = some o := fun b o z => by rw [← e1]; exact Heap.get?_push_of_some _ z
  rw [e1]
  have g2 := Heap.get?_push_size h1 (o := { cls := .type "enumerate", data := .fields #[.none, .bool false, .ref s.heap.objs.size, rawInt 0, .none, .none] }) rfl
  rw [z1] at g2
  show _ ∧ _
  rw [z1]
  exact ⟨⟨_, g2, rfl⟩, h _ g2 ⟨_, Heap.get?_push_of_some _ i1, rfl, rfl⟩ (by rw [Heap.size_push, z1]) fun b o z => Heap.get?_push_of_some _ (k1 b o z)⟩
end
end PySem
namespace Kx
open PySem L2 PySem.Spec PyProof.Rows
/-- the tuple at a, each item in a new pair with its number -/
def IteT (K : PySem.W.Frag) (a : Addr) : It :=
  ⟨fun i H => ∃ (xs : List V) (x : V), SqT K H a xs ∧ xs[i]? = some x, fun i H v H' => ∃ T x, v = .ref T ∧ H T = none ∧ H' = upd H T (.tup [.int (i : Nat), x]) ∧ ∀ xs, SqT K H a xs → xs[i]? = some x, fun i H => ∃ xs : List V, SqT K H a xs ∧ xs.length ≤ i⟩
theorem turn_enumT {P : Program} {w : World} {K : PySem.W.Frag} {elts : List Expr} {kk : Nat} {tpos : Pos} (a e it : Addr) :
    Turn P w K (.Tuple elts kk tpos) (IteT K a) [e, it] e (fun i h => (∃ old, IsEnum h e it ((i : Nat) : Int) old) ∧ h.IsTupleIter it a i ∧ e ≠ it ∧ a ≠ it ∧ a ≠ e) where
  mem := by simp
  obj := fun i h st b hb => by
    obtain ⟨⟨old, he⟩, ⟨o, ho, hc, hd⟩, _⟩ := st
    rcases (show b = e ∨ b = it by simpa using hb) with z | z
    · rw [z]; exact ⟨_, he, fun v q => nomatch q⟩
    · rw [z]; exact ⟨o, ho, fun v q => by rw [hd] at q; cases q⟩
  keep := fun i h h' st k => let ⟨⟨old, he⟩, hi, hn⟩ := st; ⟨⟨old, k e (by simp) _ he⟩, hi.at fun o q => k it (by simp) o q, hn⟩
  item := by
    intro X hP hw hK hc i pins s σ H E I hf st hg
    subst hP hw hK
    obtain ⟨⟨old, he⟩, hit, hne, n1, n2⟩ := st
    obtain ⟨xs, x, hq, hx⟩ := hg
    obtain ⟨its, rv, p, hz⟩ := I.tuple hq
    obtain ⟨u, hu, ru⟩ := rv.get hx
    have hT : s.heap.IsTuple a its.toArray := p
    have hu' : its.toArray[i]? = some u := by simpa using hu
    have hlt : i < its.toArray.size := (Array.getElem?_eq_some_iff.mp hu').1
    have hel : e < s.heap.objs.size := Heap.lt_size he
    have hil : it < s.heap.objs.size := by obtain ⟨_, q, _⟩ := hit; exact Heap.lt_size q
    have ni : it ≠ a := fun z => n1 z.symm
    refine wpAny_pyNext_enum_itemD (Draws.tuple (A := X.A.in1) (I.ok.hd hc) it a n1 its.toArray) he ⟨hit, hT⟩ hlt hne (by simp [hne, Ne.symm n2]) fun y h' tk hy ho hit' hTn hsz hk => ?_
    have ey : y = u := Option.some.inj ((show its.toArray[i]? = some y from hy).symm.trans hu')
    subst ey
    refine ⟨_, rfl, wpAny_letOwnedTupleGo_enum (s := { s with heap := h', toks := tk + 1 }) ho fun h2 he2 sb => ?_⟩
    have hT2 : h2.get? s.heap.objs.size = some { cls := .type "tuple", data := .seq #[.int i tk, y] } := (sb.2 _ (Nat.ne_of_gt hel)).trans hTn
    have new : ObjOk X.prog X.w (upd H s.heap.objs.size (.tup [.int (i : Nat), x])) h2 s.heap.objs.size (.tup [.int (i : Nat), x]) :=
      ⟨by show 2 ≤ sizeLine; decide, [.int i tk, y], .cons ⟨_, rfl⟩ (.cons ru .nil), ⟨_, hT2, rfl, _, rfl⟩⟩
    have I1 : Inv X pins σ (upd H s.heap.objs.size (.tup [.int (i : Nat), x])) { s with heap := h2, toks := tk + 1 } :=
      I.turnedNew (ch := [e, it]) (fun b ob hb q => (sb.2 b (fun z => hb (by simp [z]))).trans (hk b ob (fun z => hb (by simp [z])) (fun z => hb (by simp [z])) q)) hf (Nat.le_refl _) new
    have lt2 : ∀ b ∈ [e, it], b < s.heap.objs.size := fun b hb => by
      rcases (show b = e ∨ b = it by simpa using hb) with z | z
      · rw [z]; exact hel
      · rw [z]; exact hil
    refine ⟨.ref s.heap.objs.size, _, I1, rfl, ⟨_, x, rfl, I.hok.fresh (Nat.le_refl _), rfl, fun ys hy' => by rw [I.tuple_inj hy' hq]; exact hx⟩, ⟨⟨y, ?_⟩, hit'.1.at fun o q => (sb.2 it (Ne.symm hne)).trans q, hne, n1, n2⟩, fun b hb => ?_⟩
    · rw [show ((i + 1 : Nat) : Int) = (i : Int) + 1 from by omega]
      exact he2
    · rw [upd_ne (Nat.ne_of_lt (lt2 b hb))]
      exact (hf b hb).1
  done := by
    intro X hP hw hK hc i pins s σ H E I hf st hg
    subst hP hw hK
    obtain ⟨⟨old, he⟩, hit, hne, n1, n2⟩ := st
    obtain ⟨xs, hq, hx⟩ := hg
    obtain ⟨its, rv, p, hz⟩ := I.tuple hq
    obtain ⟨f0, f1, f2, f3, f4, f5⟩ := hf it (by simp)
    have hl := rv.length
    have hT : s.heap.IsTuple a its.toArray := p
    unfold pyNext
    have hTy : s.TypeIs (.ref e) "enumerate" := ⟨_, he, rfl⟩
    refine wpAny_bind (wpAny_attempt (wpAny_callSpecial?_slot (name := Str.ofString "__next__") hTy F.slot_enumerate_next
      (wpAny_call_entry F.slot_enumerate_next hTy F.entry_enumerate_next ?_ (F.args_enumerate_next_1 _))))
    show wpAny _ _ (field (.ref e) 2 >>= fun r => Builtin.SmallTypes.nextOf r >>= _) _ _ _
    refine wpAny_bind (wpAny_field he rfl (x := .ref it) rfl ?_)
    refine wpAny_bind (wpAny_nextOf_tuple_end (I.ok.hd hc) hit hT (Array.getElem?_eq_none (by simp; omega)) fun h' x e1 e2 => ?_)
    obtain ⟨o, ho, hco⟩ := e2
    refine wpAny_bind (wpAny_isInstance (T := "StopIteration") (b := true) ⟨o, ho, hco⟩ isSubtype_stop ?_)
    exact wpAny_pure ⟨rfl, I.turned (t' := s.toks) (fun b o hb q => e1 b o hb q) f0 f1 f3 f4 f5⟩
  self := fun A i s Q E st h => let ⟨⟨_, he⟩, _⟩ := st; wpAny_pyIter_enum he h
def iEnumT (K : PySem.W.Frag) (ta : TA) : TI := fun σ H R => ta σ H fun vs H1 => ∃ a xs, vs = [.ref a] ∧ SqT K H1 a xs ∧ R (IteT K a) H1
theorem pi_enumT {X : Cx} {e : Expr} {ta : TA} {p pos tpos : Pos} {elts : List Expr} {kk : Nat} (hg : Gl X "enumerate") (hm : X.mg "enumerate" = none) (ha : PA X [e] ta) (hs : starEach [e] X.env = [(false, eval e X.env)] := by rfl) :
    PI X (.Tuple elts kk tpos) (.Call (.Name "enumerate" p) [e] [] pos) (iEnumT X.K ta) := by
  refine ⟨fun pins s σ H R I h => ?_⟩
  refine Call_ (ld_blt I hg hm boot_enumerate (PyProof.Rows.callWith_type1 (thn (ha.run pos pins s σ H _ I h) fun us s1 ⟨vs, H1, I1, r1, a, xs, ex, hq, q⟩ => ?_) hs rfl))
  subst ex
  cases r1 with
  | cons r rr =>
    cases rr
    cases r
    obtain ⟨its, rv, p', hz⟩ := I1.tuple hq
    have hT : s1.heap.IsTuple a its.toArray := p'
    have hlt : a < s1.heap.objs.size := by obtain ⟨_, z, _⟩ := hT; exact Heap.lt_size z
    refine call_enumT hT fun h' he hit hsz hk => wpAny_pyIter_enum he ?_
    have I2 : Inv X pins σ H1 { s1 with heap := h' } := I1.kept (t' := s1.toks) hk
    refine ⟨s1.heap.objs.size + 1, [s1.heap.objs.size + 1, s1.heap.objs.size], _, _, H1, rfl, I2, turn_enumT a (s1.heap.objs.size + 1) s1.heap.objs.size, ⟨⟨.none, he⟩, hit, Nat.succ_ne_self _, Nat.ne_of_lt hlt, Nat.ne_of_lt (Nat.lt_succ_of_lt hlt)⟩, fun b hb => ?_, q⟩
    have hle : s1.heap.objs.size ≤ b := by
      rcases (show b = s1.heap.objs.size + 1 ∨ b = s1.heap.objs.size by simpa using hb) with z | z
      · rw [z]; exact Nat.le_add_right _ _
      · rw [z]; exact Nat.le_refl _
    exact I1.fpOk hle (I1.hok.fresh hle)
/-- over a tuple that the body leaves as it is -/
theorem for_enumT {K : PySem.W.Frag} {a : Addr} {xs : List V} {g : TG} {tb : TS} {D : Ends} {σ : L2.St} {H : Hp} (Pv : Nat → L2.St → Hp → Prop) (h0 : Pv 0 σ H) (hl : ∀ i σ H, i ≤ xs.length → Pv i σ H → SqT K H a xs)
    (hs : ∀ i x σ H T, xs[i]? = some x → Pv i σ H → H T = none → g (.ref T) σ (upd H T (.tup [.int (i : Nat), x])) fun σ2 H2 => tb { D with nx := Pv (i + 1), ct := Pv (i + 1), bk := D.nx } σ2 H2) (hd : ∀ σ H, Pv xs.length σ H → D.nx σ H) :
    ∃ W : Nat → Nat → L2.St → Hp → Prop, (∃ m, W 0 m σ H) ∧ ∀ i m σ H, W i m σ H →
      ((IteT K a).stop i H ∧ D.nx σ H) ∨ ((IteT K a).go i H ∧ ∃ N : L2.St → Hp → Prop, (∀ σ' H', N σ' H' → ∃ m', m' < m ∧ W (i + 1) m' σ' H') ∧ ∀ x H', (IteT K a).yld i H x H' → g x σ H' fun σ2 H2 => tb { D with nx := N, ct := N, bk := D.nx } σ2 H2) := by
  refine ⟨fun i m σ H => m = xs.length - i ∧ i ≤ xs.length ∧ Pv i σ H, ⟨xs.length, by simp, Nat.zero_le _, h0⟩, ?_⟩
  rintro i m σ H ⟨rfl, hi, p⟩
  have q := hl i σ H hi p
  rcases Nat.lt_or_eq_of_le hi with hlt | e
  · refine .inr ⟨⟨xs, xs[i], q, by simp [hlt]⟩, Pv (i + 1), fun σ' H' p' => ⟨xs.length - (i + 1), by omega, rfl, hlt, p'⟩, fun v H' ⟨T, x, ev, hT, eH, hx⟩ => ?_⟩
    subst ev eH
    exact hs i x σ H T (hx xs q) p hT
  · subst e
    exact .inl ⟨⟨xs, q, Nat.le_refl _⟩, hd σ H p⟩
end Kx
namespace Kx
open PySem L2 PySem.Spec PyProof.Rows
def top (i : Nat) : Stmt := PySem.Challenge.pw_contractheirs_k11_methods_and_classes.main.body.getD i (.Pass ⟨0, 0, 0, 0⟩)
abbrev sIsInt : Stmt := top 8
abbrev sIsWord : Stmt := top 9
abbrev sIsTerm : Stmt := top 10
abbrev sIsLit : Stmt := top 11
abbrev sLitT : Stmt := top 12
abbrev sIsCl : Stmt := top 13
abbrev sStand : Stmt := top 17
abbrev sFirst : Stmt := top 18
/-! words, terms, literals, clauses -/
def lets : Str := "abcdefghijklmnopqrstuvwxyz"
def isWord (t : Str) : Bool := decide (1 ≤ t.length ∧ t.length ≤ 8) && t.cps.toList.all fun c => decide (c ∈ lets.cps.toList)
def isTerm (t : Str) : Bool := decide (t = "") || (decide ((Txt.split t ".").length ≤ 2) && (Txt.split t ".").all isWord)
structure Short (t : Str) : Prop where
  l : t.length ≤ 1000
  n : (Txt.split t ".").length ≤ 1000
  e : ∀ x ∈ Txt.split t ".", x.length ≤ 1000
structure Bx (mg : Str → Option Value) : Prop where
  isi : mg "isinstance" = none
  int : mg "int" = none
  bool : mg "bool" = none
  str : mg "str" = none
  tuple : mg "tuple" = none
  len : mg "len" = none
  all : mg "all" = none
  sorted : mg "sorted" = none
  enum : mg "enumerate" = none
  lets : ∃ t, mg "LETTERS" = some (.str lets t)
  longest : ∃ t, mg "LONGEST_WORD" = some (.int 8 t)
structure Fs (K : PySem.W.Frag) (mg : Str → Option Value) (x : Str) (st : Stmt) (ps : List Str) (f : Addr) (fd : FuncData) : Prop where
  F : Fun K x x st f fd
  b : Binds K fd ps []
  m : mg x = some (.ref f)
theorem yes_of {σ : L2.St} {H : Hp} {A B : Hp → Prop} (h : A H) : tYes σ H fun b H3 => if b = true then A H3 else B H3 := by
  show (if true = true then A H else B H)
  rw [if_pos rfl]
  exact h
theorem new_same {H : Hp} {D : Addr} {o : HO} (hD : H D = none) : Same H (upd H D o) := fun b u e => by
  have hb : b ≠ D := fun z => by
    rw [z, hD] at e
    cases e
  rw [upd_ne hb]
  exact e
/-- what is told at a new address stays told of what was there -/
theorem same_upd {H H2 : Hp} {D : Addr} {o : HO} (hD : H D = none) (s2 : Same H H2) : Same H (upd H2 D o) := fun b u e => by
  have hb : b ≠ D := fun z => by
    rw [z, hD] at e
    cases e
  rw [upd_ne hb]
  exact s2 b u e
theorem tyT {K : PySem.W.Frag} {H : Hp} {a : Addr} {xs : List V} (h : SqT K H a xs) : TyX K H (.ref a) (.type "tuple") := by
  rcases h with (h | ⟨o, h⟩) | ⟨o, its, n, hk, hc, _⟩
  · exact .base (.tup h)
  · exact .fTuple h
  · exact .kTuple hk hc
theorem SqT.same {K : PySem.W.Frag} {H H' : Hp} {a : Addr} {xs : List V} (s : Same H H') (h : SqT K H a xs) : SqT K H' a xs := by
  rcases h with (h | ⟨o, h⟩) | h
  · exact .inl (.inl (s _ _ h))
  · exact .inl (.inr ⟨o, s _ _ h⟩)
  · exact .inr h
def spIsInt : Sp := fun vs H Q _ => ∃ n : Int, vs = [.int n] ∧ Q (.bl true) H
def spIsWord : Sp := fun vs H Q _ => ∃ t : Str, vs = [.str t] ∧ t.length ≤ 1000 ∧ ∀ H', Same H H' → Q (.bl (isWord t)) H'
def spIsTerm : Sp := fun vs H Q _ => ∃ t : Str, vs = [.str t] ∧ Short t ∧ ∀ H', Same H H' → Q (.bl (isTerm t)) H'
abbrev Lit := Str × Str × Int
def IsLit (K : PySem.W.Frag) (H : Hp) (x : V) (l : Lit) : Prop := ∃ a, x = .ref a ∧ SqT K H a [.str l.1, .str l.2.1, .int l.2.2]
def spIsLit (K : PySem.W.Frag) : Sp := fun vs H Q _ => ∃ (x : V) (l : Lit), vs = [x] ∧ IsLit K H x l ∧ Q (.bl true) H
theorem IsLit.same {K : PySem.W.Frag} {H H' : Hp} {x : V} {l : Lit} (s : Same H H') (h : IsLit K H x l) : IsLit K H' x l := let ⟨a, e, q⟩ := h; ⟨a, e, SqT.same s q⟩
section
variable {P : Program} {w : World} {K : PySem.W.Frag} {mg : Str → Option Value} {base : Heap}
theorem scInt : FnScope ["thing"] ["thing"] (defScope sIsInt) := ⟨rfl, rfl, rfl, by decide +kernel, rfl, by decide +kernel, by decide +kernel⟩
theorem ok_isint {f : Addr} {fd : FuncData} (F : Fs K mg "is_integer" sIsInt ["thing"] f fd) (T : Bx mg) : FnOk P w K mg base CX0 1 f fd ["thing"] spIsInt := by
  refine F.F.ok scInt (fun vs H Q E h => ?_) (fun cdv A outer s H vs Q E hr h => ?_)
  · obtain ⟨n, rfl, _⟩ := h
    rfl
  · obtain ⟨n, rfl, q⟩ := h
    refine ⟨_, pss_one (ps_ret (pe_and (pe_callB call_isi (by rfl) T.isi boot_isinstance (pa_cons (pv 0) (pa_cons (pe_bltn (v := .ty "int") (by rfl) T.int (by decide +kernel) rfl) pa_nil)))
      (pe_one (pe_not (pe_callB call_isi (by rfl) T.isi boot_isinstance (pa_cons (pv 0) (pa_cons (pe_bltn (v := .ty "bool") (by rfl) T.bool (by decide +kernel) rfl) pa_nil))))))), ?_⟩
    refine ⟨_, rfl, .int n, .ty "int", _, _, true, rfl, .ty _, .base (.int n), kit_ty (by decide +kernel), true, rfl, iteT ?_⟩
    exact ⟨_, rfl, .int n, .ty "bool", _, _, false, rfl, .ty _, .base (.int n), kit_ty (by decide +kernel), false, rfl, q⟩
theorem scWord : FnScope ["thing", "letter"] ["thing"] (defScope sIsWord) := ⟨rfl, rfl, rfl, by decide +kernel, rfl, by decide +kernel, by decide +kernel⟩
theorem ok_isword {f : Addr} {fd : FuncData} (F : Fs K mg "is_word" sIsWord ["thing"] f fd) (T : Bx mg) : FnOk P w K mg base CX0 1 f fd ["thing"] spIsWord := by
  obtain ⟨tl, hL⟩ := T.lets
  obtain ⟨tw, hW⟩ := T.longest
  refine F.F.ok scWord (fun vs H Q E h => ?_) (fun cdv A outer s H vs Q E hr h => ?_)
  · obtain ⟨t, rfl, _⟩ := h
    rfl
  · obtain ⟨t, rfl, hs, q⟩ := h
    refine ⟨_, pss_cons (ps_if (PW.pt (pw_or (pt_not (pt_val (pe_callB call_isi (by rfl) T.isi boot_isinstance (pa_cons (pv 0) (pa_cons (pe_bltn (v := .ty "str") (by rfl) T.str (by decide +kernel) rfl) pa_nil)))))
        (pw_or1 (pt_not (pt_chain op_le op_le pe_int (pe_callB call_len_str (by rfl) T.len PySem.boot_len (pa_cons (pv 0) pa_nil)) (pe_glob (v := .int 8) (by rfl) hW ⟨_, rfl⟩)))))) (pss_one (ps_ret pe_bl)) pss_nil)
      (pss_one (ps_ret (pe_callB (cr_all rfl) (by rfl) T.all (by decide +kernel) (pa_cons
        (pe_lc (own := [("letter", 1)]) (g := gName 1) (tt := tYes) rfl scWord.nd (pi_str (pv 0)) (blkOk_by (N := ["thing", "letter"]) (sc := defScope sIsWord) (by decide +kernel))
          (fun _ _ _ _ _ => pg_name (i := 1) scWord.nd rfl (Or.inl rfl)) (fun _ _ _ _ _ => pts_nil) (fun _ _ _ _ _ => pe_cmpR op_in_sign (pv 1) (pe_glob (v := .str lets) (by rfl) hL ⟨_, rfl⟩) (by with_unfolding_all rfl))) pa_nil)))), ?_⟩
    have hz : t.length ≤ sizeLine := Nat.le_of_lt (small1000 hs)
    refine ⟨_, rfl, .str t, .ty "str", _, _, true, rfl, .ty _, .base (.str t), kit_ty (by decide +kernel), true, rfl, iteF ?_⟩
    refine ⟨_, rfl, t, rfl, hz, _, _, rfl, rfl, _, rfl, ?_⟩
    by_cases h1 : (1 : Int) ≤ (t.length : Int)
    case neg =>
      rw [decide_eq_false h1]
      have e : isWord t = false := by
        unfold isWord
        rw [decide_eq_false (by omega), Bool.false_and]
      refine iteF ⟨_, rfl, iteT ?_⟩
      have q' := q H fun _ _ z => z
      rw [e] at q'
      exact q'
    case pos =>
    rw [decide_eq_true h1]
    refine iteT ⟨_, _, rfl, rfl, _, rfl, ?_⟩
    by_cases h2 : (t.length : Int) ≤ 8
    case neg =>
      rw [decide_eq_false h2]
      have e : isWord t = false := by
        unfold isWord
        rw [decide_eq_false (by omega), Bool.false_and]
      refine iteT ?_
      have q' := q H fun _ _ z => z
      rw [e] at q'
      exact q'
    case pos =>
    rw [decide_eq_true h2]
    refine iteF ?_
    refine ⟨_, rfl, t, rfl, fun D hD => ?_⟩
    refine lc_it walk_str (fun i H2 => Same H H2 ∧ H2 D = some (.lst ((t.cps.toList.take i).map fun c => .bl (decide (c ∈ lets.cps.toList))))) ⟨new_same hD, upd_same⟩ (fun _ _ _ _ => trivial) ?_ ?_
    · rintro i x H2 H3 hi ⟨s2, g⟩ ⟨rfl, c, hc, rfl⟩
      refine ⟨rfl, yes_of ?_⟩
      have hc' : t.cps.toList[i]? = some c := by rw [Array.getElem?_toList]; exact hc
      refine ⟨_, rfl, c, lets, rfl, rfl, _, g, small1000 (by rw [List.length_map, List.length_take]; have e : t.length = t.cps.toList.length := Array.length_toList.symm; omega), same_upd hD s2, ?_⟩
      · rw [upd_same, List.take_add_one, hc', List.map_append]
        rfl
    · rintro H2 ⟨s2, g⟩
      refine ⟨D, t.cps.toList.map fun c => decide (c ∈ lets.cps.toList), rfl, SqL.of ?_, ?_⟩
      · rw [g, List.take_of_length_le (by rw [Array.length_toList]; exact Nat.le_refl _), List.map_map]
        rfl
      · have e : isWord t = (t.cps.toList.map fun c => decide (c ∈ lets.cps.toList)).all id := by
          unfold isWord
          rw [decide_eq_true (by omega), Bool.true_and, List.all_map]
          rfl
        rw [← e]
        exact q H2 s2
theorem scTerm : FnScope ["thing", "words", "word"] ["thing"] (defScope sIsTerm) := ⟨rfl, rfl, rfl, by decide +kernel, rfl, by decide +kernel, by decide +kernel⟩
theorem ok_isterm {f g : Addr} {fd fdW : FuncData} (F : Fs K mg "is_term" sIsTerm ["thing"] f fd) (W : Fs K mg "is_word" sIsWord ["thing"] g fdW) (T : Bx mg) : FnOk P w K mg base CX0 2 f fd ["thing"] spIsTerm := by
  have GW : FnOk P w K mg base CX0 1 g fdW ["thing"] spIsWord := ok_isword W T
  refine F.F.ok scTerm (fun vs H Q E h => ?_) (fun cdv A outer s H vs Q E hr h => ?_)
  · obtain ⟨t, rfl, _⟩ := h
    rfl
  · obtain ⟨t, rfl, hs, q⟩ := h
    refine ⟨_, pss_cons (ps_if (pt_not (pt_val (pe_callB call_isi (by rfl) T.isi boot_isinstance (pa_cons (pv 0) (pa_cons (pe_bltn (v := .ty "str") (by rfl) T.str (by decide +kernel) rfl) pa_nil))))) (pss_one (ps_ret pe_bl)) pss_nil)
      (pss_cons (ps_if (pt_cmpR op_eq (pv 0) pe_str (nomark _)) (pss_one (ps_ret pe_bl)) pss_nil)
      (pss_cons (ps_set (i := 1) scTerm.nd rfl (Or.inl rfl) (pe_split (pv 0) pe_str))
      (pss_one (ps_ret (pe_and (pe_cmpR op_le (pe_callB call_len_seq (by rfl) T.len PySem.boot_len (pa_cons (pv 1) pa_nil)) pe_int (nomark _))
        (pe_one (pe_callB (cr_all rfl) (by rfl) T.all (by decide +kernel) (pa_cons
          (pe_lc (own := [("word", 2)]) (g := gName 2) (tt := tYes) rfl scTerm.nd (pi_list (pv 1)) (blkOk_by (N := ["thing", "words", "word"]) (sc := defScope sIsTerm) (by decide +kernel))
            (fun _ _ _ _ _ => pg_name (i := 2) scTerm.nd rfl (Or.inl rfl)) (fun _ _ _ _ _ => pts_nil)
            (fun _ _ _ _ _ => pe_call GW hr rfl W.m W.F.kp W.b .nil pass0 (pa_cons (pv 2) pa_nil))) pa_nil)))))))), ?_⟩
    refine ⟨_, rfl, .str t, .ty "str", _, _, true, rfl, .ty _, .base (.str t), kit_ty (by decide +kernel), true, rfl, iteF ?_⟩
    refine ⟨_, rfl, rfl, _, rfl, ?_⟩
    by_cases ht : t = ""
    case pos =>
      have e : decide (V.str t = V.str "") = true := by rw [ht]; exact decide_eq_true rfl
      rw [e]
      refine iteT ?_
      have e : isTerm t = true := by
        unfold isTerm
        rw [decide_eq_true ht, Bool.true_or]
      have q' := q H fun _ _ z => z
      rw [e] at q'
      exact q'
    case neg =>
    have e : decide (V.str t = V.str "") = false := decide_eq_false fun z => ht (V.str.inj z)
    rw [e]
    refine iteF ?_
    have e0 : isTerm t = (decide ((Txt.split t ".").length ≤ 2) && (Txt.split t ".").all isWord) := by
      unfold isTerm
      rw [decide_eq_false ht, Bool.false_or]
    rw [e0] at q
    refine ⟨_, rfl, ⟨t, rfl⟩, t, ".", rfl, rfl, (by decide), (by have := hs.l; rw [sizeLine_eq]; omega), fun p hp => ?_⟩
    have gp : (upd H p (.lst ((Txt.split t ".").map V.str))) p = some (.lst ((Txt.split t ".").map V.str)) := upd_same
    refine ⟨_, rfl, p, _, rfl, .inl (SqL.of gp), _, _, rfl, rfl, _, rfl, ?_⟩
    rw [List.length_map]
    by_cases h2 : ((Txt.split t ".").length : Int) ≤ 2
    case neg =>
      rw [decide_eq_false (by omega), Bool.false_and] at q
      rw [decide_eq_false h2]
      exact iteF (q _ (new_same hp))
    case pos =>
    rw [decide_eq_true (by omega), Bool.true_and] at q
    rw [decide_eq_true h2]
    refine iteT ⟨_, rfl, p, rfl, ⟨_, SqL.of gp⟩, fun D hD => ?_⟩
    have nD : p ≠ D := fun z => by
      rw [← z, gp] at hD
      cases hD
    refine lc_it (walk_list (xs := (Txt.split t ".").map V.str)) (fun i H2 => Same (upd H p (.lst ((Txt.split t ".").map V.str))) H2 ∧ H2 D = some (.lst (((Txt.split t ".").take i).map fun x => .bl (isWord x)))) ⟨new_same hD, upd_same⟩ (fun i H2 _ h => SqL.of (h.1 _ _ gp)) ?_ ?_
    · rintro i x H2 H3 hi ⟨s2, gD⟩ ⟨rfl, hx⟩
      rw [List.getElem?_map] at hx
      obtain ⟨z, hz, rfl⟩ := Option.map_eq_some_iff.mp hx
      refine ⟨rfl, yes_of ⟨_, rfl, z, rfl, hs.e z (List.mem_of_getElem? hz), fun H4 s4 => ⟨_, s4 _ _ gD, small1000 (by rw [List.length_map, List.length_take]; have := hs.n; omega), same_upd hD (fun b u e => s4 _ _ (s2 _ _ e)), ?_⟩⟩⟩
      rw [upd_same, List.take_add_one, hz, List.map_append]
      rfl
    · rintro H2 ⟨s2, gD⟩
      refine ⟨D, (Txt.split t ".").map isWord, rfl, SqL.of ?_, ?_⟩
      · rw [gD, List.take_of_length_le (by rw [List.length_map]; exact Nat.le_refl _), List.map_map]
        rfl
      · have e : (Txt.split t ".").all isWord = ((Txt.split t ".").map isWord).all id := by
          rw [List.all_map]
          rfl
        rw [← e]
        exact q H2 fun b u z => s2 _ _ (new_same hp b u z)
theorem scLit : FnScope ["thing", "left", "right", "number"] ["thing"] (defScope sIsLit) := ⟨rfl, rfl, rfl, by decide +kernel, rfl, by decide +kernel, by decide +kernel⟩
theorem ok_islit {f g : Addr} {fd fdI : FuncData} (F : Fs K mg "is_literal" sIsLit ["thing"] f fd) (W : Fs K mg "is_integer" sIsInt ["thing"] g fdI) (T : Bx mg) : FnOk P w K mg base CX0 2 f fd ["thing"] (spIsLit K) := by
  have GI : FnOk P w K mg base CX0 1 g fdI ["thing"] spIsInt := ok_isint W T
  refine F.F.ok scLit (fun vs H Q E h => ?_) (fun cdv A outer s H vs Q E hr h => ?_)
  · obtain ⟨x, l, rfl, _⟩ := h
    rfl
  · obtain ⟨x, ⟨l1, l2, n⟩, rfl, ⟨a, rfl, ha⟩, q⟩ := h
    refine ⟨_, pss_cons (ps_if (PW.pt (pw_or (pt_not (pt_val (pe_callB call_isi (by rfl) T.isi boot_isinstance (pa_cons (pv 0) (pa_cons (pe_bltn (v := .ty "tuple") (by rfl) T.tuple (by decide +kernel) rfl) pa_nil)))))
        (pw_or1 (pt_cmpR op_ne (pe_callB call_len_seq (by rfl) T.len PySem.boot_len (pa_cons (pv 0) pa_nil)) pe_int (nomark _))))) (pss_one (ps_ret pe_bl)) pss_nil)
      (pss_cons (ps_asg (pv 0) (pg_tup rfl (pgs_cons (pg_name (i := 1) scLit.nd rfl (Or.inl rfl)) (pgs_cons (pg_name (i := 2) scLit.nd rfl (Or.inl rfl)) (pgs_cons (pg_name (i := 3) scLit.nd rfl (Or.inl rfl)) pgs_nil)))))
      (pss_one (ps_ret (pe_and (pe_callB call_isi (by rfl) T.isi boot_isinstance (pa_cons (pv 1) (pa_cons (pe_bltn (v := .ty "str") (by rfl) T.str (by decide +kernel) rfl) pa_nil)))
        (pe_and (pe_callB call_isi (by rfl) T.isi boot_isinstance (pa_cons (pv 2) (pa_cons (pe_bltn (v := .ty "str") (by rfl) T.str (by decide +kernel) rfl) pa_nil)))
        (pe_one (pe_call GI hr rfl W.m W.F.kp W.b .nil pass0 (pa_cons (pv 3) pa_nil)))))))), ?_⟩
    refine ⟨_, rfl, .ref a, .ty "tuple", _, _, true, rfl, .ty _, tyT ha, kit_ty (by decide +kernel), true, rfl, iteF ?_⟩
    refine ⟨_, rfl, a, _, rfl, .inr ha, rfl, _, rfl, ?_⟩
    refine iteF ?_
    refine ⟨_, rfl, a, _, rfl, ha, rfl, _, _, rfl, _, _, rfl, _, _, rfl, rfl, ?_⟩
    refine ⟨_, rfl, .str l1, .ty "str", _, _, true, rfl, .ty _, .base (.str l1), kit_ty (by decide +kernel), true, rfl, iteT ?_⟩
    refine ⟨_, rfl, .str l2, .ty "str", _, _, true, rfl, .ty _, .base (.str l2), kit_ty (by decide +kernel), true, rfl, iteT ?_⟩
    exact ⟨_, rfl, n, rfl, q⟩
def spLitT (K : PySem.W.Frag) : Sp := fun vs H Q _ => ∃ (x : V) (l : Lit), vs = [x] ∧ IsLit K H x l ∧ Short l.1 ∧ Short l.2.1 ∧ ∀ H', Same H H' → Q (.bl (isTerm l.1 && isTerm l.2.1)) H'
theorem scLitT : FnScope ["thing"] ["thing"] (defScope sLitT) := ⟨rfl, rfl, rfl, by decide +kernel, rfl, by decide +kernel, by decide +kernel⟩
theorem ok_litT {f g i t wd : Addr} {fd fdL fdI fdT fdW : FuncData} (F : Fs K mg "is_literal_over_terms" sLitT ["thing"] f fd) (L : Fs K mg "is_literal" sIsLit ["thing"] g fdL) (I : Fs K mg "is_integer" sIsInt ["thing"] i fdI)
    (Tm : Fs K mg "is_term" sIsTerm ["thing"] t fdT) (W : Fs K mg "is_word" sIsWord ["thing"] wd fdW) (T : Bx mg) : FnOk P w K mg base CX0 3 f fd ["thing"] (spLitT K) := by
  have GL : FnOk P w K mg base CX0 2 g fdL ["thing"] (spIsLit K) := ok_islit L I T
  have GT : FnOk P w K mg base CX0 2 t fdT ["thing"] spIsTerm := ok_isterm Tm W T
  refine F.F.ok scLitT (fun vs H Q E h => ?_) (fun cdv A outer s H vs Q E hr h => ?_)
  · obtain ⟨x, l, rfl, _⟩ := h
    rfl
  · obtain ⟨x, ⟨l1, l2, n⟩, rfl, ⟨a, rfl, ha⟩, sh1, sh2, q⟩ := h
    refine ⟨_, pss_one (ps_ret (pe_and (pe_call GL hr (by rfl) L.m L.F.kp L.b .nil pass0 (pa_cons (pv 0) pa_nil))
      (pe_and (pe_call GT hr (by rfl) Tm.m Tm.F.kp Tm.b .nil pass0 (pa_cons (pe_ix ix_tup (pv 0) pe_int (fun _ _ => rfl)) pa_nil))
      (pe_one (pe_call GT hr (by rfl) Tm.m Tm.F.kp Tm.b .nil pass0 (pa_cons (pe_ix ix_tup (pv 0) pe_int (fun _ _ => rfl)) pa_nil)))))), ?_⟩
    refine ⟨_, rfl, .ref a, (l1, l2, n), rfl, ⟨a, rfl, ha⟩, _, rfl, iteT ?_⟩
    refine ⟨_, rfl, a, _, _, .str l1, rfl, rfl, ha, rfl, l1, rfl, sh1, fun H4 s4 => ⟨_, rfl, ?_⟩⟩
    cases h3 : isTerm l1 with
    | false =>
      have q' := q H4 s4
      rw [show isTerm (l1, l2, n).1 = false from h3, Bool.false_and] at q'
      exact iteF q'
    | true =>
      refine iteT ⟨_, rfl, a, _, _, .str l2, rfl, rfl, SqT.same s4 ha, rfl, l2, rfl, sh2, fun H5 s5 => ?_⟩
      have q' := q H5 fun b u z => s5 _ _ (s4 _ _ z)
      rw [show isTerm (l1, l2, n).1 = true from h3, Bool.true_and] at q'
      exact q'
end
end Kx
namespace Kx
open PySem L2 PySem.Spec PyProof.Rows
structure Cl (K : PySem.W.Frag) (H : Hp) (a : Addr) (xs : List V) (c : List Lit) : Prop where
  sq : SqT K H a xs
  p : Paired (IsLit K H) xs c
  l1 : 1 ≤ c.length
  l2 : c.length ≤ 1000
theorem paired_same {K : PySem.W.Frag} {H H' : Hp} (s : Same H H') {xs : List V} {c : List Lit} (h : Paired (IsLit K H) xs c) : Paired (IsLit K H') xs c := L2.Paired.mapP h fun _ _ z => IsLit.same s z
theorem Cl.same {K : PySem.W.Frag} {H H' : Hp} {a : Addr} {xs : List V} {c : List Lit} (s : Same H H') (h : Cl K H a xs c) : Cl K H' a xs c := ⟨SqT.same s h.sq, paired_same s h.p, h.l1, h.l2⟩
theorem Cl.len {K : PySem.W.Frag} {H : Hp} {a : Addr} {xs : List V} {c : List Lit} (h : Cl K H a xs c) : xs.length = c.length := Paired.length h.p
def spIsCl (K : PySem.W.Frag) : Sp := fun vs H Q _ => ∃ (a : Addr) (xs : List V) (c : List Lit) (m : Int), vs = [.ref a, .int m] ∧ Cl K H a xs c ∧ ∀ H', Same H H' → Q (.bl (decide ((c.length : Int) ≤ m))) H'
def stands (c : List Lit) : Bool := decide ((c.length : Int) ≤ 2) && c.all fun l => isTerm l.1 && isTerm l.2.1
def spStand (K : PySem.W.Frag) : Sp := fun vs H Q _ => ∃ (a : Addr) (xs : List V) (c : List Lit), vs = [.ref a] ∧ Cl K H a xs c ∧ (∀ l ∈ c, Short l.1 ∧ Short l.2.1) ∧ ∀ H', Same H H' → Q (.bl (stands c)) H'
section
variable {P : Program} {w : World} {K : PySem.W.Frag} {mg : Str → Option Value} {base : Heap}
theorem scCl : FnScope ["thing", "most", "literal"] ["thing", "most"] (defScope sIsCl) := ⟨rfl, rfl, rfl, by decide +kernel, rfl, by decide +kernel, by decide +kernel⟩
theorem ok_iscl {f g i : Addr} {fd fdL fdI : FuncData} (F : Fs K mg "is_clause" sIsCl ["thing", "most"] f fd) (L : Fs K mg "is_literal" sIsLit ["thing"] g fdL) (I : Fs K mg "is_integer" sIsInt ["thing"] i fdI) (T : Bx mg) :
    FnOk P w K mg base CX0 3 f fd ["thing", "most"] (spIsCl K) := by
  have GL : FnOk P w K mg base CX0 2 g fdL ["thing"] (spIsLit K) := ok_islit L I T
  refine F.F.ok scCl (fun vs H Q E h => ?_) (fun cdv A outer s H vs Q E hr h => ?_)
  · obtain ⟨a, xs, c, m, rfl, _⟩ := h
    rfl
  · obtain ⟨a, xs, c, m, rfl, hc, q⟩ := h
    have hl := hc.len
    have h1 := hc.l1
    refine ⟨_, pss_cons (ps_if (PW.pt (pw_or (pt_not (pt_val (pe_callB call_isi (by rfl) T.isi boot_isinstance (pa_cons (pv 0) (pa_cons (pe_bltn (v := .ty "tuple") (by rfl) T.tuple (by decide +kernel) rfl) pa_nil)))))
        (pw_or1 (pt_not (pt_chain op_le op_le pe_int (pe_callB call_len_seq (by rfl) T.len PySem.boot_len (pa_cons (pv 0) pa_nil)) (pv 1)))))) (pss_one (ps_ret pe_bl)) pss_nil)
      (pss_one (ps_ret (pe_callB (cr_all rfl) (by rfl) T.all (by decide +kernel) (pa_cons
        (pe_lc (own := [("literal", 2)]) (g := gName 2) (tt := tYes) rfl scCl.nd (pi_tup (pv 0)) (blkOk_by (N := ["thing", "most", "literal"]) (sc := defScope sIsCl) (by decide +kernel))
          (fun _ _ _ _ _ => pg_name (i := 2) scCl.nd rfl (Or.inl rfl)) (fun _ _ _ _ _ => pts_nil)
          (fun _ _ _ _ _ => pe_call GL hr rfl L.m L.F.kp L.b .nil pass0 (pa_cons (pv 2) pa_nil))) pa_nil)))), ?_⟩
    refine ⟨_, rfl, .ref a, .ty "tuple", _, _, true, rfl, .ty _, tyT hc.sq, kit_ty (by decide +kernel), true, rfl, iteF ?_⟩
    refine ⟨_, rfl, a, xs, rfl, .inr hc.sq, _, _, rfl, rfl, _, rfl, ?_⟩
    rw [decide_eq_true (by rw [hl]; omega)]
    refine iteT ⟨_, rfl, _, _, rfl, rfl, _, rfl, ?_⟩
    rw [hl]
    by_cases h2 : (c.length : Int) ≤ m
    case neg =>
      rw [decide_eq_false h2] at q ⊢
      exact iteT (q H fun _ _ z => z)
    case pos =>
    rw [decide_eq_true h2] at q ⊢
    refine iteF ⟨_, rfl, a, rfl, ⟨_, hc.sq⟩, fun D hD => ?_⟩
    refine lc_it (walk_tup (xs := xs)) (fun i H2 => Same H H2 ∧ H2 D = some (.lst ((List.replicate i true).map V.bl))) ⟨new_same hD, upd_same⟩ (fun i H2 _ h => SqT.same h.1 hc.sq) ?_ ?_
    · rintro i x H2 H3 hi ⟨s2, gD⟩ ⟨rfl, hx⟩
      obtain ⟨l, hcl, hx'⟩ := paired_get hc.p hx
      refine ⟨rfl, yes_of ⟨_, rfl, x, l, rfl, IsLit.same s2 hx', _, gD, small1000 (by rw [List.length_map, List.length_replicate]; have := hc.l2; omega), same_upd hD s2, ?_⟩⟩
      rw [upd_same, List.replicate_succ', List.map_append]
      rfl
    · rintro H2 ⟨s2, gD⟩
      refine ⟨D, List.replicate xs.length true, rfl, SqL.of gD, ?_⟩
      have e : (List.replicate xs.length true).all id = true := List.all_eq_true.mpr fun b hb => by rw [(List.mem_replicate.mp hb).2]; rfl
      rw [e]
      exact q H2 s2
theorem scStand : FnScope ["thing", "literal"] ["thing"] (defScope sStand) := ⟨rfl, rfl, rfl, by decide +kernel, rfl, by decide +kernel, by decide +kernel⟩
theorem ok_stand {f g i c' t wd lt : Addr} {fd fdL fdI fdC fdT fdW fdLT : FuncData} (F : Fs K mg "_can_stand" sStand ["thing"] f fd) (C : Fs K mg "is_clause" sIsCl ["thing", "most"] c' fdC) (L : Fs K mg "is_literal" sIsLit ["thing"] g fdL) (I : Fs K mg "is_integer" sIsInt ["thing"] i fdI)
    (Tm : Fs K mg "is_term" sIsTerm ["thing"] t fdT) (W : Fs K mg "is_word" sIsWord ["thing"] wd fdW) (LT : Fs K mg "is_literal_over_terms" sLitT ["thing"] lt fdLT) (T : Bx mg) (hM : ∃ k, mg "MOST_LITERALS" = some (.int 2 k)) :
    FnOk P w K mg base CX0 4 f fd ["thing"] (spStand K) := by
  obtain ⟨tk, hM⟩ := hM
  have GC : FnOk P w K mg base CX0 3 c' fdC ["thing", "most"] (spIsCl K) := ok_iscl C L I T
  have GT : FnOk P w K mg base CX0 3 lt fdLT ["thing"] (spLitT K) := ok_litT LT L I Tm W T
  refine F.F.ok scStand (fun vs H Q E h => ?_) (fun cdv A outer s H vs Q E hr h => ?_)
  · obtain ⟨a, xs, c, rfl, _⟩ := h
    rfl
  · obtain ⟨a, xs, c, rfl, hc, hs, q⟩ := h
    have hl := hc.len
    refine ⟨_, pss_one (ps_ret (pe_and (pe_call GC hr (by rfl) C.m C.F.kp C.b .nil pass0 (pa_cons (pv 0) (pa_cons (pe_glob (v := .int 2) (by rfl) hM ⟨_, rfl⟩) pa_nil)))
      (pe_one (pe_callB (cr_all rfl) (by rfl) T.all (by decide +kernel) (pa_cons
        (pe_lc (own := [("literal", 1)]) (g := gName 1) (tt := tYes) rfl scStand.nd (pi_tup (pv 0)) (blkOk_by (N := ["thing", "literal"]) (sc := defScope sStand) (by decide +kernel))
          (fun _ _ _ _ _ => pg_name (i := 1) scStand.nd rfl (Or.inl rfl)) (fun _ _ _ _ _ => pts_nil)
          (fun _ _ _ _ _ => pe_call GT hr (by rfl) LT.m LT.F.kp LT.b .nil pass0 (pa_cons (pv 1) pa_nil))) pa_nil))))), ?_⟩
    refine ⟨_, rfl, a, xs, c, 2, rfl, hc, fun H1 s1 => ⟨_, rfl, ?_⟩⟩
    by_cases h2 : (c.length : Int) ≤ 2
    case neg =>
      rw [decide_eq_false h2]
      have e : stands c = false := by
        unfold stands
        rw [decide_eq_false h2, Bool.false_and]
      rw [e] at q
      exact iteF (q H1 s1)
    case pos =>
    rw [decide_eq_true h2]
    have e : stands c = c.all fun l => isTerm l.1 && isTerm l.2.1 := by
      unfold stands
      rw [decide_eq_true h2, Bool.true_and]
    rw [e] at q
    have hc1 := Cl.same s1 hc
    refine iteT ⟨_, rfl, a, rfl, ⟨_, hc1.sq⟩, fun D hD => ?_⟩
    refine lc_it (walk_tup (xs := xs)) (fun i H2 => Same H1 H2 ∧ H2 D = some (.lst ((c.take i).map fun l => .bl (isTerm l.1 && isTerm l.2.1)))) ⟨new_same hD, upd_same⟩ (fun i H2 _ h => SqT.same h.1 hc1.sq) ?_ ?_
    · rintro i x H2 H3 hi ⟨s2, gD⟩ ⟨rfl, hx⟩
      obtain ⟨l, hcl, hx'⟩ := paired_get hc1.p hx
      obtain ⟨sh1, sh2⟩ := hs l (List.mem_of_getElem? hcl)
      refine ⟨rfl, yes_of ⟨_, rfl, x, l, rfl, IsLit.same s2 hx', sh1, sh2, fun H4 s4 => ?_⟩⟩
      refine ⟨_, s4 _ _ gD, small1000 (by rw [List.length_map, List.length_take]; have := hc.l2; omega), same_upd hD (fun b u z => s4 _ _ (s2 _ _ z)), ?_⟩
      rw [upd_same, List.take_add_one, hcl, List.map_append]
      rfl
    · rintro H2 ⟨s2, gD⟩
      refine ⟨D, c.map fun l => isTerm l.1 && isTerm l.2.1, rfl, SqL.of ?_, ?_⟩
      · rw [gD, hl, List.take_of_length_le (Nat.le_refl _), List.map_map]
        rfl
      · have e : (c.all fun l => isTerm l.1 && isTerm l.2.1) = (c.map fun l => isTerm l.1 && isTerm l.2.1).all id := by
          rw [List.all_map]
          rfl
        rw [← e]
        exact q H2 fun b u z => s2 _ _ (s1 _ _ z)
end
end Kx
namespace Kx
open PySem L2 PySem.Spec PyProof.Rows
def IsC (K : PySem.W.Frag) (H : Hp) (x : V) (c : List Lit) : Prop := ∃ a ys, x = .ref a ∧ Cl K H a ys c
theorem IsC.same {K : PySem.W.Frag} {H H' : Hp} {x : V} {c : List Lit} (s : Same H H') (h : IsC K H x c) : IsC K H' x c := let ⟨a, ys, e, q⟩ := h; ⟨a, ys, e, Cl.same s q⟩
/-- a tuple of clauses -/
structure Cs (K : PySem.W.Frag) (H : Hp) (a : Addr) (xs : List V) (cs : List (List Lit)) : Prop where
  sq : SqT K H a xs
  p : Paired (IsC K H) xs cs
  l : cs.length ≤ 1000
theorem pairedC_same {K : PySem.W.Frag} {H H' : Hp} (s : Same H H') {xs : List V} {cs : List (List Lit)} (h : Paired (IsC K H) xs cs) : Paired (IsC K H') xs cs := L2.Paired.mapP h fun _ _ z => IsC.same s z
theorem Cs.same {K : PySem.W.Frag} {H H' : Hp} {a : Addr} {xs : List V} {cs : List (List Lit)} (s : Same H H') (h : Cs K H a xs cs) : Cs K H' a xs cs := ⟨SqT.same s h.sq, pairedC_same s h.p, h.l⟩
def shortC (cs : List (List Lit)) : Prop := ∀ c ∈ cs, ∀ l ∈ c, Short l.1 ∧ Short l.2.1
/-- where clauses are refused, from the i-th on, d of two literals before -/
def wrongAt : Nat → Nat → List (List Lit) → Option Int
  | _, _, [] => none
  | i, d, c :: r => if stands c = true then if (if c.length = 2 then d + 1 else d) = 2 then some (i : Int) else wrongAt (i + 1) (if c.length = 2 then d + 1 else d) r else some (i : Int)
def firstWrong (cs : List (List Lit)) : Option Int := if 4 < cs.length then some (-1) else wrongAt 0 0 cs
def optV : Option Int → V
  | none => .non
  | some i => .int i
def spFirst (K : PySem.W.Frag) : Sp := fun vs H Q _ => ∃ (a : Addr) (xs : List V) (cs : List (List Lit)), vs = [.ref a] ∧ Cs K H a xs cs ∧ shortC cs ∧ ∀ H', Same H H' → Q (optV (firstWrong cs)) H'
/-- the package's own defs, as they are bound -/
structure Forms (K : PySem.W.Frag) (mg : Str → Option Value) : Prop where
  T : Bx mg
  mL : ∃ k, mg "MOST_LITERALS" = some (.int 2 k)
  mC : ∃ k, mg "MOST_CLAUSES" = some (.int 4 k)
  int : ∃ f fd, Fs K mg "is_integer" sIsInt ["thing"] f fd
  word : ∃ f fd, Fs K mg "is_word" sIsWord ["thing"] f fd
  term : ∃ f fd, Fs K mg "is_term" sIsTerm ["thing"] f fd
  lit : ∃ f fd, Fs K mg "is_literal" sIsLit ["thing"] f fd
  cl : ∃ f fd, Fs K mg "is_clause" sIsCl ["thing", "most"] f fd
  stand : ∃ f fd, Fs K mg "_can_stand" sStand ["thing"] f fd
  litT : ∃ f fd, Fs K mg "is_literal_over_terms" sLitT ["thing"] f fd
section
variable {P : Program} {w : World} {K : PySem.W.Frag} {mg : Str → Option Value} {base : Heap}
theorem scFirst : FnScope ["clauses", "doubles", "at", "clause"] ["clauses"] (defScope sFirst) := ⟨rfl, rfl, rfl, by decide +kernel, rfl, by decide +kernel, by decide +kernel⟩
theorem ok_first {f : Addr} {fd : FuncData} (F : Fs K mg "_first_wrong" sFirst ["clauses"] f fd) (M : Forms K mg) : FnOk P w K mg base CX0 5 f fd ["clauses"] (spFirst K) := by
  obtain ⟨tk, hM⟩ := M.mC
  obtain ⟨_, _, dI⟩ := M.int
  obtain ⟨_, _, dW⟩ := M.word
  obtain ⟨_, _, dT⟩ := M.term
  obtain ⟨_, _, dL⟩ := M.lit
  obtain ⟨_, _, dC⟩ := M.cl
  obtain ⟨_, _, dS⟩ := M.stand
  obtain ⟨_, _, dLT⟩ := M.litT
  have T := M.T
  have GS : FnOk P w K mg base CX0 4 _ _ ["thing"] (spStand K) := ok_stand dS dC dL dI dT dW dLT T M.mL
  refine F.F.ok scFirst (fun vs H Q E h => ?_) (fun cdv A outer s H vs Q E hr h => ?_)
  · obtain ⟨a, xs, cs, rfl, _⟩ := h
    rfl
  · obtain ⟨a, xs, cs, rfl, hc, hs, q⟩ := h
    have hl : xs.length = cs.length := Paired.length hc.p
    refine ⟨_, pss_cons (ps_if (pt_cmpR op_gt (pe_callB call_len_seq (by rfl) T.len PySem.boot_len (pa_cons (pv 0) pa_nil)) (pe_glob (v := .int 4) (by rfl) hM ⟨_, rfl⟩) (nomark _)) (pss_one (ps_ret (pe_un un_neg pe_int))) pss_nil)
      (pss_cons (ps_set (i := 1) scFirst.nd rfl (Or.inl rfl) pe_int)
      (pss_cons (ps_for PassesOwn.never rfl (pi_enumT (by rfl) T.enum (pa_cons (pv 0) pa_nil)) (pg_tup rfl (pgs_cons (pg_name (i := 2) scFirst.nd rfl (Or.inl rfl)) (pgs_cons (pg_name (i := 3) scFirst.nd rfl (Or.inl rfl)) pgs_nil)))
        (pss_cons (ps_if (pt_not (pt_val (pe_call GS hr (by rfl) dS.m dS.F.kp dS.b .nil pass0 (pa_cons (pv 3) pa_nil)))) (pss_one (ps_ret (pv 2))) pss_nil)
        (pss_cons (ps_if (pt_cmpR op_eq (pe_callB call_len_seq (by rfl) T.len PySem.boot_len (pa_cons (pv 3) pa_nil)) pe_int (nomark _)) (pss_one (ps_aug (i := 1) scFirst.nd rfl (Or.inl rfl) pe_int ip_add)) pss_nil)
        (pss_one (ps_if (pt_cmpR op_eq (pv 1) pe_int (nomark _)) (pss_one (ps_ret (pv 2))) pss_nil)))))
      (pss_one (ps_ret pe_non)))), ?_⟩
    refine ⟨_, rfl, a, xs, rfl, .inr hc.sq, _, _, rfl, rfl, _, rfl, ?_⟩
    rw [hl]
    by_cases h4 : (4 : Int) < (cs.length : Int)
    case pos =>
      rw [decide_eq_true h4]
      have e : firstWrong cs = some (-1) := by
        unfold firstWrong
        rw [if_pos (by omega)]
      rw [e] at q
      exact iteT ⟨_, rfl, q H fun _ _ z => z⟩
    case neg =>
    rw [decide_eq_false h4]
    have e : firstWrong cs = wrongAt 0 0 cs := by
      unfold firstWrong
      rw [if_neg (by omega)]
    rw [e] at q
    obtain ⟨R, hR⟩ : ∃ R, wrongAt 0 0 cs = R := ⟨_, rfl⟩
    rw [hR] at q
    refine iteF ?_
    refine ⟨_, rfl, a, xs, rfl, hc.sq, ?_⟩
    refine for_enumT (xs := xs) (fun i σ H2 => Same H H2 ∧ ∃ (d : Nat) (v2 v3 : Option V), σ = [some (.ref a), some (.int d), v2, v3] ∧ d < 2 ∧ wrongAt i d (cs.drop i) = R) ⟨fun _ _ z => z, 0, none, none, rfl, by decide, hR⟩
      (fun i σ H2 _ h => SqT.same h.1 hc.sq) ?_ ?_
    · rintro i x σ H2 t hx ⟨s2, d, v2, v3, rfl, hd, hw⟩ ht
      obtain ⟨c, hcl, y, ys, rfl, hy⟩ := paired_get hc.p hx
      have hdrop : cs.drop i = c :: cs.drop (i + 1) := (List.drop_eq_getElem?_toList_append).trans (by rw [hcl]; rfl)
      rw [hdrop] at hw
      have s3 : Same H (upd H2 t (.tup [.int (i : Nat), .ref y])) := fun b u z => new_same ht b u (s2 b u z)
      have hy3 := Cl.same s3 hy
      refine ⟨t, _, rfl, SqT.of upd_same, rfl, _, _, rfl, _, _, rfl, rfl, ?_⟩
      refine ⟨_, rfl, y, ys, c, rfl, hy3, fun l hm => hs c (List.mem_of_getElem? hcl) l hm, fun H4 s4 => ⟨_, rfl, ?_⟩⟩
      have s14 : Same H H4 := fun b u z => s4 b u (s3 b u z)
      have hy4 := Cl.same s14 hy
      unfold wrongAt at hw
      cases hst : stands c with
      | false =>
        rw [hst, if_neg Bool.false_ne_true] at hw
        rw [← hw] at q
        exact iteT ⟨_, rfl, q H4 s14⟩
      | true =>
        rw [hst, if_pos rfl] at hw
        refine iteF ?_
        refine ⟨_, rfl, y, ys, rfl, .inr hy4.sq, rfl, _, rfl, ?_⟩
        rw [hy4.len]
        by_cases h2 : c.length = 2
        case pos =>
          rw [if_pos h2] at hw
          have e2 : decide (V.int (c.length : Int) = V.int 2) = true := by rw [h2]; exact decide_eq_true rfl
          rw [e2]
          refine iteT ⟨_, rfl, _, _, rfl, rfl, ?_⟩
          refine ⟨_, rfl, rfl, _, rfl, ?_⟩
          by_cases h5 : d + 1 = 2
          case pos =>
            rw [if_pos h5] at hw
            have e5 : decide (V.int ((d : Int) + 1) = V.int 2) = true := by
              have : d = 1 := by omega
              rw [this]
              exact decide_eq_true rfl
            rw [e5]
            rw [← hw] at q
            exact iteT ⟨_, rfl, q H4 s14⟩
          case neg =>
            rw [if_neg h5] at hw
            have e5 : decide (V.int ((d : Int) + 1) = V.int 2) = false := decide_eq_false fun z => h5 (by have := V.int.inj z; omega)
            rw [e5]
            exact iteF ⟨s14, d + 1, _, _, rfl, by omega, hw⟩
        case neg =>
          rw [if_neg h2] at hw
          have e2 : decide (V.int (c.length : Int) = V.int 2) = false := decide_eq_false fun z => h2 (by have := V.int.inj z; omega)
          rw [e2]
          refine iteF ?_
          refine ⟨_, rfl, rfl, _, rfl, ?_⟩
          have h5 : ¬ d = 2 := by omega
          rw [if_neg h5] at hw
          have e5 : decide (V.int (d : Int) = V.int 2) = false := decide_eq_false fun z => h5 (by have := V.int.inj z; omega)
          rw [e5]
          exact iteF ⟨s14, d, _, _, rfl, hd, hw⟩
    · rintro σ H2 ⟨s2, d, v2, v3, rfl, hd, hw⟩
      rw [List.drop_of_length_le (by rw [hl]; exact Nat.le_refl _)] at hw
      rw [← hw] at q
      exact q H2 s2
end
end Kx
namespace Kx
open PySem L2 PySem.Spec PyProof.Rows
/-! the terms of clauses, gathered -/
abbrev noE (t : Str) : Bool := !decide (t = "")
def termsL (l : Lit) : List Str := [l.1, l.2.1].filter noE
def termsC (c : List Lit) : List Str := c.flatMap termsL
def termsOf (cs : List (List Lit)) : List Str := cs.flatMap termsC
structure Col (l ts : List Str) (n : Nat) : Prop where
  nd : l.Nodup
  mem : ∀ t, t ∈ l ↔ t ∈ ts
  len : l.length ≤ n
theorem Col.nil : Col [] [] 0 := ⟨List.nodup_nil, fun _ => Iff.rfl, Nat.le_refl _⟩
theorem put_nodup {l : List Str} {k : Str} (h : l.Nodup) : (put l k).Nodup := by
  unfold put
  by_cases hk : k ∈ l
  · rw [if_pos hk]; exact h
  · rw [if_neg hk]; exact List.nodup_cons.mpr ⟨hk, h⟩
theorem Col.put {l ts : List Str} {n : Nat} {k : Str} (C : Col l ts n) : Col (Kx.put l k) (ts ++ [k]) (n + 1) :=
  ⟨put_nodup C.nd, fun t => by rw [mem_put, List.mem_append, C.mem t, List.mem_singleton], Nat.le_trans put_len (Nat.succ_le_succ C.len)⟩
theorem Col.more {l ts : List Str} {n m : Nat} (C : Col l ts n) (h : n ≤ m) : Col l ts m := ⟨C.nd, C.mem, Nat.le_trans C.len h⟩
theorem walk_it {J : It} {n : Nat} {G : Hp → Prop} {Y : Nat → Hp → V → Hp → Prop} (w : Walk J n G Y) {g : TG} {tt : TT} {tb : TB} {vs : List Nat} {σ : L2.St} {H0 : Hp} {Qd : Hp → Prop} (Pv : Nat → Hp → Prop) (h0 : Pv 0 H0) (hG : ∀ i H, i ≤ n → Pv i H → G H)
    (hs : ∀ i x H H', i < n → Pv i H → Y i H x H' → g x (wipe σ vs) H' fun σ2 H2 => wipe σ2 vs = wipe σ vs ∧ tt σ2 H2 fun b H3 => if b = true then tb σ2 H3 (Pv (i + 1)) else Pv (i + 1) H3) (hd : ∀ H, Pv n H → Qd H) :
    ∃ W : Nat → Nat → Hp → Prop, (∃ m, W 0 m H0) ∧ ∀ i m H, W i m H → (J.stop i H ∧ Qd H) ∨ (J.go i H ∧ ∃ Nx : Hp → Prop, (∀ H', Nx H' → ∃ m', m' < m ∧ W (i + 1) m' H') ∧
      ∀ x H', J.yld i H x H' → g x (wipe σ vs) H' fun σ2 H2 => wipe σ2 vs = wipe σ vs ∧ tt σ2 H2 fun b H3 => if b = true then tb σ2 H3 Nx else Nx H3) := by
  refine ⟨fun i m H => m = n - i ∧ i ≤ n ∧ Pv i H, ⟨n, (Nat.sub_zero n).symm, Nat.zero_le _, h0⟩, ?_⟩
  rintro i m H ⟨rfl, hi, p⟩
  have q := hG i H hi p
  rcases Nat.lt_or_eq_of_le hi with hlt | e
  · exact .inr ⟨w.goes i H hlt q, Pv (i + 1), fun H' p' => ⟨n - (i + 1), by omega, rfl, hlt, p'⟩, fun x H' y => hs i x H H' hlt p (w.yields i H x H' hlt q y)⟩
  · subst e
    exact .inl ⟨w.stops H q, hd H p⟩
theorem SqT.ins {K : PySem.W.Frag} {H : Hp} {a b C dx : Addr} {fs : List (Str × V)} {u : HO} {xs : List V} (ha : H a = some (.ins C dx fs)) (h : SqT K H b xs) : SqT K (upd H a u) b xs := by
  rcases h with (h | ⟨o, h⟩) | h
  · exact .inl (.inl (by rw [upd_ne (fun e => by rw [e, ha] at h; cases h)]; exact h))
  · exact .inl (.inr ⟨o, by rw [upd_ne (fun e => by rw [e, ha] at h; cases h)]; exact h⟩)
  · exact .inr h
theorem Cl.ins {K : PySem.W.Frag} {H : Hp} {a b C dx : Addr} {fs : List (Str × V)} {u : HO} {xs : List V} {c : List Lit} (ha : H a = some (.ins C dx fs)) (h : Cl K H b xs c) : Cl K (upd H a u) b xs c :=
  ⟨SqT.ins ha h.sq, L2.Paired.mapP h.p fun _ _ ⟨e, z, q⟩ => ⟨e, z, SqT.ins ha q⟩, h.l1, h.l2⟩
theorem Cs.ins {K : PySem.W.Frag} {H : Hp} {a b C dx : Addr} {fs : List (Str × V)} {u : HO} {xs : List V} {cs : List (List Lit)} (ha : H a = some (.ins C dx fs)) (h : Cs K H b xs cs) : Cs K (upd H a u) b xs cs :=
  ⟨SqT.ins ha h.sq, L2.Paired.mapP h.p fun _ _ ⟨e, ys, z, q⟩ => ⟨e, ys, z, Cl.ins ha q⟩, h.l⟩
theorem stands_len {c : List Lit} (h : stands c = true) : c.length ≤ 2 := by
  unfold stands at h
  rw [Bool.and_eq_true, decide_eq_true_eq] at h
  omega
theorem wrong_none : ∀ {cs : List (List Lit)} {i d : Nat}, wrongAt i d cs = none → ∀ c ∈ cs, stands c = true
  | [], _, _, _, c, hc => nomatch hc
  | c0 :: r, i, d, h, c, hc => by
    unfold wrongAt at h
    by_cases hs : stands c0 = true
    · rw [if_pos hs] at h
      generalize hd : (if c0.length = 2 then d + 1 else d) = d2 at h
      by_cases h2 : d2 = 2
      · rw [if_pos h2] at h
        cases h
      · rw [if_neg h2] at h
        rcases List.mem_cons.mp hc with e | e
        · rw [e]; exact hs
        · exact wrong_none h c e
    · rw [if_neg hs] at h
      cases h
theorem first_none {cs : List (List Lit)} (h : firstWrong cs = none) : cs.length ≤ 4 ∧ ∀ c ∈ cs, stands c = true := by
  unfold firstWrong at h
  by_cases h4 : 4 < cs.length
  · rw [if_pos h4] at h
    cases h
  · rw [if_neg h4] at h
    exact ⟨by omega, wrong_none h⟩
theorem Col.same {l ts ts' : List Str} {n : Nat} (C : Col l ts n) (e : ts = ts') : Col l ts' n := e ▸ C
theorem filt (r : List Str) (t : Str) : (r ++ [t]).filter noE = r.filter noE ++ (if t = "" then [] else [t]) := by
  rw [List.filter_append]
  by_cases h : t = ""
  · rw [if_pos h, List.filter_cons_of_neg (by simp [h])]
    rfl
  · rw [if_neg h, List.filter_cons_of_pos (by simp [h])]
    rfl
abbrev mth (i : Nat) : Stmt := inClass (top 23) i
abbrev sInit : Stmt := mth 0
abbrev nI : List Str := ["self", "clauses", "wrong", "clause", "one", "term"]
structure Cnd (K : PySem.W.Frag) (mg : Str → Option Value) (C : Addr) : Prop where
  cls : Cls K C
  nc : NoAttr K C "clauses"
  nt : NoAttr K C "terms"
  gC : mg "Cond" = some (.ref C)
  first : ∃ f fd, Fs K mg "_first_wrong" sFirst ["clauses"] f fd
  M : Forms K mg
/-- what Cond's own attributes tell -/
structure CondF (K : PySem.W.Frag) (H : Hp) (a C dx p q : Addr) (cs : List (List Lit)) (ys : List Str) : Prop where
  ins : H a = some (.ins C dx (putF "terms" (.ref q) (putF "clauses" (.ref p) [])))
  cl : ∃ xs, Cs K H p xs cs
  tm : SqT K H q (ys.map V.str)
  so : sortedS ys = true
  nd : ys.Nodup
  mem : ∀ t, t ∈ ys ↔ t ∈ termsOf cs
def raiseI : Stmt := match defBody sInit with
  | _ :: .If _ [r] _ _ :: _ => r
  | _ => .Pass ⟨0, 0, 0, 0⟩
def spInitB (K : PySem.W.Frag) (C : Addr) (F : Hp → Int → Prop) : Sp := fun vs H Q _ => ∃ (a dx p : Addr) (xs : List V) (cs : List (List Lit)), vs = [.ref a, .ref p] ∧ H a = some (.ins C dx []) ∧ Cs K H p xs cs ∧ shortC cs ∧
  (firstWrong cs = none → ∀ H' q ys, CondF K H' a C dx p q cs ys → (∀ b u, b ≠ a → H b = some u → H' b = some u) → Q .non H') ∧ ∀ i, firstWrong cs = some i → ∀ H1, Same H H1 → F H1 i
section
variable {P : Program} {w : World} {K : PySem.W.Frag} {mg : Str → Option Value} {base : Heap}
theorem scI : FnScope nI (([("self" : PySem.Str)] : List PySem.Str) ++ [("clauses" : PySem.Str)]) (defScope sInit) := ⟨rfl, rfl, rfl, by decide +kernel, rfl, by decide +kernel, by decide +kernel⟩
theorem body_init {f C : Addr} (D : Cnd K mg C) {CX : CXT} (cdv : Value) (A : Around) (outer : List Env) (s : Shared) (H : Hp) (vs : List V) (Q : VK) (E : XK) (F : Hp → Int → Prop) (hr : Room 5 (A.deeper (envOfC "Cond.__init__" (defScope sInit) s.heap.objs.size f cdv))) {tR : TS}
    (hR : PS (cxOf CX P w K mg base nI "Cond.__init__" (defScope sInit) f cdv A outer s H E) raiseI tR) (hF : ∀ (D' : Ends) v0 v1 i v3 v4 v5 H1, Same H H1 → F H1 i → tR D' [v0, v1, some (.int i), v3, v4, v5] H1) (h : spInitB K C F vs H Q E) :
    ∃ t, PSs (cxOf CX P w K mg base nI "Cond.__init__" (defScope sInit) f cdv A outer s H E) (defBody sInit) t ∧ t { nx := fun _ H' => Q .non H', rt := Q } (start nI vs) H := by
  obtain ⟨_, _, dF⟩ := D.first
  have GF : FnOk P w K mg base CX0 5 _ _ ["clauses"] (spFirst K) := ok_first dF D.M
  have T := D.M.T
  obtain ⟨a, dx, p, xs, cs, rfl, ha, hc, hsh, qn, qf⟩ := h
  refine ⟨_, pss_cons (ps_set (i := 2) scI.nd rfl (Or.inl rfl) (pe_call GF hr (by rfl) dF.m dF.F.kp dF.b .nil pass0 (pa_cons (pv 1) pa_nil)))
    (pss_cons (ps_if (pt_cmpR op_notN (pv 2) pe_non (nomark _)) (pss_one hR) pss_nil)
    (pss_cons (ps_fld (pv 0) (pv 1) (by rfl))
    (pss_one (ps_fld (pv 0) (pe_tupleOf (by rfl) T.tuple (pe_callB (cr_sortedX rfl) (by rfl) T.sorted (by decide +kernel) (pa_cons
      (pe_sc3 (own := [("clause", 3), ("one", 4), ("term", 5)]) (vs1 := [4, 5]) (vs2 := [5]) (g0 := gName 3) (g1 := gName 4) (g2 := gName 5) (tt0 := tYes) (tt1 := tYes) (w1 := iTup K (tVar 3)) (w2 := iTup K (tSl (rSlA K) (tVar 4) tNoPart (tPart (tC (.int 2))))) (tt2 := tTest (tOp rNe (tVar 5) (tC (.str "")))) (te := tVar 5) rfl scI.nd (pi_tup (pv 1)) (blkOk_by (N := nI) (sc := defScope sInit) (by decide +kernel)) (by decide) (by decide)
        (fun _ _ _ _ _ => pg_name (i := 3) scI.nd rfl (Or.inl rfl)) (fun _ _ _ _ _ => pts_nil)
        (fun _ _ _ _ _ => pi_tup (pv 3)) (fun _ _ _ _ _ => pg_name (i := 4) scI.nd rfl (Or.inl rfl)) (fun _ _ _ _ _ => pts_nil)
        (fun _ _ _ _ _ => pi_tup (pe_slice sl_tupA (pv 4) po_none (po_some pe_int))) (fun _ _ _ _ _ => pg_name (i := 5) scI.nd rfl (Or.inl rfl)) (fun _ _ _ _ _ => pts_one (pt_cmpR op_ne (pv 5) pe_str (nomark _)))
        (fun _ _ _ _ _ => pv 5)) pa_nil))) (by rfl))))), ?_⟩
  have bound : (64 : Nat) < scanBound := by decide
  have hl : xs.length = cs.length := Paired.length hc.p
  refine ⟨_, rfl, p, xs, cs, rfl, hc, hsh, fun H1 s1 => ?_⟩
  cases hw : firstWrong cs with
  | some i => exact ⟨_, rfl, rfl, _, rfl, iteT (hF _ _ _ _ _ _ _ _ s1 (qf i hw H1 s1))⟩
  | none =>
  have q := qn hw
  obtain ⟨n4, hst⟩ := first_none hw
  refine ⟨_, rfl, rfl, _, rfl, iteF ?_⟩
  refine ⟨_, rfl, _, rfl, a, C, dx, [], rfl, s1 _ _ ha, D.cls, D.nc, by decide, ?_⟩
  obtain ⟨H2, e2⟩ : ∃ H2, upd H1 a (.ins C dx (putF "clauses" (.ref p) [])) = H2 := ⟨_, rfl⟩
  have ha2 : H2 a = some (.ins C dx (putF "clauses" (.ref p) [])) := by rw [← e2]; exact upd_same
  have hc2 : Cs K H2 p xs cs := by rw [← e2]; exact Cs.ins (s1 _ _ ha) (Cs.same s1 hc)
  have k2 : ∀ b u, b ≠ a → H b = some u → H2 b = some u := fun b u nb z => by rw [← e2, upd_ne nb]; exact s1 _ _ z
  rw [e2]
  refine ⟨_, rfl, p, rfl, ⟨_, hc2.sq⟩, fun Ds hD => ?_⟩
  refine walk_it (walk_tup (xs := xs)) (fun i H3 => Same H2 H3 ∧ ∃ l, H3 Ds = some (SetX P w Ds l) ∧ Col l (termsOf (cs.take i)) (4 * i)) ⟨new_same hD, [], upd_same, Col.nil⟩ (fun i H3 _ h => SqT.same h.1 hc2.sq) ?_ ?_
  · rintro i x H3 H4 hi ⟨s3, l, gD, hC⟩ ⟨rfl, hx⟩
    obtain ⟨c, hcl, b, ys, rfl, hb⟩ := paired_get hc2.p hx
    have hcm : c ∈ cs := List.mem_of_getElem? hcl
    have c2 := stands_len (hst c hcm)
    have hi4 : i < 4 := by omega
    have hyl : ys.length = c.length := hb.len
    refine ⟨rfl, yes_of ⟨_, rfl, b, rfl, ⟨_, SqT.same s3 hb.sq⟩, ?_⟩⟩
    refine walk_it (walk_tup (xs := ys)) (fun j H5 => Same H2 H5 ∧ ∃ l, H5 Ds = some (SetX P w Ds l) ∧ Col l (termsOf (cs.take i) ++ termsC (c.take j)) (4 * i + 2 * j)) ⟨s3, l, gD, hC.same (List.append_nil _).symm⟩ (fun j H5 _ h => SqT.same h.1 hb.sq) ?_ ?_
    · rintro j x H5 H6 hj ⟨s5, l5, g5, hC5⟩ ⟨rfl, hx5⟩
      obtain ⟨lt, hlt, e, rfl, he⟩ := paired_get hb.p hx5
      obtain ⟨t1, t2, n⟩ := lt
      have he5 := SqT.same s5 he
      refine ⟨rfl, yes_of ?_⟩
      refine ⟨_, rfl, _, rfl, e, _, rfl, he5, fun z => absurd z.2 (by show ¬ HT.sIx 3 3 (some 2) = 3; decide), fun _ q5 hq5 => ?_⟩
      have s6 := same_upd hq5 (fun b u z => z : Same H6 H6) (o := .tup [.str t1, .str t2])
      have nq : q5 ≠ Ds := fun z => by
        rw [z, g5] at hq5
        cases hq5
      refine ⟨q5, rfl, ⟨_, SqT.of upd_same⟩, ?_⟩
      refine walk_it (walk_tup (xs := [V.str t1, V.str t2])) (fun k H7 => Same H2 H7 ∧ H7 q5 = some (.tup [.str t1, .str t2]) ∧ ∃ l, H7 Ds = some (SetX P w Ds l) ∧ Col l (termsOf (cs.take i) ++ termsC (c.take j) ++ ([t1, t2].take k).filter noE) (4 * i + 2 * j + k))
        ⟨fun b u z => s6 _ _ (s5 _ _ z), upd_same, l5, (by rw [upd_ne (Ne.symm nq)]; exact g5), hC5.same (List.append_nil _).symm⟩ (fun k H7 _ h => SqT.of h.2.1) ?_ ?_
      · rintro k x H7 H8 hk ⟨s7, g7, l7, gD7, hC7⟩ ⟨rfl, hx7⟩
        obtain ⟨t, ht, rfl⟩ : ∃ t, [t1, t2][k]? = some t ∧ x = .str t := by
          have e : [V.str t1, V.str t2] = [t1, t2].map V.str := rfl
          rw [e, List.getElem?_map] at hx7
          obtain ⟨t, h1, h2⟩ := Option.map_eq_some_iff.mp hx7
          exact ⟨t, h1, h2.symm⟩
        have hk2 : k < 2 := hk
        have et : ([t1, t2].take (k + 1)).filter noE = ([t1, t2].take k).filter noE ++ (if t = "" then [] else [t]) := by
          rw [List.take_add_one, ht]
          exact filt _ t
        refine ⟨rfl, _, rfl, rfl, _, rfl, ?_⟩
        by_cases hz : t = ""
        · have e : (!decide (V.str t = V.str "")) = false := by rw [hz]; decide
          rw [e, et, if_pos hz]
          exact iteF ⟨s7, g7, l7, gD7, (hC7.same (by rw [List.append_nil])).more (Nat.le_succ _)⟩
        · have e : (!decide (V.str t = V.str "")) = true := by
            rw [decide_eq_false fun z => hz (V.str.inj z)]
            rfl
          rw [e, et, if_neg hz]
          refine iteT ⟨_, rfl, l7, t, rfl, gD7, by have := hC7.len; omega, same_upd hD s7, by rw [upd_ne nq]; exact g7, _, upd_same, ?_⟩
          exact (hC7.put (k := t)).same (List.append_assoc _ _ _)
      · rintro H7 ⟨s7, g7, l7, gD7, hC7⟩
        refine ⟨s7, l7, gD7, (hC7.same ?_).more (by show 4 * i + 2 * j + 2 ≤ _; omega)⟩
        rw [List.take_add_one, hlt]
        unfold termsC
        rw [List.flatMap_append, List.append_assoc]
        simp [termsL]
    · rintro H5 ⟨s5, l5, g5, hC5⟩
      refine ⟨s5, l5, g5, (hC5.same ?_).more (by omega)⟩
      rw [hyl, List.take_of_length_le (Nat.le_refl _), List.take_add_one, hcl]
      unfold termsOf
      rw [List.flatMap_append]
      simp
  · rintro H3 ⟨s3, l, gD, hC⟩
    rw [hl, List.take_of_length_le (Nat.le_refl _)] at hC
    refine ⟨Ds, l, rfl, gD, by have := hC.len; omega, fun zs p3 hso hpm hp3 => .inl ⟨p3, _, rfl, SqL.of upd_same, fun q4 hq4 => ?_⟩⟩
    have s5 : Same H2 (upd (upd H3 p3 (.lst (zs.map V.str))) q4 (.tup (zs.map V.str))) := fun b u z => new_same hq4 _ _ (new_same hp3 _ _ (s3 _ _ z))
    have ha5 := s5 _ _ ha2
    have hc5 := Cs.same s5 hc2
    refine ⟨_, rfl, a, C, dx, _, rfl, ha5, D.cls, D.nt, (by show 1 < 1000; decide), ?_⟩
    refine q _ q4 zs ⟨upd_same, ⟨xs, Cs.ins ha5 hc5⟩, SqT.ins ha5 (SqT.of upd_same), hso, hpm.nodup_iff.mpr hC.nd, fun t => hpm.mem_iff.trans (hC.mem t)⟩ fun b u nb z => ?_
    rw [upd_ne nb]
    exact s5 _ _ (k2 b u nb z)
end
end Kx
namespace Kx
open PySem L2 PySem.Spec PyProof.Rows

/-! the classes of errors: what the walk asks of each -/
abbrev veL : List Value := [.type "ValueError", .type "Exception", .type "BaseException", .type "object"]
theorem ve_ok (B : Addr) : PySem.HandSPX.refsVE (.ref B :: veL) = true := by
  show PySem.HandSPX.refsVE veL = true
  decide +kernel
structure Ct (K : PySem.W.Frag) (B C : Addr) : Prop where
  cls : ∃ nm q N bs sn sub ab col dd k0 k1 k2 k3 k5, K.lookup C = some (excClassObj nm q C N bs (.ref B :: veL) true sn sub ab col dd k0 k1 k2 k3 k5 "ValueError.__new__")
  sa : PySem.W.findIn K (.ref C) "__setattr__" = some (some (.builtin "object.__setattr__"))
  ga : PySem.W.findIn K (.ref C) "__getattribute__" = some (some (.builtin "BaseException.__getattribute__"))
  gg : PySem.W.findIn K (.ref C) "__getattr__" = some none
  tyC : PySem.W.typeIn K (.ref C) = some (.type "type")
  kC : PySem.W.keepIn K (.ref C) = true
  hdC : PySem.W.hasDictIn K C = true
  ha : PySem.W.findIn K (.ref C) "__class__" = some (some (.builtin "object.__class__"))
structure Gt (K : PySem.W.Frag) (B : Addr) : Prop where
  hn : PySem.W.specialIn K (.builtin "object.__class__") "__get__" = some (some (.builtin "getset_descriptor.__get__"))
  ht : PySem.W.takesIn K (.builtin "object.__class__") = some true
  isB : (PySem.W.clsIn K B).isSome = true
  tyB : PySem.W.typeIn K (.ref B) = some (.type "type")
  bsB : PySem.W.subIn K (.ref B) (.type "BaseException") = some true
  hdB : PySem.W.hasDictIn K B = true
section
variable {K : PySem.W.Frag} {B C D : Addr}
theorem Ct.cd (T : Ct K B C) : ∃ cd, PySem.W.clsIn K C = some cd ∧ cd.mro = .ref C :: .ref B :: veL := by
  obtain ⟨nm, q, N, bs, sn, sub, ab, col, dd, k0, k1, k2, k3, k5, h⟩ := T.cls
  exact ⟨_, by unfold PySem.W.clsIn; rw [h] <;> rfl, rfl⟩
theorem Ct.mro (T : Ct K B C) (v : Value) : PySem.W.mroIn K C v = some ((.ref C :: .ref B :: veL : List Value).contains v) := by
  obtain ⟨cd, h, e⟩ := T.cd
  unfold PySem.W.mroIn
  rw [h, Option.bind_some, e] <;> rfl
theorem Ct.base (T : Ct K B C) : PySem.W.subIn K (.ref C) (.type "BaseException") = some true := by
  show PySem.W.mroIn K C _ = _
  rw [T.mro]
  rfl
theorem Ct.isC (T : Ct K B C) : (PySem.W.clsIn K C).isSome = true := by
  obtain ⟨cd, h, _⟩ := T.cd
  rw [h]; rfl
theorem Ct.oex (T : Ct K B C) : OexC K C := by
  obtain ⟨nm, q, N, bs, sn, sub, ab, col, dd, k0, k1, k2, k3, k5, h⟩ := T.cls
  exact ⟨⟨nm, q, N, bs, _, sn, sub, ab, col, dd, k0, k1, k2, k3, k5, h, ve_ok B⟩, T.sa, T.base, T.tyC, T.kC⟩
theorem Ct.xf (T : Ct K B C) : XfC K C := ⟨T.ga, T.gg, T.base, T.hdC⟩
theorem kit_ref (T : Ct K B C) {b : Bool} (hD : (PySem.W.clsIn K D).isSome = true) (tD : PySem.W.typeIn K (.ref D) = some (.type "type")) (hb : (.ref C :: .ref B :: veL : List Value).contains (.ref D) = b) : PySem.W.kitOne K (.ref C) (.ref D) = some b := by
  unfold PySem.W.kitOne
  by_cases h : ((Value.ref C == Value.ref D) = true)
  · rw [if_pos h]
    have e : Value.ref C = Value.ref D := beq_iff_eq.mp h
    rw [← hb, ← e]
    simp
  · rw [if_neg h]
    show (if ((PySem.W.clsIn K D).isSome && PySem.W.typeIn K (.ref D) == some (.type "type")) = true then PySem.W.subIn K (.ref C) (.ref D) else none) = _
    rw [hD, tD, if_pos (by rfl)]
    show PySem.W.mroIn K C _ = _
    rw [T.mro, hb]
theorem kit_yes (T : Ct K B C) : PySem.W.kitOne K (.ref C) (.ref C) = some true := kit_ref T T.isC T.tyC (by simp)
theorem kit_no (T : Ct K B C) (S : Ct K B D) (h1 : D ≠ C) (h2 : D ≠ B) : PySem.W.kitOne K (.ref C) (.ref D) = some false := kit_ref T S.isC S.tyC (by simp [h1, h2])
theorem kit_b (T : Ct K B C) (G : Gt K B) : PySem.W.kitOne K (.ref C) (.ref B) = some true := kit_ref T G.isB G.tyB (by simp)
theorem kit_ve (T : Ct K B C) : PySem.W.kitOne K (.ref C) (.type "ValueError") = some true := by
  unfold PySem.W.kitOne
  rw [if_neg (by simp)]
  show (if PySem.W.kitMeta "ValueError" = true then PySem.W.subIn K (.ref C) (.type "ValueError") else none) = _
  rw [if_pos (by decide +kernel)]
  show PySem.W.mroIn K C _ = _
  rw [T.mro]
  rfl
end

/-! an error of a class as it stands: with its fields, or without any -/
def HasF (H : Hp) (a C : Addr) (fs : List (Str × V)) : Prop := ∃ d, d ≠ a ∧ H a = some (exo a C (some d)) ∧ H d = some (exd d fs)
def Bare (H : Hp) (a C : Addr) : Prop := H a = some (ExO (.ref C) a)
def ErrAt (H : Hp) (a C : Addr) : Prop := (∃ fs, HasF H a C fs) ∨ Bare H a C

section
variable {X : Cx} {pins : List (Addr × Obj)} {σ : L2.St} {H : Hp} {s : Shared} {a B C : Addr}
theorem err_inst (I : Inv X pins σ H s) (h : ErrAt H a C) : ∃ ox od, PySem.W.InstAt s.heap a ox C od := by
  rcases h with ⟨fs, d, _, h1, h2⟩ | h
  · obtain ⟨t1, e1⟩ := exo_at I.hok h1
    obtain ⟨mA, hn, _⟩ := exd_at I.hok h2
    obtain ⟨od, e2, _⟩ := lookIn_ns hn
    exact ⟨_, some od, ⟨e1, rfl, rfl, e2⟩⟩
  · obtain ⟨⟨oe, vs, e1, hz, hd, _⟩, _, _⟩ := I.hok a _ h
    obtain ⟨oc, odd, oda, osl⟩ := oe
    obtain ⟨z1, z2⟩ := hz
    dsimp only at z1 z2 hd
    subst z1 z2 hd
    exact ⟨_, none, ⟨e1, rfl, rfl, trivial⟩⟩
/-- isinstance(e, c), e an error that stands -/
def rIsErr (K : PySem.W.Frag) (B : Addr) : List V → Hp → VK → Prop := fun xs H Q => ∃ (a C : Addr) (c : V) (u : Value) (b : Bool), xs = [.ref a, c] ∧ ErrAt H a C ∧ Ct K B C ∧ ClsV c u ∧ PySem.W.kitOne K (.ref C) u = some b ∧ Q (.bl b) H
theorem call_isErr (G : Gt X.K B) : CallR X (.builtin "isinstance") (rIsErr X.K B) := by
  intro pins s σ H xs us Q I r h
  obtain ⟨a, C, c, u, b, rfl, he, T, k, e, q⟩ := h
  obtain ⟨u1, u2, rfl, r1, r2⟩ := vals2 r
  have z1 : u1 = Value.ref a := r1
  subst z1
  have e2 := k.eq r2
  subst e2
  obtain ⟨ox, od, J⟩ := err_inst I he
  exact PySem.W.kia_one (PySem.W.kitx_exc T.isC T.ga T.gg T.base T.ha G.hn G.ht (by rw [T.mro]; rfl)) I.kIn J e (fun z => nomatch z) fun tk => ⟨.bl b, H, I.tok tk, rfl, q⟩
/-- e.f, e an error that stands -/
theorem pe_errF {e : Expr} {te : TE} {pos : Pos} {n : Str} (he : PE X e te) (hb : attributeBase e n X.env (eval e X.env) = eval e X.env := by rfl) :
    PE X (.Attribute e n pos) (fun σ H Q => te σ H fun x H1 => ∃ (a B C : Addr) (fs : List (Str × V)) (v : V), x = .ref a ∧ Ct X.K B C ∧ PySem.W.findIn X.K (.ref C) n = some none ∧ HasF H1 a C fs ∧ fs.lookup n = some v ∧ Q v H1) := by
  refine ⟨fun pins s σ H Q I h => ?_⟩
  refine attr_of hb (thn (he.run pins s σ H _ I h) fun u s1 hh => ?_)
  obtain ⟨x, H1, I1, rx, a, B, C, fs, v, ex, T, hno, ⟨d, _, h1, h2⟩, l, q⟩ := hh
  subst ex
  obtain rfl : u = Value.ref a := rx
  obtain ⟨t1, e1⟩ := exo_at I1.hok h1
  obtain ⟨mA, hns, hr⟩ := exd_at I1.hok h2
  obtain ⟨od, ho, hl⟩ := lookIn_ns hns
  obtain ⟨u, hu, ru⟩ := RelO.some_of (v := v) (o := mA n) (by rw [← l]; exact hr n)
  have J : PySem.W.InstAt s1.heap a _ C (some od) := ⟨e1, rfl, rfl, ho⟩
  exact HandSPX.exc_get I1.kIn J T.ga T.gg T.base (PySem.W.findObj_own T.hdC hno rfl (by rw [hl, hu])) (handed_of ru) ⟨v, H1, I1.tok _, ru, q⟩
end

/-! how an error is made: its __init__ stores each argument under its own name -/
def spI (K : PySem.W.Frag) (ns : List Str) : Sp := fun vs H Q _ => ∃ (a B C : Addr) (ws : List V), vs = .ref a :: ws ∧ ws.length = ns.length ∧ Ct K B C ∧ (∀ f ∈ ns, PySem.W.findIn K (.ref C) f = some none) ∧ H a = some (exo a C none) ∧
  ∀ dx H', H dx = none → dx ≠ a → H' a = some (exo a C (some dx)) → H' dx = some (exd dx (ns.zip ws).reverse) → (∀ b, b ≠ a → b ≠ dx → H' b = H b) → Q .non H'
section
variable {X : Cx} {e : Expr} {es : List Expr} {ta : TA} {p pos : Pos}
/-- C(e, ..) as a value: a new error with its fields -/
theorem pe_err {CX : CXT} {x : Str} {B C fI : Addr} {k : Nat} {fd : FuncData} {ps : List Str} {ns : List Str} (T : Ct X.K B C) (hno : ∀ f ∈ ns, PySem.W.findIn X.K (.ref C) f = some none) (iC : PySem.W.findIn X.K (.ref C) "__init__" = some (some (.ref fI))) (tI : PySem.W.typeIn X.K (.ref fI) = some (.type "function"))
    (F1 : FnOk X.prog X.w X.K X.mg X.base CX k fI fd ps (spI X.K ns)) (hr : Room (k + 1) X.A) (hb : Binds X.K fd ps []) (hx : Passes CX X (fun _ _ _ => False)) (hm : X.mg x = some (.ref C)) (ha : PA X (e :: es) ta) (hg : Gl X x := by rfl)
    (hdb : (x == ("__debug__" : Str)) = false := by decide) (he : starEach (e :: es) X.env = (false, eval e X.env) :: starEach es X.env := by rfl) (hpl : (backTo pos (starEach es X.env)).any (·.1) = false := by rfl) :
    PE X (.Call (.Name x p) (e :: es) [] pos) (fun σ H Q => ta σ H fun vs H1 => vs.length = ns.length ∧ ns.length ≤ 100 ∧ ∀ a H2, H1 a = none → HasF H2 a C (ns.zip vs).reverse → Same H1 H2 → Q (.ref a) H2) := by
  refine ⟨fun pins s σ H Q I h => ?_⟩
  obtain ⟨nm, q, N, bs, sn, sub, ab, col, dd, k0, k1, k2, k3, k5, hC⟩ := T.cls
  refine wpAny_Call_Name_kw (ld_glob I hg hm ?_ hdb)
  refine PySem.W.callWith_K (h₀ := X.base) I.ok.mod.kin T.kC (thn (ha.run pos pins s σ H _ I h) fun us s1 ⟨vs, H1, I1, r1, hz, hz2, q1⟩ => ⟨I1.kIn, ?_⟩) he hpl
  show wpAny _ _ (call (.ref C) us) _ _ _
  obtain ⟨hp, g, dr, tk, os⟩ := s1
  have hsz : hp.objs.size ≤ hp.objs.size + 1 := Nat.le_succ _
  have hn : H1 (hp.objs.size + 1) = none := I1.hok.fresh hsz
  have kk : ∀ b o, hp.get? b = some o → ((hp.push (PySem.W.kdv_tup us)).push (PySem.HandSPX.excO C hp.objs.size)).get? b = some o := fun b o z => Heap.get?_push_of_some _ (Heap.get?_push_of_some _ z)
  have hget : ((hp.push (PySem.W.kdv_tup us)).push (PySem.HandSPX.excO C hp.objs.size)).get? (hp.objs.size + 1) = some (PySem.HandSPX.excO C hp.objs.size) := by heap_get
  have I2 := I1.laid (t' := tk) (a := hp.objs.size + 1) (o := exo (hp.objs.size + 1) C none) (h' := (hp.push (PySem.W.kdv_tup us)).push (PySem.HandSPX.excO C hp.objs.size)) kk hsz (exo_ok hget)
  have r2 : Vals (V.ref (hp.objs.size + 1) :: vs) (Value.ref (hp.objs.size + 1) :: us) := .cons rfl r1
  have hq : spI X.K ns (V.ref (hp.objs.size + 1) :: vs) (upd H1 (hp.objs.size + 1) (exo (hp.objs.size + 1) C none)) (fun v H2 => v = .non ∧ Q (.ref (hp.objs.size + 1)) H2) (fun _ _ _ => False) := by
    refine ⟨_, B, C, vs, rfl, hz, T, hno, upd_same, fun dx H' n1 n2 e1 e2 e3 => ⟨rfl, q1 _ H' hn ⟨dx, n2, e1, e2⟩ fun b o z => ?_⟩⟩
    have nb : b ≠ hp.objs.size + 1 := ne_of_none z hn
    have n3 : H1 dx = none := by rw [← upd_ne (H := H1) (o := exo (hp.objs.size + 1) C none) n2]; exact n1
    rw [e3 b nb (ne_of_none z n3), upd_ne nb]
    exact z
  have hl : (Value.ref (hp.objs.size + 1) :: us).length = ps.length := by
    have z := r2.length
    rw [F1.len _ _ _ _ hq] at z
    exact z.symm
  have hus : us.length ≤ sizeLine := by
    rw [← Paired.length r1, sizeLine_eq]
    omega
  have hbs := hb ⟨(hp.push (PySem.W.kdv_tup us)).push (PySem.HandSPX.excO C hp.objs.size), g, dr, tk, os⟩ (Value.ref (hp.objs.size + 1) :: us) I2.kIn (by rw [List.append_nil]; exact hl)
  rw [List.append_nil] at hbs
  refine wpAny_call (PySem.HandSPX.call_own F.excBase_ValueError (fun Y => PySem.HandSPX.refsVE_contains Y _ (ve_ok B)) (I1.kIn _ _ hC) (PySem.W.looks_findIn I1.kIn iC) (fun self => PySem.W.bind_fn I1.kIn self tI) hus
    (codeAny_mono (F1.run _ X.stack _ _ ⟨Value.ref (hp.objs.size + 1) :: us, []⟩ (Value.ref (hp.objs.size + 1) :: us) _ _ (fun _ _ _ => False) (hr.make C us []) (I2.env0.make C us []) hbs r2 hq) fun r s' hq' => ?_))
  cases r with
  | error er => exact hx pins σ _ _ er s' I2 hq'
  | ok fl =>
    cases fl with
    | ret u =>
      obtain ⟨v, H2, os2, bare2, un2, hok2, rv, ev, q2⟩ := hq'
      subst ev
      exact ⟨rv, .ref (hp.objs.size + 1), H2, I2.call' (ch := []) os2 un2 hok2 bare2 (fun b z => absurd z (by simp)), rfl, q2⟩
    | next => exact False.elim hq'
    | brk => exact False.elim hq'
    | cont => exact False.elim hq'
end
end Kx
namespace Kx
open PySem L2 PySem.Spec PyProof.Rows
open StX (fn_star cxUp_none bind_star1 pe_makeR tMakeR run_makeR star_any pa_star CXUp)
theorem takesN0 {X : Cx} : L2N.Takes X (fun _ _ _ _ => False) := fun _ _ x => by
  obtain ⟨_, _, _, _, _, _, _, _, _, _, _, _, _, _, _, _, z⟩ := x
  exact z.elim
section
variable {X : Cx} {e : Expr} {te : TE}
theorem pmkN_err {K : PySem.W.Frag} {H0 : Hp} (hK : X.K = K) (hH : X.H_0 = H0) (hx : X.ex = []) (he : PE X e te) : L2N.PMk X e (fun σ H Q => te σ H fun x H1 => ∃ a B C d : Addr, x = .ref a ∧ Ct K B C ∧ H1 a = some (exo a C (some d)) ∧ Fr0 H0 a ∧ Q (.ref C) (some d) (delH H1 a)) := by
  subst hK hH
  intro pins s σ H Q I h
  refine thn (he.run pins s σ H _ I h) fun u s1 ⟨v, H1, I1, r1, a, B, C, d, ev, T, ha, h0, q⟩ => ?_
  subst ev
  obtain rfl : u = Value.ref a := r1
  obtain ⟨t1, ho⟩ := exo_at I1.hok ha
  obtain ⟨G, gs, ga, J⟩ := I1.untrack (show H1 a = some (.ext _) from ha) h0 hx
  exact ⟨a, _, _, { s1 with heap := G }, delH H1 a, .ref C, some d, rfl, J, gs, ga, ho, ⟨rfl, rfl, fun vs z => by cases z; rfl⟩, rfl, rfl, delH_same, rfl, I1.bare, raises_own T.base T.tyC, q⟩
end
section
variable {P : Program} {w : World} {K : PySem.W.Frag} {mg : Str → Option Value} {base : Heap}
theorem sc_BadCond : FnScope ["self", "clause"] ["self", "clause"] (defScope (inClass (top 3) 0)) := ⟨rfl, rfl, rfl, by decide +kernel, rfl, by decide +kernel, by decide +kernel⟩
theorem ok_BadCond {f : Addr} {fd : FuncData} (F : Fun K "__init__" "BadCond.__init__" (inClass (top 3) 0) f fd) : FnOk P w K mg base CX0 1 f fd ["self", "clause"] (spI K ["clause"]) := by
  refine F.ok sc_BadCond (fun vs H Q E h => ?_) (fun cdv A outer s H vs Q E hr h => ?_)
  · obtain ⟨a, B, C, ws, rfl, hl, _⟩ := h
    show ws.length + 1 = 2
    rw [hl] <;> rfl
  · obtain ⟨a, B, C, ws, rfl, hl, T, hno, ha, k⟩ := h
    obtain ⟨v0, rfl⟩ : ∃ v0, ws = [v0] := match ws, hl with | [v0], _ => ⟨v0, rfl⟩
    refine ⟨_, pss_one (ps_ost (pv 0) (pv 1)), ?_⟩
    refine ⟨_, rfl, _, rfl, a, C, rfl, T.oex, hno _ (by simp), .inl ⟨ha, fun dx n1 n2 => ?_⟩⟩
    exact k dx _ n1 n2 upd_same (by rw [upd_ne n2, upd_same]; rfl) (fun b h1 h2 => by rw [upd_ne h1, upd_ne h2])
end
theorem del_keep {H H1 : Hp} {a : Addr} (s : Same H H1) (n : H a = none) : Same H (delH H1 a) := fun b o e => by
  rw [delH_ne (ne_of_none e n)]
  exact s b o e
theorem cxUpN {P : Program} {w : World} : CXUp (L2N.CX P w) := by
  rintro outer s H s2 H2 E e s' un kp ho ⟨a, B, H', cls, d, ea, fl, hok, ub, na, os, ag, he⟩
  refine ⟨a, B, H', cls, d, ea, fl, hok, ⟨fun b o q n hb => ub.keep b o (kp b o q) (un.free b o q n (by simp)) hb, fun b o q hb => ub.slot b o (kp b o q) hb, fun b o q n => ub.free b o (kp b o q) (un.free b o q n (by simp)), fun b o q hb => ub.there b o (kp b o q) hb,
    fun b xs q => ub.tups b xs (un.tups b xs q), fun b o xs q => ub.frzs b o xs (un.frzs b o xs q), fun b ps q => ?_⟩, na, os.trans ho, ag, he⟩
  obtain ⟨m1, z1⟩ := un.tbls b ps q
  obtain ⟨m2, z2⟩ := ub.tbls b _ z1
  exact ⟨m1 ++ m2, by rw [z2, Array.append_assoc]⟩
/-- what is told of a refusal: its class and where -/
def refusal (CB : Addr) (E : XK) : Hp → Int → Prop := fun H1 i => ∀ d H', Same H1 H' → H' d = some (exd d [("clause", .int i)]) → E (.ref CB) (some d) H'
def spInit (K : PySem.W.Frag) (C : Addr) (F : XK → Hp → Int → Prop) : Sp := fun vs H Q E => ∃ ws rest, vs = ws ++ rest ∧ ws.length = ([("self" : PySem.Str)] : List PySem.Str).length ∧ rest.length ≤ sizeLine ∧ ∀ p, H p = Option.none → spInitB K C (F E) (ws ++ [V.ref p]) (upd H p (.tup rest)) Q E
structure Bad (K : PySem.W.Frag) (mg : Str → Option Value) (B CB fB : Addr) (fdB : FuncData) : Prop where
  T : Ct K B CB
  no : ∀ x ∈ ([("clause" : PySem.Str)] : List PySem.Str), PySem.W.findIn K (.ref CB) x = some none
  iC : PySem.W.findIn K (.ref CB) "__init__" = some (some (.ref fB))
  tI : PySem.W.typeIn K (.ref fB) = some (.type "function")
  F : Fun K "__init__" "BadCond.__init__" (inClass (top 3) 0) fB fdB
  b : Binds K fdB ["self", "clause"] []
  gm : mg "BadCond" = some (.ref CB)
section
variable {P : Program} {w : World} {K : PySem.W.Frag} {mg : Str → Option Value} {base : Heap}
theorem fnR_init0 {f C : Addr} {fd : FuncData} (F : Fun K "__init__" "Cond.__init__" sInit f fd) (D : Cnd K mg C) : FnR P w K mg base CX0 6 f (spInit K C fun _ _ _ => False) := by
  obtain ⟨oc, od, kV, doc, pm, an, cdv, ct, osl, rfl, lk, hcd⟩ := F.ex
  refine fn_star (sp := fun vs H Q E => spInitB K C (fun _ _ => False) vs H Q E) lk hcd scI cxUp_none (bind_star1 (B := fun xs => bindArgs (PySem.W.fnOf "__init__" "Cond.__init__" (defArgs sInit) (defBody sInit) (defScope sInit) .none kV doc pm an cdv ct) ⟨xs, []⟩) (p1 := "self") (pv := "clauses") (fun a => by rfl) (fun a r rs => by rfl)) (fun A outer s H vs Q E hr h => ?_)
  exact body_init (f := f) (tR := tNever) D cdv A outer s H vs Q E _ hr ps_never (fun _ _ _ _ _ _ _ _ _ z => z) h
theorem fnR_init {f C B CB fB : Addr} {fd fdB : FuncData} (F : Fun K "__init__" "Cond.__init__" sInit f fd) (D : Cnd K mg C) (W : Bad K mg B CB fB fdB) : FnR P w K mg base (L2N.CX P w) 6 f (spInit K C (refusal CB)) := by
  obtain ⟨oc, od, kV, doc, pm, an, cdv, ct, osl, rfl, lk, hcd⟩ := F.ex
  refine fn_star (sp := fun vs H Q E => spInitB K C (refusal CB E) vs H Q E) lk hcd scI cxUpN (bind_star1 (B := fun xs => bindArgs (PySem.W.fnOf "__init__" "Cond.__init__" (defArgs sInit) (defBody sInit) (defScope sInit) .none kV doc pm an cdv ct) ⟨xs, []⟩) (p1 := "self") (pv := "clauses") (fun a => by rfl) (fun a r rs => by rfl)) (fun A outer s H vs Q E hr h => ?_)
  have tk : L2N.Takes (cxOf (L2N.CX P w) P w K mg base nI "Cond.__init__" (defScope sInit) f cdv A outer s H E) (fun cls d _ H => E cls d H) := L2N.takes_of rfl rfl rfl rfl
  refine body_init (f := f) D cdv A outer s H vs Q E _ hr (L2N.ps_raise rfl tk (by exact (pmkN_err (X := cxOf (L2N.CX P w) P w K mg base nI "Cond.__init__" (defScope sInit) f cdv A outer s H E) (K := K) (H0 := H) rfl rfl rfl
    (pe_err (ns := ["clause"]) (X := cxOf (L2N.CX P w) P w K mg base nI "Cond.__init__" (defScope sInit) f cdv A outer s H E) W.T W.no W.iC W.tI (ok_BadCond W.F) (hr.mono (by decide)) W.b pass0 W.gm (pa_cons (pv 2) pa_nil))))) (fun D' v0 v1 i v3 v4 v5 H1 s1 z => ?_) h
  refine ⟨_, rfl, rfl, (by show 1 ≤ 100; decide), fun e H2 n2 h2 s2 => ?_⟩
  obtain ⟨d, hne, h2a, h2d⟩ := h2
  exact ⟨e, B, CB, d, rfl, W.T, h2a, fr0_none (s1.free n2), z d _ (del_keep s2 n2) ((delH_ne hne).trans h2d)⟩
end
end Kx
namespace Kx
open PySem L2 PySem.Spec PyProof.Rows
open StX (fn_star cxUp_none bind_star1 pe_makeR tMakeR run_makeR star_any pa_star CXUp)
section
variable {X : Cx} {CX : CXT} {k : Nat} {f C : Addr} {sp : Sp} {E : XK} {x : Str} {e : Expr} {te : TE} {p pos sp_ : Pos}
/-- C(*y) -/
theorem pe_makeS (M : Mk X.K C f) (F : FnR X.prog X.w X.K X.mg X.base CX k f sp) (hr : Room (k + 1) X.A) (hg : Gl X x) (hm : X.mg x = some (.ref C)) (hx : Passes CX X E) (he : PE X e te) (hd : (x == ("__debug__" : Str)) = false := by decide)
    (hst : starEach [.Starred e sp_] X.env = [(true, eval e X.env)] := by rfl) :
    PE X (.Call (.Name x p) [.Starred e sp_] [] pos) (fun σ H Q => te σ H fun y H1 => ∃ a xs, y = V.ref a ∧ (SqT X.K H1 a xs ∨ SqL X.K H1 a xs) ∧ ∀ x dx, H1 x = none → H1 dx = none → dx ≠ x →
      sp (V.ref x :: xs) (upd (upd H1 dx (.own x)) x (.ins C dx [])) (fun v H2 => v = .non ∧ Q (.ref x) H2) E) := by
  refine ⟨fun pins s σ H Q I h => ?_⟩
  refine wpAny_Call_Name_kw (ld_glob I hg hm ?_ hd)
  refine PySem.W.callWith_S (h₀ := X.base) I.ok.mod.kin M.kp (thn (he.run pins s σ H _ I h) fun v s1 ⟨y, H1, I1, ry, a, xs, ey, hxs, q⟩ => ?_) hst
  subst ey
  obtain rfl : v = Value.ref a := ry
  exact star_any I1 hxs fun us s2 I2 rv => ⟨I2.kIn, run_makeR M F hr hx I2 rv q⟩
/-- C() -/
theorem pe_makeZ (M : Mk X.K C f) (F : FnR X.prog X.w X.K X.mg X.base CX k f sp) (hr : Room (k + 1) X.A) (hg : Gl X x) (hm : X.mg x = some (.ref C)) (hx : Passes CX X E) (hd : (x == ("__debug__" : Str)) = false := by decide) :
    PE X (.Call (.Name x p) [] [] pos) (tMakeR C sp E tNil) := by
  refine ⟨fun pins s σ H Q I h => ?_⟩
  refine wpAny_Call_Name_kw (ld_glob I hg hm ?_ hd)
  exact PySem.W.callWith_K0 I.kIn M.kp (run_makeR (us := []) (vs := []) M F hr hx I .nil h)
/-- one op other, both of the class C, by its own method -/
def rOwn (C : Addr) (sp : Sp) (E : XK) : R2 := fun x y H Q => ∃ (a b dx dy : Addr) (fs gs : List (Str × V)), x = .ref a ∧ y = .ref b ∧ H a = some (.ins C dx fs) ∧ H b = some (.ins C dy gs) ∧ sp [.ref a, .ref b] H Q E
theorem op_own {op : Operator} {fd : FuncData} {ps : List Str} (hc : PySem.W.selfFirst X.K C = true) (hs : PySem.W.findIn X.K (.ref C) (PySem.dunder op.info.2) = some (some (.ref f))) (hf : PySem.W.isFn X.K (.ref f) = true)
    (F : FnOk X.prog X.w X.K X.mg X.base CX k f fd ps sp) (hr : Room k X.A) (hb : Binds X.K fd ps []) (hx : Passes CX X E) : OpR X (binaryOp op) (rOwn C sp E) := by
  intro pins s σ H x y v u Q I rx ry h
  obtain ⟨a, b, dx, dy, fs, gs, rfl, rfl, ha, hb', q⟩ := h
  obtain rfl : v = Value.ref a := rx
  obtain rfl : u = Value.ref b := ry
  obtain ⟨m, fr⟩ := I.fr
  obtain ⟨_, O1, _⟩ := ins_get I.hok ha
  obtain ⟨o1, J1, _⟩ := O1.look
  obtain ⟨_, O2, _⟩ := ins_get I.hok hb'
  obtain ⟨o2, J2, _⟩ := O2.look
  refine PySem.W.binop_K fr I.ok.mod.kin J1 J2.type hc hs hf ?_
  refine thn (run_fn (us := [.ref a, .ref b]) (vs := [.ref a, .ref b]) F hr hb .nil hx I (.cons rfl (.cons rfl .nil)) q) fun z s' ⟨zv, H', I', rz, q'⟩ => ?_
  cases z <;> first | exact ⟨zv, H', I', rz, q'⟩ | (cases zv <;> first | (obtain ⟨_, z⟩ := rz; cases z) | cases rz)
end
end Kx
namespace Kx
open PySem L2 PySem.Spec PyProof.Rows
/-! clauses as data -/
def litD (l : Lit) : PyData := .tuple [.str l.1, .str l.2.1, .int l.2.2]
def clD (c : List Lit) : PyData := .tuple (c.map litD)
theorem dp_lit {K : PySem.W.Frag} {H : Hp} {x : V} {l : Lit} (h : IsLit K H x l) : Dp K H x (litD l) := by
  obtain ⟨a, rfl, q⟩ := h
  exact .tup q (.cons (.str _) (.cons (.str _) (.cons (.int _) .nil)))
theorem dp_all {K : PySem.W.Frag} {H : Hp} {α : Type} {R : V → α → Prop} {f : α → PyData} (hf : ∀ x y, R x y → Dp K H x (f y)) : ∀ {xs : List V} {ys : List α}, Paired R xs ys → DpAll K H xs (ys.map f)
  | _, _, .nil => .nil
  | _, _, .cons h t => .cons (hf _ _ h) (dp_all hf t)
theorem dp_cl {K : PySem.W.Frag} {H : Hp} {x : V} {c : List Lit} (h : IsC K H x c) : Dp K H x (clD c) := by
  obtain ⟨a, ys, rfl, q⟩ := h
  exact .tup q.sq (dp_all (fun _ _ z => dp_lit z) q.p)
theorem eqv_lit (l m : Lit) : PyData.eqv (litD l) (litD m) = decide (l = m) := by
  obtain ⟨a, b, c⟩ := l
  obtain ⟨a', b', c'⟩ := m
  simp only [litD, PyData.eqv, PyData.eqvAll, Bool.and_true]
  rw [Bool.eq_iff_iff]
  simp [Prod.ext_iff]
theorem eqv_lits : ∀ (c d : List Lit), PyData.eqvAll (c.map litD) (d.map litD) = decide (c = d)
  | [], [] => by simp [PyData.eqvAll]
  | [], _ :: _ => by simp [PyData.eqvAll]
  | _ :: _, [] => by simp [PyData.eqvAll]
  | l :: c, m :: d => by
    simp only [List.map_cons, PyData.eqvAll]
    rw [eqv_lit, eqv_lits c d]
    rw [Bool.eq_iff_iff]
    simp
theorem eqv_cl (c d : List Lit) : PyData.eqv (clD c) (clD d) = decide (c = d) := by
  show PyData.eqvAll _ _ = _
  exact eqv_lits c d
def okC (cs : List (List Lit)) : Prop := ∀ c ∈ cs, ∀ l ∈ c, PyData.strOk l.1 = true ∧ PyData.strOk l.2.1 = true
theorem lay_lits : ∀ {c : List Lit}, (∀ l ∈ c, PyData.strOk l.1 = true ∧ PyData.strOk l.2.1 = true) → PyData.canLayAll0 (c.map litD) = true ∧ PyData.depthAll (c.map litD) ≤ 1
  | [], _ => ⟨rfl, Nat.zero_le _⟩
  | l :: c, h => by
    obtain ⟨h1, h2⟩ := h l List.mem_cons_self
    obtain ⟨r1, r2⟩ := lay_lits (c := c) fun m hm => h m (List.mem_cons_of_mem _ hm)
    refine ⟨?_, ?_⟩
    · simp only [List.map_cons, PyData.canLayAll0, litD, PyData.canLay0, h1, h2, r1, Bool.and_self]
    · simp only [List.map_cons, PyData.depthAll, litD, PyData.depth]
      omega
theorem lay_cls : ∀ {cs : List (List Lit)}, okC cs → PyData.canLayAll0 (cs.map clD) = true ∧ PyData.depthAll (cs.map clD) ≤ 2
  | [], _ => ⟨rfl, Nat.zero_le _⟩
  | c :: cs, h => by
    obtain ⟨h1, h2⟩ := lay_lits (h c List.mem_cons_self)
    obtain ⟨r1, r2⟩ := lay_cls (cs := cs) fun m hm => h m (List.mem_cons_of_mem _ hm)
    refine ⟨?_, ?_⟩
    · simp only [List.map_cons, PyData.canLayAll0, clD, PyData.canLay0, h1, r1, Bool.and_self]
    · simp only [List.map_cons, PyData.depthAll, clD, PyData.depth]
      omega
theorem shaped_list {cs : List (List Lit)} (h : okC cs) : SeqAt.shaped (.list (cs.map clD)) = true := by
  obtain ⟨h1, h2⟩ := lay_cls h
  unfold SeqAt.shaped
  rw [Bool.and_eq_true, decide_eq_true_eq]
  exact ⟨h1, by show PyData.depthAll _ + 1 ≤ 64; omega⟩
theorem shaped_tup {cs : List (List Lit)} (h : okC cs) : SeqAt.shaped (.tuple (cs.map clD)) = true := shaped_list h
theorem shaped_cl {c : List Lit} (h : ∀ l ∈ c, PyData.strOk l.1 = true ∧ PyData.strOk l.2.1 = true) : SeqAt.shaped (clD c) = true := by
  obtain ⟨h1, h2⟩ := lay_lits h
  unfold SeqAt.shaped
  rw [Bool.and_eq_true, decide_eq_true_eq]
  exact ⟨h1, by show PyData.depthAll _ + 1 ≤ 64; omega⟩
theorem eqv_cls : ∀ (c d : List (List Lit)), PyData.eqvAll (c.map clD) (d.map clD) = decide (c = d)
  | [], [] => by simp [PyData.eqvAll]
  | [], _ :: _ => by simp [PyData.eqvAll]
  | _ :: _, [] => by simp [PyData.eqvAll]
  | l :: c, m :: d => by
    simp only [List.map_cons, PyData.eqvAll]
    rw [eqv_cl, eqv_cls c d]
    rw [Bool.eq_iff_iff]
    simp
theorem any_cl (cs : List (List Lit)) (c : List Lit) : ((cs.map clD).any fun z => PyData.eqv z (clD c)) = decide (c ∈ cs) := by
  rw [List.any_map, Bool.eq_iff_iff, List.any_eq_true, decide_eq_true_eq]
  constructor
  · rintro ⟨d, hd, e⟩
    have e' : PyData.eqv (clD d) (clD c) = true := e
    rw [eqv_cl, decide_eq_true_eq] at e'
    exact e' ▸ hd
  · intro h
    exact ⟨c, h, by show PyData.eqv (clD c) (clD c) = true; rw [eqv_cl]; exact decide_eq_true rfl⟩
/-- clauses put together, each once -/
def merge : List (List Lit) → List (List Lit) → List (List Lit)
  | m, [] => m
  | m, c :: r => merge (if c ∈ m then m else m ++ [c]) r
end Kx
namespace Kx
open PySem L2 PySem.Spec PyProof.Rows
abbrev sAnd : Stmt := mth 2
abbrev nA : List Str := ["self", "other", "merged", "clause"]
structure CondAll (K : PySem.W.Frag) (mg : Str → Option Value) (B CB fB C fI : Addr) (fdB fdI : FuncData) : Prop where
  D : Cnd K mg C
  W : Bad K mg B CB fB fdB
  I : Fun K "__init__" "Cond.__init__" sInit fI fdI
  mkI : Mk K C fI
  ty : ∀ H a dx fs, H a = some (.ins C dx fs) → TyX K H (.ref a) (.ref C)
  kit : PySem.W.kitOne K (.ref C) (.ref C) = some true
def spAnd (K : PySem.W.Frag) (C CB : Addr) : Sp := fun vs H Q E => ∃ (a b dx dy p q p' q' : Addr) (cs cs' : List (List Lit)) (ys ys' : List Str), vs = [.ref a, .ref b] ∧ CondF K H a C dx p q cs ys ∧ CondF K H b C dy p' q' cs' ys' ∧ shortC (cs ++ cs') ∧ okC (cs ++ cs') ∧ (cs ++ cs').length ≤ 1000 ∧
  (firstWrong (merge [] (cs ++ cs')) = none → ∀ r dz p2 q2 zs H', CondF K H' r C dz p2 q2 (merge [] (cs ++ cs')) zs → Same H H' → H r = none → Q (.ref r) H') ∧ ∀ i, firstWrong (merge [] (cs ++ cs')) = some i → refusal CB E H i
theorem catA_of {K : PySem.W.Frag} {H : Hp} {a b : Addr} {xs ys : List V} {Q : VK} (h1 : SqT K H a xs) (h2 : SqT K H b ys) (hz : xs.length + ys.length ≤ sizeLine) (go : ∀ t H2, Same H H2 → SqT K H2 t (xs ++ ys) → Q (.ref t) H2) : rCatA K (.ref a) (.ref b) H Q := by
  refine ⟨a, b, xs, ys, rfl, rfl, h1, h2, hz, fun e => ?_, fun _ e => ?_, fun _ _ p hp => ?_⟩
  · exact go b H (fun _ _ z => z) (by rw [e]; exact h2)
  · exact go a H (fun _ _ z => z) (by rw [e, List.append_nil]; exact h1)
  · exact go p _ (new_same hp) (SqT.of upd_same)
theorem SqT.lst {K : PySem.W.Frag} {H : Hp} {a b : Addr} {ms : List V} {u : HO} {xs : List V} (ha : H a = some (.lst ms)) (h : SqT K H b xs) : SqT K (upd H a u) b xs := by
  rcases h with (h | ⟨o, h⟩) | h
  · exact .inl (.inl (by rw [upd_ne (fun e => by rw [e, ha] at h; cases h)]; exact h))
  · exact .inl (.inr ⟨o, by rw [upd_ne (fun e => by rw [e, ha] at h; cases h)]; exact h⟩)
  · exact .inr h
theorem IsC.lst {K : PySem.W.Frag} {H : Hp} {a : Addr} {ms : List V} {u : HO} {x : V} {c : List Lit} (ha : H a = some (.lst ms)) (h : IsC K H x c) : IsC K (upd H a u) x c := by
  obtain ⟨b, ys, e, q⟩ := h
  exact ⟨b, ys, e, SqT.lst ha q.sq, L2.Paired.mapP q.p fun _ _ ⟨d, z, r⟩ => ⟨d, z, SqT.lst ha r⟩, q.l1, q.l2⟩
theorem merge_snoc (c : List Lit) : ∀ (l m : List (List Lit)), merge m (l ++ [c]) = if c ∈ merge m l then merge m l else merge m l ++ [c]
  | [], m => rfl
  | d :: l, m => by
    show merge (if d ∈ m then m else m ++ [d]) (l ++ [c]) = _
    rw [merge_snoc c l]
    rfl
theorem merge_sub : ∀ (l m : List (List Lit)) (c : List Lit), c ∈ merge m l → c ∈ m ∨ c ∈ l
  | [], m, c, h => .inl h
  | d :: l, m, c, h => by
    have h' : c ∈ merge (if d ∈ m then m else m ++ [d]) l := h
    rcases merge_sub l _ c h' with z | z
    · by_cases hd : d ∈ m
      · rw [if_pos hd] at z
        exact .inl z
      · rw [if_neg hd] at z
        rcases List.mem_append.mp z with z | z
        · exact .inl z
        · exact .inr (by rw [List.mem_singleton.mp z]; exact List.mem_cons_self)
    · exact .inr (List.mem_cons_of_mem _ z)
theorem merge_len : ∀ (l m : List (List Lit)), (merge m l).length ≤ m.length + l.length
  | [], m => Nat.le_refl _
  | d :: l, m => by
    have h := merge_len l (if d ∈ m then m else m ++ [d])
    have e : (if d ∈ m then m else m ++ [d]).length ≤ m.length + 1 := by
      by_cases hd : d ∈ m
      · rw [if_pos hd]; exact Nat.le_succ _
      · rw [if_neg hd, List.length_append]; exact Nat.le_refl _
    show (merge (if d ∈ m then m else m ++ [d]) l).length ≤ m.length + (l.length + 1)
    omega
theorem paired_app {α β : Type} {R : α → β → Prop} : ∀ {xs : List α} {ys : List β} {xs' : List α} {ys' : List β}, Paired R xs ys → Paired R xs' ys' → Paired R (xs ++ xs') (ys ++ ys')
  | _, _, _, _, .nil, h => h
  | _, _, _, _, .cons a t, h => .cons a (paired_app t h)
section
variable {P : Program} {w : World} {K : PySem.W.Frag} {mg : Str → Option Value} {base : Heap} {B CB fB C fI : Addr} {fdB fdI : FuncData}
theorem scAnd : FnScope nA ["self", "other"] (defScope sAnd) := ⟨rfl, rfl, rfl, by decide +kernel, rfl, by decide +kernel, by decide +kernel⟩
theorem ok_and {f : Addr} {fd : FuncData} (F : Fun K "__and__" "Cond.__and__" sAnd f fd) (M : CondAll K mg B CB fB C fI fdB fdI) : FnOk P w K mg base (L2N.CX P w) 8 f fd ["self", "other"] (spAnd K C CB) := by
  obtain ⟨oc, od, kV, doc, pm, an, cdv, ct, osl, rfl, lk, hcd⟩ := F.ex
  have D := M.D
  have T := D.M.T
  have GI : FnR P w K mg base (L2N.CX P w) 6 fI (spInit K C (refusal CB)) := fnR_init M.I D M.W
  refine fn_of lk hcd scAnd (fun vs H Q E h => ?_) fun A outer s H vs Q E hr h => ?_
  · obtain ⟨a, b, dx, dy, p, q, p', q', cs, cs', ys, ys', rfl, _⟩ := h
    rfl
  · obtain ⟨a, b, dx, dy, p, q, p', q', cs, cs', ys, ys', rfl, ha, hb, hsh, hok, hlen, qn, qf⟩ := h
    have tk : L2N.Takes (cxOf (L2N.CX P w) P w K mg base nA "Cond.__and__" (defScope sAnd) f cdv A outer s H E) (fun cls d _ H => E cls d H) := L2N.takes_of rfl rfl rfl rfl
    have hx : Passes (L2N.CX P w) (cxOf (L2N.CX P w) P w K mg base nA "Cond.__and__" (defScope sAnd) f cdv A outer s H E) E := L2N.passes_call tk (fun _ _ _ _ z => z)
    have hu : (cxOf (L2N.CX P w) P w K mg base nA "Cond.__and__" (defScope sAnd) f cdv A outer s H E).A.units + 65 < cLine := by
      have := hr.un
      show (A.deeper (envOfC "Cond.__and__" (defScope sAnd) s.heap.objs.size f cdv)).units + 65 < cLine
      omega
    refine ⟨_, pss_cons (ps_if (pt_not (pt_val (pe_callB call_isi (by rfl) T.isi boot_isinstance (pa_cons (pv 1) (pa_cons (pe_glob (v := .ref C) (by rfl) D.gC rfl) pa_nil))))) (pss_one ps_never) pss_nil)
      (pss_cons (ps_set (i := 2) scAnd.nd rfl (Or.inl rfl) (pe_lst pa_nil))
      (pss_cons (ps_for (passes_of rfl) rfl (pi_tup (pe_op op_catA (pe_fld (pv 0) (by rfl)) (pe_fld (pv 1) (by rfl)))) (pg_name (i := 3) scAnd.nd rfl (Or.inl rfl))
        (pss_one (ps_if (pt_cmpR (op_notInD hu) (pv 3) (pv 2) (by with_unfolding_all rfl)) (pss_one (ps_expr (pe_bm PySem.F.plainAttrs_list PySem.F.slot_list_append PySem.F.type_list_append mt_append (pv 2) (pa_cons (pv 3) pa_nil)))) pss_nil)))
      (pss_one (ps_ret (pe_makeS (k := 6) M.mkI GI hr (by rfl) D.gC hx (pv 2)))))), ?_⟩
    obtain ⟨xs, hc⟩ := ha.cl
    obtain ⟨xs', hc'⟩ := hb.cl
    have hp := paired_app hc.p hc'.p
    have hpl : (xs ++ xs').length = (cs ++ cs').length := Paired.length hp
    refine ⟨_, rfl, .ref b, .ref C, _, _, true, rfl, .own C, M.ty _ b dy _ hb.ins, M.kit, true, rfl, iteF ?_⟩
    refine ⟨by show 0 ≤ sizeLine; decide, fun m hm => ?_⟩
    have s1 : Same H (upd H m (.lst [])) := new_same hm
    refine ⟨_, rfl, a, C, dx, _, .ref p, rfl, s1 _ _ ha.ins, D.cls, D.nc, rfl, _, rfl, b, C, dy, _, .ref p', rfl, s1 _ _ hb.ins, D.cls, D.nc, rfl, ?_⟩
    refine catA_of (SqT.same s1 hc.sq) (SqT.same s1 hc'.sq) (by rw [← List.length_append, hpl]; exact Nat.le_of_lt (small1000 hlen)) fun t H2 s2 ht => ?_
    refine ⟨t, rfl, ⟨_, ht⟩, ?_⟩
    refine for_tup (xs := xs ++ xs') (fun i σ H3 => (∃ v3, σ = [some (.ref a), some (.ref b), some (.ref m), v3]) ∧ Same H H3 ∧ SqT K H3 t (xs ++ xs') ∧ ∃ ms, H3 m = some (.lst ms) ∧ Paired (IsC K H3) ms (merge [] ((cs ++ cs').take i)))
      ⟨⟨none, rfl⟩, fun b u z => s2 _ _ (s1 _ _ z), ht, [], s2 _ _ upd_same, .nil⟩ (fun i σ H3 _ h => h.2.2.1) ?_ ?_
    · rintro i x σ H3 hx ⟨⟨v3, rfl⟩, s3, ht3, ms, gm, hms⟩
      obtain ⟨c, hcl, hxc⟩ := paired_get hp hx
      have hcm : c ∈ cs ++ cs' := List.mem_of_getElem? hcl
      have hx3 := IsC.same s3 hxc
      have hlm : ms.length ≤ 1000 := by
        have e1 : ms.length = (merge [] ((cs ++ cs').take i)).length := Paired.length hms
        have e2 := merge_len ((cs ++ cs').take i) []
        rw [List.length_take] at e2
        have e3 : ([] : List (List Lit)).length = 0 := rfl
        omega
      have okm : okC (merge [] ((cs ++ cs').take i)) := fun d hd => by
        rcases merge_sub _ _ _ hd with z | z
        · cases z
        · exact hok d (List.mem_of_mem_take z)
      have em : merge [] ((cs ++ cs').take (i + 1)) = if c ∈ merge [] ((cs ++ cs').take i) then merge [] ((cs ++ cs').take i) else merge [] ((cs ++ cs').take i) ++ [c] := by
        rw [List.take_add_one, hcl]
        exact merge_snoc c _ _
      refine ⟨_, rfl, _, rfl, clD c, _, dp_cl hx3, .lst (SqL.of gm) (dp_all (fun _ _ z => dp_cl z) hms), shaped_cl (hok c hcm), shaped_list okm, _, rfl, ?_⟩
      rw [any_cl]
      by_cases hin : c ∈ merge [] ((cs ++ cs').take i)
      case pos =>
        rw [decide_eq_true hin]
        rw [if_pos hin] at em
        exact iteF ⟨⟨_, rfl⟩, s3, ht3, ms, gm, by rw [em]; exact hms⟩
      case neg =>
        rw [decide_eq_false hin]
        rw [if_neg hin] at em
        refine iteT ?_
        refine ⟨_, rfl, .inl ⟨rfl, ms, SqL.of gm⟩, _, rfl, m, ms, x, rfl, rfl, gm, small1000 hlm, ?_⟩
        refine ⟨⟨_, rfl⟩, same_upd hm s3, SqT.lst gm ht3, _, upd_same, ?_⟩
        rw [em]
        exact paired_app (L2.Paired.mapP hms fun _ _ z => IsC.lst gm z) (.cons (IsC.lst gm hx3) .nil)
    · rintro σ H3 ⟨⟨v3, rfl⟩, s3, ht3, ms, gm, hms⟩
      rw [hpl, List.take_of_length_le (Nat.le_refl _)] at hms
      have hl : (merge [] (cs ++ cs')).length ≤ 1000 := Nat.le_trans (merge_len _ _) (by show 0 + (cs ++ cs').length ≤ 1000; omega)
      have hml : ms.length = (merge [] (cs ++ cs')).length := Paired.length hms
      refine ⟨_, rfl, m, ms, rfl, .inr (SqL.of gm), fun r dz hr0 hdz hne => ⟨[.ref r], ms, rfl, rfl, Nat.le_of_lt (small1000 (by omega)), fun p2 hp2 => ?_⟩⟩
      have s5 : Same H3 (upd (upd H3 dz (.own r)) r (.ins C dz [])) := same_upd hr0 (new_same hdz)
      have s6 : Same H3 (upd (upd (upd H3 dz (.own r)) r (.ins C dz [])) p2 (.tup ms)) := fun b u z => new_same hp2 _ _ (s5 _ _ z)
      have hrp : r ≠ p2 := fun z => by
        rw [← z, upd_same] at hp2
        cases hp2
      refine ⟨r, dz, p2, ms, merge [] (cs ++ cs'), rfl, (by rw [upd_ne hrp]; exact upd_same), ⟨SqT.of upd_same, pairedC_same s6 hms, hl⟩, fun c hcm l hlm => ?_, fun hw H' q2 zs hF hk => ⟨rfl, ?_⟩, fun i hw H1 s7 => ?_⟩
      · rcases merge_sub _ _ _ hcm with z | z
        · cases z
        · exact hsh c z l hlm
      · refine qn hw r dz p2 q2 zs H' hF (fun b u z => hk b u (fun e => ?_) (s6 _ _ (s3 _ _ z))) (Same.free s3 hr0)
        rw [e, Same.free s3 hr0] at z
        cases z
      · exact fun d H' s8 z => qf i hw d H' (fun b u y => s8 _ _ (s7 _ _ (s6 _ _ (s3 _ _ y)))) z
end
end Kx
namespace Kx
open PySem L2
abbrev sWell : Stmt := top 28
abbrev sDraw : Stmt := top 29
abbrev sOne : Stmt := top 30

/-- a source of draws as it stands: three whole numbers, the last one small -/
def WellAt (H : Hp) (p : Addr) (n : Int) : Prop := ∃ a b c : Int, H p = some (.lst [.int a, .int b, .int c]) ∧ 0 ≤ b ∧ b < 4294967296 ∧ 0 ≤ c ∧ c ≤ n
def spWell : Sp := fun vs H Q _ => ∃ c : Int, vs = [.int c] ∧ ∀ p H', H p = none → Same H H' → WellAt H' p 0 → Q (.ref p) H'
def spDraw : Sp := fun vs H Q _ => ∃ (p : Addr) (m n : Int), vs = [.ref p, .int m] ∧ WellAt H p n ∧ n ≤ 1000000 ∧ 0 < m ∧ m < 1000000 ∧
  ∀ (r : Int) (xs : List V), 0 ≤ r → r < m → WellAt (upd H p (.lst xs)) p (n + 1) → Q (.int r) (upd H p (.lst xs))
def spOne (K : PySem.W.Frag) : Sp := fun vs H Q _ => ∃ (p q : Addr) (n : Int) (ys : List V), vs = [.ref p, .ref q] ∧ WellAt H p n ∧ n ≤ 1000000 ∧ p ≠ q ∧ SqL K H q ys ∧ 0 < ys.length ∧ ys.length < 1000000 ∧
  ∀ (r : Nat) (v : V) (xs : List V), ys[r]? = some v → WellAt (upd H p (.lst xs)) p (n + 1) → Q v (upd H p (.lst xs))

structure Bl (mg : Str → Option Value) : Prop where
  int : mg "int" = none
  len : mg "len" = none

section
variable {P : Program} {w : World} {K : PySem.W.Frag} {mg : Str → Option Value} {base : Heap}
theorem scW : FnScope ["_law_cell"] ["_law_cell"] (defScope sWell) := ⟨rfl, rfl, rfl, by decide +kernel, rfl, by decide +kernel, by decide +kernel⟩
theorem ok_well {f : Addr} {fd : FuncData} (F : Fun K "_law_well" "_law_well" sWell f fd) (T : Bl mg) : FnOk P w K mg base CX0 1 f fd ["_law_cell"] spWell := by
  refine F.ok scW (fun vs H Q E h => ?_) (fun cdv A outer s H vs Q E hr h => ?_)
  · obtain ⟨c, rfl, _⟩ := h
    rfl
  · obtain ⟨c, rfl, k⟩ := h
    have hu := hu_of hr
    refine ⟨_, pss_one (ps_ret (pe_lst (pa_cons (pe_op op_mul (pv 0) (pe_callTy call_int1 (by rfl) T.int (by decide +kernel) (pa_cons (pe_cmpR op_ge (pv 0) (pe_op op_pow pe_int pe_int) (nomark _)) pa_nil)))
      (pa_cons (pe_op op_mod (pe_callTy call_int1 (by rfl) T.int (by decide +kernel) (pa_cons (pv 0) pa_nil)) pe_int) (pa_cons pe_int pa_nil))))), ?_⟩
    refine ⟨_, rfl, _, rfl, _, _, rfl, rfl, ⟨by decide, by decide, by decide⟩, _, _, rfl, rfl, .inr ⟨_, rfl, _, _, rfl, rfl, .inr ?_, _, rfl, .inl ⟨_, rfl, _, _, rfl, rfl, (by show (0 : Int) < 2147483629; decide), (by show 3 ≤ sizeLine; decide), fun p hp => ?_⟩⟩⟩
    · split <;> omega
    · refine k p _ hp (fun b o e => ?_) ⟨_, _, 0, upd_same, Int.emod_nonneg _ (by decide), ?_, Int.le_refl _, Int.le_refl _⟩
      · rw [upd_ne (ne_of_none e hp)]
        exact e
      · have := Int.emod_lt_of_pos c (show (0 : Int) < 2147483629 by decide)
        omega
theorem ml (x : Int) : -(2 ^ 64) < x % 2147483647 ∧ x % 2147483647 < 2 ^ 64 := by omega
theorem scD : FnScope ["_law_well_here", "_law_base", "_law_digit", "_law_number"] ["_law_well_here", "_law_base"] (defScope sDraw) := ⟨rfl, rfl, rfl, by decide +kernel, rfl, by decide +kernel, by decide +kernel⟩
theorem ok_draw {f : Addr} {fd : FuncData} (F : Fun K "_law_draw" "_law_draw" sDraw f fd) (T : Bl mg) : FnOk P w K mg base CX0 1 f fd ["_law_well_here", "_law_base"] spDraw := by
  refine F.ok scD (fun vs H Q E h => ?_) (fun cdv A outer s H vs Q E hr h => ?_)
  · obtain ⟨p, m, n, rfl, _⟩ := h
    rfl
  · obtain ⟨p, m, n, rfl, ⟨a, b, c, hp, hb0, hb1, hc0, hcn⟩, hn, hm0, hm1, k⟩ := h
    have hu := hu_of hr
    refine ⟨_, pss_cons (ps_if (pt_cmpR op_gt (pe_ix ix_list (pv 0) pe_int (fun _ _ => rfl)) pe_int (nomark _))
        (pss_cons (ps_set (i := 2) scD.nd rfl (Or.inl rfl) (pe_op op_mod (pe_callTy call_int1 (by rfl) T.int (by decide +kernel) (pa_cons (pe_ix ix_list (pv 0) pe_int (fun _ _ => rfl)) pa_nil)) (pv 1)))
        (pss_cons (ps_asg (pe_op op_fdivW (pe_ix ix_list (pv 0) pe_int (fun _ _ => rfl)) (pv 1)) (pg_sub (pv 0) pe_int set_list))
        (pss_one (ps_ret (pv 2))))) pss_nil)
      (pss_cons (ps_asg (pe_op op_add (pe_ix ix_list (pv 0) pe_int (fun _ _ => rfl)) pe_int) (pg_sub (pv 0) pe_int set_list))
      (pss_cons (ps_set (i := 3) scD.nd rfl (Or.inl rfl) (pe_op op_mod (pe_callTy call_int1 (by rfl) T.int (by decide +kernel) (pa_cons (pe_op op_mul (pe_callTy call_int1 (by rfl) T.int (by decide +kernel) (pa_cons
          (pe_op op_add (pe_op op_add (pe_ix ix_list (pv 0) pe_int (fun _ _ => rfl)) (pe_op op_mul pe_int (pe_ix ix_list (pv 0) pe_int (fun _ _ => rfl)))) pe_int) pa_nil)) pe_int) pa_nil)) pe_int))
      (pss_cons (ps_set (i := 3) scD.nd rfl (Or.inl rfl) (pe_op op_mod (pe_callTy call_int1 (by rfl) T.int (by decide +kernel) (pa_cons (pe_op op_mul (pv 3) (pe_op op_add (pe_op op_fdiv (pv 3) pe_int) pe_int)) pa_nil)) pe_int))
      (pss_one (ps_ret (pe_op op_mod (pe_callTy call_int1 (by rfl) T.int (by decide +kernel) (pa_cons (pe_op op_mod (pe_callTy call_int1 (by rfl) T.int (by decide +kernel) (pa_cons (pe_op op_mul (pv 3) (pe_op op_add (pe_op op_fdiv (pv 3) pe_int) pe_int)) pa_nil)) pe_int) pa_nil)) (pv 1))))))), ?_⟩
    have g0 : ∀ (x y z : V), atI [x, y, z] 0 = some x := fun _ _ _ => rfl
    have g1 : ∀ (x y z : V), atI [x, y, z] 1 = some y := fun _ _ _ => rfl
    have g2 : ∀ (x y z : V), atI [x, y, z] 2 = some z := fun _ _ _ => rfl
    have hc1 : c + 1 ≤ n + 1 := by omega
    refine ⟨_, rfl, p, _, _, _, rfl, rfl, SqL.of hp, g0 _ _ _, _, _, rfl, rfl, _, rfl, ?_⟩
    refine ite2 (fun _ => ?_) (fun _ => ?_)
    · refine ⟨_, rfl, p, _, _, _, rfl, rfl, SqL.of hp, g0 _ _ _, .inl ⟨_, rfl, _, rfl, _, _, rfl, rfl, hm0, ?_⟩⟩
      refine ⟨_, rfl, p, _, _, _, rfl, rfl, SqL.of hp, g0 _ _ _, _, rfl, _, _, rfl, rfl, wide_div (b := 20) hm0 (by omega) (by decide) (by decide), _, rfl, p, _, _, 0, rfl, rfl, hp, rfl, _, rfl, ?_⟩
      exact k _ _ (Int.emod_nonneg _ (by omega)) (Int.emod_lt_of_pos _ hm0) ⟨_, b, c, upd_same, hb0, hb1, hc0, by omega⟩
    · refine ⟨_, rfl, p, _, _, _, rfl, rfl, SqL.of hp, g2 _ _ _, _, _, rfl, rfl, _, rfl, p, _, _, 2, rfl, rfl, hp, rfl, ?_⟩
      have e2 : (upd H p (.lst [.int a, .int b, .int (c + 1)])) p = some (.lst [.int a, .int b, .int (c + 1)]) := upd_same
      refine ⟨_, rfl, p, _, _, _, rfl, rfl, SqL.of e2, g1 _ _ _, _, rfl, p, _, _, _, rfl, rfl, SqL.of e2, g2 _ _ _, _, _, rfl, rfl, .inl ⟨by decide, by decide⟩, _, _, rfl, rfl, _, _, rfl, rfl,
        .inl ⟨_, rfl, _, _, rfl, rfl, .inr ⟨by decide, by decide⟩, .inl ⟨_, rfl, _, _, rfl, rfl, (by show (0 : Int) < 2147483647; decide), ?_⟩⟩⟩
      refine ⟨_, rfl, _, rfl, _, _, rfl, rfl, ⟨by decide, by decide⟩, _, _, rfl, rfl, _, _, rfl, rfl, .inl (ml _), .inl ⟨_, rfl, _, _, rfl, rfl, (by show (0 : Int) < 2147483647; decide), ?_⟩⟩
      refine ⟨_, rfl, _, rfl, _, _, rfl, rfl, ⟨by decide, by decide⟩, _, _, rfl, rfl, _, _, rfl, rfl, .inl (ml _), .inl ⟨_, rfl, _, _, rfl, rfl, (by show (0 : Int) < 2147483399; decide), .inl ⟨_, rfl, _, rfl, _, _, rfl, rfl, hm0, ?_⟩⟩⟩
      exact k _ _ (Int.emod_nonneg _ (by omega)) (Int.emod_lt_of_pos _ hm0) ⟨a, b, c + 1, upd_same, hb0, hb1, by omega, by omega⟩
theorem scO : FnScope ["_law_well_here", "_law_some"] ["_law_well_here", "_law_some"] (defScope sOne) := ⟨rfl, rfl, rfl, by decide +kernel, rfl, by decide +kernel, by decide +kernel⟩
theorem ok_one {f g : Addr} {fd fdD : FuncData} (F : Fun K "_law_one" "_law_one" sOne f fd) (T : Bl mg) (FD : Fun K "_law_draw" "_law_draw" sDraw g fdD) (bD : Binds K fdD ["_law_well_here", "_law_base"] []) (mD : mg "_law_draw" = some (.ref g)) : FnOk P w K mg base CX0 2 f fd ["_law_well_here", "_law_some"] (spOne K) := by
  have GD : FnOk P w K mg base CX0 1 g fdD ["_law_well_here", "_law_base"] spDraw := ok_draw FD T
  refine F.ok scO (fun vs H Q E h => ?_) (fun cdv A outer s H vs Q E hr h => ?_)
  · obtain ⟨p, q, n, ys, rfl, _⟩ := h
    rfl
  · obtain ⟨p, q, n, ys, rfl, hW, hn, hne, hq, h0, h1, k⟩ := h
    refine ⟨_, pss_one (ps_ret (pe_ix ix_list (pv 1) (pe_call GD hr rfl mD FD.kp bD .nil pass0 (pa_cons (pv 0) (pa_cons (pe_callB call_len_seq (by rfl) T.len PySem.boot_len (pa_cons (pv 1) pa_nil)) pa_nil))) (fun _ _ => rfl))), ?_⟩
    refine ⟨_, rfl, _, rfl, _, rfl, q, ys, rfl, .inl hq, p, _, n, rfl, hW, hn, by omega, by omega, fun r xs r0 r1 hW' => ?_⟩
    have hr2 : r.toNat < ys.length := by omega
    have e1 : ys[r.toNat]? = some ys[r.toNat] := by simp [hr2]
    refine ⟨q, ys, r, _, rfl, rfl, ?_, at_of (j := r.toNat) (by omega) e1, k r.toNat _ xs e1 hW'⟩
    rcases hq with (z | ⟨o, z⟩) | z
    · exact .inl (.inl (by rw [upd_ne (fun e => hne e.symm)]; exact z))
    · exact .inl (.inr ⟨o, by rw [upd_ne (fun e => hne e.symm)]; exact z⟩)
    · exact .inr z
end
end Kx
set_option linter.all false
namespace Kx
open PySem L2 PySem.Spec PyProof.Rows
/-! draws among things that are told by OD -/
def KeepB (p : Addr) (H H' : Hp) : Prop := ∀ b u, b ≠ p → H b = some u → H' b = some u
theorem KeepB.trans {p : Addr} {H1 H2 H3 : Hp} (a : KeepB p H1 H2) (b : KeepB p H2 H3) : KeepB p H1 H3 := fun x u n z => b x u n (a x u n z)
theorem KeepB.of {p : Addr} {H1 H2 : Hp} (a : Same H1 H2) : KeepB p H1 H2 := fun x u _ z => a x u z
theorem KeepB.at {p : Addr} {H : Hp} {o : HO} : KeepB p H (upd H p o) := fun x u n z => by rw [upd_ne n]; exact z
theorem WellAt.mono {H : Hp} {p : Addr} {n m : Int} (h : WellAt H p n) (l : n ≤ m) : WellAt H p m := let ⟨a, b, c, e, h0, h1, h2, h3⟩ := h; ⟨a, b, c, e, h0, h1, h2, by omega⟩
theorem WellAt.same {H H' : Hp} {p : Addr} {n : Int} (h : WellAt H p n) (s : Same H H') : WellAt H' p n := let ⟨a, b, c, e, r⟩ := h; ⟨a, b, c, s _ _ e, r⟩
theorem WellAt.lst {H : Hp} {p : Addr} {n : Int} (h : WellAt H p n) : ∃ ms, H p = some (.lst ms) := let ⟨_, _, _, e, _⟩ := h; ⟨_, e⟩
theorem WellAt.ne {H : Hp} {p q : Addr} {n : Int} (h : WellAt H p n) (e : H q = none) : q ≠ p := fun z => by
  obtain ⟨_, g⟩ := h.lst
  rw [z, g] at e
  cases e
theorem le_sz {n : Nat} (h : n ≤ 100) : n ≤ sizeLine := by rw [sizeLine_eq]; omega
structure Drw (K : PySem.W.Frag) (mg : PySem.Str → Option Value) : Prop where
  T : Bl mg
  well : ∃ f fd, Fs K mg "_law_well" sWell ["_law_cell"] f fd
  draw : ∃ f fd, Fs K mg "_law_draw" sDraw ["_law_well_here", "_law_base"] f fd
  one : ∃ f fd, Fs K mg "_law_one" sOne ["_law_well_here", "_law_some"] f fd
mutual
/-- no list within -/
def noL : OD → Prop
  | .fl _ => True
  | .tup xs => noLs xs
  | .lst _ => False
  | .obj _ xs => noLs xs
def noLs : List OD → Prop
  | [] => True
  | x :: xs => noL x ∧ noLs xs
end
theorem noL_lst : ∀ {d : OD}, noL d → noLst d
  | .fl _, _ => trivial
  | .tup _, _ => trivial
  | .obj _ _, _ => trivial
  | .lst _, h => h
theorem SqT.keepB {K : PySem.W.Frag} {H H' : Hp} {p a : Addr} {ms xs : List V} (hp : H p = some (.lst ms)) (k : KeepB p H H') (h : SqT K H a xs) : SqT K H' a xs := by
  rcases h with (h | ⟨o, h⟩) | h
  · exact .inl (.inl (k _ _ (fun z => by rw [z, hp] at h; cases h) h))
  · exact .inl (.inr ⟨o, k _ _ (fun z => by rw [z, hp] at h; cases h) h⟩)
  · exact .inr h
section
variable {K : PySem.W.Frag} {cl : Nat → OCls} {S : Nat → List OD → Prop}
mutual
theorem Oh.keepB {H H' : Hp} {p : Addr} {ms : List V} (hp : H p = some (.lst ms)) (k : KeepB p H H') : ∀ (d : OD) (v : V), noL d → Oh K cl H d v → Oh K cl H' d v
  | .fl _, _, _, h => h
  | .tup ds, _, n, ⟨a, xs, e, h, q⟩ => ⟨a, xs, e, SqT.keepB hp k h, OhAll.keepB hp k ds xs n q⟩
  | .lst ds, _, n, _ => n.elim
  | .obj _ ds, _, n, ⟨a, dx, fs, xs, e, h, l, q⟩ => ⟨a, dx, fs, xs, e, k _ _ (fun z => by rw [z, hp] at h; cases h) h, l, OhAll.keepB hp k ds xs n q⟩
theorem OhAll.keepB {H H' : Hp} {p : Addr} {ms : List V} (hp : H p = some (.lst ms)) (k : KeepB p H H') : ∀ (ds : List OD) (xs : List V), noLs ds → OhAll K cl H ds xs → OhAll K cl H' ds xs
  | [], _, _, h => h
  | d :: ds, _, n, ⟨v, ys, e, h, q⟩ => ⟨v, ys, e, Oh.keepB hp k d v n.1 h, OhAll.keepB hp k ds ys n.2 q⟩
end
theorem ext_of {H H' : Hp} (s : Same H H') : Ext H H' := fun a o h => s a o h
theorem Oh.same {H H' : Hp} (s : Same H H') {d : OD} {v : V} (h : Oh K cl H d v) : Oh K cl H' d v := Oh.ext (ext_of s) d v h
theorem OhAll.same {H H' : Hp} (s : Same H H') {d : List OD} {v : List V} (h : OhAll K cl H d v) : OhAll K cl H' d v := OhAll.ext (ext_of s) d v h
theorem noLs_get : ∀ {ds : List OD}, noLs ds → ∀ {i : Nat} {d : OD}, ds[i]? = some d → noL d
  | [], _, i, d, h => by simp at h
  | x :: xs, n, 0, d, h => by simp at h; subst h; exact n.1
  | x :: xs, n, i + 1, d, h => noLs_get n.2 (i := i) (by simpa using h)
theorem one_od {H : Hp} {p q : Addr} {n : Int} {ys : List V} {ds : List OD} {Q : VK} {E : XK}
    (W : WellAt H p n) (hn : n ≤ 1000000) (hq : H q = none) (ha : OhAll K cl H ds ys) (nl : noLs ds) (h0 : 0 < ys.length) (h1 : ys.length < 1000000) (k : ∀ d v H', d ∈ ds → noL d → Oh K cl H' d v → KeepB p H H' → WellAt H' p (n + 1) → Q v H') : spOne K [.ref p, .ref q] (upd H q (.lst ys)) Q E := by
  refine ⟨p, q, n, ys, rfl, W.same (new_same hq), hn, (W.ne hq).symm, SqL.of upd_same, h0, h1, fun r v xs hv W2 => ?_⟩
  have k2 : KeepB p H (upd (upd H q (.lst ys)) p (.lst xs)) := (KeepB.of (new_same hq)).trans KeepB.at
  obtain ⟨d, hd, od⟩ := ohAll_get ds ys r v ha hv
  obtain ⟨ms, hp⟩ := W.lst
  exact k d v _ (List.mem_of_getElem? hd) (noLs_get nl hd) (Oh.keepB hp k2 d v (noLs_get nl hd) od) k2 W2
theorem oh_str {H : Hp} (z : Str) : Oh K cl H (.fl (.str z)) (.str z) := ⟨rfl, rfl⟩
theorem oh_int {H : Hp} (z : Int) : Oh K cl H (.fl (.int z)) (.int z) := ⟨rfl, rfl⟩
theorem oh_non {H : Hp} : Oh K cl H (.fl .non) .non := ⟨rfl, rfl⟩
theorem oh_tup {H : Hp} {a : Addr} {xs : List V} {ds : List OD} (h : SqT K H a xs) (q : OhAll K cl H ds xs) : Oh K cl H (.tup ds) (.ref a) := ⟨a, xs, rfl, h, q⟩
theorem oh_nil {H : Hp} : OhAll K cl H [] [] := rfl
theorem oh_cons {H : Hp} {d : OD} {v : V} {ds : List OD} {vs : List V} (h : Oh K cl H d v) (q : OhAll K cl H ds vs) : OhAll K cl H (d :: ds) (v :: vs) := ⟨v, vs, rfl, h, q⟩
end
/-! what the own == of a class promises -/
def spOwn (K : PySem.W.Frag) (cl : Nat → OCls) (S : Nat → List OD → Prop) (k : Nat) : Sp := fun vs H Q _ => ∃ (a : Addr) (ds : List OD) (e : OD) (y : V), vs = [.ref a, y] ∧ Oh K cl H (.obj k ds) (.ref a) ∧ Oh K cl H e y ∧ S k ds ∧ okAll S ds ∧ okO S e ∧ ∀ H', Ext H H' → Q (.bl (eqo (.obj k ds) e)) H'
theorem own_run {X : Cx} {cl : Nat → OCls} {S : Nat → List OD → Prop} {CX : CXT} {E : XK} {fd : FuncData} {ps : List Str} {k : Nat} (F : FnOk X.prog X.w X.K X.mg X.base CX (cl k).lv (cl k).f fd ps (spOwn X.K cl S k)) (hb : L2.Binds X.K fd ps []) (hx : Passes CX X E)
    {ds : List OD} (hk : S k ds) {A : Around} {pins : List (Addr × Obj)} {s : Shared} {σ : L2.St} {H : Hp} {a : Addr} {e : OD} {y : V} {v : Value} (sb : Sub X (cl k).lv A) (I : L2.Inv X pins σ H s) (ry : RelV y v) (h : Oh X.K cl H (.obj k ds) (.ref a)) (he : Oh X.K cl H e y) (oD : okAll S ds) (oE : okO S e) :
    wpAny (model X.prog X.w) A (call (.ref (cl k).f) [.ref a, v]) (fun r s' => r = .bool (eqo (.obj k ds) e) ∧ ∃ H', L2.Inv X pins σ H' s' ∧ Ext H H') X.xe s := by
  have hsp : spOwn X.K cl S k [.ref a, y] H (fun v H' => v = .bl (eqo (.obj k ds) e) ∧ Ext H H') E := ⟨a, ds, e, y, rfl, h, he, hk, oD, oE, fun H' e => ⟨rfl, e⟩⟩
  have e0 : Env0 X.prog X.w X.K X.mg X.base A X.stack s H := by
    have e := I.env0
    exact ⟨by rw [sb.fr]; exact e.frames, e.mod, e.bs, e.bsz, e.funs, e.frf, e.hok, e.bare⟩
  have hl := F.len _ _ _ _ hsp
  have r2 : Vals [V.ref a, y] [Value.ref a, v] := .cons rfl (.cons ry .nil)
  refine wpAny_call (codeAny_mono (F.run A X.stack s H ⟨[.ref a, v], []⟩ [.ref a, v] [.ref a, y] _ E sb.room e0 (by
    have := hb s [.ref a, v] I.kIn (by simpa using hl)
    simpa using this) r2 hsp) fun r s' hq => ?_)
  cases r with
  | error e => exact hx pins σ H s e s' I hq
  | ok fl =>
    cases fl with
    | ret w =>
      obtain ⟨z, H', I', rz, ez, ex⟩ := I.after hq
      subst ez
      cases rz
      exact ⟨rfl, H', I', ex⟩
    | next => exact False.elim hq
    | brk => exact False.elim hq
    | cont => exact False.elim hq
/-! isinstance of what OD tells -/
structure Kits (K : PySem.W.Frag) (cl : Nat → OCls) (n : Nat) : Prop where
  kc : ∀ k, k < n → ∃ cd, PySem.W.clsIn K (cl k).C = some cd
  kt : ∀ k, k < n → PySem.W.typeIn K (.ref (cl k).C) = some (.type "type")
  ty : ∀ k, k < n → ∀ (H : Hp) (a dx : Addr) (fs : List (Str × V)), H a = some (.ins (cl k).C dx fs) → TyX K H (.ref a) (.ref (cl k).C)
theorem kitN {K : PySem.W.Frag} {C : Addr} {t : Value} {cd : ClassData} (kc : PySem.W.clsIn K C = some cd) (kt : PySem.W.typeIn K (.ref C) = some (.type "type")) (ks : PySem.W.subIn K t (.ref C) = some false) (hn : (t == .ref C) = false) : PySem.W.kitOne K t (.ref C) = some false := by
  unfold PySem.W.kitOne
  rw [if_neg (by rw [hn]; exact Bool.false_ne_true)]
  unfold PySem.W.kitCls
  dsimp only
  rw [kc, kt, ks]
  simp
theorem kitY {K : PySem.W.Frag} {C : Addr} {t : Value} {cd : ClassData} (kc : PySem.W.clsIn K C = some cd) (kt : PySem.W.typeIn K (.ref C) = some (.type "type")) (ks : PySem.W.subIn K t (.ref C) = some true) : PySem.W.kitOne K t (.ref C) = some true := by
  unfold PySem.W.kitOne
  split
  · rfl
  · unfold PySem.W.kitCls
    dsimp only
    rw [kc, kt, ks]
    simp
theorem kitS {K : PySem.W.Frag} {C : Addr} : PySem.W.kitOne K (.ref C) (.ref C) = some true := by
  unfold PySem.W.kitOne
  rw [if_pos (beq_self_eq_true _)]
end Kx
set_option linter.all false
namespace Kx
open PySem L2 PySem.Spec PyProof.Rows
/-! the three classes: Cond, Method, ClassDef -/
def nm : Nat → List Str
  | 0 => ["clauses"]
  | 1 => ["name", "params", "result", "pre", "post", "body"]
  | _ => ["name", "bases", "fields", "where", "methods"]
abbrev clk (C f : Nat → Addr) (k : Nat) : OCls := ⟨C k, f k, nm k, if k = 0 then 4 else if k = 1 then 5 else 7⟩
/-- m parts, each of S, with no list in it, and no deeper than n -/
def Shp (cl : Nat → OCls) (S : Nat → List OD → Prop) (n m : Nat) (ds : List OD) : Prop := ds.length = m ∧ ∀ d ∈ ds, okO S d ∧ noL d ∧ need cl d ≤ n
abbrev Sn : Nat → List OD → Prop := fun _ _ => False
def S0 (cl : Nat → OCls) (k : Nat) (ds : List OD) : Prop := k = 0 ∧ Shp cl Sn 3 1 ds
def S1 (cl : Nat → OCls) (k : Nat) (ds : List OD) : Prop := S0 cl k ds ∨ (k = 1 ∧ Shp cl (S0 cl) 4 6 ds)
def S2 (cl : Nat → OCls) (k : Nat) (ds : List OD) : Prop := S1 cl k ds ∨ (k = 2 ∧ Shp cl (S1 cl) 6 5 ds)
section
variable {cl : Nat → OCls} {k : Nat} {ds : List OD}
theorem s0_lt (h : S0 cl k ds) : k < 3 := by rw [h.1]; decide
theorem s1_lt (h : S1 cl k ds) : k < 3 := by
  rcases h with h | ⟨rfl, _⟩
  · exact s0_lt h
  · decide
theorem s2_lt (h : S2 cl k ds) : k < 3 := by
  rcases h with h | ⟨rfl, _⟩
  · exact s1_lt h
  · decide
theorem s1_0 (h : S1 cl 0 ds) : Shp cl Sn 3 1 ds := by
  rcases h with h | ⟨z, _⟩
  · exact h.2
  · cases z
theorem s2_0 (h : S2 cl 0 ds) : Shp cl Sn 3 1 ds := by
  rcases h with h | ⟨z, _⟩
  · exact s1_0 h
  · cases z
theorem s1_1 (h : S1 cl 1 ds) : Shp cl (S0 cl) 4 6 ds := by
  rcases h with ⟨z, _⟩ | ⟨_, h⟩
  · cases z
  · exact h
theorem s2_1 (h : S2 cl 1 ds) : Shp cl (S0 cl) 4 6 ds := by
  rcases h with h | ⟨z, _⟩
  · exact s1_1 h
  · cases z
theorem s2_2 (h : S2 cl 2 ds) : Shp cl (S1 cl) 6 5 ds := by
  rcases h with (⟨z, _⟩ | ⟨z, _⟩) | ⟨_, h⟩
  · cases z
  · cases z
  · exact h
end
theorem isi_no {K : PySem.W.Frag} {cl : Nat → OCls} {S : Nat → List OD → Prop} {k : Nat} {e : OD} {y : V} {H : Hp} (hS : ∀ l es, S l es → l < 3) (KT : Kits K cl 3) (W : OwnCls K cl S) (hk : Dm S k) (he : Oh K cl H e y) (oE : okO S e) (hne : ∀ es, e ≠ .obj k es) : ∃ t, TyX K H y t ∧ PySem.W.kitOne K t (.ref (cl k).C) = some false := by
  have k6 : k < 3 := let ⟨ds, h⟩ := hk; hS k ds h
  obtain ⟨cd, kc⟩ := KT.kc k k6
  have kt := KT.kt k k6
  have no : ∀ T, T ∈ ["NoneType", "bool", "int", "str", "tuple", "list"] → PySem.W.kitOne K (.type T) (.ref (cl k).C) = some false := fun T hT => kitN kc kt (W.sT k hk T hT).1 (by simp)
  cases e with
  | fl v =>
    obtain ⟨rfl, h⟩ := he
    cases y with
    | non => exact ⟨_, .base .non, no _ (by decide)⟩
    | bl b => exact ⟨_, .base (.bl b), no _ (by decide)⟩
    | int b => exact ⟨_, .base (.int b), no _ (by decide)⟩
    | str b => exact ⟨_, .base (.str b), no _ (by decide)⟩
    | _ => cases h
  | tup ds =>
    obtain ⟨a, xs, rfl, h, _⟩ := he
    exact ⟨_, tyT h, no _ (by decide)⟩
  | lst ds =>
    obtain ⟨a, xs, rfl, h, _⟩ := he
    exact ⟨_, .base (.lst h), no _ (by decide)⟩
  | obj l es =>
    obtain ⟨a, dx, fs, xs, rfl, h, _, _⟩ := he
    have hl : k ≠ l := fun z => hne es (by rw [z])
    refine ⟨_, KT.ty l (hS l es oE.1) H a dx fs h, kitN kc kt (W.sub k l hk ⟨_, oE.1⟩ hl) ?_⟩
    have : (cl l).C ≠ (cl k).C := fun z => hl (W.inj k l hk ⟨_, oE.1⟩ z.symm)
    simpa using this
theorem eqo_ne {k : Nat} {ds : List OD} {e : OD} (hne : ∀ es, e ≠ .obj k es) : eqo (.obj k ds) e = false := by
  cases e with
  | fl v => exact eqo_obj_fl
  | tup v => exact eqo_obj_tup
  | lst v => exact eqo_obj_lst
  | obj l es =>
    have hl : k ≠ l := fun z => hne es (by rw [z])
    show (k == l && eqoAll ds es) = false
    rw [beq_eq_false_iff_ne.mpr hl, Bool.false_and]
theorem ohx {K : PySem.W.Frag} {cl : Nat → OCls} {H : Hp} {ds : List OD} {xs : List V} {a : Option V} {as : List (Option V)} (h : a :: as = xs.map some) (q : OhAll K cl H ds xs) : ∃ d ds' v xs', ds = d :: ds' ∧ xs = v :: xs' ∧ a = some v ∧ Oh K cl H d v ∧ as = xs'.map some ∧ OhAll K cl H ds' xs' := by
  match xs, h with
  | v :: xs, h =>
    injection h with h1 h2
    match ds, q with
    | d :: ds, ⟨_, _, e, h, q⟩ =>
      cases e
      exact ⟨d, ds, v, xs, rfl, rfl, h1, h, h2, q⟩
    | [], q => cases q
theorem oh0 {K : PySem.W.Frag} {cl : Nat → OCls} {H : Hp} {ds : List OD} {xs : List V} (h : ([] : List (Option V)) = xs.map some) (q : OhAll K cl H ds xs) : ds = [] := by
  match xs, h with
  | [], _ =>
    match ds, q with
    | [], _ => rfl
    | _ :: _, ⟨_, _, e, _⟩ => cases e

theorem oh1 {K : PySem.W.Frag} {cl : Nat → OCls} {H : Hp} {ds : List OD} {xs : List V} {a0 : Option V} (h : [a0] = xs.map some) (q : OhAll K cl H ds xs) : ∃ d0 v0, ds = [d0] ∧ a0 = some v0 ∧ Oh K cl H d0 v0 := by
  obtain ⟨d0, r0, v0, x0, rfl, rfl, e0, o0, h0, q0⟩ := ohx h q
  have := oh0 h0 q0
  subst this
  exact ⟨d0, v0, rfl, e0, o0⟩
theorem oh5 {K : PySem.W.Frag} {cl : Nat → OCls} {H : Hp} {ds : List OD} {xs : List V} {a0 a1 a2 a3 a4 : Option V} (h : [a0, a1, a2, a3, a4] = xs.map some) (q : OhAll K cl H ds xs) : ∃ d0 d1 d2 d3 d4 v0 v1 v2 v3 v4, ds = [d0, d1, d2, d3, d4] ∧ a0 = some v0 ∧ a1 = some v1 ∧ a2 = some v2 ∧ a3 = some v3 ∧ a4 = some v4 ∧ Oh K cl H d0 v0 ∧ Oh K cl H d1 v1 ∧ Oh K cl H d2 v2 ∧ Oh K cl H d3 v3 ∧ Oh K cl H d4 v4 := by
  obtain ⟨d0, r0, v0, x0, rfl, rfl, e0, o0, h0, q0⟩ := ohx h q
  obtain ⟨d1, r1, v1, x1, rfl, rfl, e1, o1, h1, q1⟩ := ohx h0 q0
  obtain ⟨d2, r2, v2, x2, rfl, rfl, e2, o2, h2, q2⟩ := ohx h1 q1
  obtain ⟨d3, r3, v3, x3, rfl, rfl, e3, o3, h3, q3⟩ := ohx h2 q2
  obtain ⟨d4, r4, v4, x4, rfl, rfl, e4, o4, h4, q4⟩ := ohx h3 q3
  have := oh0 h4 q4
  subst this
  exact ⟨d0, d1, d2, d3, d4, v0, v1, v2, v3, v4, rfl, e0, e1, e2, e3, e4, o0, o1, o2, o3, o4⟩
theorem oh6 {K : PySem.W.Frag} {cl : Nat → OCls} {H : Hp} {ds : List OD} {xs : List V} {a0 a1 a2 a3 a4 a5 : Option V} (h : [a0, a1, a2, a3, a4, a5] = xs.map some) (q : OhAll K cl H ds xs) : ∃ d0 d1 d2 d3 d4 d5 v0 v1 v2 v3 v4 v5, ds = [d0, d1, d2, d3, d4, d5] ∧ a0 = some v0 ∧ a1 = some v1 ∧ a2 = some v2 ∧ a3 = some v3 ∧ a4 = some v4 ∧ a5 = some v5 ∧ Oh K cl H d0 v0 ∧ Oh K cl H d1 v1 ∧ Oh K cl H d2 v2 ∧ Oh K cl H d3 v3 ∧ Oh K cl H d4 v4 ∧ Oh K cl H d5 v5 := by
  obtain ⟨d0, r0, v0, x0, rfl, rfl, e0, o0, h0, q0⟩ := ohx h q
  obtain ⟨d1, r1, v1, x1, rfl, rfl, e1, o1, h1, q1⟩ := ohx h0 q0
  obtain ⟨d2, r2, v2, x2, rfl, rfl, e2, o2, h2, q2⟩ := ohx h1 q1
  obtain ⟨d3, r3, v3, x3, rfl, rfl, e3, o3, h3, q3⟩ := ohx h2 q2
  obtain ⟨d4, r4, v4, x4, rfl, rfl, e4, o4, h4, q4⟩ := ohx h3 q3
  obtain ⟨d5, r5, v5, x5, rfl, rfl, e5, o5, h5, q5⟩ := ohx h4 q4
  have := oh0 h5 q5
  subst this
  exact ⟨d0, d1, d2, d3, d4, d5, v0, v1, v2, v3, v4, v5, rfl, e0, e1, e2, e3, e4, e5, o0, o1, o2, o3, o4, o5⟩
/-- what the text has of these classes -/
structure Txt (K : PySem.W.Frag) (mg : Str → Option Value) (C f : Nat → Addr) : Prop where
  W : OwnCls K (clk C f) (S2 (clk C f))
  KT : Kits K (clk C f) 3
  cls : ∀ k, k < 3 → Cls K (C k)
  no : ∀ k, k < 3 → ∀ x ∈ nm k, NoAttr K (C k) x
  isi : mg "isinstance" = none
theorem own_up {K : PySem.W.Frag} {cl : Nat → OCls} {S S' : Nat → List OD → Prop} (W : OwnCls K cl S) (h : ∀ k ds, S' k ds → S k ds) : OwnCls K cl S' := by
  have up : ∀ k, Dm S' k → Dm S k := fun k ⟨ds, z⟩ => ⟨ds, h k ds z⟩
  exact ⟨fun k h => W.eqf k (up k h), fun k h => W.isf k (up k h), fun k l h h' => W.inj k l (up k h) (up l h'), fun k l h h' => W.sub k l (up k h) (up l h'), fun k h => W.sT k (up k h)⟩
abbrev GivesAll (P : Program) (w : World) (K : PySem.W.Frag) (mg : Str → Option Value) (base : Heap) (cl : Nat → OCls) (S : Nat → List OD → Prop) : Prop := ∀ X : Cx, X.prog = P → X.w = w → X.K = K → X.mg = mg → X.base = base → OwnGives X cl S
theorem givesN {P : Program} {w : World} {K : PySem.W.Frag} {mg : Str → Option Value} {base : Heap} {cl : Nat → OCls} : GivesAll P w K mg base cl Sn := fun X _ _ _ _ _ k ds h => h.elim
section
variable {P : Program} {w : World} {K : PySem.W.Frag} {mg : Str → Option Value} {base : Heap} {C fe : Nat → Addr}

abbrev sEq0 : Stmt := inClass (top 23) 3
theorem scEq0 : FnScope ["self", "other"] ["self", "other"] (defScope sEq0) := ⟨rfl, rfl, rfl, by decide +kernel, rfl, by decide +kernel, by decide +kernel⟩
theorem ok_eq0 {S : Nat → List OD → Prop} {fd : FuncData} (F : Fun K "__eq__" "Cond.__eq__" sEq0 (fe 0) fd) (T : Txt K mg C fe) (hS : ∀ l es, S l es → l < 3) (W : OwnCls K (clk C fe) S) (hF : ∀ ds, S 0 ds → Shp (clk C fe) Sn 3 1 ds) (W0 : OwnCls K (clk C fe) Sn) (G0 : GivesAll P w K mg base (clk C fe) Sn) (gC : mg "Cond" = some (.ref (C 0))) : FnOk P w K mg base CX0 (clk C fe 0).lv (clk C fe 0).f fd ["self", "other"] (spOwn K (clk C fe) S 0) := by
  refine F.ok scEq0 (fun vs H Q E h => ?_) (fun cdv A outer s H vs Q E hr h => ?_)
  · obtain ⟨a, ds, e, y, rfl, _⟩ := h
    rfl
  · obtain ⟨a, ds, e, y, rfl, ha, he, hk, oD, oE, q⟩ := h
    refine ⟨_, pss_one (ps_ret (pe_and (pe_callB call_isi (by rfl) T.isi boot_isinstance (pa_cons (pv 1) (pa_cons (pe_glob (v := .ref (C 0)) (by rfl) gC rfl) pa_nil))) (pe_one (pe_cmpR (op_eqO (cl := clk C fe) (S := Sn) (n := 3) W0 (G0 _ rfl rfl rfl rfl rfl) hr) (pe_fld (pv 0) (by rfl)) (pe_fld (pv 1) (by rfl)) (nomark _))))), ?_⟩
    by_cases hne : ∃ es, e = .obj 0 es
    case neg =>
      obtain ⟨t, ty, kit⟩ := isi_no hS T.KT W ⟨ds, hk⟩ he oE (fun es z => hne ⟨es, z⟩)
      rw [eqo_ne fun es z => hne ⟨es, z⟩] at q
      exact ⟨_, rfl, y, .ref (C 0), _, _, false, rfl, .own _, ty, kit, false, rfl, iteF (q H Ext.rfl')⟩
    case pos =>
    obtain ⟨es, rfl⟩ := hne
    have hk1 := (hF ds hk).2
    have hk2 := (hF es oE.1).2
    obtain ⟨a', dx, fs, xs, e1, hi, hn, hq⟩ := ha
    cases e1
    obtain ⟨b, dy, gs, ys, rfl, hi', hn', hq'⟩ := he
    obtain ⟨d0, v0, ez, l0, o0⟩ := oh1 hn hq
    subst ez
    obtain ⟨e0, u0, ez, m0, r0⟩ := oh1 hn' hq'
    subst ez
    have c0 := T.cls 0 (by decide)
    have n0 := T.no 0 (by decide)
    refine ⟨_, rfl, .ref b, .ref (C 0), _, _, true, rfl, .own _, T.KT.ty 0 (by decide) H b dy gs hi', kitS, true, rfl, iteT ?_⟩
    have e : eqo (.obj 0 [d0]) (.obj 0 [e0]) = (eqo d0 e0 && true) := by rw [show eqo (.obj 0 [d0]) (.obj 0 [e0]) = (0 == 0 && (eqo d0 e0 && true)) from rfl]; simp
    rw [e] at q
    obtain ⟨p0, t0, z0⟩ := hk1 d0 (by simp)
    obtain ⟨p0', t0', z0'⟩ := hk2 e0 (by simp)
    rw [Bool.and_true] at q
    exact ⟨_, rfl, a, C 0, dx, fs, _, rfl, hi, c0, n0 _ (by decide), l0, _, rfl, b, C 0, dy, gs, _, rfl, hi', c0, n0 _ (by decide), m0, d0, e0, o0, r0, p0, p0', z0, z0', noL_lst t0, noL_lst t0', fun H0 y0 => q H0 y0⟩
abbrev sEq1 : Stmt := inClass (top 25) 1
theorem scEq1 : FnScope ["self", "other"] ["self", "other"] (defScope sEq1) := ⟨rfl, rfl, rfl, by decide +kernel, rfl, by decide +kernel, by decide +kernel⟩
theorem ok_eq1 {S : Nat → List OD → Prop} {fd : FuncData} (F : Fun K "__eq__" "Method.__eq__" sEq1 (fe 1) fd) (T : Txt K mg C fe) (hS : ∀ l es, S l es → l < 3) (W : OwnCls K (clk C fe) S) (hF : ∀ ds, S 1 ds → Shp (clk C fe) (S0 (clk C fe)) 4 6 ds) (W0 : OwnCls K (clk C fe) (S0 (clk C fe))) (G0 : GivesAll P w K mg base (clk C fe) (S0 (clk C fe))) (gC : mg "Method" = some (.ref (C 1))) : FnOk P w K mg base CX0 (clk C fe 1).lv (clk C fe 1).f fd ["self", "other"] (spOwn K (clk C fe) S 1) := by
  refine F.ok scEq1 (fun vs H Q E h => ?_) (fun cdv A outer s H vs Q E hr h => ?_)
  · obtain ⟨a, ds, e, y, rfl, _⟩ := h
    rfl
  · obtain ⟨a, ds, e, y, rfl, ha, he, hk, oD, oE, q⟩ := h
    refine ⟨_, pss_one (ps_ret (pe_and (pe_callB call_isi (by rfl) T.isi boot_isinstance (pa_cons (pv 1) (pa_cons (pe_glob (v := .ref (C 1)) (by rfl) gC rfl) pa_nil))) (pe_and (pe_cmpR (op_eqO (cl := clk C fe) (S := (S0 (clk C fe))) (n := 4) W0 (G0 _ rfl rfl rfl rfl rfl) hr) (pe_fld (pv 0) (by rfl)) (pe_fld (pv 1) (by rfl)) (nomark _)) (pe_and (pe_cmpR (op_eqO (cl := clk C fe) (S := (S0 (clk C fe))) (n := 4) W0 (G0 _ rfl rfl rfl rfl rfl) hr) (pe_fld (pv 0) (by rfl)) (pe_fld (pv 1) (by rfl)) (nomark _)) (pe_and (pe_cmpR (op_eqO (cl := clk C fe) (S := (S0 (clk C fe))) (n := 4) W0 (G0 _ rfl rfl rfl rfl rfl) hr) (pe_fld (pv 0) (by rfl)) (pe_fld (pv 1) (by rfl)) (nomark _)) (pe_and (pe_cmpR (op_eqO (cl := clk C fe) (S := (S0 (clk C fe))) (n := 4) W0 (G0 _ rfl rfl rfl rfl rfl) hr) (pe_fld (pv 0) (by rfl)) (pe_fld (pv 1) (by rfl)) (nomark _)) (pe_and (pe_cmpR (op_eqO (cl := clk C fe) (S := (S0 (clk C fe))) (n := 4) W0 (G0 _ rfl rfl rfl rfl rfl) hr) (pe_fld (pv 0) (by rfl)) (pe_fld (pv 1) (by rfl)) (nomark _)) (pe_one (pe_cmpR (op_eqO (cl := clk C fe) (S := (S0 (clk C fe))) (n := 4) W0 (G0 _ rfl rfl rfl rfl rfl) hr) (pe_fld (pv 0) (by rfl)) (pe_fld (pv 1) (by rfl)) (nomark _)))))))))), ?_⟩
    by_cases hne : ∃ es, e = .obj 1 es
    case neg =>
      obtain ⟨t, ty, kit⟩ := isi_no hS T.KT W ⟨ds, hk⟩ he oE (fun es z => hne ⟨es, z⟩)
      rw [eqo_ne fun es z => hne ⟨es, z⟩] at q
      exact ⟨_, rfl, y, .ref (C 1), _, _, false, rfl, .own _, ty, kit, false, rfl, iteF (q H Ext.rfl')⟩
    case pos =>
    obtain ⟨es, rfl⟩ := hne
    have hk1 := (hF ds hk).2
    have hk2 := (hF es oE.1).2
    obtain ⟨a', dx, fs, xs, e1, hi, hn, hq⟩ := ha
    cases e1
    obtain ⟨b, dy, gs, ys, rfl, hi', hn', hq'⟩ := he
    obtain ⟨d0, d1, d2, d3, d4, d5, v0, v1, v2, v3, v4, v5, ez, l0, l1, l2, l3, l4, l5, o0, o1, o2, o3, o4, o5⟩ := oh6 hn hq
    subst ez
    obtain ⟨e0, e1, e2, e3, e4, e5, u0, u1, u2, u3, u4, u5, ez, m0, m1, m2, m3, m4, m5, r0, r1, r2, r3, r4, r5⟩ := oh6 hn' hq'
    subst ez
    have c0 := T.cls 1 (by decide)
    have n0 := T.no 1 (by decide)
    refine ⟨_, rfl, .ref b, .ref (C 1), _, _, true, rfl, .own _, T.KT.ty 1 (by decide) H b dy gs hi', kitS, true, rfl, iteT ?_⟩
    have e : eqo (.obj 1 [d0, d1, d2, d3, d4, d5]) (.obj 1 [e0, e1, e2, e3, e4, e5]) = (eqo d0 e0 && (eqo d1 e1 && (eqo d2 e2 && (eqo d3 e3 && (eqo d4 e4 && (eqo d5 e5 && true)))))) := by rw [show eqo (.obj 1 [d0, d1, d2, d3, d4, d5]) (.obj 1 [e0, e1, e2, e3, e4, e5]) = (1 == 1 && (eqo d0 e0 && (eqo d1 e1 && (eqo d2 e2 && (eqo d3 e3 && (eqo d4 e4 && (eqo d5 e5 && true))))))) from rfl]; simp
    rw [e] at q
    obtain ⟨p0, t0, z0⟩ := hk1 d0 (by simp)
    obtain ⟨p0', t0', z0'⟩ := hk2 e0 (by simp)
    refine ⟨_, rfl, a, C 1, dx, fs, _, rfl, hi, c0, n0 _ (by decide), l0, _, rfl, b, C 1, dy, gs, _, rfl, hi', c0, n0 _ (by decide), m0, d0, e0, o0, r0, p0, p0', z0, z0', noL_lst t0, noL_lst t0', fun H0 y0 => ⟨_, rfl, ?_⟩⟩
    have x0 : Ext H H0 := y0
    cases hh0 : eqo d0 e0 with
    | false => rw [hh0, Bool.false_and] at q; exact iteF (q H0 x0)
    | true =>
    rw [hh0, Bool.true_and] at q
    refine iteT ?_
    obtain ⟨p1, t1, z1⟩ := hk1 d1 (by simp)
    obtain ⟨p1', t1', z1'⟩ := hk2 e1 (by simp)
    refine ⟨_, rfl, a, C 1, dx, fs, _, rfl, (x0 _ _ hi), c0, n0 _ (by decide), l1, _, rfl, b, C 1, dy, gs, _, rfl, (x0 _ _ hi'), c0, n0 _ (by decide), m1, d1, e1, (Oh.ext (x0) _ _ o1), (Oh.ext (x0) _ _ r1), p1, p1', z1, z1', noL_lst t1, noL_lst t1', fun H1 y1 => ⟨_, rfl, ?_⟩⟩
    have x1 : Ext H H1 := x0.trans y1
    cases hh1 : eqo d1 e1 with
    | false => rw [hh1, Bool.false_and] at q; exact iteF (q H1 x1)
    | true =>
    rw [hh1, Bool.true_and] at q
    refine iteT ?_
    obtain ⟨p2, t2, z2⟩ := hk1 d2 (by simp)
    obtain ⟨p2', t2', z2'⟩ := hk2 e2 (by simp)
    refine ⟨_, rfl, a, C 1, dx, fs, _, rfl, (x1 _ _ hi), c0, n0 _ (by decide), l2, _, rfl, b, C 1, dy, gs, _, rfl, (x1 _ _ hi'), c0, n0 _ (by decide), m2, d2, e2, (Oh.ext (x1) _ _ o2), (Oh.ext (x1) _ _ r2), p2, p2', z2, z2', noL_lst t2, noL_lst t2', fun H2 y2 => ⟨_, rfl, ?_⟩⟩
    have x2 : Ext H H2 := x1.trans y2
    cases hh2 : eqo d2 e2 with
    | false => rw [hh2, Bool.false_and] at q; exact iteF (q H2 x2)
    | true =>
    rw [hh2, Bool.true_and] at q
    refine iteT ?_
    obtain ⟨p3, t3, z3⟩ := hk1 d3 (by simp)
    obtain ⟨p3', t3', z3'⟩ := hk2 e3 (by simp)
    refine ⟨_, rfl, a, C 1, dx, fs, _, rfl, (x2 _ _ hi), c0, n0 _ (by decide), l3, _, rfl, b, C 1, dy, gs, _, rfl, (x2 _ _ hi'), c0, n0 _ (by decide), m3, d3, e3, (Oh.ext (x2) _ _ o3), (Oh.ext (x2) _ _ r3), p3, p3', z3, z3', noL_lst t3, noL_lst t3', fun H3 y3 => ⟨_, rfl, ?_⟩⟩
    have x3 : Ext H H3 := x2.trans y3
    cases hh3 : eqo d3 e3 with
    | false => rw [hh3, Bool.false_and] at q; exact iteF (q H3 x3)
    | true =>
    rw [hh3, Bool.true_and] at q
    refine iteT ?_
    obtain ⟨p4, t4, z4⟩ := hk1 d4 (by simp)
    obtain ⟨p4', t4', z4'⟩ := hk2 e4 (by simp)
    refine ⟨_, rfl, a, C 1, dx, fs, _, rfl, (x3 _ _ hi), c0, n0 _ (by decide), l4, _, rfl, b, C 1, dy, gs, _, rfl, (x3 _ _ hi'), c0, n0 _ (by decide), m4, d4, e4, (Oh.ext (x3) _ _ o4), (Oh.ext (x3) _ _ r4), p4, p4', z4, z4', noL_lst t4, noL_lst t4', fun H4 y4 => ⟨_, rfl, ?_⟩⟩
    have x4 : Ext H H4 := x3.trans y4
    cases hh4 : eqo d4 e4 with
    | false => rw [hh4, Bool.false_and] at q; exact iteF (q H4 x4)
    | true =>
    rw [hh4, Bool.true_and] at q
    refine iteT ?_
    obtain ⟨p5, t5, z5⟩ := hk1 d5 (by simp)
    obtain ⟨p5', t5', z5'⟩ := hk2 e5 (by simp)
    rw [Bool.and_true] at q
    exact ⟨_, rfl, a, C 1, dx, fs, _, rfl, (x4 _ _ hi), c0, n0 _ (by decide), l5, _, rfl, b, C 1, dy, gs, _, rfl, (x4 _ _ hi'), c0, n0 _ (by decide), m5, d5, e5, (Oh.ext (x4) _ _ o5), (Oh.ext (x4) _ _ r5), p5, p5', z5, z5', noL_lst t5, noL_lst t5', fun H5 y5 => q H5 (x4.trans y5)⟩
abbrev sEq2 : Stmt := inClass (top 26) 1
theorem scEq2 : FnScope ["self", "other"] ["self", "other"] (defScope sEq2) := ⟨rfl, rfl, rfl, by decide +kernel, rfl, by decide +kernel, by decide +kernel⟩
theorem ok_eq2 {S : Nat → List OD → Prop} {fd : FuncData} (F : Fun K "__eq__" "ClassDef.__eq__" sEq2 (fe 2) fd) (T : Txt K mg C fe) (hS : ∀ l es, S l es → l < 3) (W : OwnCls K (clk C fe) S) (hF : ∀ ds, S 2 ds → Shp (clk C fe) (S1 (clk C fe)) 6 5 ds) (W0 : OwnCls K (clk C fe) (S1 (clk C fe))) (G0 : GivesAll P w K mg base (clk C fe) (S1 (clk C fe))) (gC : mg "ClassDef" = some (.ref (C 2))) : FnOk P w K mg base CX0 (clk C fe 2).lv (clk C fe 2).f fd ["self", "other"] (spOwn K (clk C fe) S 2) := by
  refine F.ok scEq2 (fun vs H Q E h => ?_) (fun cdv A outer s H vs Q E hr h => ?_)
  · obtain ⟨a, ds, e, y, rfl, _⟩ := h
    rfl
  · obtain ⟨a, ds, e, y, rfl, ha, he, hk, oD, oE, q⟩ := h
    refine ⟨_, pss_one (ps_ret (pe_and (pe_callB call_isi (by rfl) T.isi boot_isinstance (pa_cons (pv 1) (pa_cons (pe_glob (v := .ref (C 2)) (by rfl) gC rfl) pa_nil))) (pe_and (pe_cmpR (op_eqO (cl := clk C fe) (S := (S1 (clk C fe))) (n := 6) W0 (G0 _ rfl rfl rfl rfl rfl) hr) (pe_fld (pv 0) (by rfl)) (pe_fld (pv 1) (by rfl)) (nomark _)) (pe_and (pe_cmpR (op_eqO (cl := clk C fe) (S := (S1 (clk C fe))) (n := 6) W0 (G0 _ rfl rfl rfl rfl rfl) hr) (pe_fld (pv 0) (by rfl)) (pe_fld (pv 1) (by rfl)) (nomark _)) (pe_and (pe_cmpR (op_eqO (cl := clk C fe) (S := (S1 (clk C fe))) (n := 6) W0 (G0 _ rfl rfl rfl rfl rfl) hr) (pe_fld (pv 0) (by rfl)) (pe_fld (pv 1) (by rfl)) (nomark _)) (pe_and (pe_cmpR (op_eqO (cl := clk C fe) (S := (S1 (clk C fe))) (n := 6) W0 (G0 _ rfl rfl rfl rfl rfl) hr) (pe_fld (pv 0) (by rfl)) (pe_fld (pv 1) (by rfl)) (nomark _)) (pe_one (pe_cmpR (op_eqO (cl := clk C fe) (S := (S1 (clk C fe))) (n := 6) W0 (G0 _ rfl rfl rfl rfl rfl) hr) (pe_fld (pv 0) (by rfl)) (pe_fld (pv 1) (by rfl)) (nomark _))))))))), ?_⟩
    by_cases hne : ∃ es, e = .obj 2 es
    case neg =>
      obtain ⟨t, ty, kit⟩ := isi_no hS T.KT W ⟨ds, hk⟩ he oE (fun es z => hne ⟨es, z⟩)
      rw [eqo_ne fun es z => hne ⟨es, z⟩] at q
      exact ⟨_, rfl, y, .ref (C 2), _, _, false, rfl, .own _, ty, kit, false, rfl, iteF (q H Ext.rfl')⟩
    case pos =>
    obtain ⟨es, rfl⟩ := hne
    have hk1 := (hF ds hk).2
    have hk2 := (hF es oE.1).2
    obtain ⟨a', dx, fs, xs, e1, hi, hn, hq⟩ := ha
    cases e1
    obtain ⟨b, dy, gs, ys, rfl, hi', hn', hq'⟩ := he
    obtain ⟨d0, d1, d2, d3, d4, v0, v1, v2, v3, v4, ez, l0, l1, l2, l3, l4, o0, o1, o2, o3, o4⟩ := oh5 hn hq
    subst ez
    obtain ⟨e0, e1, e2, e3, e4, u0, u1, u2, u3, u4, ez, m0, m1, m2, m3, m4, r0, r1, r2, r3, r4⟩ := oh5 hn' hq'
    subst ez
    have c0 := T.cls 2 (by decide)
    have n0 := T.no 2 (by decide)
    refine ⟨_, rfl, .ref b, .ref (C 2), _, _, true, rfl, .own _, T.KT.ty 2 (by decide) H b dy gs hi', kitS, true, rfl, iteT ?_⟩
    have e : eqo (.obj 2 [d0, d1, d2, d3, d4]) (.obj 2 [e0, e1, e2, e3, e4]) = (eqo d0 e0 && (eqo d1 e1 && (eqo d2 e2 && (eqo d3 e3 && (eqo d4 e4 && true))))) := by rw [show eqo (.obj 2 [d0, d1, d2, d3, d4]) (.obj 2 [e0, e1, e2, e3, e4]) = (2 == 2 && (eqo d0 e0 && (eqo d1 e1 && (eqo d2 e2 && (eqo d3 e3 && (eqo d4 e4 && true)))))) from rfl]; simp
    rw [e] at q
    obtain ⟨p0, t0, z0⟩ := hk1 d0 (by simp)
    obtain ⟨p0', t0', z0'⟩ := hk2 e0 (by simp)
    refine ⟨_, rfl, a, C 2, dx, fs, _, rfl, hi, c0, n0 _ (by decide), l0, _, rfl, b, C 2, dy, gs, _, rfl, hi', c0, n0 _ (by decide), m0, d0, e0, o0, r0, p0, p0', z0, z0', noL_lst t0, noL_lst t0', fun H0 y0 => ⟨_, rfl, ?_⟩⟩
    have x0 : Ext H H0 := y0
    cases hh0 : eqo d0 e0 with
    | false => rw [hh0, Bool.false_and] at q; exact iteF (q H0 x0)
    | true =>
    rw [hh0, Bool.true_and] at q
    refine iteT ?_
    obtain ⟨p1, t1, z1⟩ := hk1 d1 (by simp)
    obtain ⟨p1', t1', z1'⟩ := hk2 e1 (by simp)
    refine ⟨_, rfl, a, C 2, dx, fs, _, rfl, (x0 _ _ hi), c0, n0 _ (by decide), l1, _, rfl, b, C 2, dy, gs, _, rfl, (x0 _ _ hi'), c0, n0 _ (by decide), m1, d1, e1, (Oh.ext (x0) _ _ o1), (Oh.ext (x0) _ _ r1), p1, p1', z1, z1', noL_lst t1, noL_lst t1', fun H1 y1 => ⟨_, rfl, ?_⟩⟩
    have x1 : Ext H H1 := x0.trans y1
    cases hh1 : eqo d1 e1 with
    | false => rw [hh1, Bool.false_and] at q; exact iteF (q H1 x1)
    | true =>
    rw [hh1, Bool.true_and] at q
    refine iteT ?_
    obtain ⟨p2, t2, z2⟩ := hk1 d2 (by simp)
    obtain ⟨p2', t2', z2'⟩ := hk2 e2 (by simp)
    refine ⟨_, rfl, a, C 2, dx, fs, _, rfl, (x1 _ _ hi), c0, n0 _ (by decide), l2, _, rfl, b, C 2, dy, gs, _, rfl, (x1 _ _ hi'), c0, n0 _ (by decide), m2, d2, e2, (Oh.ext (x1) _ _ o2), (Oh.ext (x1) _ _ r2), p2, p2', z2, z2', noL_lst t2, noL_lst t2', fun H2 y2 => ⟨_, rfl, ?_⟩⟩
    have x2 : Ext H H2 := x1.trans y2
    cases hh2 : eqo d2 e2 with
    | false => rw [hh2, Bool.false_and] at q; exact iteF (q H2 x2)
    | true =>
    rw [hh2, Bool.true_and] at q
    refine iteT ?_
    obtain ⟨p3, t3, z3⟩ := hk1 d3 (by simp)
    obtain ⟨p3', t3', z3'⟩ := hk2 e3 (by simp)
    refine ⟨_, rfl, a, C 2, dx, fs, _, rfl, (x2 _ _ hi), c0, n0 _ (by decide), l3, _, rfl, b, C 2, dy, gs, _, rfl, (x2 _ _ hi'), c0, n0 _ (by decide), m3, d3, e3, (Oh.ext (x2) _ _ o3), (Oh.ext (x2) _ _ r3), p3, p3', z3, z3', noL_lst t3, noL_lst t3', fun H3 y3 => ⟨_, rfl, ?_⟩⟩
    have x3 : Ext H H3 := x2.trans y3
    cases hh3 : eqo d3 e3 with
    | false => rw [hh3, Bool.false_and] at q; exact iteF (q H3 x3)
    | true =>
    rw [hh3, Bool.true_and] at q
    refine iteT ?_
    obtain ⟨p4, t4, z4⟩ := hk1 d4 (by simp)
    obtain ⟨p4', t4', z4'⟩ := hk2 e4 (by simp)
    rw [Bool.and_true] at q
    exact ⟨_, rfl, a, C 2, dx, fs, _, rfl, (x3 _ _ hi), c0, n0 _ (by decide), l4, _, rfl, b, C 2, dy, gs, _, rfl, (x3 _ _ hi'), c0, n0 _ (by decide), m4, d4, e4, (Oh.ext (x3) _ _ o4), (Oh.ext (x3) _ _ r4), p4, p4', z4, z4', noL_lst t4, noL_lst t4', fun H4 y4 => q H4 (x3.trans y4)⟩
end
end Kx
set_option linter.all false
namespace Kx
open PySem L2 PySem.Spec PyProof.Rows
open StX (pe_makeR tMakeR)
/-! conditions as data; a Cond made -/
abbrev litO (l : Lit) : OD := .tup [.fl (.str l.1), .fl (.str l.2.1), .fl (.int l.2.2)]
abbrev clO (c : List Lit) : OD := .tup (c.map litO)
abbrev cO (cs : List (List Lit)) : OD := .obj 0 [.tup (cs.map clO)]
section
variable {K : PySem.W.Frag} {cl : Nat → OCls} {H : Hp}
theorem lit_od {x : V} {l : Lit} (h : IsLit K H x l) : Oh K cl H (litO l) x := by
  obtain ⟨a, rfl, q⟩ := h
  exact oh_tup q (oh_cons (oh_str _) (oh_cons (oh_str _) (oh_cons (oh_int _) oh_nil)))
theorem lits_od : ∀ {xs : List V} {c : List Lit}, Paired (IsLit K H) xs c → OhAll K cl H (c.map litO) xs
  | _, _, .nil => rfl
  | _, _, .cons h q => oh_cons (lit_od h) (lits_od q)
theorem cl_od {x : V} {c : List Lit} (h : IsC K H x c) : Oh K cl H (clO c) x := by
  obtain ⟨a, ys, rfl, q⟩ := h
  exact oh_tup q.sq (lits_od q.p)
theorem cls_od : ∀ {xs : List V} {cs : List (List Lit)}, Paired (IsC K H) xs cs → OhAll K cl H (cs.map clO) xs
  | _, _, .nil => rfl
  | _, _, .cons h q => oh_cons (cl_od h) (cls_od q)
theorem ok_lits {S : Nat → List OD → Prop} : ∀ (c : List Lit), okAll S (c.map litO) ∧ noLs (c.map litO) ∧ needAll cl (c.map litO) ≤ 1
  | [] => ⟨trivial, trivial, Nat.zero_le _⟩
  | l :: c => let ⟨a, b, d⟩ := ok_lits c; ⟨⟨⟨trivial, trivial, trivial, trivial⟩, a⟩, ⟨⟨trivial, trivial, trivial, trivial⟩, b⟩, Nat.max_le.mpr ⟨by show max 0 (max 0 (max 0 0)) + 1 ≤ 1; decide, d⟩⟩
theorem ok_cls {S : Nat → List OD → Prop} : ∀ (cs : List (List Lit)), okAll S (cs.map clO) ∧ noLs (cs.map clO) ∧ needAll cl (cs.map clO) ≤ 2
  | [] => ⟨trivial, trivial, Nat.zero_le _⟩
  | c :: cs => let ⟨a, b, d⟩ := ok_cls cs; let ⟨e, f, g⟩ := ok_lits (cl := cl) (S := S) c; ⟨⟨e, a⟩, ⟨f, b⟩, Nat.max_le.mpr ⟨Nat.succ_le_succ g, d⟩⟩
theorem ok_cO (cs : List (List Lit)) : okO (S0 cl) (cO cs) ∧ noL (cO cs) := by
  obtain ⟨a, b, d⟩ := ok_cls (cl := cl) (S := Sn) cs
  obtain ⟨a', b', d'⟩ := ok_cls (cl := cl) (S := S0 cl) cs
  refine ⟨⟨⟨rfl, rfl, fun x hx => ?_⟩, a', trivial⟩, b, trivial⟩
  rw [List.mem_singleton.mp hx]
  exact ⟨a, b, Nat.succ_le_succ d⟩
end
theorem need_cO {C f : Nat → Addr} (cs : List (List Lit)) : need (clk C f) (cO cs) ≤ 4 := Nat.le_refl _
theorem cond_od {K : PySem.W.Frag} {C f : Nat → Addr} {H : Hp} {r dz p q : Addr} {cs : List (List Lit)} {ys : List Str} (h : CondF K H r (C 0) dz p q cs ys) : Oh K (clk C f) H (cO cs) (.ref r) := by
  obtain ⟨xs, hc⟩ := h.cl
  exact ⟨r, dz, _, [.ref p], rfl, h.ins, rfl, oh_cons (oh_tup hc.sq (cls_od hc.p)) oh_nil⟩
/-- None gives way to Cond() -/
def fill : OD → OD
  | .fl .non => cO []
  | d => d
theorem oh_nn {K : PySem.W.Frag} {cl : Nat → OCls} {H : Hp} {d : OD} {v : V} (h : Oh K cl H d v) : (v = .non ∧ d = .fl .non) ∨ (v ≠ .non ∧ fill d = d) := by
  cases d with
  | fl w =>
    obtain ⟨rfl, _⟩ := h
    by_cases z : v = .non
    · subst z; exact .inl ⟨rfl, rfl⟩
    · refine .inr ⟨z, ?_⟩
      cases v with
      | non => exact absurd rfl z
      | _ => rfl
  | tup ds => obtain ⟨_, _, rfl, _⟩ := h; exact .inr ⟨nofun, rfl⟩
  | lst ds => obtain ⟨_, _, rfl, _⟩ := h; exact .inr ⟨nofun, rfl⟩
  | obj k ds => obtain ⟨_, _, _, _, rfl, _⟩ := h; exact .inr ⟨nofun, rfl⟩
/-- what holds of a part and of Cond() holds of the part filled -/
theorem fill_p {P : OD → Prop} {d : OD} (h : P d) (h0 : P (cO [])) : P (fill d) := by
  unfold fill
  split
  · exact h0
  · exact h
mutual
theorem Oh.keepC {K : PySem.W.Frag} {cl : Nat → OCls} {S : Nat → List OD → Prop} {H H' : Hp} {a C dx : Addr} {fs : List (Str × V)} (hk : ∀ k ds, S k ds → (cl k).C ≠ C) (hp : H a = some (.ins C dx fs)) (kb : KeepB a H H') : ∀ (d : OD) (v : V), okO S d → Oh K cl H d v → Oh K cl H' d v
  | .fl _, _, _, h => h
  | .tup ds, _, o, ⟨b, xs, e, h, q⟩ => ⟨b, xs, e, by
      rcases h with (h | ⟨z, h⟩) | h
      · exact .inl (.inl (kb _ _ (fun z => by rw [z, hp] at h; cases h) h))
      · exact .inl (.inr ⟨z, kb _ _ (fun z => by rw [z, hp] at h; cases h) h⟩)
      · exact .inr h, OhAll.keepC hk hp kb ds xs o q⟩
  | .lst ds, _, o, ⟨b, xs, e, h, q⟩ => ⟨b, xs, e, kb _ _ (fun z => by rw [z, hp] at h; cases h) h, OhAll.keepC hk hp kb ds xs o q⟩
  | .obj k ds, _, o, ⟨b, dx', fs', xs, e, h, l, q⟩ => ⟨b, dx', fs', xs, e, kb _ _ (fun z => by
      rw [z, hp] at h
      injection h with h
      injection h with h _ _
      exact hk k ds o.1 h.symm) h, l, OhAll.keepC hk hp kb ds xs o.2 q⟩
theorem OhAll.keepC {K : PySem.W.Frag} {cl : Nat → OCls} {S : Nat → List OD → Prop} {H H' : Hp} {a C dx : Addr} {fs : List (Str × V)} (hk : ∀ k ds, S k ds → (cl k).C ≠ C) (hp : H a = some (.ins C dx fs)) (kb : KeepB a H H') : ∀ (ds : List OD) (xs : List V), okAll S ds → OhAll K cl H ds xs → OhAll K cl H' ds xs
  | [], _, _, h => h
  | d :: ds, _, o, ⟨v, ys, e, h, q⟩ => ⟨v, ys, e, Oh.keepC hk hp kb d v o.1 h, OhAll.keepC hk hp kb ds ys o.2 q⟩
end
abbrev NoF : XK → Hp → Int → Prop := fun _ _ _ => False
theorem init_ok {K : PySem.W.Frag} {H H1 : Hp} {C : Addr} {vs : List V} {cs : List (List Lit)} {Q : VK} {E : XK} (s1 : Same H H1) (hp : Paired (IsC K H1) vs cs) (hsh : shortC cs) (hl : cs.length ≤ 1000) (hw : firstWrong cs = none)
    (k : ∀ r dz p q ys H', CondF K H' r C dz p q cs ys → Same H H' → H r = none → Q (.ref r) H') : ∀ x dx, H1 x = none → H1 dx = none → dx ≠ x →
      spInit K C NoF (V.ref x :: vs) (upd (upd H1 dx (.own x)) x (.ins C dx [])) (fun v H2 => v = .non ∧ Q (.ref x) H2) E := by
  intro r dz hr0 hdz hne
  have hml : vs.length = cs.length := Paired.length hp
  refine ⟨[.ref r], vs, rfl, rfl, Nat.le_of_lt (small1000 (by omega)), fun p2 hp2 => ?_⟩
  have s5 : Same H1 (upd (upd H1 dz (.own r)) r (.ins C dz [])) := same_upd hr0 (new_same hdz)
  have s6 : Same H1 (upd (upd (upd H1 dz (.own r)) r (.ins C dz [])) p2 (.tup vs)) := fun b u z => new_same hp2 _ _ (s5 _ _ z)
  have hrp : r ≠ p2 := fun z => by
    rw [← z, upd_same] at hp2
    cases hp2
  refine ⟨r, dz, p2, vs, cs, rfl, (by rw [upd_ne hrp]; exact upd_same), ⟨SqT.of upd_same, pairedC_same s6 hp, hl⟩, hsh, fun _ H' q2 zs hF hk => ⟨rfl, ?_⟩, fun i z => ?_⟩
  · refine k r dz p2 q2 zs H' hF (fun b u z => hk b u (fun e => ?_) (s6 _ _ (s1 _ _ z))) (Same.free s1 hr0)
    rw [e, Same.free s1 hr0] at z
    cases z
  · rw [hw] at z
    cases z
theorem makeZ_go {K : PySem.W.Frag} {H : Hp} {C : Addr} {Q : VK} {E : XK} {σ : L2.St}
    (k : ∀ r dz p q ys H', CondF K H' r C dz p q [] ys → Same H H' → H r = none → Q (.ref r) H') : tMakeR C (spInit K C NoF) E tNil σ H Q :=
  init_ok (fun _ _ z => z) .nil (fun _ z => nomatch z) (by decide) rfl k
theorem isC_new {K : PySem.W.Frag} {H : Hp} {t u : Addr} {a b : Str} {n : Int} (ht : H t = none) (hu : (upd H t (.tup [.str a, .str b, .int n])) u = none) :
    IsC K (upd (upd H t (.tup [.str a, .str b, .int n])) u (.tup [.ref t])) (.ref u) [(a, b, n)] ∧ Same H (upd (upd H t (.tup [.str a, .str b, .int n])) u (.tup [.ref t])) :=
  ⟨⟨u, [.ref t], rfl, SqT.of upd_same, .cons ⟨t, rfl, SqT.same (new_same hu) (SqT.of upd_same)⟩ .nil, by show 1 ≤ 1; decide, by show 1 ≤ 1000; decide⟩, fun b o z => new_same hu _ _ (new_same ht _ _ z)⟩
theorem shE : Short "" := ⟨by decide +kernel, by decide +kernel, by decide +kernel⟩
theorem shX : Short "x" := ⟨by decide +kernel, by decide +kernel, by decide +kernel⟩
structure CondMk (K : PySem.W.Frag) (mg : Str → Option Value) (C fI : Addr) (fdI : FuncData) : Prop where
  D : Cnd K mg C
  I : Fun K "__init__" "Cond.__init__" sInit fI fdI
  M : Mk K C fI
/-! more about data -/
theorem noLs_of : ∀ {ds : List OD}, (∀ d ∈ ds, noL d) → noLs ds
  | [], _ => trivial
  | d :: ds, h => ⟨h d List.mem_cons_self, noLs_of fun e he => h e (List.mem_cons_of_mem _ he)⟩
section
variable {K : PySem.W.Frag} {cl : Nat → OCls} {H1 : Hp} {xs : List V} {ds : List OD} {Q : VK}
/-- a new tuple -/
theorem tup_new {p : Addr} (hp : H1 p = none) (hx : OhAll K cl H1 ds xs) : Oh K cl (upd H1 p (.tup xs)) (.tup ds) (.ref p) ∧ Same H1 (upd H1 p (.tup xs)) := ⟨oh_tup (SqT.of upd_same) (OhAll.ext (ext_of (new_same hp)) ds xs hx), new_same hp⟩
/-- a draw -/
theorem od_pick {p q : Addr} {n m : Int} {r : Nat} {v : V} {zs : List V} (W : WellAt H1 p n) (hq : H1 q = none) (ha : OhAll K cl H1 ds xs) (nl : noLs ds) (hv : xs[r]? = some v) (W2 : WellAt (upd (upd H1 q (.lst xs)) p (.lst zs)) p m) :
    ∃ H', upd (upd H1 q (.lst xs)) p (.lst zs) = H' ∧ KeepB p H1 H' ∧ WellAt H' p m ∧ ∃ d, d ∈ ds ∧ noL d ∧ Oh K cl H' d v := by
  have k2 : KeepB p H1 (upd (upd H1 q (.lst xs)) p (.lst zs)) := (KeepB.of (new_same hq)).trans KeepB.at
  obtain ⟨d, hd, od⟩ := ohAll_get ds xs r v ha hv
  obtain ⟨ms, hp⟩ := W.lst
  exact ⟨_, rfl, k2, W2, d, List.mem_of_getElem? hd, noLs_get nl hd, Oh.keepB hp k2 d v (noLs_get nl hd) od⟩
theorem same_make {x dx C : Addr} {H H' : Hp} (nx : H x = none) (ndx : H dx = none) (k : KeepB x (upd (upd H dx (.own x)) x (.ins C dx [])) H') : Same H H' := fun b u e => by
  have hb : b ≠ x := fun z => by rw [z, nx] at e; cases e
  have hd : b ≠ dx := fun z => by rw [z, ndx] at e; cases e
  exact k b u hb (by rw [upd_ne hb, upd_ne hd]; exact e)
theorem Oh.sm {H H' : Hp} (s : Same H H') {d : OD} {v : V} (h : Oh K cl H d v) : Oh K cl H' d v := Oh.ext (ext_of s) d v h
theorem OhAll.sm {H H' : Hp} (s : Same H H') {d : List OD} {v : List V} (h : OhAll K cl H d v) : OhAll K cl H' d v := OhAll.ext (ext_of s) d v h
end
mutual
theorem okO_mono {S S' : Nat → List OD → Prop} (h : ∀ k ds, S k ds → S' k ds) : ∀ (d : OD), okO S d → okO S' d
  | .fl _, _ => trivial
  | .tup xs, o => okAll_mono h xs o
  | .lst xs, o => okAll_mono h xs o
  | .obj k xs, o => ⟨h k xs o.1, okAll_mono h xs o.2⟩
theorem okAll_mono {S S' : Nat → List OD → Prop} (h : ∀ k ds, S k ds → S' k ds) : ∀ (ds : List OD), okAll S ds → okAll S' ds
  | [], _ => trivial
  | d :: ds, o => ⟨okO_mono h d o.1, okAll_mono h ds o.2⟩
end
/-! the law's list of conditions -/
abbrev rCl (a b : Str) (n : Int) : TE := tTup (tCons (tTup (tCons (tC (.str a)) (tCons (tC (.str b)) (tCons (tC (.int n)) tNil)))) tNil)
abbrev rMk (K : PySem.W.Frag) (C : Addr) (t : TA) : TE := tMakeR C (spInit K C NoF) E0 t
section
variable {K : PySem.W.Frag} {H : Hp} {C : Addr} {Q : VK} {σ : L2.St} {a b a' b' : Str} {n n' : Int}
theorem make1_c (hs : shortC [[(a, b, n)]]) (hw : firstWrong [[(a, b, n)]] = none)
    (k : ∀ r dz p q ys H', CondF K H' r C dz p q [[(a, b, n)]] ys → Same H H' → H r = none → Q (.ref r) H') : rMk K C (tCons (rCl a b n) tNil) σ H Q := by
  refine ⟨le_sz (Nat.le_of_ble_eq_true rfl), fun t1 h1 => ⟨le_sz (Nat.le_of_ble_eq_true rfl), fun t2 h2 => ?_⟩⟩
  obtain ⟨i1, sa⟩ := isC_new (K := K) h1 h2
  exact init_ok (Q := Q) (E := E0) sa (.cons i1 .nil) hs (by show 1 ≤ 1000; decide) hw k
theorem make2_c (hs : shortC [[(a, b, n)], [(a', b', n')]]) (hw : firstWrong [[(a, b, n)], [(a', b', n')]] = none)
    (k : ∀ r dz p q ys H', CondF K H' r C dz p q [[(a, b, n)], [(a', b', n')]] ys → Same H H' → H r = none → Q (.ref r) H') : rMk K C (tCons (rCl a b n) (tCons (rCl a' b' n') tNil)) σ H Q := by
  refine ⟨le_sz (Nat.le_of_ble_eq_true rfl), fun t1 h1 => ⟨le_sz (Nat.le_of_ble_eq_true rfl), fun t2 h2 => ?_⟩⟩
  obtain ⟨i1, sa⟩ := isC_new (K := K) h1 h2
  refine ⟨le_sz (Nat.le_of_ble_eq_true rfl), fun t3 h3 => ⟨le_sz (Nat.le_of_ble_eq_true rfl), fun t4 h4 => ?_⟩⟩
  obtain ⟨i2, sb⟩ := isC_new (K := K) h3 h4
  exact init_ok (Q := Q) (E := E0) (sa.trans sb) (.cons (IsC.same sb i1) (.cons i2 .nil)) hs (by show 2 ≤ 1000; decide) hw k
theorem sh1 {a b : Str} {n : Int} (ha : Short a) (hb : Short b) : shortC [[(a, b, n)]] := fun c hc l hl => by
  rw [List.mem_singleton.mp hc] at hl
  rw [List.mem_singleton.mp hl]
  exact ⟨ha, hb⟩
abbrev T4 (K : PySem.W.Frag) (C : Addr) : TA := tCons (rMk K C (tCons (rCl "x" "" 2) tNil)) tNil
abbrev T3 (K : PySem.W.Frag) (C : Addr) : TA := tCons (rMk K C (tCons (rCl "x" "" 1) (tCons (rCl "" "x" 0) tNil))) (T4 K C)
abbrev T2 (K : PySem.W.Frag) (C : Addr) : TA := tCons (rMk K C (tCons (rCl "x" "" 1) tNil)) (T3 K C)
theorem list_go {f : Nat → Addr} {C : Nat → Addr} {R : List V → Hp → Prop} (k : ∀ r0 r1 r2 r3 H4, Same H H4 → Oh K (clk C f) H4 (cO []) (.ref r0) → Oh K (clk C f) H4 (cO [[("x", "", 1)]]) (.ref r1) → Oh K (clk C f) H4 (cO [[("x", "", 1)], [("", "x", 0)]]) (.ref r2) → Oh K (clk C f) H4 (cO [[("x", "", 2)]]) (.ref r3) → R [V.non, .ref r0, .ref r1, .ref r2, .ref r3] H4) :
    (tCons (tC V.non) (tCons (rMk K (C 0) tNil) (T2 K (C 0)))) σ H R := by
  refine makeZ_go (K := K) (C := C 0) (E := E0) (σ := σ) (Q := fun v H1 => T2 K (C 0) σ H1 fun vs H2 => R (.non :: v :: vs) H2) fun r0 dz0 p0 q0 ys0 H1 hF0 s1 _ => ?_
  have o0 := cond_od (f := f) hF0
  refine make1_c (Q := fun v H2 => T3 K (C 0) σ H2 fun vs H3 => R (.non :: .ref r0 :: v :: vs) H3) (sh1 shX shE) (by decide +kernel) fun r1 dz1 p1 q1 ys1 H2 hF1 s2 _ => ?_
  have o1 := cond_od (f := f) hF1
  refine make2_c (Q := fun v H3 => T4 K (C 0) σ H3 fun vs H4 => R (.non :: .ref r0 :: .ref r1 :: v :: vs) H4) (fun c hc l hl => ?_) (by decide +kernel) fun r2 dz2 p2 q2 ys2 H3 hF2 s3 _ => ?_
  · rcases List.mem_cons.mp hc with hc | hc
    · exact sh1 shX shE c (List.mem_singleton.mpr hc) l hl
    · exact sh1 shE shX c hc l hl
  have o2 := cond_od (f := f) hF2
  refine make1_c (Q := fun v H4 => R [.non, .ref r0, .ref r1, .ref r2, v] H4) (sh1 shX shE) (by decide +kernel) fun r3 dz3 p3 q3 ys3 H4 hF3 s4 _ => ?_
  exact k r0 r1 r2 r3 H4 (((s1.trans s2).trans s3).trans s4) (Oh.sm ((s2.trans s3).trans s4) o0) (Oh.sm (s3.trans s4) o1) (Oh.sm s4 o2) (cond_od hF3)
end
/-! a drawn condition, or None -/
abbrev sCond : Stmt := top 31
abbrev nCo : List Str := ["_law_well_here", "_law_some"]
def CD (d : OD) : Prop := d = .fl .non ∨ ∃ cs, d = cO cs
def spCond (K : PySem.W.Frag) (cl : Nat → OCls) : Sp := fun vs H Q _ => ∃ (p : Addr) (n : Int), vs = [.ref p] ∧ WellAt H p n ∧ n + 1 ≤ 1000000 ∧ ∀ d v H', CD d → Oh K cl H' d v → KeepB p H H' → WellAt H' p (n + 1) → Q v H'
section
variable {P : Program} {w : World} {K : PySem.W.Frag} {mg : PySem.Str → Option Value} {base : Heap} {C fe : Nat → Addr} {fI : Addr} {fdI : FuncData}
theorem scCo : FnScope nCo ["_law_well_here"] (defScope sCond) := ⟨rfl, rfl, rfl, by decide +kernel, rfl, by decide +kernel, by decide +kernel⟩
theorem ok_cond {f : Addr} {fd : FuncData} (F : Fs K mg "_law_cond" sCond ["_law_well_here"] f fd) (M : CondMk K mg (C 0) fI fdI) (D : Drw K mg) : FnOk P w K mg base CX0 8 f fd ["_law_well_here"] (spCond K (clk C fe)) := by
  obtain ⟨_, _, dD⟩ := D.draw
  obtain ⟨_, _, dO⟩ := D.one
  have GO : FnOk P w K mg base CX0 2 _ _ ["_law_well_here", "_law_some"] (spOne K) := ok_one dO.F D.T dD.F dD.b dD.m
  have GI : FnR P w K mg base CX0 6 fI (spInit K (C 0) NoF) := fnR_init0 M.I M.D
  refine F.F.ok scCo (fun vs H Q E h => ?_) (fun cdv A outer s H vs Q E hr h => ?_)
  · obtain ⟨p, n, rfl, _⟩ := h
    rfl
  · obtain ⟨p, n, rfl, hW, hn, k⟩ := h
    have hr2 : Room 2 (A.deeper (envOfC "_law_cond" (defScope sCond) s.heap.objs.size f cdv)) := hr.mono (by decide)
    refine ⟨_, pss_cons (ps_set (i := 1) scCo.nd rfl (Or.inl rfl) (pe_lst (pa_cons pe_non (pa_cons (pe_makeZ (k := 6) (E := E0) M.M GI hr (by rfl) M.D.gC pass0)
        (pa_cons (pe_makeR (k := 6) (E := E0) M.M GI hr (by rfl) M.D.gC pass0 (pa_cons (pe_tup (pa_cons (pe_tup (pa_cons pe_str (pa_cons pe_str (pa_cons pe_int pa_nil)))) pa_nil)) pa_nil))
        (pa_cons (pe_makeR (k := 6) (E := E0) M.M GI hr (by rfl) M.D.gC pass0 (pa_cons (pe_tup (pa_cons (pe_tup (pa_cons pe_str (pa_cons pe_str (pa_cons pe_int pa_nil)))) pa_nil)) (pa_cons (pe_tup (pa_cons (pe_tup (pa_cons pe_str (pa_cons pe_str (pa_cons pe_int pa_nil)))) pa_nil)) pa_nil)))
        (pa_cons (pe_makeR (k := 6) (E := E0) M.M GI hr (by rfl) M.D.gC pass0 (pa_cons (pe_tup (pa_cons (pe_tup (pa_cons pe_str (pa_cons pe_str (pa_cons pe_int pa_nil)))) pa_nil)) pa_nil)) pa_nil)))))))
      (pss_one (ps_ret (pe_call GO hr2 (by rfl) dO.m dO.F.kp dO.b .nil pass0 (pa_cons (pv 0) (pa_cons (pv 1) pa_nil))))), ?_⟩
    refine list_go (f := fe) (C := C) (σ := L2.start nCo [.ref p]) (R := fun vs H1 => vs.length ≤ sizeLine ∧ ∀ l, H1 l = none → tRet (tCall (spOne K) [] E0 (tCons (tVar 0) (tCons (tVar 1) tNil))) { nx := fun x H' => Q V.non H', rt := Q } [some (.ref p), some (.ref l)] (upd H1 l (.lst vs))) fun r0 r1 r2 r3 H4 s04 o0 o1 o2 o3 => ?_
    refine ⟨le_sz (Nat.le_of_ble_eq_true rfl), fun l hl => ⟨_, rfl, _, rfl, ?_⟩⟩
    have W4 := hW.same s04
    refine ⟨p, l, _, _, rfl, W4.same (new_same hl), by omega, (W4.ne hl).symm, SqL.of upd_same, Nat.le_of_ble_eq_true rfl, Nat.le_of_ble_eq_true rfl, fun r v zs hv W5 => ?_⟩
    obtain ⟨H5, eH5, k5, W5, d, hd, nd, od⟩ := od_pick (K := K) (cl := clk C fe) (ds := [.fl .non, cO [], cO [[("x", "", 1)]], cO [[("x", "", 1)], [("", "x", 0)]], cO [[("x", "", 2)]]]) (xs := [V.non, .ref r0, .ref r1, .ref r2, .ref r3]) (zs := zs) W4 hl (oh_cons oh_non (oh_cons o0 (oh_cons o1 (oh_cons o2 (oh_cons o3 oh_nil))))) ⟨trivial, (ok_cO (cl := clk C fe) _).2, (ok_cO (cl := clk C fe) _).2, (ok_cO (cl := clk C fe) _).2, (ok_cO (cl := clk C fe) _).2, trivial⟩ hv W5
    rw [eH5]
    refine k d v H5 ?_ od ((KeepB.of s04).trans k5) W5
    simp only [List.mem_cons, List.not_mem_nil, or_false] at hd
    rcases hd with rfl | rfl | rfl | rfl | rfl
    · exact .inl rfl
    · exact .inr ⟨_, rfl⟩
    · exact .inr ⟨_, rfl⟩
    · exact .inr ⟨_, rfl⟩
    · exact .inr ⟨_, rfl⟩
end
end Kx
set_option linter.all false
namespace Kx
open PySem L2 PySem.Spec PyProof.Rows
open StX (pe_makeR tMakeR)
/-! Method and ClassDef made -/
abbrev sInM : Stmt := inClass (top 25) 0
abbrev sInC : Stmt := inClass (top 26) 0
abbrev pM : List Str := ["self", "name", "params", "result", "pre", "post", "body"]
abbrev pC : List Str := ["self", "name", "bases", "fields", "where", "methods"]
abbrev FunM (K : PySem.W.Frag) (f : Addr) (fd : FuncData) : Prop := FunD K "__init__" "Method.__init__" (defArgs sInM) (defBody sInM) (defScope sInM) [] [("pre", .non), ("post", .non)] f fd
abbrev FunC (K : PySem.W.Frag) (e0 e1 e2 : Addr) (f : Addr) (fd : FuncData) : Prop := FunD K "__init__" "ClassDef.__init__" (defArgs sInC) (defBody sInC) (defScope sInC) [.ref e0] [("fields", .ref e1), ("where", .non), ("methods", .ref e2)] f fd
/-- parts with Cond() in the place of None at some places -/
def fullK (ks : List Nat) (ds : List OD) : List OD := ks.foldl (fun ds k => ds.set k (fill (ds.getD k (.fl .non)))) ds
structure NeC (C : Nat → Addr) : Prop where
  a : C 0 ≠ C 1
  b : C 0 ≠ C 2
  c : C 1 ≠ C 2
theorem hk1 {C f : Nat → Addr} (N : NeC C) : ∀ k ds, S0 (clk C f) k ds → (clk C f k).C ≠ C 1 := fun k ds h => by
  obtain ⟨rfl, _⟩ := h
  exact N.a
theorem hk2 {C f : Nat → Addr} (N : NeC C) : ∀ k ds, S1 (clk C f) k ds → (clk C f k).C ≠ C 2 := fun k ds h => by
  rcases h with ⟨rfl, _⟩ | ⟨rfl, _⟩
  · exact N.b
  · exact N.c
theorem ohl_c {K : PySem.W.Frag} {cl : Nat → OCls} {H : Hp} {ds : List OD} {xs : List V} {n : Nat} (h : ds.length = n + 1) (q : OhAll K cl H ds xs) : ∃ d ds' v xs', ds = d :: ds' ∧ xs = v :: xs' ∧ ds'.length = n ∧ Oh K cl H d v ∧ OhAll K cl H ds' xs' := by
  match ds, h, q with
  | d :: ds, h, ⟨v, ys, e, o, q⟩ => exact ⟨d, ds, v, ys, rfl, e, by simpa using h, o, q⟩
theorem ohl_n {K : PySem.W.Frag} {cl : Nat → OCls} {H : Hp} {ds : List OD} {xs : List V} (h : ds.length = 0) (q : OhAll K cl H ds xs) : ds = [] ∧ xs = [] := by
  match ds, h, q with
  | [], _, q => exact ⟨rfl, q⟩
theorem ohl5 {K : PySem.W.Frag} {cl : Nat → OCls} {H : Hp} {ds : List OD} {xs : List V} (h : ds.length = 5) (q : OhAll K cl H ds xs) : ∃ d0 d1 d2 d3 d4 v0 v1 v2 v3 v4, ds = [d0, d1, d2, d3, d4] ∧ xs = [v0, v1, v2, v3, v4] ∧ Oh K cl H d0 v0 ∧ Oh K cl H d1 v1 ∧ Oh K cl H d2 v2 ∧ Oh K cl H d3 v3 ∧ Oh K cl H d4 v4 := by
  obtain ⟨d0, r0, v0, x0, rfl, rfl, h0, o0, q0⟩ := ohl_c (n := 4) h q
  obtain ⟨d1, r1, v1, x1, rfl, rfl, h1, o1, q1⟩ := ohl_c (n := 3) h0 q0
  obtain ⟨d2, r2, v2, x2, rfl, rfl, h2, o2, q2⟩ := ohl_c (n := 2) h1 q1
  obtain ⟨d3, r3, v3, x3, rfl, rfl, h3, o3, q3⟩ := ohl_c (n := 1) h2 q2
  obtain ⟨d4, r4, v4, x4, rfl, rfl, h4, o4, q4⟩ := ohl_c (n := 0) h3 q3
  obtain ⟨rfl, rfl⟩ := ohl_n h4 q4
  exact ⟨d0, d1, d2, d3, d4, v0, v1, v2, v3, v4, rfl, rfl, o0, o1, o2, o3, o4⟩
theorem ohl6 {K : PySem.W.Frag} {cl : Nat → OCls} {H : Hp} {ds : List OD} {xs : List V} (h : ds.length = 6) (q : OhAll K cl H ds xs) : ∃ d0 d1 d2 d3 d4 d5 v0 v1 v2 v3 v4 v5, ds = [d0, d1, d2, d3, d4, d5] ∧ xs = [v0, v1, v2, v3, v4, v5] ∧ Oh K cl H d0 v0 ∧ Oh K cl H d1 v1 ∧ Oh K cl H d2 v2 ∧ Oh K cl H d3 v3 ∧ Oh K cl H d4 v4 ∧ Oh K cl H d5 v5 := by
  obtain ⟨d0, r0, v0, x0, rfl, rfl, h0, o0, q0⟩ := ohl_c (n := 5) h q
  obtain ⟨d1, r1, v1, x1, rfl, rfl, h1, o1, q1⟩ := ohl_c (n := 4) h0 q0
  obtain ⟨d2, r2, v2, x2, rfl, rfl, h2, o2, q2⟩ := ohl_c (n := 3) h1 q1
  obtain ⟨d3, r3, v3, x3, rfl, rfl, h3, o3, q3⟩ := ohl_c (n := 2) h2 q2
  obtain ⟨d4, r4, v4, x4, rfl, rfl, h4, o4, q4⟩ := ohl_c (n := 1) h3 q3
  obtain ⟨d5, r5, v5, x5, rfl, rfl, h5, o5, q5⟩ := ohl_c (n := 0) h4 q4
  obtain ⟨rfl, rfl⟩ := ohl_n h5 q5
  exact ⟨d0, d1, d2, d3, d4, d5, v0, v1, v2, v3, v4, v5, rfl, rfl, o0, o1, o2, o3, o4, o5⟩
def spIn (K : PySem.W.Frag) (cl : Nat → OCls) (k n m : Nat) (S : Nat → List OD → Prop) (ks : List Nat) : Sp := fun vs H Q _ => ∃ (a dx : Addr) (ds : List OD) (xs : List V), vs = .ref a :: xs ∧ H a = some (.ins (cl k).C dx []) ∧ OhAll K cl H ds xs ∧ Shp cl S n m ds ∧ ∀ H', KeepB a H H' → Oh K cl H' (.obj k (fullK ks ds)) (.ref a) → Q .non H'
theorem fill_go {K : PySem.W.Frag} {C f : Nat → Addr} {H : Hp} {σ : L2.St} {Q : VK} {i : Nat} {d : OD} {v : V} (hσ : σ[i]? = some (some v)) (o : Oh K (clk C f) H d v) (k : ∀ u H', Oh K (clk C f) H' (fill d) u → Same H H' → Q u H') :
    if decide (v = .non) = true then rMk K (C 0) tNil σ H Q else tVar i σ H Q := by
  rcases oh_nn o with ⟨rfl, rfl⟩ | ⟨hv, e⟩
  · rw [decide_eq_true rfl]
    refine iteT (makeZ_go (K := K) (C := C 0) (E := E0) (σ := σ) (Q := Q) fun r dz p q ys H' hF s _ => ?_)
    exact k _ _ (cond_od hF) s
  · rw [decide_eq_false hv]
    refine iteF ⟨v, hσ, k v H ?_ fun _ _ z => z⟩
    rw [e]
    exact o
section
variable {P : Program} {w : World} {K : PySem.W.Frag} {mg : PySem.Str → Option Value} {base : Heap} {C fe : Nat → Addr} {fI e0 e1 e2 : Addr} {fdI : FuncData}
theorem scInM : FnScope pM pM (defScope sInM) := ⟨rfl, rfl, rfl, by decide +kernel, rfl, by decide +kernel, by decide +kernel⟩
theorem ok_inM {f : Addr} {fd : FuncData} (F : FunM K f fd) (T : Txt K mg C fe) (N : NeC C) (M : CondMk K mg (C 0) fI fdI) : FnOk P w K mg base CX0 8 f fd pM (spIn K (clk C fe) 1 4 6 (S0 (clk C fe)) [3, 4]) := by
  have GI : FnR P w K mg base CX0 6 fI (spInit K (C 0) NoF) := fnR_init0 M.I M.D
  refine F.ok scInM (fun vs H Q E h => ?_) (fun cdv A outer s H vs Q E hr h => ?_)
  · obtain ⟨a, dx, ds, xs, rfl, _, hx, hl, _⟩ := h
    show xs.length + 1 = 7
    rw [← OhAll.length ds xs hx, hl.1] <;> rfl
  · obtain ⟨a, dx, ds, xs, rfl, ha, hx, hl, q⟩ := h
    obtain ⟨d0, d1, d2, d3, d4, d5, v0, v1, v2, v3, v4, v5, rfl, rfl, o0, o1, o2, o3, o4, o5⟩ := ohl6 hl.1 hx
    have c0 := T.cls 1 (by decide)
    have n0 := T.no 1 (by decide)
    refine ⟨_, pss_cons (ps_fld (pv 0) (pv 1) (by rfl)) (pss_cons (ps_fld (pv 0) (pv 2) (by rfl)) (pss_cons (ps_fld (pv 0) (pv 3) (by rfl)) (pss_cons (ps_fld (pv 0) (pe_ifExp (pt_cmpR op_isN (pv 4) pe_non (nomark _)) (pe_makeZ (k := 6) (E := E0) M.M GI hr (by rfl) M.D.gC pass0) (pv 4)) (by rfl)) (pss_cons (ps_fld (pv 0) (pe_ifExp (pt_cmpR op_isN (pv 5) pe_non (nomark _)) (pe_makeZ (k := 6) (E := E0) M.M GI hr (by rfl) M.D.gC pass0) (pv 5)) (by rfl)) (pss_one (ps_fld (pv 0) (pv 6) (by rfl))))))), ?_⟩
    refine ⟨_, rfl, _, rfl, a, C 1, dx, [], rfl, ha, c0, n0 _ (by decide), (by show 0 < 1000; decide), ?_⟩
    have k0 : KeepB a H (upd H a (.ins (C 1) dx (putF "name" v0 []))) := KeepB.at
    have i0 : (upd H a (.ins (C 1) dx (putF "name" v0 []))) a = some (.ins (C 1) dx (putF "name" v0 [])) := upd_same
    obtain ⟨J0, eJ0⟩ : ∃ J, upd H a (.ins (C 1) dx (putF "name" v0 [])) = J := ⟨_, rfl⟩
    rw [eJ0] at k0 i0 ⊢
    refine ⟨_, rfl, _, rfl, a, C 1, dx, (putF "name" v0 []), rfl, i0, c0, n0 _ (by decide), (by show 1 < 1000; decide), ?_⟩
    have k1 : KeepB a J0 (upd J0 a (.ins (C 1) dx (putF "params" v1 (putF "name" v0 [])))) := KeepB.at
    have i1 : (upd J0 a (.ins (C 1) dx (putF "params" v1 (putF "name" v0 [])))) a = some (.ins (C 1) dx (putF "params" v1 (putF "name" v0 []))) := upd_same
    obtain ⟨J1, eJ1⟩ : ∃ J, upd J0 a (.ins (C 1) dx (putF "params" v1 (putF "name" v0 []))) = J := ⟨_, rfl⟩
    rw [eJ1] at k1 i1 ⊢
    refine ⟨_, rfl, _, rfl, a, C 1, dx, (putF "params" v1 (putF "name" v0 [])), rfl, i1, c0, n0 _ (by decide), (by show 2 < 1000; decide), ?_⟩
    have k2 : KeepB a J1 (upd J1 a (.ins (C 1) dx (putF "result" v2 (putF "params" v1 (putF "name" v0 []))))) := KeepB.at
    have i2 : (upd J1 a (.ins (C 1) dx (putF "result" v2 (putF "params" v1 (putF "name" v0 []))))) a = some (.ins (C 1) dx (putF "result" v2 (putF "params" v1 (putF "name" v0 [])))) := upd_same
    obtain ⟨J2, eJ2⟩ : ∃ J, upd J1 a (.ins (C 1) dx (putF "result" v2 (putF "params" v1 (putF "name" v0 [])))) = J := ⟨_, rfl⟩
    rw [eJ2] at k2 i2 ⊢
    refine ⟨_, rfl, rfl, _, rfl, fill_go (f := fe) (by rfl) (Oh.keepC (hk1 N) ha ((k0.trans k1).trans k2) _ _ (hl.2 d3 (by simp)).1 o3) fun u3 G3 w3 s3 => ?_⟩
    have j3 := s3 _ _ i2
    refine ⟨_, rfl, a, C 1, dx, (putF "result" v2 (putF "params" v1 (putF "name" v0 []))), rfl, j3, c0, n0 _ (by decide), (by show 3 < 1000; decide), ?_⟩
    have k3 : KeepB a G3 (upd G3 a (.ins (C 1) dx (putF "pre" u3 (putF "result" v2 (putF "params" v1 (putF "name" v0 [])))))) := KeepB.at
    have i3 : (upd G3 a (.ins (C 1) dx (putF "pre" u3 (putF "result" v2 (putF "params" v1 (putF "name" v0 [])))))) a = some (.ins (C 1) dx (putF "pre" u3 (putF "result" v2 (putF "params" v1 (putF "name" v0 []))))) := upd_same
    obtain ⟨J3, eJ3⟩ : ∃ J, upd G3 a (.ins (C 1) dx (putF "pre" u3 (putF "result" v2 (putF "params" v1 (putF "name" v0 []))))) = J := ⟨_, rfl⟩
    rw [eJ3] at k3 i3 ⊢
    refine ⟨_, rfl, rfl, _, rfl, fill_go (f := fe) (by rfl) (Oh.keepC (hk1 N) ha ((((k0.trans k1).trans k2).trans (KeepB.of s3)).trans k3) _ _ (hl.2 d4 (by simp)).1 o4) fun u4 G4 w4 s4 => ?_⟩
    have j4 := s4 _ _ i3
    refine ⟨_, rfl, a, C 1, dx, (putF "pre" u3 (putF "result" v2 (putF "params" v1 (putF "name" v0 [])))), rfl, j4, c0, n0 _ (by decide), (by show 4 < 1000; decide), ?_⟩
    have k4 : KeepB a G4 (upd G4 a (.ins (C 1) dx (putF "post" u4 (putF "pre" u3 (putF "result" v2 (putF "params" v1 (putF "name" v0 []))))))) := KeepB.at
    have i4 : (upd G4 a (.ins (C 1) dx (putF "post" u4 (putF "pre" u3 (putF "result" v2 (putF "params" v1 (putF "name" v0 []))))))) a = some (.ins (C 1) dx (putF "post" u4 (putF "pre" u3 (putF "result" v2 (putF "params" v1 (putF "name" v0 [])))))) := upd_same
    obtain ⟨J4, eJ4⟩ : ∃ J, upd G4 a (.ins (C 1) dx (putF "post" u4 (putF "pre" u3 (putF "result" v2 (putF "params" v1 (putF "name" v0 [])))))) = J := ⟨_, rfl⟩
    rw [eJ4] at k4 i4 ⊢
    refine ⟨_, rfl, _, rfl, a, C 1, dx, (putF "post" u4 (putF "pre" u3 (putF "result" v2 (putF "params" v1 (putF "name" v0 []))))), rfl, i4, c0, n0 _ (by decide), (by show 5 < 1000; decide), ?_⟩
    have k5 : KeepB a J4 (upd J4 a (.ins (C 1) dx (putF "body" v5 (putF "post" u4 (putF "pre" u3 (putF "result" v2 (putF "params" v1 (putF "name" v0 [])))))))) := KeepB.at
    have i5 : (upd J4 a (.ins (C 1) dx (putF "body" v5 (putF "post" u4 (putF "pre" u3 (putF "result" v2 (putF "params" v1 (putF "name" v0 [])))))))) a = some (.ins (C 1) dx (putF "body" v5 (putF "post" u4 (putF "pre" u3 (putF "result" v2 (putF "params" v1 (putF "name" v0 []))))))) := upd_same
    obtain ⟨J5, eJ5⟩ : ∃ J, upd J4 a (.ins (C 1) dx (putF "body" v5 (putF "post" u4 (putF "pre" u3 (putF "result" v2 (putF "params" v1 (putF "name" v0 []))))))) = J := ⟨_, rfl⟩
    rw [eJ5] at k5 i5 ⊢
    exact q _ (((((((k0.trans k1).trans k2).trans (KeepB.of s3)).trans k3).trans (KeepB.of s4)).trans k4).trans k5) ⟨a, dx, (putF "body" v5 (putF "post" u4 (putF "pre" u3 (putF "result" v2 (putF "params" v1 (putF "name" v0 [])))))), [v0, v1, v2, u3, u4, v5], rfl, i5, rfl, (oh_cons (Oh.keepC (hk1 N) ha (((((((k0.trans k1).trans k2).trans (KeepB.of s3)).trans k3).trans (KeepB.of s4)).trans k4).trans k5) _ _ (hl.2 d0 (by simp)).1 o0) (oh_cons (Oh.keepC (hk1 N) ha (((((((k0.trans k1).trans k2).trans (KeepB.of s3)).trans k3).trans (KeepB.of s4)).trans k4).trans k5) _ _ (hl.2 d1 (by simp)).1 o1) (oh_cons (Oh.keepC (hk1 N) ha (((((((k0.trans k1).trans k2).trans (KeepB.of s3)).trans k3).trans (KeepB.of s4)).trans k4).trans k5) _ _ (hl.2 d2 (by simp)).1 o2) (oh_cons (Oh.keepC (hk1 N) j3 (((k3.trans (KeepB.of s4)).trans k4).trans k5) _ _ (fill_p (P := fun x => okO (S0 (clk C fe)) x) (hl.2 d3 (by simp)).1 (ok_cO (cl := clk C fe) []).1) w3) (oh_cons (Oh.keepC (hk1 N) j4 (k4.trans k5) _ _ (fill_p (P := fun x => okO (S0 (clk C fe)) x) (hl.2 d4 (by simp)).1 (ok_cO (cl := clk C fe) []).1) w4) (oh_cons (Oh.keepC (hk1 N) ha (((((((k0.trans k1).trans k2).trans (KeepB.of s3)).trans k3).trans (KeepB.of s4)).trans k4).trans k5) _ _ (hl.2 d5 (by simp)).1 o5) oh_nil))))))⟩
theorem scInC : FnScope pC pC (defScope sInC) := ⟨rfl, rfl, rfl, by decide +kernel, rfl, by decide +kernel, by decide +kernel⟩
theorem ok_inC {f : Addr} {fd : FuncData} (F : FunC K e0 e1 e2 f fd) (T : Txt K mg C fe) (N : NeC C) (M : CondMk K mg (C 0) fI fdI) : FnOk P w K mg base CX0 8 f fd pC (spIn K (clk C fe) 2 6 5 (S1 (clk C fe)) [3]) := by
  have GI : FnR P w K mg base CX0 6 fI (spInit K (C 0) NoF) := fnR_init0 M.I M.D
  refine F.ok scInC (fun vs H Q E h => ?_) (fun cdv A outer s H vs Q E hr h => ?_)
  · obtain ⟨a, dx, ds, xs, rfl, _, hx, hl, _⟩ := h
    show xs.length + 1 = 6
    rw [← OhAll.length ds xs hx, hl.1] <;> rfl
  · obtain ⟨a, dx, ds, xs, rfl, ha, hx, hl, q⟩ := h
    obtain ⟨d0, d1, d2, d3, d4, v0, v1, v2, v3, v4, rfl, rfl, o0, o1, o2, o3, o4⟩ := ohl5 hl.1 hx
    have c0 := T.cls 2 (by decide)
    have n0 := T.no 2 (by decide)
    refine ⟨_, pss_cons (ps_fld (pv 0) (pv 1) (by rfl)) (pss_cons (ps_fld (pv 0) (pv 2) (by rfl)) (pss_cons (ps_fld (pv 0) (pv 3) (by rfl)) (pss_cons (ps_fld (pv 0) (pe_ifExp (pt_cmpR op_isN (pv 4) pe_non (nomark _)) (pe_makeZ (k := 6) (E := E0) M.M GI hr (by rfl) M.D.gC pass0) (pv 4)) (by rfl)) (pss_one (ps_fld (pv 0) (pv 5) (by rfl)))))), ?_⟩
    refine ⟨_, rfl, _, rfl, a, C 2, dx, [], rfl, ha, c0, n0 _ (by decide), (by show 0 < 1000; decide), ?_⟩
    have k0 : KeepB a H (upd H a (.ins (C 2) dx (putF "name" v0 []))) := KeepB.at
    have i0 : (upd H a (.ins (C 2) dx (putF "name" v0 []))) a = some (.ins (C 2) dx (putF "name" v0 [])) := upd_same
    obtain ⟨J0, eJ0⟩ : ∃ J, upd H a (.ins (C 2) dx (putF "name" v0 [])) = J := ⟨_, rfl⟩
    rw [eJ0] at k0 i0 ⊢
    refine ⟨_, rfl, _, rfl, a, C 2, dx, (putF "name" v0 []), rfl, i0, c0, n0 _ (by decide), (by show 1 < 1000; decide), ?_⟩
    have k1 : KeepB a J0 (upd J0 a (.ins (C 2) dx (putF "bases" v1 (putF "name" v0 [])))) := KeepB.at
    have i1 : (upd J0 a (.ins (C 2) dx (putF "bases" v1 (putF "name" v0 [])))) a = some (.ins (C 2) dx (putF "bases" v1 (putF "name" v0 []))) := upd_same
    obtain ⟨J1, eJ1⟩ : ∃ J, upd J0 a (.ins (C 2) dx (putF "bases" v1 (putF "name" v0 []))) = J := ⟨_, rfl⟩
    rw [eJ1] at k1 i1 ⊢
    refine ⟨_, rfl, _, rfl, a, C 2, dx, (putF "bases" v1 (putF "name" v0 [])), rfl, i1, c0, n0 _ (by decide), (by show 2 < 1000; decide), ?_⟩
    have k2 : KeepB a J1 (upd J1 a (.ins (C 2) dx (putF "fields" v2 (putF "bases" v1 (putF "name" v0 []))))) := KeepB.at
    have i2 : (upd J1 a (.ins (C 2) dx (putF "fields" v2 (putF "bases" v1 (putF "name" v0 []))))) a = some (.ins (C 2) dx (putF "fields" v2 (putF "bases" v1 (putF "name" v0 [])))) := upd_same
    obtain ⟨J2, eJ2⟩ : ∃ J, upd J1 a (.ins (C 2) dx (putF "fields" v2 (putF "bases" v1 (putF "name" v0 [])))) = J := ⟨_, rfl⟩
    rw [eJ2] at k2 i2 ⊢
    refine ⟨_, rfl, rfl, _, rfl, fill_go (f := fe) (by rfl) (Oh.keepC (hk2 N) ha ((k0.trans k1).trans k2) _ _ (hl.2 d3 (by simp)).1 o3) fun u3 G3 w3 s3 => ?_⟩
    have j3 := s3 _ _ i2
    refine ⟨_, rfl, a, C 2, dx, (putF "fields" v2 (putF "bases" v1 (putF "name" v0 []))), rfl, j3, c0, n0 _ (by decide), (by show 3 < 1000; decide), ?_⟩
    have k3 : KeepB a G3 (upd G3 a (.ins (C 2) dx (putF "where" u3 (putF "fields" v2 (putF "bases" v1 (putF "name" v0 [])))))) := KeepB.at
    have i3 : (upd G3 a (.ins (C 2) dx (putF "where" u3 (putF "fields" v2 (putF "bases" v1 (putF "name" v0 [])))))) a = some (.ins (C 2) dx (putF "where" u3 (putF "fields" v2 (putF "bases" v1 (putF "name" v0 []))))) := upd_same
    obtain ⟨J3, eJ3⟩ : ∃ J, upd G3 a (.ins (C 2) dx (putF "where" u3 (putF "fields" v2 (putF "bases" v1 (putF "name" v0 []))))) = J := ⟨_, rfl⟩
    rw [eJ3] at k3 i3 ⊢
    refine ⟨_, rfl, _, rfl, a, C 2, dx, (putF "where" u3 (putF "fields" v2 (putF "bases" v1 (putF "name" v0 [])))), rfl, i3, c0, n0 _ (by decide), (by show 4 < 1000; decide), ?_⟩
    have k4 : KeepB a J3 (upd J3 a (.ins (C 2) dx (putF "methods" v4 (putF "where" u3 (putF "fields" v2 (putF "bases" v1 (putF "name" v0 []))))))) := KeepB.at
    have i4 : (upd J3 a (.ins (C 2) dx (putF "methods" v4 (putF "where" u3 (putF "fields" v2 (putF "bases" v1 (putF "name" v0 []))))))) a = some (.ins (C 2) dx (putF "methods" v4 (putF "where" u3 (putF "fields" v2 (putF "bases" v1 (putF "name" v0 [])))))) := upd_same
    obtain ⟨J4, eJ4⟩ : ∃ J, upd J3 a (.ins (C 2) dx (putF "methods" v4 (putF "where" u3 (putF "fields" v2 (putF "bases" v1 (putF "name" v0 [])))))) = J := ⟨_, rfl⟩
    rw [eJ4] at k4 i4 ⊢
    exact q _ (((((k0.trans k1).trans k2).trans (KeepB.of s3)).trans k3).trans k4) ⟨a, dx, (putF "methods" v4 (putF "where" u3 (putF "fields" v2 (putF "bases" v1 (putF "name" v0 []))))), [v0, v1, v2, u3, v4], rfl, i4, rfl, (oh_cons (Oh.keepC (hk2 N) ha (((((k0.trans k1).trans k2).trans (KeepB.of s3)).trans k3).trans k4) _ _ (hl.2 d0 (by simp)).1 o0) (oh_cons (Oh.keepC (hk2 N) ha (((((k0.trans k1).trans k2).trans (KeepB.of s3)).trans k3).trans k4) _ _ (hl.2 d1 (by simp)).1 o1) (oh_cons (Oh.keepC (hk2 N) ha (((((k0.trans k1).trans k2).trans (KeepB.of s3)).trans k3).trans k4) _ _ (hl.2 d2 (by simp)).1 o2) (oh_cons (Oh.keepC (hk2 N) j3 (k3.trans k4) _ _ (fill_p (P := fun x => okO (S1 (clk C fe)) x) (hl.2 d3 (by simp)).1 (okO_mono (fun _ _ z => .inl z) _ (ok_cO (cl := clk C fe) []).1)) w3) (oh_cons (Oh.keepC (hk2 N) ha (((((k0.trans k1).trans k2).trans (KeepB.of s3)).trans k3).trans k4) _ _ (hl.2 d4 (by simp)).1 o4) oh_nil)))))⟩
end
/-! how calls of them bind -/
theorem kb_m {K : PySem.W.Frag} {f : Addr} {fd : FuncData} (F : FunM K f fd) : ∃ mv : List Value, KBn K fd pM 4 ["pre", "post", "body"] (fun us ws => us ++ ws) (fun vs zs => vs ++ zs) := by
  obtain ⟨mv, h⟩ := FunD.kbinds0 (ps := pM) F 4 ["pre", "post", "body"] [] (fun us _ ws => us ++ ws) (by simp) (fun q hq => nomatch hq) (fun r _ z => r.append z)
    (fun D doc pm an cdv ct us mv ws h1 h2 h3 => match us, mv, ws, h1, h2, h3 with | [_, _, _, _], [], [_, _, _], _, _, _ => rfl)
  exact ⟨mv, h⟩
theorem kb_m1 {K : PySem.W.Frag} {f : Addr} {fd : FuncData} (F : FunM K f fd) : ∃ mv : List Value, KBn K fd pM 4 ["body"] (fun us ws => us ++ (mv ++ ws)) (fun vs zs => vs ++ ([.non, .non] ++ zs)) := by
  obtain ⟨mv, h⟩ := FunD.kbinds0 (ps := pM) F 4 ["body"] [("pre", .non), ("post", .non)] (fun us ms ws => us ++ (ms ++ ws)) (by simp) (fun q hq => hq) (fun r m z => r.append (m.append z))
    (fun D doc pm an cdv ct us mv ws h1 h2 h3 => match us, mv, ws, h1, h2, h3 with | [_, _, _, _], [_, _], [_], _, _, _ => ⟨_, _, _, _, _, _, rfl, rfl, ⟨_, _, _, _, _, _, rfl, rfl, rfl⟩⟩)
  exact ⟨mv, h⟩
theorem kb_c {K : PySem.W.Frag} {f e0 e1 e2 : Addr} {fd : FuncData} (F : FunC K e0 e1 e2 f fd) : KBn K fd pC 3 ["fields", "where", "methods"] (fun us ws => us ++ ws) (fun vs zs => vs ++ zs) := by
  obtain ⟨its, mv, h⟩ := FunD.kbinds (ps := pC) F 3 ["fields", "where", "methods"] [] (fun us _ _ ws => us ++ ws) (by simp) (by simp) (fun q hq => nomatch hq) (fun r _ _ z => r.append z)
    (fun T D doc pm an cdv ct us its mv ws h1 h2 h3 h4 => match us, its, mv, ws, h1, h2, h3, h4 with | [_, _, _], [_], [], [_, _, _], _, _, _, _ => ⟨_, rfl, rfl⟩)
  exact h
theorem kb_c2 {K : PySem.W.Frag} {f e0 e1 e2 : Addr} {fd : FuncData} (F : FunC K e0 e1 e2 f fd) : ∃ mv : List Value, KBn K fd pC 3 ["fields", "methods"] (fun us ws => us ++ (ws.take 1 ++ (mv ++ ws.drop 1))) (fun vs zs => vs ++ (zs.take 1 ++ ([.non] ++ zs.drop 1))) := by
  obtain ⟨its, mv, h⟩ := FunD.kbinds (ps := pC) F 3 ["fields", "methods"] [("where", .non)] (fun us _ ms ws => us ++ (ws.take 1 ++ (ms ++ ws.drop 1))) (by simp) (by simp) (fun q hq => by rw [List.mem_singleton.mp hq]; simp) (fun r _ m z => r.append ((z.take 1).append (m.append (z.drop 1))))
    (fun T D doc pm an cdv ct us its mv ws h1 h2 h3 h4 => match us, its, mv, ws, h1, h2, h3, h4 with | [_, _, _], [_], [_], [_, _], _, _, _, _ => ⟨_, rfl, ⟨_, _, _, _, _, _, rfl, rfl, rfl⟩⟩)
  exact ⟨mv, h⟩
theorem kb_c0 {K : PySem.W.Frag} {f e0 e1 e2 : Addr} {fd : FuncData} (F : FunC K e0 e1 e2 f fd) : ∃ ds, Vals ([V.ref e0, .ref e1, .non, .ref e2]) ds ∧ Binds K fd pC ds :=
  FunD.binds (ps := pC) F 2 0 (by simp) rfl (fun T D doc pm an cdv ct us its ks h1 h2 h3 => match us, its, ks, h1, h2, h3 with | [_, _], [_], [_, _, _], _, _, _ => ⟨_, rfl, ⟨_, _, _, _, _, _, rfl, rfl, ⟨_, _, _, _, _, _, rfl, rfl, ⟨_, _, _, _, _, _, rfl, rfl, rfl⟩⟩⟩⟩) (by simp)
end Kx
set_option linter.all false
namespace Kx
open PySem L2 PySem.Spec PyProof.Rows
abbrev sMP : Stmt := top 32
abbrev sMe : Stmt := top 33
abbrev sCP : Stmt := top 34
abbrev sCl : Stmt := top 35
abbrev nMP : List Str := ["_law_well_here", "_law_params", "_law_core"]
abbrev nCP : List Str := ["_law_well_here", "_law_method_here", "_law_bases", "_law_rooms"]
/-- a new list of parts -/
def spMP (K : PySem.W.Frag) (cl : Nat → OCls) : Sp := fun vs H Q _ => ∃ (p : Addr) (n : Int), vs = [.ref p] ∧ WellAt H p n ∧ n + 10 ≤ 1000000 ∧ ∀ ds xs l H', Shp cl (S0 cl) 4 6 ds → OhAll K cl H' ds xs → H' l = some (.lst xs) → H l = none → KeepB p H H' → WellAt H' p (n + 10) → Q (.ref l) H'
def spCP (K : PySem.W.Frag) (cl : Nat → OCls) : Sp := fun vs H Q _ => ∃ (p : Addr) (n : Int) (es : List OD) (m : V), vs = [.ref p, m] ∧ WellAt H p n ∧ n + 10 ≤ 1000000 ∧ Oh K cl H (.obj 1 es) m ∧ Shp cl (S0 cl) 4 6 es ∧ ∀ ds xs l H', Shp cl (S1 cl) 6 5 ds → OhAll K cl H' ds xs → H' l = some (.lst xs) → H l = none → KeepB p H H' → WellAt H' p (n + 10) → Q (.ref l) H'
theorem KeepB.free {p a : Addr} {H H' : Hp} (k : KeepB p H H') (ha : a ≠ p) (e : H' a = none) : H a = none := by
  cases z : H a with
  | none => rfl
  | some u =>
    rw [k a u ha z] at e
    cases e
theorem cd_ok {cl : Nat → OCls} {C f : Nat → Addr} {d : OD} (h : CD d) : okO (S0 (clk C f)) d ∧ noL d ∧ need (clk C f) d ≤ 4 := by
  rcases h with rfl | ⟨cs, rfl⟩
  · exact ⟨trivial, trivial, Nat.zero_le _⟩
  · exact ⟨(ok_cO (cl := clk C f) cs).1, (ok_cO (cl := clk C f) cs).2, need_cO cs⟩
theorem part_all {cl : Nat → OCls} {S : Nat → List OD → Prop} {n : Nat} : ∀ {ds : List OD}, (∀ d ∈ ds, okO S d ∧ noL d ∧ need cl d ≤ n) → okAll S ds ∧ noLs ds ∧ needAll cl ds ≤ n
  | [], _ => ⟨trivial, trivial, Nat.zero_le _⟩
  | d :: ds, h => let ⟨a, b, c⟩ := part_all fun e he => h e (List.mem_cons_of_mem _ he); let ⟨a', b', c'⟩ := h d List.mem_cons_self; ⟨⟨a', a⟩, ⟨b', b⟩, Nat.max_le.mpr ⟨c', c⟩⟩
theorem up01 {cl : Nat → OCls} {d : OD} (h : okO (S0 cl) d) : okO (S1 cl) d := okO_mono (fun _ _ z => .inl z) d h
theorem up12 {cl : Nat → OCls} {d : OD} (h : okO (S1 cl) d) : okO (S2 cl) d := okO_mono (fun _ _ z => .inl z) d h
theorem m_ok {C f : Nat → Addr} {es : List OD} (h : Shp (clk C f) (S0 (clk C f)) 4 6 es) : okO (S1 (clk C f)) (.obj 1 es) ∧ noL (.obj 1 es) := by
  obtain ⟨a, b, _⟩ := part_all h.2
  exact ⟨⟨.inr ⟨rfl, h⟩, okAll_mono (fun _ _ z => .inl z) es a⟩, b⟩
theorem c_ok {C f : Nat → Addr} {es : List OD} (h : Shp (clk C f) (S1 (clk C f)) 6 5 es) : okO (S2 (clk C f)) (.obj 2 es) ∧ noL (.obj 2 es) := by
  obtain ⟨a, b, _⟩ := part_all h.2
  exact ⟨⟨.inr ⟨rfl, h⟩, okAll_mono (fun _ _ z => .inl z) es a⟩, b⟩
theorem full6 {C f : Nat → Addr} {ds : List OD} (h : Shp (clk C f) (S0 (clk C f)) 4 6 ds) : Shp (clk C f) (S0 (clk C f)) 4 6 (fullK [3, 4] ds) := by
  obtain ⟨hl, h⟩ := h
  match ds, hl with
  | [a, b, c, d, e, g], _ =>
    refine ⟨rfl, fun x hx => ?_⟩
    have hx : x ∈ [a, b, c, fill d, fill e, g] := hx
    have h0 : okO (S0 (clk C f)) (cO []) ∧ noL (cO []) ∧ need (clk C f) (cO []) ≤ 4 := ⟨(ok_cO []).1, (ok_cO (cl := clk C f) []).2, need_cO []⟩
    simp only [List.mem_cons, List.not_mem_nil, or_false] at hx
    rcases hx with rfl | rfl | rfl | rfl | rfl | rfl
    · exact h _ (by simp)
    · exact h _ (by simp)
    · exact h _ (by simp)
    · exact fill_p (P := fun x => okO (S0 (clk C f)) x ∧ noL x ∧ need (clk C f) x ≤ 4) (h _ (by simp)) h0
    · exact fill_p (P := fun x => okO (S0 (clk C f)) x ∧ noL x ∧ need (clk C f) x ≤ 4) (h _ (by simp)) h0
    · exact h _ (by simp)
theorem full5 {C f : Nat → Addr} {ds : List OD} (h : Shp (clk C f) (S1 (clk C f)) 6 5 ds) : Shp (clk C f) (S1 (clk C f)) 6 5 (fullK [3] ds) := by
  obtain ⟨hl, h⟩ := h
  match ds, hl with
  | [a, b, c, d, e], _ =>
    refine ⟨rfl, fun x hx => ?_⟩
    have hx : x ∈ [a, b, c, fill d, e] := hx
    have h0 : okO (S1 (clk C f)) (cO []) ∧ noL (cO []) ∧ need (clk C f) (cO []) ≤ 6 := ⟨up01 (ok_cO []).1, (ok_cO (cl := clk C f) []).2, Nat.le_trans (need_cO []) (by decide)⟩
    simp only [List.mem_cons, List.not_mem_nil, or_false] at hx
    rcases hx with rfl | rfl | rfl | rfl | rfl
    · exact h _ (by simp)
    · exact h _ (by simp)
    · exact h _ (by simp)
    · exact fill_p (P := fun x => okO (S1 (clk C f)) x ∧ noL x ∧ need (clk C f) x ≤ 6) (h _ (by simp)) h0
    · exact h _ (by simp)
section
variable {P : Program} {w : World} {K : PySem.W.Frag} {mg : PySem.Str → Option Value} {base : Heap} {C fe : Nat → Addr} {fI e0 e1 e2 : Addr} {fdI : FuncData}
theorem scMP : FnScope nMP ["_law_well_here"] (defScope sMP) := ⟨rfl, rfl, rfl, by decide +kernel, rfl, by decide +kernel, by decide +kernel⟩
theorem scCP : FnScope nCP ["_law_well_here", "_law_method_here"] (defScope sCP) := ⟨rfl, rfl, rfl, by decide +kernel, rfl, by decide +kernel, by decide +kernel⟩
theorem ok_mp {f : Addr} {fd : FuncData} (F : Fs K mg "_law_method_parts" sMP ["_law_well_here"] f fd) (M : CondMk K mg (C 0) fI fdI) (D : Drw K mg) {fc : Addr} {fdc : FuncData} (dC : Fs K mg "_law_cond" sCond ["_law_well_here"] fc fdc) : FnOk P w K mg base CX0 9 f fd ["_law_well_here"] (spMP K (clk C fe)) := by
  obtain ⟨_, _, dD⟩ := D.draw
  obtain ⟨_, _, dO⟩ := D.one
  have GO : FnOk P w K mg base CX0 2 _ _ ["_law_well_here", "_law_some"] (spOne K) := ok_one dO.F D.T dD.F dD.b dD.m
  have GC : FnOk P w K mg base CX0 8 fc fdc ["_law_well_here"] (spCond K (clk C fe)) := ok_cond dC M D
  refine F.F.ok scMP (fun vs H Q E h => ?_) (fun cdv A outer s H vs Q E hr h => ?_)
  · obtain ⟨p, n, rfl, _⟩ := h
    rfl
  · obtain ⟨p, n, rfl, hW, hn, k⟩ := h
    have hr2 : Room 2 (A.deeper (envOfC "_law_method_parts" (defScope sMP) s.heap.objs.size f cdv)) := hr.mono (by decide)
    have hr8 : Room 8 (A.deeper (envOfC "_law_method_parts" (defScope sMP) s.heap.objs.size f cdv)) := hr
    refine ⟨_, pss_cons (ps_set (i := 1) scMP.nd rfl (Or.inl rfl) (pe_call GO hr2 (by rfl) dO.m dO.F.kp dO.b .nil pass0 (pa_cons (pv 0) (pa_cons (pe_lst (pa_cons (pe_tup pa_nil) (pa_cons (pe_tup (pa_cons (pe_tup (pa_cons pe_str (pa_cons pe_str pa_nil))) pa_nil)) (pa_cons (pe_tup (pa_cons (pe_tup (pa_cons pe_str (pa_cons pe_str pa_nil))) (pa_cons (pe_tup (pa_cons pe_str (pa_cons pe_str pa_nil))) pa_nil))) (pa_cons pe_non (pa_cons pe_str pa_nil)))))) pa_nil)))) (pss_cons (ps_set (i := 2) scMP.nd rfl (Or.inl rfl) (pe_call GO hr2 (by rfl) dO.m dO.F.kp dO.b .nil pass0 (pa_cons (pv 0) (pa_cons (pe_lst (pa_cons (pe_tup (pa_cons pe_str pa_nil)) (pa_cons (pe_tup (pa_cons pe_str (pa_cons (pe_tup (pa_cons pe_str (pa_cons pe_int pa_nil))) pa_nil))) (pa_cons (pe_tup (pa_cons pe_str (pa_cons pe_str pa_nil))) (pa_cons pe_non (pa_cons pe_int pa_nil)))))) pa_nil)))) (pss_one (ps_ret (pe_lst (pa_cons (pe_call GO hr2 (by rfl) dO.m dO.F.kp dO.b .nil pass0 (pa_cons (pv 0) (pa_cons (pe_lst (pa_cons pe_str (pa_cons pe_str (pa_cons pe_int pa_nil)))) pa_nil))) (pa_cons (pv 1) (pa_cons (pe_call GO hr2 (by rfl) dO.m dO.F.kp dO.b .nil pass0 (pa_cons (pv 0) (pa_cons (pe_lst (pa_cons pe_str (pa_cons pe_str pa_nil))) pa_nil))) (pa_cons (pe_call GC hr8 (by rfl) dC.m dC.F.kp dC.b .nil pass0 (pa_cons (pv 0) pa_nil)) (pa_cons (pe_call GC hr8 (by rfl) dC.m dC.F.kp dC.b .nil pass0 (pa_cons (pv 0) pa_nil)) (pa_cons (pv 2) pa_nil)))))))))), ?_⟩
    refine ⟨_, rfl, le_sz (Nat.le_of_ble_eq_true rfl), fun u1 hu1 => ?_⟩
    obtain ⟨ou1, su1⟩ := tup_new (K := K) (cl := clk C fe) (ds := []) (xs := []) hu1 oh_nil
    obtain ⟨G1, eG1⟩ : ∃ G, upd H u1 (.tup []) = G := ⟨_, rfl⟩
    rw [eG1] at ou1 su1 ⊢
    refine ⟨le_sz (Nat.le_of_ble_eq_true rfl), fun u2 hu2 => ?_⟩
    obtain ⟨ou2, su2⟩ := tup_new (K := K) (cl := clk C fe) (ds := [.fl (.str "x"), .fl (.str "int")]) (xs := [V.str "x", V.str "int"]) hu2 (oh_cons (oh_str _) (oh_cons (oh_str _) oh_nil))
    obtain ⟨G2, eG2⟩ : ∃ G, upd G1 u2 (.tup [V.str "x", V.str "int"]) = G := ⟨_, rfl⟩
    rw [eG2] at ou2 su2 ⊢
    refine ⟨le_sz (Nat.le_of_ble_eq_true rfl), fun u3 hu3 => ?_⟩
    obtain ⟨ou3, su3⟩ := tup_new (K := K) (cl := clk C fe) (ds := [.tup [.fl (.str "x"), .fl (.str "int")]]) (xs := [V.ref u2]) hu3 (oh_cons ou2 oh_nil)
    obtain ⟨G3, eG3⟩ : ∃ G, upd G2 u3 (.tup [V.ref u2]) = G := ⟨_, rfl⟩
    rw [eG3] at ou3 su3 ⊢
    refine ⟨le_sz (Nat.le_of_ble_eq_true rfl), fun u4 hu4 => ?_⟩
    obtain ⟨ou4, su4⟩ := tup_new (K := K) (cl := clk C fe) (ds := [.fl (.str "x"), .fl (.str "int")]) (xs := [V.str "x", V.str "int"]) hu4 (oh_cons (oh_str _) (oh_cons (oh_str _) oh_nil))
    obtain ⟨G4, eG4⟩ : ∃ G, upd G3 u4 (.tup [V.str "x", V.str "int"]) = G := ⟨_, rfl⟩
    rw [eG4] at ou4 su4 ⊢
    refine ⟨le_sz (Nat.le_of_ble_eq_true rfl), fun u5 hu5 => ?_⟩
    obtain ⟨ou5, su5⟩ := tup_new (K := K) (cl := clk C fe) (ds := [.fl (.str "p"), .fl (.str "a")]) (xs := [V.str "p", V.str "a"]) hu5 (oh_cons (oh_str _) (oh_cons (oh_str _) oh_nil))
    obtain ⟨G5, eG5⟩ : ∃ G, upd G4 u5 (.tup [V.str "p", V.str "a"]) = G := ⟨_, rfl⟩
    rw [eG5] at ou5 su5 ⊢
    refine ⟨le_sz (Nat.le_of_ble_eq_true rfl), fun u6 hu6 => ?_⟩
    obtain ⟨ou6, su6⟩ := tup_new (K := K) (cl := clk C fe) (ds := [.tup [.fl (.str "x"), .fl (.str "int")], .tup [.fl (.str "p"), .fl (.str "a")]]) (xs := [V.ref u4, V.ref u5]) hu6 (oh_cons (Oh.sm su5 ou4) (oh_cons ou5 oh_nil))
    obtain ⟨G6, eG6⟩ : ∃ G, upd G5 u6 (.tup [V.ref u4, V.ref u5]) = G := ⟨_, rfl⟩
    rw [eG6] at ou6 su6 ⊢
    refine ⟨le_sz (Nat.le_of_ble_eq_true rfl), fun q7 hq7 => ?_⟩
    have Wa7 := (hW.same (((((su1.trans su2).trans su3).trans su4).trans su5).trans su6))
    refine ⟨p, q7, _, _, rfl, Wa7.same (new_same hq7), by omega, (Wa7.ne hq7).symm, SqL.of upd_same, Nat.le_of_ble_eq_true rfl, Nat.le_of_ble_eq_true rfl, fun r7 v7 x7 hv7 Wb7 => ?_⟩
    obtain ⟨G7, eG7, k7, W7, d7, hd7, nd7, od7⟩ := od_pick (K := K) (cl := clk C fe) (ds := [.tup [], .tup [.tup [.fl (.str "x"), .fl (.str "int")]], .tup [.tup [.fl (.str "x"), .fl (.str "int")], .tup [.fl (.str "p"), .fl (.str "a")]], .fl .non, .fl (.str "x")]) (xs := [V.ref u1, V.ref u3, V.ref u6, V.non, V.str "x"]) (zs := x7) Wa7 hq7 (oh_cons (Oh.sm ((((su2.trans su3).trans su4).trans su5).trans su6) ou1) (oh_cons (Oh.sm ((su4.trans su5).trans su6) ou3) (oh_cons ou6 (oh_cons oh_non (oh_cons (oh_str _) oh_nil))))) ⟨trivial, ⟨⟨trivial, trivial, trivial⟩, trivial⟩, ⟨⟨trivial, trivial, trivial⟩, ⟨trivial, trivial, trivial⟩, trivial⟩, trivial, trivial, trivial⟩ hv7 Wb7
    rw [eG7]
    obtain ⟨ms7, hp7⟩ := Wa7.lst
    have f7 : okO (S0 (clk C fe)) d7 ∧ noL d7 ∧ need (clk C fe) d7 ≤ 4 := by
      simp only [List.mem_cons, List.not_mem_nil, or_false] at hd7
      rcases hd7 with rfl | rfl | rfl | rfl | rfl
      · exact ⟨trivial, nd7, Nat.le_of_ble_eq_true rfl⟩
      · exact ⟨⟨⟨trivial, trivial, trivial⟩, trivial⟩, nd7, Nat.le_of_ble_eq_true rfl⟩
      · exact ⟨⟨⟨trivial, trivial, trivial⟩, ⟨trivial, trivial, trivial⟩, trivial⟩, nd7, Nat.le_of_ble_eq_true rfl⟩
      · exact ⟨trivial, nd7, Nat.le_of_ble_eq_true rfl⟩
      · exact ⟨trivial, nd7, Nat.le_of_ble_eq_true rfl⟩
    refine ⟨_, rfl, le_sz (Nat.le_of_ble_eq_true rfl), fun u8 hu8 => ?_⟩
    obtain ⟨ou8, su8⟩ := tup_new (K := K) (cl := clk C fe) (ds := [.fl (.str "halt")]) (xs := [V.str "halt"]) hu8 (oh_cons (oh_str _) oh_nil)
    obtain ⟨G8, eG8⟩ : ∃ G, upd G7 u8 (.tup [V.str "halt"]) = G := ⟨_, rfl⟩
    rw [eG8] at ou8 su8 ⊢
    refine ⟨le_sz (Nat.le_of_ble_eq_true rfl), fun u9 hu9 => ?_⟩
    obtain ⟨ou9, su9⟩ := tup_new (K := K) (cl := clk C fe) (ds := [.fl (.str ""), .fl (.int 0)]) (xs := [V.str "", V.int 0]) hu9 (oh_cons (oh_str _) (oh_cons (oh_int _) oh_nil))
    obtain ⟨G9, eG9⟩ : ∃ G, upd G8 u9 (.tup [V.str "", V.int 0]) = G := ⟨_, rfl⟩
    rw [eG9] at ou9 su9 ⊢
    refine ⟨le_sz (Nat.le_of_ble_eq_true rfl), fun u10 hu10 => ?_⟩
    obtain ⟨ou10, su10⟩ := tup_new (K := K) (cl := clk C fe) (ds := [.fl (.str "return"), .tup [.fl (.str ""), .fl (.int 0)]]) (xs := [V.str "return", V.ref u9]) hu10 (oh_cons (oh_str _) (oh_cons ou9 oh_nil))
    obtain ⟨G10, eG10⟩ : ∃ G, upd G9 u10 (.tup [V.str "return", V.ref u9]) = G := ⟨_, rfl⟩
    rw [eG10] at ou10 su10 ⊢
    refine ⟨le_sz (Nat.le_of_ble_eq_true rfl), fun u11 hu11 => ?_⟩
    obtain ⟨ou11, su11⟩ := tup_new (K := K) (cl := clk C fe) (ds := [.fl (.str "return"), .fl (.str "self")]) (xs := [V.str "return", V.str "self"]) hu11 (oh_cons (oh_str _) (oh_cons (oh_str _) oh_nil))
    obtain ⟨G11, eG11⟩ : ∃ G, upd G10 u11 (.tup [V.str "return", V.str "self"]) = G := ⟨_, rfl⟩
    rw [eG11] at ou11 su11 ⊢
    refine ⟨le_sz (Nat.le_of_ble_eq_true rfl), fun q12 hq12 => ?_⟩
    have Wa12 := (W7.same (((su8.trans su9).trans su10).trans su11))
    refine ⟨p, q12, _, _, rfl, Wa12.same (new_same hq12), by omega, (Wa12.ne hq12).symm, SqL.of upd_same, Nat.le_of_ble_eq_true rfl, Nat.le_of_ble_eq_true rfl, fun r12 v12 x12 hv12 Wb12 => ?_⟩
    obtain ⟨G12, eG12, k12, W12, d12, hd12, nd12, od12⟩ := od_pick (K := K) (cl := clk C fe) (ds := [.tup [.fl (.str "halt")], .tup [.fl (.str "return"), .tup [.fl (.str ""), .fl (.int 0)]], .tup [.fl (.str "return"), .fl (.str "self")], .fl .non, .fl (.int 7)]) (xs := [V.ref u8, V.ref u10, V.ref u11, V.non, V.int 7]) (zs := x12) Wa12 hq12 (oh_cons (Oh.sm ((su9.trans su10).trans su11) ou8) (oh_cons (Oh.sm su11 ou10) (oh_cons ou11 (oh_cons oh_non (oh_cons (oh_int _) oh_nil))))) ⟨⟨trivial, trivial⟩, ⟨trivial, ⟨trivial, trivial, trivial⟩, trivial⟩, ⟨trivial, trivial, trivial⟩, trivial, trivial, trivial⟩ hv12 Wb12
    rw [eG12]
    obtain ⟨ms12, hp12⟩ := Wa12.lst
    have f12 : okO (S0 (clk C fe)) d12 ∧ noL d12 ∧ need (clk C fe) d12 ≤ 4 := by
      simp only [List.mem_cons, List.not_mem_nil, or_false] at hd12
      rcases hd12 with rfl | rfl | rfl | rfl | rfl
      · exact ⟨⟨trivial, trivial⟩, nd12, Nat.le_of_ble_eq_true rfl⟩
      · exact ⟨⟨trivial, ⟨trivial, trivial, trivial⟩, trivial⟩, nd12, Nat.le_of_ble_eq_true rfl⟩
      · exact ⟨⟨trivial, trivial, trivial⟩, nd12, Nat.le_of_ble_eq_true rfl⟩
      · exact ⟨trivial, nd12, Nat.le_of_ble_eq_true rfl⟩
      · exact ⟨trivial, nd12, Nat.le_of_ble_eq_true rfl⟩
    refine ⟨_, rfl, le_sz (Nat.le_of_ble_eq_true rfl), fun q13 hq13 => ?_⟩
    have Wa13 := W12
    refine ⟨p, q13, _, _, rfl, Wa13.same (new_same hq13), by omega, (Wa13.ne hq13).symm, SqL.of upd_same, Nat.le_of_ble_eq_true rfl, Nat.le_of_ble_eq_true rfl, fun r13 v13 x13 hv13 Wb13 => ?_⟩
    obtain ⟨G13, eG13, k13, W13, d13, hd13, nd13, od13⟩ := od_pick (K := K) (cl := clk C fe) (ds := [.fl (.str "m"), .fl (.str "n"), .fl (.int 5)]) (xs := [V.str "m", V.str "n", V.int 5]) (zs := x13) Wa13 hq13 (oh_cons (oh_str _) (oh_cons (oh_str _) (oh_cons (oh_int _) oh_nil))) ⟨trivial, trivial, trivial, trivial⟩ hv13 Wb13
    rw [eG13]
    obtain ⟨ms13, hp13⟩ := Wa13.lst
    have f13 : okO (S0 (clk C fe)) d13 ∧ noL d13 ∧ need (clk C fe) d13 ≤ 4 := by
      simp only [List.mem_cons, List.not_mem_nil, or_false] at hd13
      rcases hd13 with rfl | rfl | rfl
      · exact ⟨trivial, nd13, Nat.le_of_ble_eq_true rfl⟩
      · exact ⟨trivial, nd13, Nat.le_of_ble_eq_true rfl⟩
      · exact ⟨trivial, nd13, Nat.le_of_ble_eq_true rfl⟩
    refine ⟨_, rfl, _, rfl, le_sz (Nat.le_of_ble_eq_true rfl), fun q14 hq14 => ?_⟩
    have Wa14 := W13
    refine ⟨p, q14, _, _, rfl, Wa14.same (new_same hq14), by omega, (Wa14.ne hq14).symm, SqL.of upd_same, Nat.le_of_ble_eq_true rfl, Nat.le_of_ble_eq_true rfl, fun r14 v14 x14 hv14 Wb14 => ?_⟩
    obtain ⟨G14, eG14, k14, W14, d14, hd14, nd14, od14⟩ := od_pick (K := K) (cl := clk C fe) (ds := [.fl (.str "int"), .fl (.str "a")]) (xs := [V.str "int", V.str "a"]) (zs := x14) Wa14 hq14 (oh_cons (oh_str _) (oh_cons (oh_str _) oh_nil)) ⟨trivial, trivial, trivial⟩ hv14 Wb14
    rw [eG14]
    obtain ⟨ms14, hp14⟩ := Wa14.lst
    have f14 : okO (S0 (clk C fe)) d14 ∧ noL d14 ∧ need (clk C fe) d14 ≤ 4 := by
      simp only [List.mem_cons, List.not_mem_nil, or_false] at hd14
      rcases hd14 with rfl | rfl
      · exact ⟨trivial, nd14, Nat.le_of_ble_eq_true rfl⟩
      · exact ⟨trivial, nd14, Nat.le_of_ble_eq_true rfl⟩
    have Wa15 := W14
    obtain ⟨ms15, hp15⟩ := Wa15.lst
    refine ⟨_, rfl, p, _, rfl, Wa15, by omega, fun d15 v15 G15 cd15 od15 k15 W15 => ?_⟩
    have f15 := cd_ok (cl := clk C fe) (C := C) (f := fe) cd15
    have Wa16 := W15
    obtain ⟨ms16, hp16⟩ := Wa16.lst
    refine ⟨_, rfl, p, _, rfl, Wa16, by omega, fun d16 v16 G16 cd16 od16 k16 W16 => ?_⟩
    have f16 := cd_ok (cl := clk C fe) (C := C) (f := fe) cd16
    have KK : KeepB p H G16 := ((((((((((((((((KeepB.of su1).trans (KeepB.of su2)).trans (KeepB.of su3)).trans (KeepB.of su4)).trans (KeepB.of su5)).trans (KeepB.of su6)).trans k7).trans (KeepB.of su8)).trans (KeepB.of su9)).trans (KeepB.of su10)).trans (KeepB.of su11)).trans k12).trans k13).trans k14).trans k15).trans k16)
    have WW := W16
    refine ⟨_, rfl, le_sz (Nat.le_of_ble_eq_true rfl), fun l hl => ?_⟩
    have sl := new_same (o := .lst [v13, v7, v14, v15, v16, v12]) hl
    refine k [d13, d7, d14, d15, d16, d12] [v13, v7, v14, v15, v16, v12] l _ ⟨rfl, fun x hx => ?_⟩ (OhAll.sm sl (oh_cons (Oh.keepB hp16 k16 _ _ nd13 (Oh.keepB hp15 k15 _ _ nd13 (Oh.keepB hp14 k14 _ _ nd13 od13))) (oh_cons (Oh.keepB hp16 k16 _ _ nd7 (Oh.keepB hp15 k15 _ _ nd7 (Oh.keepB hp14 k14 _ _ nd7 (Oh.keepB hp13 k13 _ _ nd7 (Oh.keepB hp12 k12 _ _ nd7 (Oh.sm (((su8.trans su9).trans su10).trans su11) od7)))))) (oh_cons (Oh.keepB hp16 k16 _ _ nd14 (Oh.keepB hp15 k15 _ _ nd14 od14)) (oh_cons (Oh.keepB hp16 k16 _ _ f15.2.1 od15) (oh_cons od16 (oh_cons (Oh.keepB hp16 k16 _ _ nd12 (Oh.keepB hp15 k15 _ _ nd12 (Oh.keepB hp14 k14 _ _ nd12 (Oh.keepB hp13 k13 _ _ nd12 od12)))) oh_nil))))))) upd_same (KK.free (WW.ne hl) hl) (KK.trans (KeepB.of sl)) ((WW.same sl).mono (by omega))
    simp only [List.mem_cons, List.not_mem_nil, or_false] at hx
    rcases hx with rfl | rfl | rfl | rfl | rfl | rfl
    · exact f13
    · exact f7
    · exact f14
    · exact f15
    · exact f16
    · exact f12
theorem ok_cp {f : Addr} {fd : FuncData} (F : Fs K mg "_law_class_parts" sCP ["_law_well_here", "_law_method_here"] f fd) (M : CondMk K mg (C 0) fI fdI) (D : Drw K mg) {fc : Addr} {fdc : FuncData} (dC : Fs K mg "_law_cond" sCond ["_law_well_here"] fc fdc) : FnOk P w K mg base CX0 9 f fd ["_law_well_here", "_law_method_here"] (spCP K (clk C fe)) := by
  obtain ⟨_, _, dD⟩ := D.draw
  obtain ⟨_, _, dO⟩ := D.one
  have GO : FnOk P w K mg base CX0 2 _ _ ["_law_well_here", "_law_some"] (spOne K) := ok_one dO.F D.T dD.F dD.b dD.m
  have GC : FnOk P w K mg base CX0 8 fc fdc ["_law_well_here"] (spCond K (clk C fe)) := ok_cond dC M D
  refine F.F.ok scCP (fun vs H Q E h => ?_) (fun cdv A outer s H vs Q E hr h => ?_)
  · obtain ⟨p, n, es, m, rfl, _⟩ := h
    rfl
  · obtain ⟨p, n, es, m, rfl, hW, hn, hm, he, k⟩ := h
    have hr2 : Room 2 (A.deeper (envOfC "_law_class_parts" (defScope sCP) s.heap.objs.size f cdv)) := hr.mono (by decide)
    have hr8 : Room 8 (A.deeper (envOfC "_law_class_parts" (defScope sCP) s.heap.objs.size f cdv)) := hr
    refine ⟨_, pss_cons (ps_par (i := 2) (j := 3) rfl scCP.nd rfl rfl (by decide) rfl rfl (pa_cons (pe_call GO hr2 (by rfl) dO.m dO.F.kp dO.b .nil pass0 (pa_cons (pv 0) (pa_cons (pe_lst (pa_cons (pe_tup pa_nil) (pa_cons (pe_tup (pa_cons pe_str pa_nil)) (pa_cons (pe_tup (pa_cons pe_str (pa_cons pe_str pa_nil))) (pa_cons pe_non pa_nil))))) pa_nil))) (pa_cons (pe_call GO hr2 (by rfl) dO.m dO.F.kp dO.b .nil pass0 (pa_cons (pv 0) (pa_cons (pe_lst (pa_cons (pe_tup pa_nil) (pa_cons (pe_tup (pa_cons pe_str pa_nil)) (pa_cons (pe_tup (pa_cons pe_str (pa_cons pe_str pa_nil))) (pa_cons pe_str pa_nil))))) pa_nil))) pa_nil)) (by rfl)) (pss_one (ps_ret (pe_lst (pa_cons (pe_call GO hr2 (by rfl) dO.m dO.F.kp dO.b .nil pass0 (pa_cons (pv 0) (pa_cons (pe_lst (pa_cons pe_str (pa_cons pe_str (pa_cons pe_non pa_nil)))) pa_nil))) (pa_cons (pv 2) (pa_cons (pv 3) (pa_cons (pe_call GC hr8 (by rfl) dC.m dC.F.kp dC.b .nil pass0 (pa_cons (pv 0) pa_nil)) (pa_cons (pe_call GO hr2 (by rfl) dO.m dO.F.kp dO.b .nil pass0 (pa_cons (pv 0) (pa_cons (pe_lst (pa_cons (pe_tup pa_nil) (pa_cons (pe_tup (pa_cons (pv 1) pa_nil)) (pa_cons pe_non pa_nil)))) pa_nil))) pa_nil)))))))), ?_⟩
    refine ⟨_, rfl, le_sz (Nat.le_of_ble_eq_true rfl), fun u1 hu1 => ?_⟩
    obtain ⟨ou1, su1⟩ := tup_new (K := K) (cl := clk C fe) (ds := []) (xs := []) hu1 oh_nil
    obtain ⟨G1, eG1⟩ : ∃ G, upd H u1 (.tup []) = G := ⟨_, rfl⟩
    rw [eG1] at ou1 su1 ⊢
    refine ⟨le_sz (Nat.le_of_ble_eq_true rfl), fun u2 hu2 => ?_⟩
    obtain ⟨ou2, su2⟩ := tup_new (K := K) (cl := clk C fe) (ds := [.fl (.str "b")]) (xs := [V.str "b"]) hu2 (oh_cons (oh_str _) oh_nil)
    obtain ⟨G2, eG2⟩ : ∃ G, upd G1 u2 (.tup [V.str "b"]) = G := ⟨_, rfl⟩
    rw [eG2] at ou2 su2 ⊢
    refine ⟨le_sz (Nat.le_of_ble_eq_true rfl), fun u3 hu3 => ?_⟩
    obtain ⟨ou3, su3⟩ := tup_new (K := K) (cl := clk C fe) (ds := [.fl (.str "b"), .fl (.str "c")]) (xs := [V.str "b", V.str "c"]) hu3 (oh_cons (oh_str _) (oh_cons (oh_str _) oh_nil))
    obtain ⟨G3, eG3⟩ : ∃ G, upd G2 u3 (.tup [V.str "b", V.str "c"]) = G := ⟨_, rfl⟩
    rw [eG3] at ou3 su3 ⊢
    refine ⟨le_sz (Nat.le_of_ble_eq_true rfl), fun q4 hq4 => ?_⟩
    have Wa4 := (hW.same ((su1.trans su2).trans su3))
    refine ⟨p, q4, _, _, rfl, Wa4.same (new_same hq4), by omega, (Wa4.ne hq4).symm, SqL.of upd_same, Nat.le_of_ble_eq_true rfl, Nat.le_of_ble_eq_true rfl, fun r4 v4 x4 hv4 Wb4 => ?_⟩
    obtain ⟨G4, eG4, k4, W4, d4, hd4, nd4, od4⟩ := od_pick (K := K) (cl := clk C fe) (ds := [.tup [], .tup [.fl (.str "b")], .tup [.fl (.str "b"), .fl (.str "c")], .fl .non]) (xs := [V.ref u1, V.ref u2, V.ref u3, V.non]) (zs := x4) Wa4 hq4 (oh_cons (Oh.sm (su2.trans su3) ou1) (oh_cons (Oh.sm su3 ou2) (oh_cons ou3 (oh_cons oh_non oh_nil)))) ⟨trivial, ⟨trivial, trivial⟩, ⟨trivial, trivial, trivial⟩, trivial, trivial⟩ hv4 Wb4
    rw [eG4]
    obtain ⟨ms4, hp4⟩ := Wa4.lst
    have f4 : okO (S1 (clk C fe)) d4 ∧ noL d4 ∧ need (clk C fe) d4 ≤ 6 := by
      simp only [List.mem_cons, List.not_mem_nil, or_false] at hd4
      rcases hd4 with rfl | rfl | rfl | rfl
      · exact ⟨trivial, nd4, Nat.le_of_ble_eq_true rfl⟩
      · exact ⟨⟨trivial, trivial⟩, nd4, Nat.le_of_ble_eq_true rfl⟩
      · exact ⟨⟨trivial, trivial, trivial⟩, nd4, Nat.le_of_ble_eq_true rfl⟩
      · exact ⟨trivial, nd4, Nat.le_of_ble_eq_true rfl⟩
    refine ⟨_, rfl, le_sz (Nat.le_of_ble_eq_true rfl), fun u5 hu5 => ?_⟩
    obtain ⟨ou5, su5⟩ := tup_new (K := K) (cl := clk C fe) (ds := []) (xs := []) hu5 oh_nil
    obtain ⟨G5, eG5⟩ : ∃ G, upd G4 u5 (.tup []) = G := ⟨_, rfl⟩
    rw [eG5] at ou5 su5 ⊢
    refine ⟨le_sz (Nat.le_of_ble_eq_true rfl), fun u6 hu6 => ?_⟩
    obtain ⟨ou6, su6⟩ := tup_new (K := K) (cl := clk C fe) (ds := [.fl (.str "f")]) (xs := [V.str "f"]) hu6 (oh_cons (oh_str _) oh_nil)
    obtain ⟨G6, eG6⟩ : ∃ G, upd G5 u6 (.tup [V.str "f"]) = G := ⟨_, rfl⟩
    rw [eG6] at ou6 su6 ⊢
    refine ⟨le_sz (Nat.le_of_ble_eq_true rfl), fun u7 hu7 => ?_⟩
    obtain ⟨ou7, su7⟩ := tup_new (K := K) (cl := clk C fe) (ds := [.fl (.str "f"), .fl (.str "g")]) (xs := [V.str "f", V.str "g"]) hu7 (oh_cons (oh_str _) (oh_cons (oh_str _) oh_nil))
    obtain ⟨G7, eG7⟩ : ∃ G, upd G6 u7 (.tup [V.str "f", V.str "g"]) = G := ⟨_, rfl⟩
    rw [eG7] at ou7 su7 ⊢
    refine ⟨le_sz (Nat.le_of_ble_eq_true rfl), fun q8 hq8 => ?_⟩
    have Wa8 := (W4.same ((su5.trans su6).trans su7))
    refine ⟨p, q8, _, _, rfl, Wa8.same (new_same hq8), by omega, (Wa8.ne hq8).symm, SqL.of upd_same, Nat.le_of_ble_eq_true rfl, Nat.le_of_ble_eq_true rfl, fun r8 v8 x8 hv8 Wb8 => ?_⟩
    obtain ⟨G8, eG8, k8, W8, d8, hd8, nd8, od8⟩ := od_pick (K := K) (cl := clk C fe) (ds := [.tup [], .tup [.fl (.str "f")], .tup [.fl (.str "f"), .fl (.str "g")], .fl (.str "f")]) (xs := [V.ref u5, V.ref u6, V.ref u7, V.str "f"]) (zs := x8) Wa8 hq8 (oh_cons (Oh.sm (su6.trans su7) ou5) (oh_cons (Oh.sm su7 ou6) (oh_cons ou7 (oh_cons (oh_str _) oh_nil)))) ⟨trivial, ⟨trivial, trivial⟩, ⟨trivial, trivial, trivial⟩, trivial, trivial⟩ hv8 Wb8
    rw [eG8]
    obtain ⟨ms8, hp8⟩ := Wa8.lst
    have f8 : okO (S1 (clk C fe)) d8 ∧ noL d8 ∧ need (clk C fe) d8 ≤ 6 := by
      simp only [List.mem_cons, List.not_mem_nil, or_false] at hd8
      rcases hd8 with rfl | rfl | rfl | rfl
      · exact ⟨trivial, nd8, Nat.le_of_ble_eq_true rfl⟩
      · exact ⟨⟨trivial, trivial⟩, nd8, Nat.le_of_ble_eq_true rfl⟩
      · exact ⟨⟨trivial, trivial, trivial⟩, nd8, Nat.le_of_ble_eq_true rfl⟩
      · exact ⟨trivial, nd8, Nat.le_of_ble_eq_true rfl⟩
    refine ⟨_, _, rfl, _, rfl, le_sz (Nat.le_of_ble_eq_true rfl), fun q9 hq9 => ?_⟩
    have Wa9 := W8
    refine ⟨p, q9, _, _, rfl, Wa9.same (new_same hq9), by omega, (Wa9.ne hq9).symm, SqL.of upd_same, Nat.le_of_ble_eq_true rfl, Nat.le_of_ble_eq_true rfl, fun r9 v9 x9 hv9 Wb9 => ?_⟩
    obtain ⟨G9, eG9, k9, W9, d9, hd9, nd9, od9⟩ := od_pick (K := K) (cl := clk C fe) (ds := [.fl (.str "a"), .fl (.str "b"), .fl .non]) (xs := [V.str "a", V.str "b", V.non]) (zs := x9) Wa9 hq9 (oh_cons (oh_str _) (oh_cons (oh_str _) (oh_cons oh_non oh_nil))) ⟨trivial, trivial, trivial, trivial⟩ hv9 Wb9
    rw [eG9]
    obtain ⟨ms9, hp9⟩ := Wa9.lst
    have f9 : okO (S1 (clk C fe)) d9 ∧ noL d9 ∧ need (clk C fe) d9 ≤ 6 := by
      simp only [List.mem_cons, List.not_mem_nil, or_false] at hd9
      rcases hd9 with rfl | rfl | rfl
      · exact ⟨trivial, nd9, Nat.le_of_ble_eq_true rfl⟩
      · exact ⟨trivial, nd9, Nat.le_of_ble_eq_true rfl⟩
      · exact ⟨trivial, nd9, Nat.le_of_ble_eq_true rfl⟩
    have Wa10 := W9
    obtain ⟨ms10, hp10⟩ := Wa10.lst
    refine ⟨_, rfl, _, rfl, _, rfl, p, _, rfl, Wa10, by omega, fun d10 v10 G10 cd10 od10 k10 W10 => ?_⟩
    have f10 := cd_ok (cl := clk C fe) (C := C) (f := fe) cd10
    refine ⟨_, rfl, le_sz (Nat.le_of_ble_eq_true rfl), fun u11 hu11 => ?_⟩
    obtain ⟨ou11, su11⟩ := tup_new (K := K) (cl := clk C fe) (ds := []) (xs := []) hu11 oh_nil
    obtain ⟨G11, eG11⟩ : ∃ G, upd G10 u11 (.tup []) = G := ⟨_, rfl⟩
    rw [eG11] at ou11 su11 ⊢
    refine ⟨_, rfl, le_sz (Nat.le_of_ble_eq_true rfl), fun u12 hu12 => ?_⟩
    obtain ⟨ou12, su12⟩ := tup_new (K := K) (cl := clk C fe) (ds := [.obj 1 es]) (xs := [m]) hu12 (oh_cons (Oh.sm su11 (Oh.keepB hp10 k10 _ _ (m_ok he).2 (Oh.keepB hp9 k9 _ _ (m_ok he).2 (Oh.keepB hp8 k8 _ _ (m_ok he).2 (Oh.sm ((su5.trans su6).trans su7) (Oh.keepB hp4 k4 _ _ (m_ok he).2 (Oh.sm ((su1.trans su2).trans su3) hm))))))) oh_nil)
    obtain ⟨G12, eG12⟩ : ∃ G, upd G11 u12 (.tup [m]) = G := ⟨_, rfl⟩
    rw [eG12] at ou12 su12 ⊢
    refine ⟨le_sz (Nat.le_of_ble_eq_true rfl), fun q13 hq13 => ?_⟩
    have Wa13 := (W10.same (su11.trans su12))
    refine ⟨p, q13, _, _, rfl, Wa13.same (new_same hq13), by omega, (Wa13.ne hq13).symm, SqL.of upd_same, Nat.le_of_ble_eq_true rfl, Nat.le_of_ble_eq_true rfl, fun r13 v13 x13 hv13 Wb13 => ?_⟩
    obtain ⟨G13, eG13, k13, W13, d13, hd13, nd13, od13⟩ := od_pick (K := K) (cl := clk C fe) (ds := [.tup [], .tup [.obj 1 es], .fl .non]) (xs := [V.ref u11, V.ref u12, V.non]) (zs := x13) Wa13 hq13 (oh_cons (Oh.sm su12 ou11) (oh_cons ou12 (oh_cons oh_non oh_nil))) ⟨trivial, ⟨(m_ok he).2, trivial⟩, trivial, trivial⟩ hv13 Wb13
    rw [eG13]
    obtain ⟨ms13, hp13⟩ := Wa13.lst
    have f13 : okO (S1 (clk C fe)) d13 ∧ noL d13 ∧ need (clk C fe) d13 ≤ 6 := by
      simp only [List.mem_cons, List.not_mem_nil, or_false] at hd13
      rcases hd13 with rfl | rfl | rfl
      · exact ⟨trivial, nd13, Nat.le_of_ble_eq_true rfl⟩
      · exact ⟨⟨(m_ok he).1, trivial⟩, nd13, Nat.le_of_ble_eq_true rfl⟩
      · exact ⟨trivial, nd13, Nat.le_of_ble_eq_true rfl⟩
    have KK : KeepB p H G13 := (((((((((((((KeepB.of su1).trans (KeepB.of su2)).trans (KeepB.of su3)).trans k4).trans (KeepB.of su5)).trans (KeepB.of su6)).trans (KeepB.of su7)).trans k8).trans k9).trans k10).trans (KeepB.of su11)).trans (KeepB.of su12)).trans k13)
    have WW := W13
    refine ⟨le_sz (Nat.le_of_ble_eq_true rfl), fun l hl => ?_⟩
    have sl := new_same (o := .lst [v9, v4, v8, v10, v13]) hl
    refine k [d9, d4, d8, d10, d13] [v9, v4, v8, v10, v13] l _ ⟨rfl, fun x hx => ?_⟩ (OhAll.sm sl (oh_cons (Oh.keepB hp13 k13 _ _ nd9 (Oh.sm (su11.trans su12) (Oh.keepB hp10 k10 _ _ nd9 od9))) (oh_cons (Oh.keepB hp13 k13 _ _ nd4 (Oh.sm (su11.trans su12) (Oh.keepB hp10 k10 _ _ nd4 (Oh.keepB hp9 k9 _ _ nd4 (Oh.keepB hp8 k8 _ _ nd4 (Oh.sm ((su5.trans su6).trans su7) od4)))))) (oh_cons (Oh.keepB hp13 k13 _ _ nd8 (Oh.sm (su11.trans su12) (Oh.keepB hp10 k10 _ _ nd8 (Oh.keepB hp9 k9 _ _ nd8 od8)))) (oh_cons (Oh.keepB hp13 k13 _ _ f10.2.1 (Oh.sm (su11.trans su12) od10)) (oh_cons od13 oh_nil)))))) upd_same (KK.free (WW.ne hl) hl) (KK.trans (KeepB.of sl)) ((WW.same sl).mono (by omega))
    simp only [List.mem_cons, List.not_mem_nil, or_false] at hx
    rcases hx with rfl | rfl | rfl | rfl | rfl
    · exact f9
    · exact f4
    · exact f8
    · exact ⟨up01 f10.1, f10.2.1, Nat.le_trans f10.2.2 (by decide)⟩
    · exact f13
end
end Kx
set_option linter.all false
namespace Kx
open PySem L2 PySem.Spec PyProof.Rows
open StX (pe_makeR tMakeR)
abbrev sFu : Stmt := top 36
abbrev sMR : Stmt := top 37
abbrev sCR : Stmt := top 38
abbrev nFu : List Str := ["_law_parts", "_law_places", "_law_found", "_law_k"]
structure MethMk (K : PySem.W.Frag) (mg : Str → Option Value) (C fM : Addr) (fdM : FuncData) : Prop where
  M : Mk K C fM
  F : FunM K fM fdM
  g : mg "Method" = some (.ref C)
structure ClsMk (K : PySem.W.Frag) (mg : Str → Option Value) (C fC e0 e1 e2 : Addr) (fdC : FuncData) : Prop where
  M : Mk K C fC
  F : FunC K e0 e1 e2 fC fdC
  g : mg "ClassDef" = some (.ref C)
def spMd (K : PySem.W.Frag) (cl : Nat → OCls) (k n m : Nat) (S : Nat → List OD → Prop) (ks : List Nat) : Sp := fun vs H Q _ => ∃ (l : Addr) (ds : List OD) (xs : List V), vs = [.ref l] ∧ H l = some (.lst xs) ∧ OhAll K cl H ds xs ∧ Shp cl S n m ds ∧ ∀ a H', Oh K cl H' (.obj k (fullK ks ds)) (.ref a) → Same H H' → Q (.ref a) H'
def spFu (K : PySem.W.Frag) (cl : Nat → OCls) : Sp := fun vs H Q _ => ∃ (l q : Addr) (ds : List OD) (xs : List V) (ks : List Nat), vs = [.ref l, .ref q] ∧ H l = some (.lst xs) ∧ OhAll K cl H ds xs ∧ noLs ds ∧ H q = some (.lst (ks.map fun (k : Nat) => V.int (k : Int))) ∧ (∀ k ∈ ks, k < ds.length) ∧
  ∀ f ys H', OhAll K cl H' (fullK ks ds) ys → H' f = some (.lst ys) → H f = none → Same H H' → Q (.ref f) H'
def spRt (K : PySem.W.Frag) (cl : Nat → OCls) (k n m : Nat) (S : Nat → List OD → Prop) (ks : List Nat) : Sp := fun vs H Q _ => ∃ (a l : Addr) (ds : List OD) (xs : List V), vs = [.ref a, .ref l] ∧ Oh K cl H (.obj k (fullK ks ds)) (.ref a) ∧ H l = some (.lst xs) ∧ OhAll K cl H ds xs ∧ Shp cl S n m ds ∧ ∀ H', Same H H' → Q (.bl true) H'
theorem noLs_all : ∀ {ds : List OD}, noLs ds → ∀ d ∈ ds, noL d
  | [], _, d, h => nomatch h
  | x :: xs, n, d, h => by
    rcases List.mem_cons.mp h with rfl | h
    · exact n.1
    · exact noLs_all n.2 d h
theorem oha_set {K : PySem.W.Frag} {cl : Nat → OCls} {H : Hp} {e : OD} {u : V} (h : Oh K cl H e u) : ∀ {ds : List OD} {ys : List V} (k : Nat), OhAll K cl H ds ys → OhAll K cl H (ds.set k e) (ys.set k u)
  | [], _, _, q => by cases q; rfl
  | d :: ds, _, 0, ⟨v, vs, e', o, q⟩ => by cases e'; exact ⟨u, vs, rfl, h, q⟩
  | d :: ds, _, k + 1, ⟨v, vs, e', o, q⟩ => by cases e'; exact ⟨v, vs.set k u, rfl, o, oha_set h k q⟩
theorem fullK_len : ∀ (ks : List Nat) (ds : List OD), (fullK ks ds).length = ds.length
  | [], ds => rfl
  | k :: ks, ds => by
    show (fullK ks (ds.set k (fill (ds.getD k (.fl .non))))).length = _
    rw [fullK_len ks, List.length_set]
theorem fullK_snoc (ks : List Nat) (k : Nat) (ds : List OD) : fullK (ks ++ [k]) ds = (fullK ks ds).set k (fill ((fullK ks ds).getD k (.fl .non))) := by
  unfold fullK
  rw [List.foldl_append]
  rfl
theorem noL_fill {d : OD} (h : noL d) : noL (fill d) := fill_p (P := noL) h (ok_cO (cl := fun _ => ⟨0, 0, [], 0⟩) []).2
theorem fullK_noL {ds : List OD} (h : noLs ds) : ∀ (ks : List Nat), noLs (fullK ks ds) := by
  have : ∀ (ks : List Nat) (ds : List OD), noLs ds → noLs (fullK ks ds) := by
    intro ks
    induction ks with
    | nil => exact fun ds h => h
    | cons k ks ih =>
      intro ds h
      refine ih _ (noLs_of fun d hd => ?_)
      rcases List.mem_or_eq_of_mem_set hd with hd | rfl
      · exact noLs_all h d hd
      · refine noL_fill ?_
        rw [List.getD_eq_getElem?_getD]
        cases e : ds[k]? with
        | none => exact trivial
        | some d => exact noLs_all h d (List.mem_of_getElem? e)
  exact fun ks => this ks ds h
section
variable {P : Program} {w : World} {K : PySem.W.Frag} {mg : PySem.Str → Option Value} {base : Heap} {C fe : Nat → Addr} {fI fM fC e0 e1 e2 : Addr} {fdI fdM fdC : FuncData}
theorem scFu : FnScope nFu ["_law_parts", "_law_places"] (defScope sFu) := ⟨rfl, rfl, rfl, by decide +kernel, rfl, by decide +kernel, by decide +kernel⟩
theorem ok_full {f : Addr} {fd : FuncData} (F : Fs K mg "_law_full" sFu ["_law_parts", "_law_places"] f fd) (M : CondMk K mg (C 0) fI fdI) (ls : mg "list" = none) : FnOk P w K mg base CX0 8 f fd ["_law_parts", "_law_places"] (spFu K (clk C fe)) := by
  have GI : FnR P w K mg base CX0 6 fI (spInit K (C 0) NoF) := fnR_init0 M.I M.D
  refine F.F.ok scFu (fun vs H Q E h => ?_) (fun cdv A outer s H vs Q E hr h => ?_)
  · obtain ⟨l, q, ds, xs, ks, rfl, _⟩ := h
    rfl
  · obtain ⟨l, q, ds, xs, ks, rfl, hl, hx, hn, hq, hk, go⟩ := h
    refine ⟨_, pss_cons (ps_set (i := 2) scFu.nd rfl (Or.inl rfl) (pe_callTy call_list_of (by rfl) ls (by decide +kernel) (pa_cons (pv 0) pa_nil)))
      (pss_cons (ps_for PassesOwn.never rfl (pi_list (pv 1)) (pg_name (i := 3) scFu.nd rfl (Or.inl rfl)) (pss_one (ps_if (pt_cmpR op_isN (pe_ix ix_list (pv 2) (pv 3) (fun _ _ => rfl)) pe_non (nomark _))
        (pss_one (ps_asg (pe_makeZ (k := 6) (E := E0) M.M GI hr (by rfl) M.D.gC pass0) (pg_sub (pv 2) (pv 3) set_list))) pss_nil))) (pss_one (ps_ret (pv 2)))), ?_⟩
    refine ⟨_, rfl, l, xs, rfl, .inl (SqL.of hl), fun fo hfo => ?_⟩
    have s1 := new_same (o := .lst xs) hfo
    have g1 : (upd H fo (.lst xs)) fo = some (.lst xs) := upd_same
    obtain ⟨H1, eH1⟩ : ∃ H1, upd H fo (.lst xs) = H1 := ⟨_, rfl⟩
    rw [eH1] at s1 g1 ⊢
    refine ⟨_, rfl, q, rfl, ⟨_, SqL.of (s1 _ _ hq)⟩, ?_⟩
    refine for_list (K := K) (a := q) (xs := ks.map fun (k : Nat) => V.int (k : Int)) (fun i σ H' => (∃ v3 : Option V, σ = [some (.ref l), some (.ref q), some (.ref fo), v3]) ∧ Same H H' ∧ ∃ ys, H' fo = some (.lst ys) ∧ OhAll K (clk C fe) H' (fullK (ks.take i) ds) ys)
      ⟨⟨_, rfl⟩, s1, xs, g1, OhAll.sm s1 hx⟩ (fun i σ H' _ h => SqL.of (h.2.1 _ _ hq)) ?_ ?_
    · rintro i x σ H2 hx2 ⟨⟨v3, rfl⟩, s2, ys, g2, oa⟩
      rw [List.getElem?_map] at hx2
      obtain ⟨k, hki, rfl⟩ := Option.map_eq_some_iff.mp hx2
      have hkl : k < (fullK (ks.take i) ds).length := by rw [fullK_len]; exact hk k (List.mem_of_getElem? hki)
      have hyl := OhAll.length _ _ oa
      have hky : k < ys.length := by omega
      obtain ⟨d, hd, od⟩ := ohAll_get _ _ k ys[k] oa (List.getElem?_eq_getElem hky)
      have et : ks.take (i + 1) = ks.take i ++ [k] := by rw [List.take_add_one, hki]; rfl
      have ed : (fullK (ks.take i) ds).getD k (.fl .non) = d := by rw [List.getD_eq_getElem?_getD, hd]; rfl
      refine ⟨_, rfl, _, rfl, fo, ys, (k : Int), ys[k], rfl, rfl, SqL.of g2, ?_, rfl, _, rfl, ?_⟩
      · unfold atI ixN
        rw [if_pos (by omega), if_pos (by omega)]
        show ys[((k : Int)).toNat]? = _
        rw [Int.toNat_natCast, List.getElem?_eq_getElem hky]
      rcases oh_nn od with ⟨hv, hdn⟩ | ⟨hv, hdn⟩
      · rw [decide_eq_true hv]
        refine iteT (makeZ_go (K := K) (C := C 0) (E := E0) (σ := [some (.ref l), some (.ref q), some (.ref fo), some (.int (k : Int))]) fun r dz p q' ys' H3 hF s3 _ => ?_)
        have oc := cond_od (f := fe) hF
        have g3 := s3 _ _ g2
        refine ⟨_, rfl, _, rfl, fo, ys, (k : Int), k, rfl, rfl, g3, by unfold ixN; simp [hky], ⟨_, rfl⟩, same_upd hfo (s2.trans s3), ys.set k (.ref r), upd_same, ?_⟩
        rw [et, fullK_snoc, ed, hdn]
        have kb : KeepB fo H3 (upd H3 fo (.lst (ys.set k (.ref r)))) := KeepB.at
        exact oha_set (Oh.keepB g3 kb _ _ (ok_cO (cl := clk C fe) []).2 oc) k (OhAll.keepB g3 kb _ _ (fullK_noL hn _) (OhAll.sm s3 oa))
      · rw [decide_eq_false hv]
        refine iteF ⟨⟨_, rfl⟩, s2, ys, g2, ?_⟩
        rw [et, fullK_snoc, ed, hdn]
        have : (fullK (ks.take i) ds).set k d = fullK (ks.take i) ds := by
          have e : d = (fullK (ks.take i) ds)[k] := by
            rw [List.getElem?_eq_getElem hkl] at hd
            exact (Option.some.inj hd).symm
          rw [e]
          exact List.set_getElem_self hkl
        rw [this]
        exact oa
    · rintro σ H2 ⟨⟨v3, rfl⟩, s2, ys, g2, oa⟩
      rw [List.length_map, List.take_of_length_le (Nat.le_refl _)] at oa
      exact ⟨_, rfl, go fo ys H2 oa g2 hfo s2⟩
theorem scMth : FnScope ["_law_parts"] ["_law_parts"] (defScope sMe) := ⟨rfl, rfl, rfl, by decide +kernel, rfl, by decide +kernel, by decide +kernel⟩
theorem ok_Mth {f : Addr} {fd : FuncData} (F : Fs K mg "_law_method" sMe ["_law_parts"] f fd) (T : Txt K mg C fe) (N : NeC C) (M : CondMk K mg (C 0) fI fdI) (X : MethMk K mg (C 1) fM fdM) : FnOk P w K mg base CX0 10 f fd ["_law_parts"] (spMd K (clk C fe) 1 4 6 (S0 (clk C fe)) [3, 4]) := by
  have GX : FnOk P w K mg base CX0 8 fM fdM pM (spIn K (clk C fe) 1 4 6 (S0 (clk C fe)) [3, 4]) := ok_inM X.F T N M
  obtain ⟨mv, kb⟩ := kb_m X.F
  refine F.F.ok scMth (fun vs H Q E h => ?_) (fun cdv A outer s H vs Q E hr h => ?_)
  · obtain ⟨l, ds, xs, rfl, _⟩ := h
    rfl
  · obtain ⟨l, ds, xs, rfl, hl, hx, hs, go⟩ := h
    refine ⟨_, pss_one (ps_ret (pe_makeK (n := 3) X.M GX hr (by rfl) X.g kb pass0 (pa_cons (pe_ix ix_list (pv 0) pe_int (fun _ _ => rfl)) (pa_cons (pe_ix ix_list (pv 0) pe_int (fun _ _ => rfl)) (pa_cons (pe_ix ix_list (pv 0) pe_int (fun _ _ => rfl)) pa_nil))) (pk_cons (pe_ix ix_list (pv 0) pe_int (fun _ _ => rfl)) (pk_cons (pe_ix ix_list (pv 0) pe_int (fun _ _ => rfl)) (pk_cons (pe_ix ix_list (pv 0) pe_int (fun _ _ => rfl)) pk_nil))))), ?_⟩
    obtain ⟨d0, d1, d2, d3, d4, d5, v0, v1, v2, v3, v4, v5, rfl, rfl, o0, o1, o2, o3, o4, o5⟩ := ohl6 hs.1 hx
    refine ⟨_, rfl, l, _, 0, v0, rfl, rfl, SqL.of hl, rfl, _, rfl, l, _, 1, v1, rfl, rfl, SqL.of hl, rfl, _, rfl, l, _, 2, v2, rfl, rfl, SqL.of hl, rfl, _, rfl, l, _, 3, v3, rfl, rfl, SqL.of hl, rfl, _, rfl, l, _, 4, v4, rfl, rfl, SqL.of hl, rfl, _, rfl, l, _, 5, v5, rfl, rfl, SqL.of hl, rfl, rfl, rfl, fun x dx nx ndx nex => ?_⟩
    have sm : Same H (upd (upd H dx (.own x)) x (.ins (C 1) dx [])) := fun b u e => by rw [upd_ne (ne_of_none e nx), upd_ne (ne_of_none e ndx)]; exact e
    exact ⟨x, dx, [d0, d1, d2, d3, d4, d5], [v0, v1, v2, v3, v4, v5], rfl, upd_same, (oh_cons (Oh.sm sm o0) (oh_cons (Oh.sm sm o1) (oh_cons (Oh.sm sm o2) (oh_cons (Oh.sm sm o3) (oh_cons (Oh.sm sm o4) (oh_cons (Oh.sm sm o5) oh_nil)))))), hs, fun H5 kp os => ⟨rfl, go x H5 os (same_make nx ndx kp)⟩⟩
theorem scCld : FnScope ["_law_parts"] ["_law_parts"] (defScope sCl) := ⟨rfl, rfl, rfl, by decide +kernel, rfl, by decide +kernel, by decide +kernel⟩
theorem ok_Cld {f : Addr} {fd : FuncData} (F : Fs K mg "_law_class" sCl ["_law_parts"] f fd) (T : Txt K mg C fe) (N : NeC C) (M : CondMk K mg (C 0) fI fdI) (X : ClsMk K mg (C 2) fC e0 e1 e2 fdC) : FnOk P w K mg base CX0 10 f fd ["_law_parts"] (spMd K (clk C fe) 2 6 5 (S1 (clk C fe)) [3]) := by
  have GX : FnOk P w K mg base CX0 8 fC fdC pC (spIn K (clk C fe) 2 6 5 (S1 (clk C fe)) [3]) := ok_inC X.F T N M
  have kb := kb_c X.F
  refine F.F.ok scCld (fun vs H Q E h => ?_) (fun cdv A outer s H vs Q E hr h => ?_)
  · obtain ⟨l, ds, xs, rfl, _⟩ := h
    rfl
  · obtain ⟨l, ds, xs, rfl, hl, hx, hs, go⟩ := h
    refine ⟨_, pss_one (ps_ret (pe_makeK (n := 2) X.M GX hr (by rfl) X.g kb pass0 (pa_cons (pe_ix ix_list (pv 0) pe_int (fun _ _ => rfl)) (pa_cons (pe_ix ix_list (pv 0) pe_int (fun _ _ => rfl)) pa_nil)) (pk_cons (pe_ix ix_list (pv 0) pe_int (fun _ _ => rfl)) (pk_cons (pe_ix ix_list (pv 0) pe_int (fun _ _ => rfl)) (pk_cons (pe_ix ix_list (pv 0) pe_int (fun _ _ => rfl)) pk_nil))))), ?_⟩
    obtain ⟨d0, d1, d2, d3, d4, v0, v1, v2, v3, v4, rfl, rfl, o0, o1, o2, o3, o4⟩ := ohl5 hs.1 hx
    refine ⟨_, rfl, l, _, 0, v0, rfl, rfl, SqL.of hl, rfl, _, rfl, l, _, 1, v1, rfl, rfl, SqL.of hl, rfl, _, rfl, l, _, 2, v2, rfl, rfl, SqL.of hl, rfl, _, rfl, l, _, 3, v3, rfl, rfl, SqL.of hl, rfl, _, rfl, l, _, 4, v4, rfl, rfl, SqL.of hl, rfl, rfl, rfl, fun x dx nx ndx nex => ?_⟩
    have sm : Same H (upd (upd H dx (.own x)) x (.ins (C 2) dx [])) := fun b u e => by rw [upd_ne (ne_of_none e nx), upd_ne (ne_of_none e ndx)]; exact e
    exact ⟨x, dx, [d0, d1, d2, d3, d4], [v0, v1, v2, v3, v4], rfl, upd_same, (oh_cons (Oh.sm sm o0) (oh_cons (Oh.sm sm o1) (oh_cons (Oh.sm sm o2) (oh_cons (Oh.sm sm o3) (oh_cons (Oh.sm sm o4) oh_nil))))), hs, fun H5 kp os => ⟨rfl, go x H5 os (same_make nx ndx kp)⟩⟩
end
mutual
theorem eqo_rf {K : PySem.W.Frag} {cl : Nat → OCls} {H : Hp} : ∀ (d : OD) (v : V), Oh K cl H d v → eqo d d = true
  | .fl w, v, ⟨e, h⟩ => eqV_refl (by rw [← e]; exact e ▸ h)
  | .tup ds, _, ⟨_, xs, _, _, q⟩ => eqoAll_rf ds xs q
  | .lst ds, _, ⟨_, xs, _, _, q⟩ => eqoAll_rf ds xs q
  | .obj k ds, _, ⟨_, _, _, xs, _, _, _, q⟩ => by
    show (k == k && eqoAll ds ds) = true
    rw [beq_self_eq_true, eqoAll_rf ds xs q]
    rfl
theorem eqoAll_rf {K : PySem.W.Frag} {cl : Nat → OCls} {H : Hp} : ∀ (ds : List OD) (xs : List V), OhAll K cl H ds xs → eqoAll ds ds = true
  | [], _, _ => rfl
  | d :: ds, _, ⟨v, vs, _, h, q⟩ => by
    show (eqo d d && eqoAll ds ds) = true
    rw [eqo_rf d v h, eqoAll_rf ds vs q]
    rfl
end
section
variable {P : Program} {w : World} {K : PySem.W.Frag} {mg : PySem.Str → Option Value} {base : Heap} {C fe : Nat → Addr} {fI fM fC e0 e1 e2 : Addr} {fdI fdM fdC : FuncData}
theorem scMR : FnScope ["_law_one_here", "_law_parts"] ["_law_one_here", "_law_parts"] (defScope sMR) := ⟨rfl, rfl, rfl, by decide +kernel, rfl, by decide +kernel, by decide +kernel⟩
theorem ok_MR {f fF : Addr} {fd fdF : FuncData} (F : Fs K mg "_law_method_right" sMR ["_law_one_here", "_law_parts"] f fd) (FF : Fs K mg "_law_full" sFu ["_law_parts", "_law_places"] fF fdF) (T : Txt K mg C fe) (M : CondMk K mg (C 0) fI fdI) (ls : mg "list" = none) (W : OwnCls K (clk C fe) (S0 (clk C fe))) (G : GivesAll P w K mg base (clk C fe) (S0 (clk C fe))) : FnOk P w K mg base CX0 9 f fd ["_law_one_here", "_law_parts"] (spRt K (clk C fe) 1 4 6 (S0 (clk C fe)) [3, 4]) := by
  have GF : FnOk P w K mg base CX0 8 fF fdF ["_law_parts", "_law_places"] (spFu K (clk C fe)) := ok_full FF M ls
  refine F.F.ok scMR (fun vs H Q E h => ?_) (fun cdv A outer s H vs Q E hr h => ?_)
  · obtain ⟨a, l, ds, xs, rfl, _⟩ := h
    rfl
  · obtain ⟨a, l, ds, xs, rfl, ha, hl, hx, hs, go⟩ := h
    have hr5 : Room 5 (A.deeper (envOfC "_law_method_right" (defScope sMR) s.heap.objs.size f cdv)) := hr.mono (by decide)
    refine ⟨_, pss_one (ps_ret (pe_cmpR (op_eqOL (cl := clk C fe) (S := (S0 (clk C fe))) (n := 5) W (G _ rfl rfl rfl rfl rfl) hr5) (pe_lst (pa_cons (pe_fld (pv 0) (by rfl)) (pa_cons (pe_fld (pv 0) (by rfl)) (pa_cons (pe_fld (pv 0) (by rfl)) (pa_cons (pe_fld (pv 0) (by rfl)) (pa_cons (pe_fld (pv 0) (by rfl)) (pa_cons (pe_fld (pv 0) (by rfl)) pa_nil))))))) (pe_call GF hr (by rfl) FF.m FF.F.kp FF.b .nil pass0 (pa_cons (pv 1) (pa_cons (pe_lst (pa_cons pe_int (pa_cons pe_int pa_nil))) pa_nil))) (nomark _))), ?_⟩
    obtain ⟨d0, d1, d2, d3, d4, d5, v0, v1, v2, v3, v4, v5, rfl, rfl, o0, o1, o2, o3, o4, o5⟩ := ohl6 hs.1 hx
    obtain ⟨_, dx, fs, ys, ea, hi, hnm, hys⟩ := id ha
    cases ea
    obtain ⟨c10, c11, c12, c13, c14, c15, u0, u1, u2, u3, u4, u5, ez, l0, l1, l2, l3, l4, l5, p0, p1, p2, p3, p4, p5⟩ := oh6 hnm hys
    injection ez with ez0 ez
    have c0 := T.cls 1 (by decide)
    have n0 := T.no 1 (by decide)
    injection ez with ez1 ez
    injection ez with ez2 ez
    injection ez with ez3 ez
    injection ez with ez4 ez
    injection ez with ez5 ez
    subst ez0 ez1 ez2 ez3 ez4 ez5
    refine ⟨_, rfl, a, C 1, dx, fs, _, rfl, hi, c0, n0 _ (by decide), l0, _, rfl, a, C 1, dx, fs, _, rfl, hi, c0, n0 _ (by decide), l1, _, rfl, a, C 1, dx, fs, _, rfl, hi, c0, n0 _ (by decide), l2, _, rfl, a, C 1, dx, fs, _, rfl, hi, c0, n0 _ (by decide), l3, _, rfl, a, C 1, dx, fs, _, rfl, hi, c0, n0 _ (by decide), l4, _, rfl, a, C 1, dx, fs, _, rfl, hi, c0, n0 _ (by decide), l5, le_sz (Nat.le_of_ble_eq_true rfl), fun l1 h1 => ?_⟩
    have s1 := new_same (o := .lst [u0, u1, u2, u3, u4, u5]) h1
    have g1 : (upd H l1 (.lst [u0, u1, u2, u3, u4, u5])) l1 = some (.lst [u0, u1, u2, u3, u4, u5]) := upd_same
    obtain ⟨H1, eH1⟩ : ∃ H1, upd H l1 (.lst [u0, u1, u2, u3, u4, u5]) = H1 := ⟨_, rfl⟩
    rw [eH1] at s1 g1 ⊢
    refine ⟨_, rfl, le_sz (Nat.le_of_ble_eq_true rfl), fun l2 h2 => ?_⟩
    have s2 := s1.trans (new_same (o := .lst [V.int 3, V.int 4]) h2)
    refine ⟨l, l2, [d0, d1, d2, d3, d4, d5], [v0, v1, v2, v3, v4, v5], [3, 4], rfl, s2 _ _ hl, OhAll.sm s2 hx, (part_all hs.2).2.1, upd_same, by simp, fun fo zs H3 oz gz _ s3 => ?_⟩
    obtain ⟨aa, bb, cc⟩ := part_all (full6 hs).2
    have s13 : Same H1 H3 := (new_same (o := .lst [V.int 3, V.int 4]) h2).trans s3
    refine ⟨[d0, d1, d2, fill d3, fill d4, d5], [d0, d1, d2, fill d3, fill d4, d5], ⟨l1, _, rfl, s13 _ _ g1, OhAll.sm (s1.trans s13) (oh_cons p0 (oh_cons p1 (oh_cons p2 (oh_cons p3 (oh_cons p4 (oh_cons p5 oh_nil))))))⟩, ⟨fo, zs, rfl, gz, oz⟩, aa, aa, Nat.succ_le_succ cc, Nat.succ_le_succ cc, fun H4 e4 => ?_⟩
    rw [show eqoAll [d0, d1, d2, fill d3, fill d4, d5] [d0, d1, d2, fill d3, fill d4, d5] = true from eqoAll_rf _ _ oz]
    exact go H4 ((s2.trans s3).trans e4)
theorem scCR : FnScope ["_law_one_here", "_law_parts"] ["_law_one_here", "_law_parts"] (defScope sCR) := ⟨rfl, rfl, rfl, by decide +kernel, rfl, by decide +kernel, by decide +kernel⟩
theorem ok_CR {f fF : Addr} {fd fdF : FuncData} (F : Fs K mg "_law_class_right" sCR ["_law_one_here", "_law_parts"] f fd) (FF : Fs K mg "_law_full" sFu ["_law_parts", "_law_places"] fF fdF) (T : Txt K mg C fe) (M : CondMk K mg (C 0) fI fdI) (ls : mg "list" = none) (W : OwnCls K (clk C fe) (S1 (clk C fe))) (G : GivesAll P w K mg base (clk C fe) (S1 (clk C fe))) : FnOk P w K mg base CX0 9 f fd ["_law_one_here", "_law_parts"] (spRt K (clk C fe) 2 6 5 (S1 (clk C fe)) [3]) := by
  have GF : FnOk P w K mg base CX0 8 fF fdF ["_law_parts", "_law_places"] (spFu K (clk C fe)) := ok_full FF M ls
  refine F.F.ok scCR (fun vs H Q E h => ?_) (fun cdv A outer s H vs Q E hr h => ?_)
  · obtain ⟨a, l, ds, xs, rfl, _⟩ := h
    rfl
  · obtain ⟨a, l, ds, xs, rfl, ha, hl, hx, hs, go⟩ := h
    have hr7 : Room 7 (A.deeper (envOfC "_law_class_right" (defScope sCR) s.heap.objs.size f cdv)) := hr.mono (by decide)
    refine ⟨_, pss_one (ps_ret (pe_cmpR (op_eqOL (cl := clk C fe) (S := (S1 (clk C fe))) (n := 7) W (G _ rfl rfl rfl rfl rfl) hr7) (pe_lst (pa_cons (pe_fld (pv 0) (by rfl)) (pa_cons (pe_fld (pv 0) (by rfl)) (pa_cons (pe_fld (pv 0) (by rfl)) (pa_cons (pe_fld (pv 0) (by rfl)) (pa_cons (pe_fld (pv 0) (by rfl)) pa_nil)))))) (pe_call GF hr (by rfl) FF.m FF.F.kp FF.b .nil pass0 (pa_cons (pv 1) (pa_cons (pe_lst (pa_cons pe_int pa_nil)) pa_nil))) (nomark _))), ?_⟩
    obtain ⟨d0, d1, d2, d3, d4, v0, v1, v2, v3, v4, rfl, rfl, o0, o1, o2, o3, o4⟩ := ohl5 hs.1 hx
    obtain ⟨_, dx, fs, ys, ea, hi, hnm, hys⟩ := id ha
    cases ea
    obtain ⟨c10, c11, c12, c13, c14, u0, u1, u2, u3, u4, ez, l0, l1, l2, l3, l4, p0, p1, p2, p3, p4⟩ := oh5 hnm hys
    injection ez with ez0 ez
    have c0 := T.cls 2 (by decide)
    have n0 := T.no 2 (by decide)
    injection ez with ez1 ez
    injection ez with ez2 ez
    injection ez with ez3 ez
    injection ez with ez4 ez
    subst ez0 ez1 ez2 ez3 ez4
    refine ⟨_, rfl, a, C 2, dx, fs, _, rfl, hi, c0, n0 _ (by decide), l0, _, rfl, a, C 2, dx, fs, _, rfl, hi, c0, n0 _ (by decide), l1, _, rfl, a, C 2, dx, fs, _, rfl, hi, c0, n0 _ (by decide), l2, _, rfl, a, C 2, dx, fs, _, rfl, hi, c0, n0 _ (by decide), l3, _, rfl, a, C 2, dx, fs, _, rfl, hi, c0, n0 _ (by decide), l4, le_sz (Nat.le_of_ble_eq_true rfl), fun l1 h1 => ?_⟩
    have s1 := new_same (o := .lst [u0, u1, u2, u3, u4]) h1
    have g1 : (upd H l1 (.lst [u0, u1, u2, u3, u4])) l1 = some (.lst [u0, u1, u2, u3, u4]) := upd_same
    obtain ⟨H1, eH1⟩ : ∃ H1, upd H l1 (.lst [u0, u1, u2, u3, u4]) = H1 := ⟨_, rfl⟩
    rw [eH1] at s1 g1 ⊢
    refine ⟨_, rfl, le_sz (Nat.le_of_ble_eq_true rfl), fun l2 h2 => ?_⟩
    have s2 := s1.trans (new_same (o := .lst [V.int 3]) h2)
    refine ⟨l, l2, [d0, d1, d2, d3, d4], [v0, v1, v2, v3, v4], [3], rfl, s2 _ _ hl, OhAll.sm s2 hx, (part_all hs.2).2.1, upd_same, by simp, fun fo zs H3 oz gz _ s3 => ?_⟩
    obtain ⟨aa, bb, cc⟩ := part_all (full5 hs).2
    have s13 : Same H1 H3 := (new_same (o := .lst [V.int 3]) h2).trans s3
    refine ⟨[d0, d1, d2, fill d3, d4], [d0, d1, d2, fill d3, d4], ⟨l1, _, rfl, s13 _ _ g1, OhAll.sm (s1.trans s13) (oh_cons p0 (oh_cons p1 (oh_cons p2 (oh_cons p3 (oh_cons p4 oh_nil)))))⟩, ⟨fo, zs, rfl, gz, oz⟩, aa, aa, Nat.succ_le_succ cc, Nat.succ_le_succ cc, fun H4 e4 => ?_⟩
    rw [show eqoAll [d0, d1, d2, fill d3, d4] [d0, d1, d2, fill d3, d4] = true from eqoAll_rf _ _ oz]
    exact go H4 ((s2.trans s3).trans e4)
end
end Kx
set_option linter.all false
namespace Kx
open PySem L2 PySem.Spec PyProof.Rows
open StX (pe_makeR tMakeR)
abbrev sLaw : Stmt := top 39
abbrev nL : List PySem.Str := ["_law_script", "_law_cell", "_law_well_here", "_law_parts", "_law_others", "_law_one_here", "_law_other", "_law_its", "_law_more", "_law_first", "_law_second", "_law_bare"]
structure LawOf (K : PySem.W.Frag) (mg : PySem.Str → Option Value) (C fe : Nat → Addr) (fI fM fC e0 e1 e2 : Addr) (fdI fdM fdC : FuncData) : Prop where
  T : Txt K mg C fe
  N : NeC C
  M : CondMk K mg (C 0) fI fdI
  MX : MethMk K mg (C 1) fM fdM
  CX : ClsMk K mg (C 2) fC e0 e1 e2 fdC
  D : Drw K mg
  ls : mg "list" = none
  nn : ∀ k, k < 3 → NoNe K (C k)
  z0 : ∀ H, SqT K H e0 []
  z1 : ∀ H, SqT K H e1 []
  z2 : ∀ H, SqT K H e2 []
  cond : ∃ f fd, Fs K mg "_law_cond" sCond ["_law_well_here"] f fd
  mp : ∃ f fd, Fs K mg "_law_method_parts" sMP ["_law_well_here"] f fd
  me : ∃ f fd, Fs K mg "_law_method" sMe ["_law_parts"] f fd
  cp : ∃ f fd, Fs K mg "_law_class_parts" sCP ["_law_well_here", "_law_method_here"] f fd
  cl : ∃ f fd, Fs K mg "_law_class" sCl ["_law_parts"] f fd
  fu : ∃ f fd, Fs K mg "_law_full" sFu ["_law_parts", "_law_places"] f fd
  mr : ∃ f fd, Fs K mg "_law_method_right" sMR ["_law_one_here", "_law_parts"] f fd
  cr : ∃ f fd, Fs K mg "_law_class_right" sCR ["_law_one_here", "_law_parts"] f fd
  q0 : ∃ fd, Fun K "__eq__" "Cond.__eq__" sEq0 (fe 0) fd ∧ Binds K fd ["self", "other"] []
  q1 : ∃ fd, Fun K "__eq__" "Method.__eq__" sEq1 (fe 1) fd ∧ Binds K fd ["self", "other"] []
  q2 : ∃ fd, Fun K "__eq__" "ClassDef.__eq__" sEq2 (fe 2) fd ∧ Binds K fd ["self", "other"] []
theorem cut_mem {xs : List V} {lo hi : Option Int} : ∀ v ∈ cutV xs lo hi, v ∈ xs := fun v h => List.mem_of_mem_drop (List.mem_of_mem_take h)
section
variable {P : Program} {w : World} {K : PySem.W.Frag} {mg : PySem.Str → Option Value} {base : Heap} {C fe : Nat → Addr} {fI fM fC e0 e1 e2 : Addr} {fdI fdM fdC : FuncData}
theorem wN (T : Txt K mg C fe) : OwnCls K (clk C fe) Sn := own_up T.W (fun _ _ h => h.elim)
theorem w0 (T : Txt K mg C fe) : OwnCls K (clk C fe) (S0 (clk C fe)) := own_up T.W (fun _ _ h => .inl (.inl h))
theorem w1 (T : Txt K mg C fe) : OwnCls K (clk C fe) (S1 (clk C fe)) := own_up T.W (fun _ _ h => .inl h)
theorem gives0 (M : LawOf K mg C fe fI fM fC e0 e1 e2 fdI fdM fdC) : GivesAll P w K mg base (clk C fe) (S0 (clk C fe)) := by
  intro X h1 h2 h3 h4 h5
  subst h1 h2 h3 h4 h5
  intro k ds hk A pins s σ H a e y v sb I ry h he oD oE
  obtain ⟨fd, F, b⟩ := M.q0
  have k0 : k = 0 := hk.1
  subst k0
  exact own_run (E := E0) (ok_eq0 F M.T (fun _ _ => s0_lt) (w0 M.T) (fun _ h => h.2) (wN M.T) givesN M.M.D.gC) b pass0 hk sb I ry h he oD oE
theorem gives1 (M : LawOf K mg C fe fI fM fC e0 e1 e2 fdI fdM fdC) : GivesAll P w K mg base (clk C fe) (S1 (clk C fe)) := by
  intro X h1 h2 h3 h4 h5
  subst h1 h2 h3 h4 h5
  intro k ds hk A pins s σ H a e y v sb I ry h he oD oE
  have G0 : GivesAll X.prog X.w X.K X.mg X.base (clk C fe) (S0 (clk C fe)) := gives0 M
  have k01 : k = 0 ∨ k = 1 := by
    rcases hk with h | h
    · exact .inl h.1
    · exact .inr h.1
  rcases k01 with rfl | rfl
  · obtain ⟨fd, F, b⟩ := M.q0
    exact own_run (E := E0) (ok_eq0 F M.T (fun _ _ => s1_lt) (w1 M.T) (fun _ => s1_0) (wN M.T) givesN M.M.D.gC) b pass0 hk sb I ry h he oD oE
  · obtain ⟨fd, F, b⟩ := M.q1
    exact own_run (E := E0) (ok_eq1 F M.T (fun _ _ => s1_lt) (w1 M.T) (fun _ => s1_1) (w0 M.T) G0 M.MX.g) b pass0 hk sb I ry h he oD oE
theorem gives2 (M : LawOf K mg C fe fI fM fC e0 e1 e2 fdI fdM fdC) : GivesAll P w K mg base (clk C fe) (S2 (clk C fe)) := by
  intro X h1 h2 h3 h4 h5
  subst h1 h2 h3 h4 h5
  intro k ds hk A pins s σ H a e y v sb I ry h he oD oE
  have G0 : GivesAll X.prog X.w X.K X.mg X.base (clk C fe) (S0 (clk C fe)) := gives0 M
  have G1 : GivesAll X.prog X.w X.K X.mg X.base (clk C fe) (S1 (clk C fe)) := gives1 M
  have k3 := s2_lt hk
  have k012 : k = 0 ∨ k = 1 ∨ k = 2 := by omega
  rcases k012 with rfl | rfl | rfl
  · obtain ⟨fd, F, b⟩ := M.q0
    exact own_run (E := E0) (ok_eq0 F M.T (fun _ _ => s2_lt) M.T.W (fun _ => s2_0) (wN M.T) givesN M.M.D.gC) b pass0 hk sb I ry h he oD oE
  · obtain ⟨fd, F, b⟩ := M.q1
    exact own_run (E := E0) (ok_eq1 F M.T (fun _ _ => s2_lt) M.T.W (fun _ => s2_1) (w0 M.T) G0 M.MX.g) b pass0 hk sb I ry h he oD oE
  · obtain ⟨fd, F, b⟩ := M.q2
    exact own_run (E := E0) (ok_eq2 F M.T (fun _ _ => s2_lt) M.T.W (fun _ => s2_2) (w1 M.T) G1 M.CX.g) b pass0 hk sb I ry h he oD oE
theorem scL : FnScope nL ["_law_script"] (defScope sLaw) := ⟨rfl, rfl, rfl, by decide +kernel, rfl, by decide +kernel, by decide +kernel⟩
theorem law_body {a : Addr} {ns : List Int} (M : LawOf K mg C fe fI fM fC e0 e1 e2 fdI fdM fdC) (f : Addr) (cdv : Value) (A : Around) (outer : List Env) (s : Shared) (H : Hp) (E : XK) (hr : Room 10 (A.deeper (envOfC "law" (defScope sLaw) s.heap.objs.size f cdv)))
    (hS : SqL K H a (ns.map V.int)) (hn : ns.length ≤ 63) : ∃ t, PSs (cxOf CX0 P w K mg base nL "law" (defScope sLaw) f cdv A outer s H E).nox (defBody sLaw) t ∧ t { nx := fun _ _ => V.non = V.bl true, rt := fun v _ => v = V.bl true } (start nL [.ref a]) H := by
  obtain ⟨_, _, dW⟩ := M.D.well
  obtain ⟨_, _, dMP⟩ := M.mp
  obtain ⟨_, _, dMe⟩ := M.me
  obtain ⟨_, _, dCP⟩ := M.cp
  obtain ⟨_, _, dCl⟩ := M.cl
  obtain ⟨_, _, dFu⟩ := M.fu
  obtain ⟨_, _, dMR⟩ := M.mr
  obtain ⟨_, _, dCR⟩ := M.cr
  obtain ⟨_, _, dCo⟩ := M.cond
  obtain ⟨_, kM1⟩ := kb_m1 M.MX.F
  obtain ⟨_, kC2⟩ := kb_c2 M.CX.F
  obtain ⟨_, vC0, bC0⟩ := kb_c0 M.CX.F
  have G0 : GivesAll P w K mg base (clk C fe) (S0 (clk C fe)) := gives0 M
  have G1 : GivesAll P w K mg base (clk C fe) (S1 (clk C fe)) := gives1 M
  have GS : GivesAll P w K mg base (clk C fe) (S2 (clk C fe)) := gives2 M
  have GI : FnR P w K mg base CX0 6 fI (spInit K (C 0) NoF) := fnR_init0 M.M.I M.M.D
  have GW : FnOk P w K mg base CX0 1 _ _ ["_law_cell"] spWell := ok_well dW.F M.D.T
  have GMP : FnOk P w K mg base CX0 9 _ _ ["_law_well_here"] (spMP K (clk C fe)) := ok_mp dMP M.M M.D dCo
  have GCP : FnOk P w K mg base CX0 9 _ _ ["_law_well_here", "_law_method_here"] (spCP K (clk C fe)) := ok_cp dCP M.M M.D dCo
  have GMe : FnOk P w K mg base CX0 10 _ _ ["_law_parts"] (spMd K (clk C fe) 1 4 6 (S0 (clk C fe)) [3, 4]) := ok_Mth dMe M.T M.N M.M M.MX
  have GCl : FnOk P w K mg base CX0 10 _ _ ["_law_parts"] (spMd K (clk C fe) 2 6 5 (S1 (clk C fe)) [3]) := ok_Cld dCl M.T M.N M.M M.CX
  have GFu : FnOk P w K mg base CX0 8 _ _ ["_law_parts", "_law_places"] (spFu K (clk C fe)) := ok_full dFu M.M M.ls
  have GMR : FnOk P w K mg base CX0 9 _ _ ["_law_one_here", "_law_parts"] (spRt K (clk C fe) 1 4 6 (S0 (clk C fe)) [3, 4]) := ok_MR dMR dFu M.T M.M M.ls (w0 M.T) G0
  have GCR : FnOk P w K mg base CX0 9 _ _ ["_law_one_here", "_law_parts"] (spRt K (clk C fe) 2 6 5 (S1 (clk C fe)) [3]) := ok_CR dCR dFu M.T M.M M.ls (w1 M.T) G1
  have GM : FnOk P w K mg base CX0 8 fM fdM pM (spIn K (clk C fe) 1 4 6 (S0 (clk C fe)) [3, 4]) := ok_inM M.MX.F M.T M.N M.M
  have GC : FnOk P w K mg base CX0 8 fC fdC pC (spIn K (clk C fe) 2 6 5 (S1 (clk C fe)) [3]) := ok_inC M.CX.F M.T M.N M.M
  have hr1 : Room 1 _ := hr.mono (by decide)
  have hr7 : Room 7 _ := hr.mono (by decide)
  have hr8 : Room 8 _ := hr.mono (by decide)
  have hr9 : Room 9 _ := hr.mono (by decide)
  have hr10 := hr
  refine ⟨_, (pss_cons (ps_for PassesOwn.never rfl (pi_list (pe_op op_cat (pe_slice sl_list (pv 0) po_none (po_some pe_int)) (pe_lst (pa_cons pe_int pa_nil)))) (pg_name (i := 1) scL.nd rfl (Or.inl rfl)) (pss_cons (ps_set (i := 2) scL.nd rfl (Or.inl rfl) (pe_call GW hr1 (by rfl) dW.m dW.F.kp dW.b .nil pass0 (pa_cons (pv 1) pa_nil))) (pss_cons (ps_par (i := 3) (j := 4) rfl scL.nd rfl rfl (by decide) rfl rfl (pa_cons (pe_call GMP hr9 (by rfl) dMP.m dMP.F.kp dMP.b .nil pass0 (pa_cons (pv 2) pa_nil)) (pa_cons (pe_call GMP hr9 (by rfl) dMP.m dMP.F.kp dMP.b .nil pass0 (pa_cons (pv 2) pa_nil)) pa_nil)) (by rfl)) (pss_cons (ps_par (i := 5) (j := 6) rfl scL.nd rfl rfl (by decide) rfl rfl (pa_cons (pe_call GMe hr10 (by rfl) dMe.m dMe.F.kp dMe.b .nil pass0 (pa_cons (pv 3) pa_nil)) (pa_cons (pe_call GMe hr10 (by rfl) dMe.m dMe.F.kp dMe.b .nil pass0 (pa_cons (pv 4) pa_nil)) pa_nil)) (by rfl)) (pss_cons (ps_if (PW.pt (pw_or (pt_not (pt_val (pe_call GMR hr9 (by rfl) dMR.m dMR.F.kp dMR.b .nil pass0 (pa_cons (pv 5) (pa_cons (pv 3) pa_nil))))) (pw_or (pt_not (pt_val (pe_call GMR hr9 (by rfl) dMR.m dMR.F.kp dMR.b .nil pass0 (pa_cons (pv 6) (pa_cons (pv 4) pa_nil))))) (pw_or1 (pt_cmpR (op_neOO (cl := clk C fe) (S := S2 (clk C fe)) (n := 7) M.T.W (GS _ rfl rfl rfl rfl rfl) hr8) (pv 5) (pe_call GMe hr10 (by rfl) dMe.m dMe.F.kp dMe.b .nil pass0 (pa_cons (pv 3) pa_nil)) (nomark _)))))) (pss_one (ps_ret pe_bl)) pss_nil) (pss_cons (ps_if (pt_cmpR op_ne (pe_cmpR (op_eqO (cl := clk C fe) (S := S2 (clk C fe)) (n := 7) M.T.W (GS _ rfl rfl rfl rfl rfl) hr7) (pv 5) (pv 6) (nomark _)) (pe_cmpR (op_eqOL (cl := clk C fe) (S := S2 (clk C fe)) (n := 7) M.T.W (GS _ rfl rfl rfl rfl rfl) hr7) (pe_call GFu hr8 (by rfl) dFu.m dFu.F.kp dFu.b .nil pass0 (pa_cons (pv 3) (pa_cons (pe_lst (pa_cons pe_int (pa_cons pe_int pa_nil))) pa_nil))) (pe_call GFu hr8 (by rfl) dFu.m dFu.F.kp dFu.b .nil pass0 (pa_cons (pv 4) (pa_cons (pe_lst (pa_cons pe_int (pa_cons pe_int pa_nil))) pa_nil))) (nomark _)) (nomark _)) (pss_one (ps_ret pe_bl)) pss_nil) (pss_cons (ps_par (i := 7) (j := 8) rfl scL.nd rfl rfl (by decide) rfl rfl (pa_cons (pe_call GCP hr9 (by rfl) dCP.m dCP.F.kp dCP.b .nil pass0 (pa_cons (pv 2) (pa_cons (pv 5) pa_nil))) (pa_cons (pe_call GCP hr9 (by rfl) dCP.m dCP.F.kp dCP.b .nil pass0 (pa_cons (pv 2) (pa_cons (pv 6) pa_nil))) pa_nil)) (by rfl)) (pss_cons (ps_par (i := 9) (j := 10) rfl scL.nd rfl rfl (by decide) rfl rfl (pa_cons (pe_call GCl hr10 (by rfl) dCl.m dCl.F.kp dCl.b .nil pass0 (pa_cons (pv 7) pa_nil)) (pa_cons (pe_call GCl hr10 (by rfl) dCl.m dCl.F.kp dCl.b .nil pass0 (pa_cons (pv 8) pa_nil)) pa_nil)) (by rfl)) (pss_cons (ps_if (PW.pt (pw_or (pt_not (pt_val (pe_call GCR hr9 (by rfl) dCR.m dCR.F.kp dCR.b .nil pass0 (pa_cons (pv 9) (pa_cons (pv 7) pa_nil))))) (pw_or (pt_not (pt_val (pe_call GCR hr9 (by rfl) dCR.m dCR.F.kp dCR.b .nil pass0 (pa_cons (pv 10) (pa_cons (pv 8) pa_nil))))) (pw_or1 (pt_cmpR (op_neOO (cl := clk C fe) (S := S2 (clk C fe)) (n := 7) M.T.W (GS _ rfl rfl rfl rfl rfl) hr8) (pv 9) (pe_call GCl hr10 (by rfl) dCl.m dCl.F.kp dCl.b .nil pass0 (pa_cons (pv 7) pa_nil)) (nomark _)))))) (pss_one (ps_ret pe_bl)) pss_nil) (pss_one (ps_if (PW.pt (pw_or (pt_cmpR op_ne (pe_cmpR (op_eqO (cl := clk C fe) (S := S2 (clk C fe)) (n := 7) M.T.W (GS _ rfl rfl rfl rfl rfl) hr7) (pv 9) (pv 10) (nomark _)) (pe_cmpR (op_eqOL (cl := clk C fe) (S := S2 (clk C fe)) (n := 7) M.T.W (GS _ rfl rfl rfl rfl rfl) hr7) (pe_call GFu hr8 (by rfl) dFu.m dFu.F.kp dFu.b .nil pass0 (pa_cons (pv 7) (pa_cons (pe_lst (pa_cons pe_int pa_nil)) pa_nil))) (pe_call GFu hr8 (by rfl) dFu.m dFu.F.kp dFu.b .nil pass0 (pa_cons (pv 8) (pa_cons (pe_lst (pa_cons pe_int pa_nil)) pa_nil))) (nomark _)) (nomark _)) (pw_or (pt_cmpR (op_eqO (cl := clk C fe) (S := S2 (clk C fe)) (n := 7) M.T.W (GS _ rfl rfl rfl rfl rfl) hr7) (pv 9) (pv 5) (nomark _)) (pw_or1 (pt_cmpR (op_eqO (cl := clk C fe) (S := S2 (clk C fe)) (n := 7) M.T.W (GS _ rfl rfl rfl rfl rfl) hr7) (pv 5) (pv 9) (nomark _)))))) (pss_one (ps_ret pe_bl)) pss_nil))))))))))) (pss_cons (ps_set (i := 11) scL.nd rfl (Or.inl rfl) (pe_makeK (n := 3) M.MX.M GM hr9 (by rfl) M.MX.g kM1 pass0 (pa_cons pe_str (pa_cons (pe_tup pa_nil) (pa_cons pe_str pa_nil))) (pk_cons (pe_tup (pa_cons pe_str pa_nil)) pk_nil))) (pss_cons (ps_if (PW.pt (pw_or (pt_cmpR (op_neOO (cl := clk C fe) (S := S2 (clk C fe)) (n := 7) M.T.W (GS _ rfl rfl rfl rfl rfl) hr8) (pe_fld (pv 11) (by rfl)) (pe_makeZ (k := 6) (E := E0) M.M.M GI hr7 (by rfl) M.M.D.gC pass0) (nomark _)) (pw_or (pt_cmpR (op_neOO (cl := clk C fe) (S := S2 (clk C fe)) (n := 7) M.T.W (GS _ rfl rfl rfl rfl rfl) hr8) (pe_fld (pv 11) (by rfl)) (pe_makeZ (k := 6) (E := E0) M.M.M GI hr7 (by rfl) M.M.D.gC pass0) (nomark _)) (pw_or1 (pt_cmpR (op_neOO (cl := clk C fe) (S := S2 (clk C fe)) (n := 7) M.T.W (GS _ rfl rfl rfl rfl rfl) hr8) (pe_make M.CX.M GC hr9 (by rfl) M.CX.g bC0 vC0 pass0 (pa_cons pe_str pa_nil)) (pe_makeK (n := 2) M.CX.M GC hr9 (by rfl) M.CX.g kC2 pass0 (pa_cons pe_str (pa_cons (pe_tup pa_nil) pa_nil)) (pk_cons (pe_tup pa_nil) (pk_cons (pe_tup pa_nil) pk_nil))) (nomark _)))))) (pss_one (ps_ret pe_bl)) pss_nil) (pss_one (ps_ret (pe_and (pe_cmpR (op_eqO (cl := clk C fe) (S := S2 (clk C fe)) (n := 7) M.T.W (GS _ rfl rfl rfl rfl rfl) hr7) (pe_fld (pe_make M.CX.M GC hr9 (by rfl) M.CX.g bC0 vC0 pass0 (pa_cons pe_str pa_nil)) (by rfl)) (pe_makeZ (k := 6) (E := E0) M.M.M GI hr7 (by rfl) M.M.D.gC pass0) (nomark _)) (pe_and (pe_cmpR (op_eqO (cl := clk C fe) (S := S2 (clk C fe)) (n := 7) M.T.W (GS _ rfl rfl rfl rfl rfl) hr7) (pe_fld (pe_make M.CX.M GC hr9 (by rfl) M.CX.g bC0 vC0 pass0 (pa_cons pe_str pa_nil)) (by rfl)) (pe_tup pa_nil) (nomark _)) (pe_one (pe_cmpR (op_eqO (cl := clk C fe) (S := S2 (clk C fe)) (n := 7) M.T.W (GS _ rfl rfl rfl rfl rfl) hr7) (pe_fld (pe_make M.CX.M GC hr9 (by rfl) M.CX.g bC0 vC0 pass0 (pa_cons pe_str pa_nil)) (by rfl)) (pe_tup pa_nil) (nomark _)))))))))), ?_⟩
  have hc : ∀ v ∈ cutV (ns.map V.int) none (some 10) ++ [V.int 0], ∃ c, v = V.int c := by
    intro v hv
    rcases List.mem_append.mp hv with h | h
    · obtain ⟨c, _, e⟩ := List.mem_map.mp (cut_mem v h)
      exact ⟨c, e.symm⟩
    · exact ⟨0, by simpa using h⟩
  have hcl : (cutV (ns.map V.int) none (some 10)).length ≤ 63 := Nat.le_trans (cutV_length _ _ _) (by rw [List.length_map]; exact hn)
  refine ⟨_, rfl, _, rfl, a, _, rfl, hS, fun l0 n0 => ?_⟩
  refine ⟨by show 1 ≤ sizeLine; decide, fun l1 n1 => ?_⟩
  have e01 : l0 ≠ l1 := ne_of_none (o := .lst (cutV (ns.map V.int) none (some 10))) upd_same n1
  refine ⟨l0, l1, _, _, rfl, rfl, (by rw [upd_ne e01]; exact upd_same), upd_same, (Nat.le_of_lt (small1000 (by show _ + 1 ≤ 1000; omega))), fun l2 n2 => ?_⟩
  refine ⟨l2, rfl, ⟨_, SqL.of upd_same⟩, ?_⟩
  refine for_list (K := K) (a := l2) (xs := cutV (ns.map V.int) none (some 10) ++ [V.int 0])
    (fun i σ H2 => ∃ o1 o2 o3 o4 o5 o6 o7 o8 o9 o10 : Option V, σ = [some (.ref a), o1, o2, o3, o4, o5, o6, o7, o8, o9, o10, none] ∧ H2 l2 = some (.lst (cutV (ns.map V.int) none (some 10) ++ [V.int 0])))
    ⟨none, none, none, none, none, none, none, none, none, none, rfl, upd_same⟩ (fun i σ H2 _ ⟨_, _, _, _, _, _, _, _, _, _, _, h2⟩ => SqL.of h2) ?_ ?_
  · rintro i y σ H2 hi ⟨o1, o2, o3, o4, o5, o6, o7, o8, o9, o10, rfl, h2⟩
    obtain ⟨c, rfl⟩ := hc y (List.mem_of_getElem? hi)
    refine ⟨_, rfl, c, rfl, fun wl H3 nw s3 hW => ?_⟩
    have nl2 : l2 ≠ wl := ne_of_none h2 nw
    have Wx4 := hW
    obtain ⟨ms4, hp4⟩ := Wx4.lst
    refine ⟨_, rfl, wl, _, rfl, Wx4, by omega, fun D4 X4 L4 H4 sh4 oh4 g4 n4 k4 W4 => ?_⟩
    have nL4 : L4 ≠ wl := Wx4.ne n4
    have Wx5 := W4
    obtain ⟨ms5, hp5⟩ := Wx5.lst
    refine ⟨_, rfl, wl, _, rfl, Wx5, by omega, fun D5 X5 L5 H5 sh5 oh5 g5 n5 k5 W5 => ⟨_, _, rfl, ?_⟩⟩
    have nL5 : L5 ≠ wl := Wx5.ne n5
    refine ⟨_, rfl, L4, D4, X4, rfl, (k5 _ _ nL4 g4), (OhAll.keepB hp5 k5 _ _ (part_all sh4.2).2.1 oh4), sh4, fun a6 H6 o6 s6 => ?_⟩
    refine ⟨_, rfl, L5, D5, X5, rfl, (s6 _ _ g5), (OhAll.sm s6 oh5), sh5, fun a7 H7 o7 s7 => ⟨_, _, rfl, ?_⟩⟩
    refine ⟨_, rfl, _, rfl, a6, L4, D4, X4, rfl, (Oh.sm s7 o6), ((s6.trans s7) _ _ (k5 _ _ nL4 g4)), (OhAll.sm (s6.trans s7) (OhAll.keepB hp5 k5 _ _ (part_all sh4.2).2.1 oh4)), sh4, fun H8 s8 => ⟨_, rfl, iteF ?_⟩⟩
    refine ⟨_, rfl, _, rfl, a7, L5, D5, X5, rfl, (Oh.sm s8 o7), (((s6.trans s7).trans s8) _ _ g5), (OhAll.sm ((s6.trans s7).trans s8) oh5), sh5, fun H9 s9 => ⟨_, rfl, iteF ?_⟩⟩
    refine ⟨_, rfl, _, rfl, L4, D4, X4, rfl, ((((s6.trans s7).trans s8).trans s9) _ _ (k5 _ _ nL4 g4)), (OhAll.sm (((s6.trans s7).trans s8).trans s9) (OhAll.keepB hp5 k5 _ _ (part_all sh4.2).2.1 oh4)), sh4, fun a10 H10 o10 s10 => ?_⟩
    refine ⟨1, (fullK [3, 4] D4), .obj 1 (fullK [3, 4] D4), (Oh.sm (((s7.trans s8).trans s9).trans s10) o6), o10, (up12 (m_ok (full6 sh4)).1), (up12 (m_ok (full6 sh4)).1), (by show 5 ≤ 7; decide), M.nn 1 (by decide), fun H11 e11 => ⟨_, rfl, ?_⟩⟩
    rw [show (!eqo (.obj 1 (fullK [3, 4] D4)) (.obj 1 (fullK [3, 4] D4))) = false from by rw [eqo_rf _ _ o10]; rfl]
    refine iteF ?_
    refine ⟨_, rfl, _, rfl, .obj 1 (fullK [3, 4] D4), .obj 1 (fullK [3, 4] D5), (Oh.sm ((((s7.trans s8).trans s9).trans s10).trans e11) o6), (Oh.sm (((s8.trans s9).trans s10).trans e11) o7), (up12 (m_ok (full6 sh4)).1), (up12 (m_ok (full6 sh5)).1), by show 5 ≤ 7; decide, by show 5 ≤ 7; decide, trivial, trivial, fun H12 e12 => ?_⟩
    refine ⟨_, rfl, le_sz (Nat.le_of_ble_eq_true rfl), fun q13 hq13 => ?_⟩
    have sq13 := new_same (o := .lst [V.int 3, V.int 4]) hq13
    refine ⟨L4, q13, D4, X4, [3, 4], rfl, ((((((((s6.trans s7).trans s8).trans s9).trans s10).trans e11).trans e12).trans sq13) _ _ (k5 _ _ nL4 g4)), (OhAll.sm (((((((s6.trans s7).trans s8).trans s9).trans s10).trans e11).trans e12).trans sq13) (OhAll.keepB hp5 k5 _ _ (part_all sh4.2).2.1 oh4)), (part_all sh4.2).2.1, upd_same, (by rw [sh4.1]; decide), fun f13 Z13 H13 oz13 gz13 _ s13 => ?_⟩
    refine ⟨_, rfl, le_sz (Nat.le_of_ble_eq_true rfl), fun q14 hq14 => ?_⟩
    have sq14 := new_same (o := .lst [V.int 3, V.int 4]) hq14
    refine ⟨L5, q14, D5, X5, [3, 4], rfl, ((((((((((s6.trans s7).trans s8).trans s9).trans s10).trans e11).trans e12).trans sq13).trans s13).trans sq14) _ _ g5), (OhAll.sm (((((((((s6.trans s7).trans s8).trans s9).trans s10).trans e11).trans e12).trans sq13).trans s13).trans sq14) oh5), (part_all sh5.2).2.1, upd_same, (by rw [sh5.1]; decide), fun f14 Z14 H14 oz14 gz14 _ s14 => ?_⟩
    refine ⟨(fullK [3, 4] D4), (fullK [3, 4] D5), ⟨f13, Z13, rfl, ((sq14.trans s14) _ _ gz13), (OhAll.sm (sq14.trans s14) oz13)⟩, ⟨f14, Z14, rfl, gz14, oz14⟩, (okAll_mono (fun _ _ z => .inl (.inl z)) _ (part_all (full6 sh4).2).1), (okAll_mono (fun _ _ z => .inl (.inl z)) _ (part_all (full6 sh5).2).1), (by have := (part_all (full6 sh4).2).2.2; omega), (by have := (part_all (full6 sh5).2).2.2; omega), fun H15 e15 => ⟨rfl, _, rfl, ?_⟩⟩
    rw [show (!decide (V.bl (eqo (.obj 1 (fullK [3, 4] D4)) (.obj 1 (fullK [3, 4] D5))) = V.bl (eqoAll (fullK [3, 4] D4) (fullK [3, 4] D5)))) = false from by rw [show eqo (.obj 1 (fullK [3, 4] D4)) (.obj 1 (fullK [3, 4] D5)) = eqoAll (fullK [3, 4] D4) (fullK [3, 4] D5) from rfl, decide_eq_true rfl]; rfl]
    refine iteF ?_
    have Wx16 := (W5.same (((((((((((s6.trans s7).trans s8).trans s9).trans s10).trans e11).trans e12).trans sq13).trans s13).trans sq14).trans s14).trans e15))
    obtain ⟨ms16, hp16⟩ := Wx16.lst
    refine ⟨_, rfl, _, rfl, wl, _, (fullK [3, 4] D4), .ref a6, rfl, Wx16, by omega, (Oh.sm ((((((((((s7.trans s8).trans s9).trans s10).trans e11).trans e12).trans sq13).trans s13).trans sq14).trans s14).trans e15) o6), full6 sh4, fun D16 X16 L16 H16 sh16 oh16 g16 n16 k16 W16 => ?_⟩
    have nL16 : L16 ≠ wl := Wx16.ne n16
    have Wx17 := W16
    obtain ⟨ms17, hp17⟩ := Wx17.lst
    refine ⟨_, rfl, _, rfl, wl, _, (fullK [3, 4] D5), .ref a7, rfl, Wx17, by omega, (Oh.keepB hp16 k16 _ _ (m_ok (full6 sh5)).2 (Oh.sm (((((((((s8.trans s9).trans s10).trans e11).trans e12).trans sq13).trans s13).trans sq14).trans s14).trans e15) o7)), full6 sh5, fun D17 X17 L17 H17 sh17 oh17 g17 n17 k17 W17 => ⟨_, _, rfl, ?_⟩⟩
    have nL17 : L17 ≠ wl := Wx17.ne n17
    refine ⟨_, rfl, L16, D16, X16, rfl, (k17 _ _ nL16 g16), (OhAll.keepB hp17 k17 _ _ (part_all sh16.2).2.1 oh16), sh16, fun a18 H18 o18 s18 => ?_⟩
    refine ⟨_, rfl, L17, D17, X17, rfl, (s18 _ _ g17), (OhAll.sm s18 oh17), sh17, fun a19 H19 o19 s19 => ⟨_, _, rfl, ?_⟩⟩
    refine ⟨_, rfl, _, rfl, a18, L16, D16, X16, rfl, (Oh.sm s19 o18), ((s18.trans s19) _ _ (k17 _ _ nL16 g16)), (OhAll.sm (s18.trans s19) (OhAll.keepB hp17 k17 _ _ (part_all sh16.2).2.1 oh16)), sh16, fun H20 s20 => ⟨_, rfl, iteF ?_⟩⟩
    refine ⟨_, rfl, _, rfl, a19, L17, D17, X17, rfl, (Oh.sm s20 o19), (((s18.trans s19).trans s20) _ _ g17), (OhAll.sm ((s18.trans s19).trans s20) oh17), sh17, fun H21 s21 => ⟨_, rfl, iteF ?_⟩⟩
    refine ⟨_, rfl, _, rfl, L16, D16, X16, rfl, ((((s18.trans s19).trans s20).trans s21) _ _ (k17 _ _ nL16 g16)), (OhAll.sm (((s18.trans s19).trans s20).trans s21) (OhAll.keepB hp17 k17 _ _ (part_all sh16.2).2.1 oh16)), sh16, fun a22 H22 o22 s22 => ?_⟩
    refine ⟨2, (fullK [3] D16), .obj 2 (fullK [3] D16), (Oh.sm (((s19.trans s20).trans s21).trans s22) o18), o22, (c_ok (full5 sh16)).1, (c_ok (full5 sh16)).1, (by show 7 ≤ 7; decide), M.nn 2 (by decide), fun H23 e23 => ⟨_, rfl, ?_⟩⟩
    rw [show (!eqo (.obj 2 (fullK [3] D16)) (.obj 2 (fullK [3] D16))) = false from by rw [eqo_rf _ _ o22]; rfl]
    refine iteF ?_
    refine ⟨_, rfl, _, rfl, .obj 2 (fullK [3] D16), .obj 2 (fullK [3] D17), (Oh.sm ((((s19.trans s20).trans s21).trans s22).trans e23) o18), (Oh.sm (((s20.trans s21).trans s22).trans e23) o19), (c_ok (full5 sh16)).1, (c_ok (full5 sh17)).1, by show 7 ≤ 7; decide, by show 7 ≤ 7; decide, trivial, trivial, fun H24 e24 => ?_⟩
    refine ⟨_, rfl, le_sz (Nat.le_of_ble_eq_true rfl), fun q25 hq25 => ?_⟩
    have sq25 := new_same (o := .lst [V.int 3]) hq25
    refine ⟨L16, q25, D16, X16, [3], rfl, ((((((((s18.trans s19).trans s20).trans s21).trans s22).trans e23).trans e24).trans sq25) _ _ (k17 _ _ nL16 g16)), (OhAll.sm (((((((s18.trans s19).trans s20).trans s21).trans s22).trans e23).trans e24).trans sq25) (OhAll.keepB hp17 k17 _ _ (part_all sh16.2).2.1 oh16)), (part_all sh16.2).2.1, upd_same, (by rw [sh16.1]; decide), fun f25 Z25 H25 oz25 gz25 _ s25 => ?_⟩
    refine ⟨_, rfl, le_sz (Nat.le_of_ble_eq_true rfl), fun q26 hq26 => ?_⟩
    have sq26 := new_same (o := .lst [V.int 3]) hq26
    refine ⟨L17, q26, D17, X17, [3], rfl, ((((((((((s18.trans s19).trans s20).trans s21).trans s22).trans e23).trans e24).trans sq25).trans s25).trans sq26) _ _ g17), (OhAll.sm (((((((((s18.trans s19).trans s20).trans s21).trans s22).trans e23).trans e24).trans sq25).trans s25).trans sq26) oh17), (part_all sh17.2).2.1, upd_same, (by rw [sh17.1]; decide), fun f26 Z26 H26 oz26 gz26 _ s26 => ?_⟩
    refine ⟨(fullK [3] D16), (fullK [3] D17), ⟨f25, Z25, rfl, ((sq26.trans s26) _ _ gz25), (OhAll.sm (sq26.trans s26) oz25)⟩, ⟨f26, Z26, rfl, gz26, oz26⟩, (okAll_mono (fun _ _ z => .inl z) _ (part_all (full5 sh16).2).1), (okAll_mono (fun _ _ z => .inl z) _ (part_all (full5 sh17).2).1), (by have := (part_all (full5 sh16).2).2.2; omega), (by have := (part_all (full5 sh17).2).2.2; omega), fun H27 e27 => ⟨rfl, _, rfl, ?_⟩⟩
    rw [show (!decide (V.bl (eqo (.obj 2 (fullK [3] D16)) (.obj 2 (fullK [3] D17))) = V.bl (eqoAll (fullK [3] D16) (fullK [3] D17)))) = false from by rw [show eqo (.obj 2 (fullK [3] D16)) (.obj 2 (fullK [3] D17)) = eqoAll (fullK [3] D16) (fullK [3] D17) from rfl, decide_eq_true rfl]; rfl]
    refine iteF ?_
    refine ⟨_, rfl, _, rfl, .obj 2 (fullK [3] D16), .obj 1 (fullK [3, 4] D4), (Oh.sm ((((((((((s19.trans s20).trans s21).trans s22).trans e23).trans e24).trans sq25).trans s25).trans sq26).trans s26).trans e27) o18), (Oh.sm (((((((((((s18.trans s19).trans s20).trans s21).trans s22).trans e23).trans e24).trans sq25).trans s25).trans sq26).trans s26).trans e27) (Oh.keepB hp17 k17 _ _ (m_ok (full6 sh4)).2 (Oh.keepB hp16 k16 _ _ (m_ok (full6 sh4)).2 (Oh.sm ((((((((((s7.trans s8).trans s9).trans s10).trans e11).trans e12).trans sq13).trans s13).trans sq14).trans s14).trans e15) o6)))), (c_ok (full5 sh16)).1, (up12 (m_ok (full6 sh4)).1), by show 7 ≤ 7; decide, by show 5 ≤ 7; decide, trivial, trivial, fun H28 e28 => ⟨_, rfl, ?_⟩⟩
    rw [show eqo (.obj 2 (fullK [3] D16)) (.obj 1 (fullK [3, 4] D4)) = false from rfl]
    refine iteF ?_
    refine ⟨_, rfl, _, rfl, .obj 1 (fullK [3, 4] D4), .obj 2 (fullK [3] D16), (Oh.sm ((((((((((((s18.trans s19).trans s20).trans s21).trans s22).trans e23).trans e24).trans sq25).trans s25).trans sq26).trans s26).trans e27).trans e28) (Oh.keepB hp17 k17 _ _ (m_ok (full6 sh4)).2 (Oh.keepB hp16 k16 _ _ (m_ok (full6 sh4)).2 (Oh.sm ((((((((((s7.trans s8).trans s9).trans s10).trans e11).trans e12).trans sq13).trans s13).trans sq14).trans s14).trans e15) o6)))), (Oh.sm (((((((((((s19.trans s20).trans s21).trans s22).trans e23).trans e24).trans sq25).trans s25).trans sq26).trans s26).trans e27).trans e28) o18), (up12 (m_ok (full6 sh4)).1), (c_ok (full5 sh16)).1, by show 5 ≤ 7; decide, by show 7 ≤ 7; decide, trivial, trivial, fun H29 e29 => ⟨_, rfl, ?_⟩⟩
    rw [show eqo (.obj 1 (fullK [3, 4] D4)) (.obj 2 (fullK [3] D16)) = false from rfl]
    refine iteF ?_
    exact ⟨_, _, _, _, _, _, _, _, _, _, rfl, ((((((((((((((s18.trans s19).trans s20).trans s21).trans s22).trans e23).trans e24).trans sq25).trans s25).trans sq26).trans s26).trans e27).trans e28).trans e29) _ _ (k17 _ _ nl2 (k16 _ _ nl2 ((((((((((((s6.trans s7).trans s8).trans s9).trans s10).trans e11).trans e12).trans sq13).trans s13).trans sq14).trans s14).trans e15) _ _ (k5 _ _ nl2 (k4 _ _ nl2 (s3 _ _ h2)))))))⟩
  · rintro σ H2 ⟨o1, o2, o3, o4, o5, o6, o7, o8, o9, o10, rfl, _⟩
    have okT : ∀ z : Str, okO (S0 (clk C fe)) (.fl (.str z)) ∧ noL (.fl (.str z)) ∧ need (clk C fe) (.fl (.str z)) ≤ 4 := fun z => ⟨trivial, trivial, Nat.zero_le _⟩
    have shM : Shp (clk C fe) (S0 (clk C fe)) 4 6 [.fl (.str "m"), .tup [], .fl (.str "int"), .fl .non, .fl .non, .tup [.fl (.str "halt")]] := by
      refine ⟨rfl, fun d hd => ?_⟩
      simp only [List.mem_cons, List.not_mem_nil, or_false] at hd
      rcases hd with rfl | rfl | rfl | rfl | rfl | rfl
      · exact ⟨trivial, trivial, Nat.zero_le _⟩
      · exact ⟨trivial, trivial, Nat.le_of_ble_eq_true rfl⟩
      · exact ⟨trivial, trivial, Nat.zero_le _⟩
      · exact ⟨trivial, trivial, Nat.zero_le _⟩
      · exact ⟨trivial, trivial, Nat.zero_le _⟩
      · exact ⟨⟨trivial, trivial⟩, ⟨trivial, trivial⟩, Nat.le_of_ble_eq_true rfl⟩
    have shC : Shp (clk C fe) (S1 (clk C fe)) 6 5 [.fl (.str "a"), .tup [], .tup [], .fl .non, .tup []] := by
      refine ⟨rfl, fun d hd => ?_⟩
      simp only [List.mem_cons, List.not_mem_nil, or_false] at hd
      rcases hd with rfl | rfl | rfl | rfl | rfl
      · exact ⟨trivial, trivial, Nat.zero_le _⟩
      · exact ⟨trivial, trivial, Nat.le_of_ble_eq_true rfl⟩
      · exact ⟨trivial, trivial, Nat.le_of_ble_eq_true rfl⟩
      · exact ⟨trivial, trivial, Nat.zero_le _⟩
      · exact ⟨trivial, trivial, Nat.le_of_ble_eq_true rfl⟩
    have okC0 : okO (S2 (clk C fe)) (cO []) := up12 (up01 (ok_cO (cl := clk C fe) []).1)
    refine ⟨le_sz (Nat.le_of_ble_eq_true rfl), fun t1 h1 => ⟨le_sz (Nat.le_of_ble_eq_true rfl), fun t2 h2 => ⟨rfl, rfl, fun x dx nx ndx nex => ?_⟩⟩⟩
    obtain ⟨u1, s1⟩ := tup_new (K := K) (cl := clk C fe) (ds := []) (xs := []) h1 oh_nil
    obtain ⟨u2, s2⟩ := tup_new (K := K) (cl := clk C fe) (ds := [.fl (.str "halt")]) (xs := [V.str "halt"]) h2 (oh_cons (oh_str _) oh_nil)
    obtain ⟨J1, eJ1⟩ : ∃ J, upd (upd H2 t1 (.tup [])) t2 (.tup [V.str "halt"]) = J := ⟨_, rfl⟩
    rw [eJ1] at u2 s2 nx ndx ⊢
    have sm : Same J1 (upd (upd J1 dx (.own x)) x (.ins (C 1) dx [])) := fun b u e => by rw [upd_ne (ne_of_none e nx), upd_ne (ne_of_none e ndx)]; exact e
    refine ⟨x, dx, [.fl (.str "m"), .tup [], .fl (.str "int"), .fl .non, .fl .non, .tup [.fl (.str "halt")]], _, rfl, upd_same, oh_cons (oh_str _) (oh_cons (Oh.sm (s2.trans sm) u1) (oh_cons (oh_str _) (oh_cons oh_non (oh_cons oh_non (oh_cons (Oh.sm sm u2) oh_nil))))), shM, fun J2 kp ob => ⟨rfl, ?_⟩⟩
    obtain ⟨_, dy, fs, ys, ea, hi, hnm, hys⟩ := id ob
    cases ea
    obtain ⟨c0, c1, c2, c3, c4, c5, w0', w1', w2', w3', w4', w5', ez, l0', l1', l2', l3', l4', l5', p0, p1, p2, p3, p4, p5⟩ := oh6 hnm hys
    injection ez with ez0 ez
    injection ez with ez1 ez
    injection ez with ez2 ez
    injection ez with ez3 ez
    injection ez with ez4 ez
    injection ez with ez5 ez
    subst ez0 ez1 ez2 ez3 ez4 ez5
    have p3 : Oh K (clk C fe) J2 (cO []) w3' := p3
    have p4 : Oh K (clk C fe) J2 (cO []) w4' := p4
    have cM := M.T.cls 1 (by decide)
    have nM := M.T.no 1 (by decide)
    refine ⟨_, rfl, x, C 1, dy, fs, _, rfl, hi, cM, nM _ (by decide), l3', ?_⟩
    refine makeZ_go (K := K) (C := C 0) fun r1 _ _ _ _ J3 hF1 s3 _ => ?_
    have q1 := cond_od (f := fe) hF1
    refine ⟨0, [.tup []], cO [], Oh.sm s3 p3, q1, okC0, okC0, (by show 4 ≤ 7; decide), M.nn 0 (by decide), fun J4 e4 => ⟨_, rfl, ?_⟩⟩
    rw [show (!eqo (.obj 0 [.tup []]) (cO [])) = false from rfl]
    refine iteF ⟨_, rfl, x, C 1, dy, fs, _, rfl, (s3.trans e4) _ _ hi, cM, nM _ (by decide), l4', ?_⟩
    refine makeZ_go (K := K) (C := C 0) fun r2 _ _ _ _ J5 hF2 s5 _ => ?_
    have q2 := cond_od (f := fe) hF2
    refine ⟨0, [.tup []], cO [], Oh.sm ((s3.trans e4).trans s5) p4, q2, okC0, okC0, (by show 4 ≤ 7; decide), M.nn 0 (by decide), fun J6 e6 => ⟨_, rfl, ?_⟩⟩
    rw [show (!eqo (.obj 0 [.tup []]) (cO [])) = false from rfl]
    refine iteF ?_
    have z0 : ∀ H, Oh K (clk C fe) H (.tup []) (.ref e0) := fun H => oh_tup (M.z0 H) oh_nil
    have z1 : ∀ H, Oh K (clk C fe) H (.tup []) (.ref e1) := fun H => oh_tup (M.z1 H) oh_nil
    have z2 : ∀ H, Oh K (clk C fe) H (.tup []) (.ref e2) := fun H => oh_tup (M.z2 H) oh_nil
    have og : ∀ H, OhAll K (clk C fe) H [.fl (.str "a"), .tup [], .tup [], .fl .non, .tup []] [V.str "a", .ref e0, .ref e1, .non, .ref e2] := fun H => oh_cons (oh_str _) (oh_cons (z0 H) (oh_cons (z1 H) (oh_cons oh_non (oh_cons (z2 H) oh_nil))))
    have kc := (c_ok (full5 shC)).1
    refine fun y1 dy1 ny1 ndy1 _ => ⟨y1, dy1, [.fl (.str "a"), .tup [], .tup [], .fl .non, .tup []], _, rfl, upd_same, og _, shC, fun J7 kp7 ob7 => ⟨rfl, ?_⟩⟩
    refine ⟨le_sz (Nat.le_of_ble_eq_true rfl), fun t3 h3 => ⟨le_sz (Nat.le_of_ble_eq_true rfl), fun t4 h4 => ⟨le_sz (Nat.le_of_ble_eq_true rfl), fun t5 h5 => ⟨rfl, rfl, fun y2 dy2 ny2 ndy2 _ => ?_⟩⟩⟩⟩
    obtain ⟨u3, s7⟩ := tup_new (K := K) (cl := clk C fe) (ds := []) (xs := []) h3 oh_nil
    obtain ⟨u4, s8⟩ := tup_new (K := K) (cl := clk C fe) (ds := []) (xs := []) h4 oh_nil
    obtain ⟨u5, s9⟩ := tup_new (K := K) (cl := clk C fe) (ds := []) (xs := []) h5 oh_nil
    obtain ⟨J8, eJ8⟩ : ∃ J, upd (upd (upd J7 t3 (.tup [])) t4 (.tup [])) t5 (.tup []) = J := ⟨_, rfl⟩
    rw [eJ8] at u5 s9 ny2 ndy2 ⊢
    have sn : Same J8 (upd (upd J8 dy2 (.own y2)) y2 (.ins (C 2) dy2 [])) := fun b u e => by rw [upd_ne (ne_of_none e ny2), upd_ne (ne_of_none e ndy2)]; exact e
    refine ⟨y2, dy2, [.fl (.str "a"), .tup [], .tup [], .fl .non, .tup []], _, rfl, upd_same, oh_cons (oh_str _) (oh_cons (Oh.sm ((s8.trans s9).trans sn) u3) (oh_cons (Oh.sm (s9.trans sn) u4) (oh_cons oh_non (oh_cons (Oh.sm sn u5) oh_nil)))), shC, fun J9 kp9 ob9 => ⟨rfl, ?_⟩⟩
    have s79 : Same J7 J9 := ((s7.trans s8).trans s9).trans (same_make ny2 ndy2 kp9)
    refine ⟨2, fullK [3] [.fl (.str "a"), .tup [], .tup [], .fl .non, .tup []], .obj 2 (fullK [3] [.fl (.str "a"), .tup [], .tup [], .fl .non, .tup []]), Oh.sm s79 ob7, ob9, kc, kc, (by show 7 ≤ 7; decide), M.nn 2 (by decide), fun J10 e10 => ⟨_, rfl, ?_⟩⟩
    rw [show (!eqo (.obj 2 (fullK [3] [.fl (.str "a"), .tup [], .tup [], .fl .non, .tup []])) (.obj 2 (fullK [3] [.fl (.str "a"), .tup [], .tup [], .fl .non, .tup []]))) = false from by rw [eqo_rf _ _ ob9]; rfl]
    refine iteF ?_
    have cC := M.T.cls 2 (by decide)
    have nC := M.T.no 2 (by decide)
    have attr : ∀ {H : Hp} {y : Addr}, Oh K (clk C fe) H (.obj 2 (fullK [3] [.fl (.str "a"), .tup [], .tup [], .fl .non, .tup []])) (.ref y) → ∃ (dy : Addr) (fs : List (Str × V)) (v1 v2 v3 : V), H y = some (.ins (C 2) dy fs) ∧ fs.lookup ("bases" : Str) = some v1 ∧ fs.lookup ("fields" : Str) = some v2 ∧ fs.lookup ("where" : Str) = some v3 ∧ Oh K (clk C fe) H (.tup []) v1 ∧ Oh K (clk C fe) H (.tup []) v2 ∧ Oh K (clk C fe) H (cO []) v3 := by
      rintro H y ⟨_, dy, fs, ys, ea, hi, hnm, hys⟩
      cases ea
      obtain ⟨c0, c1, c2, c3, c4, w0', w1', w2', w3', w4', ez, l0', l1', l2', l3', l4', p0, p1, p2, p3, p4⟩ := oh5 hnm hys
      injection ez with ez0 ez
      injection ez with ez1 ez
      injection ez with ez2 ez
      injection ez with ez3 ez
      injection ez with ez4 ez
      subst ez0 ez1 ez2 ez3 ez4
      exact ⟨dy, fs, w1', w2', w3', hi, l1', l2', l3', p1, p2, p3⟩
    refine fun y3 dy3 ny3 ndy3 _ => ⟨y3, dy3, [.fl (.str "a"), .tup [], .tup [], .fl .non, .tup []], _, rfl, upd_same, og _, shC, fun J11 kp11 ob11 => ⟨rfl, ?_⟩⟩
    obtain ⟨d11, f11, _, _, v11, i11, _, _, m11, _, _, r11⟩ := attr ob11
    refine ⟨y3, C 2, d11, f11, _, rfl, i11, cC, nC _ (by decide), m11, ?_⟩
    refine makeZ_go (K := K) (C := C 0) fun r3 _ _ _ _ J12 hF3 s12 _ => ?_
    refine ⟨cO [], cO [], Oh.sm s12 r11, cond_od hF3, okC0, okC0, by show 4 ≤ 7; decide, by show 4 ≤ 7; decide, trivial, trivial, fun J13 e13 => ⟨_, rfl, ?_⟩⟩
    rw [show eqo (cO []) (cO []) = true from rfl]
    refine iteT ?_
    refine fun y4 dy4 ny4 ndy4 _ => ⟨y4, dy4, [.fl (.str "a"), .tup [], .tup [], .fl .non, .tup []], _, rfl, upd_same, og _, shC, fun J14 kp14 ob14 => ⟨rfl, ?_⟩⟩
    obtain ⟨d14, f14, v14, _, _, i14, m14, _, _, r14, _, _⟩ := attr ob14
    refine ⟨y4, C 2, d14, f14, _, rfl, i14, cC, nC _ (by decide), m14, le_sz (Nat.le_of_ble_eq_true rfl), fun t6 h6 => ?_⟩
    obtain ⟨u6, s15⟩ := tup_new (K := K) (cl := clk C fe) (ds := []) (xs := []) h6 oh_nil
    refine ⟨.tup [], .tup [], Oh.sm s15 r14, u6, trivial, trivial, by show 1 ≤ 7; decide, by show 1 ≤ 7; decide, trivial, trivial, fun J16 e16 => ⟨_, rfl, ?_⟩⟩
    rw [show eqo (.tup []) (.tup []) = true from rfl]
    refine iteT ?_
    refine fun y5 dy5 ny5 ndy5 _ => ⟨y5, dy5, [.fl (.str "a"), .tup [], .tup [], .fl .non, .tup []], _, rfl, upd_same, og _, shC, fun J17 kp17 ob17 => ⟨rfl, ?_⟩⟩
    obtain ⟨d17, f17, _, v17, _, i17, _, m17, _, _, r17, _⟩ := attr ob17
    refine ⟨y5, C 2, d17, f17, _, rfl, i17, cC, nC _ (by decide), m17, le_sz (Nat.le_of_ble_eq_true rfl), fun t7 h7 => ?_⟩
    obtain ⟨u7, s18⟩ := tup_new (K := K) (cl := clk C fe) (ds := []) (xs := []) h7 oh_nil
    refine ⟨.tup [], .tup [], Oh.sm s18 r17, u7, trivial, trivial, by show 1 ≤ 7; decide, by show 1 ≤ 7; decide, trivial, trivial, fun J19 e19 => ?_⟩
    rfl
end
end Kx
namespace Kx
open PySem L2 PySem.Spec PyProof.Rows
/-! the law's own call, by a caller around whom nothing is being shown -/
section
variable {P : Program} {w : World} {K : PySem.W.Frag} {mg mb : Str → Option Value} {fa a : Addr} {s : Shared} {vs : List Value} {ns : List Int}
abbrev oScript (vs : List Value) : Obj := { cls := .type "list", data := .seq vs.toArray }
/-- what may be tracked at the entry: the script, and nothing else -/
structure Entry (K : PySem.W.Frag) (H : Hp) (a : Addr) (vs : List Value) (ns : List Int) : Prop where
  only : ∀ b u, H b = some u → b = a ∧ u = .frz (oScript vs) (.lst (ns.map V.int)) ∧ K.lookup a = none
  seq : SqL K H a (ns.map V.int)
theorem entry_run {oc kV doc pm cdv ct : Value} {od an : Option Addr} {osl : Array (Option Value)} {H : Hp} (En : Entry K H a vs ns)
    (KX : K.In s.heap) (hns : s.heap.Ns mainGlobals mg) (hb : s.heap.Ns builtinsNs mb) (hbb : ∀ x : Str, x ≠ "__name__" → mb x = bootBuiltins x) (hlim : s.heap.NoLimit) (hg : s.gens = #[])
    (ha : s.heap.get? a = some (oScript vs)) (hi : IntsAre vs ns) (hl : ns.length ≤ 63)
    (lk : K.lookup fa = some ⟨oc, od, .func (PySem.W.fnOf "law" "law" (defArgs sLaw) (defBody sLaw) (defScope sLaw) .none kV doc pm an cdv ct), osl⟩) (hcd : PySem.W.codeIn K cdv "law" = true)
    (body : ∀ (base : Heap), K.In base → base.Ns mainGlobals mg → ∃ t, PSs (cxOf CX0 P w K mg base nL "law" (defScope sLaw) fa cdv callerA [] s H E0).nox (defBody sLaw) t ∧ t { nx := fun _ _ => V.non = V.bl true, rt := fun v _ => v = V.bl true } (start nL [.ref a]) H) :
    codeAny (model P w) callerA (.call (.ref fa) ⟨[.ref a], []⟩) (fun r s' => r = .ok (.ret (.bool true)) ∧ OldK s.heap s'.heap ∧ s'.os = s.os ∧ AllBare s'.gens) s := by
  have rv := vals_ints hi
  have free : ∀ {b : Addr} {o : Obj}, s.heap.get? b = some o → (b = a → o ≠ oScript vs) → H b = none := fun {b o} e d => by
    cases q : H b with
    | none => rfl
    | some u =>
      obtain ⟨rfl, _, _⟩ := En.only b u q
      rw [ha] at e
      exact absurd (Option.some.inj e).symm (d rfl)
  have freeD : ∀ {b : Addr} {o : Obj} {es : Array DictEntry} {ep : Nat}, s.heap.get? b = some o → o.data = .dict es ep → H b = none := fun {b o es ep} e d =>
    free e fun _ z => by
      rw [z] at d
      cases d
  have nsB : ∀ {b : Addr} {m : Str → Option Value}, s.heap.Ns b m → (hidT s.heap H).Ns b m := fun {b m} ⟨o, es, ep, e, d, r⟩ => ⟨o, es, ep, hidT_get e (freeD e d), d, r⟩
  have KB : K.In (hidT s.heap H) := fun b o e => hidT_get (KX b o e) (by
    cases q : H b with
    | none => rfl
    | some u =>
      obtain ⟨rfl, _, n⟩ := En.only b u q
      rw [n] at e
      cases e)
  have M : Mod K mg (hidT s.heap H) := ⟨KB, nsB hns, ⟨mb, nsB hb, hbb⟩, let ⟨mc, h1, h2⟩ := hlim; ⟨mc, nsB h1, h2⟩⟩
  have ok : HOk P w H s.heap := fun b u q => by
    obtain ⟨rfl, rfl, _⟩ := En.only b u q
    exact ⟨ha, by rw [List.length_map]; exact Nat.le_of_lt (small1000 (by omega)), vs, _, rv, ha⟩
  have e0 : Env0 P w K mg (hidT s.heap H) callerA [] s H := ⟨rfl, M, fun b o e => of_hidT e, Nat.le_of_eq (hidT_size _ _), trivial, fun b hb => absurd (show b ∈ ([] : List Addr) from hb) (by simp), ok, .of_eq hg⟩
  have F : FnScope nL ["_law_script"] (defScope sLaw) := scL
  have bd : BindsTo s (PySem.W.fnOf "law" "law" (defArgs sLaw) (defBody sLaw) (defScope sLaw) .none kV doc pm an cdv ct) ⟨[.ref a], []⟩ [("_law_script", .ref a)] := .of_eq rfl
  refine codeAny_call_function (by decide) (KX _ _ lk) rfl F.co F.gen rfl (PySem.W.codeRec_of KX hcd) (bd _ _ _ _ ?_)
  refine wpAny_newFunctionEnv_cells F.kind (fun y hy => ?_) fun env he s1 x => ?_
  · rw [List.mem_singleton.mp hy]
    exact .inl (by rfl)
  · subst he
    refine ⟨hlim.keeps x.toInCall.keep, codeAny_func ?_⟩
    obtain ⟨t, ht, hq⟩ := body _ KB (nsB hns)
    have I := inv_start (CX := CX0) (E := E0) (us := [.ref a]) (vs := [.ref a]) F (show callerA.handled = none from rfl) e0 rfl (.cons rfl .nil) x
    refine wpAny_mono (ht.run [] s1 _ H _ (I.wish _) hq) (fun fl s' hs => ?_) fun e s' hs => False.elim hs
    · cases fl with
      | ret u =>
        obtain ⟨v, σ', H', J, r, q⟩ := hs
        have q' : v = .bl true := q
        subst q'
        obtain rfl : u = Value.bool true := r
        refine ⟨rfl, OldK.of_keep fun b o e => ?_, J.os, J.bare⟩
        cases z : H b with
        | none => exact J.base.keep b o e z (fun y => absurd (show b ∈ ([] : List Addr) from y) (by simp)) (fun y => absurd (show b ∈ ([] : List Addr) from y) (by simp))
        | some u =>
          obtain ⟨rfl, rfl, _⟩ := En.only b u z
          obtain ⟨e2, _⟩ := J.hok b _ (J.base.frzs b _ _ z)
          rw [ha] at e
          cases e
          exact e2
      | next =>
        obtain ⟨_, _, _, q⟩ := hs
        cases (show V.non = V.bl true from q)
      | brk =>
        obtain ⟨_, _, _, q⟩ := hs
        exact False.elim q
      | cont =>
        obtain ⟨_, _, _, q⟩ := hs
        exact False.elim q
end
end Kx
set_option linter.all false
namespace Kx
open PySem L2 PySem.Spec PyProof.Rows
/-! what the top has left, and the law's head -/
structure Law (K : PySem.W.Frag) (mg : Str → Option Value) (fa : Addr) : Prop where
  ex : ∃ (C fe : Nat → Addr) (fI fM fC e0 e1 e2 : Addr) (fdI fdM fdC : FuncData), LawOf K mg C fe fI fM fC e0 e1 e2 fdI fdM fdC
  fn : ∃ (oc kV doc pm cdv ct : Value) (od an : Option Addr) (osl : Array (Option Value)), K.lookup fa = some ⟨oc, od, .func (PySem.W.fnOf "law" "law" (defArgs sLaw) (defBody sLaw) (defScope sLaw) .none kV doc pm an cdv ct), osl⟩ ∧ PySem.W.codeIn K cdv "law" = true
theorem walk {l : PySem.W.OpenLaw} {q : Program} {loose : List Str} {XP : (Str → Option Value) → Heap → Prop} {YP : World → Heap → Prop} {d : DefRec} {K : Params → PySem.W.Frag} (hn : l.most = some 63) (hdf : d.params.defaults = [])
    (hY : ∀ (w : World) (h : Heap), YP w h → (K w.params).In h)
    (F : ∀ (w : World) (mg : Str → Option Value) (fa : Addr) (h : Heap), (K w.params).In h → h.Ns mainGlobals mg → mg d.name = some (.ref fa) → Law (K w.params) mg fa) :
    PySem.W.WalkO q loose XP YP l.row.toRowW d [] (fun f vs => PySem.call f vs) := by
  refine Att.attach_call hn hdf fun w s₀ s₁ mg mb fa o pm cd doc a vs ns G Y ho hd hcd hmg hobj hints hlen hg => ?_
  have KX := hY w _ Y
  obtain ⟨⟨C, fe, fI, fM, fC, e0, e1, e2, fdI, fdM, fdC, M⟩, ⟨oc, kV, dc, pm', cdv, ct, od, an, osl, lk, hc⟩⟩ := F w mg fa _ KX G.T.g hmg
  have go : ∀ H, Entry (K w.params) H a vs ns → _ := fun H En => entry_run (P := l.prog) (w := w) En KX G.T.g G.T.b G.T.builtins G.T.nolimit hg hobj hints hlen lk hc fun base _ _ =>
    law_body (P := l.prog) (w := w) (base := base) M fa cdv callerA [] s₁ H E0 (Room.deeper (k := 10) (A := callerA) ⟨rfl, by decide, by decide⟩ _) En.seq hlen
  cases hk : (K w.params).lookup a with
  | some ob =>
    have e := KX a ob hk
    rw [hobj] at e
    cases e
    exact go (fun _ => none) ⟨fun b u z => (by cases (show (none : Option HO) = some u from z)), .inr ⟨_, vs.toArray, _, hk, rfl, rfl, rfl, by rw [List.size_toArray, hints.length]; exact Nat.le_of_lt (small1000 (by omega)), by simpa using vals_ints hints⟩⟩
  | none =>
    refine go (fun b => if b = a then some (.frz (oScript vs) (.lst (ns.map V.int))) else none) ⟨fun b u z => ?_, .inl (.inr ⟨oScript vs, if_pos rfl⟩)⟩
    by_cases hb : b = a
    · have z' := (if_pos hb).symm.trans z
      exact ⟨hb, (Option.some.inj z').symm, hk⟩
    · have z' := (if_neg hb).symm.trans z
      cases z'
end Kx
set_option linter.all false
namespace Kx
open PySem L2 PySem.Spec PyProof.Rows

section
variable {K : PySem.W.Frag} {mg : Str → Option Value} {h : Heap}
theorem def_mk {x : Str} {st : Stmt} {ps : List Str} {f : Addr} {oc : Value} {od an : Option Addr} {osl : Array (Option Value)} {kV doc pm cdv ct : Value} (X : K.In h) (G : h.Ns mainGlobals mg) (m : PySem.W.nsIn K mainGlobals x = some (some (.ref f)))
    (l : K.lookup f = some ⟨oc, od, .func (PySem.W.fnOf x x (defArgs st) (defBody st) (defScope st) .none kV doc pm an cdv ct), osl⟩) (c : PySem.W.codeIn K cdv x = true) (k : PySem.W.keepIn K (.ref f) = true)
    (b : ∀ (kV doc pm : Value) (an : Option Addr) (cdv ct : Value) (us : List Value), us.length = ps.length → bindArgs (PySem.W.fnOf x x (defArgs st) (defBody st) (defScope st) .none kV doc pm an cdv ct) ⟨us, []⟩ = pure (ps.zip us)) :
    ∃ f fd, Fs K mg x st ps f fd := ⟨f, _, fun_mk l c k, (fun_mk (st := st) l c k).binds b, PySem.W.mg_of X G m⟩
theorem fun_bind {x q : Str} {st : Stmt} {ps : List Str} {f : Addr} {oc : Value} {od an : Option Addr} {osl : Array (Option Value)} {kV doc pm cdv ct : Value}
    (l : K.lookup f = some ⟨oc, od, .func (PySem.W.fnOf x q (defArgs st) (defBody st) (defScope st) .none kV doc pm an cdv ct), osl⟩) (c : PySem.W.codeIn K cdv q = true) (k : PySem.W.keepIn K (.ref f) = true)
    (b : ∀ (kV doc pm : Value) (an : Option Addr) (cdv ct : Value) (us : List Value), us.length = ps.length → bindArgs (PySem.W.fnOf x q (defArgs st) (defBody st) (defScope st) .none kV doc pm an cdv ct) ⟨us, []⟩ = pure (ps.zip us)) :
    ∃ fd, Fun K x q st f fd ∧ Binds K fd ps [] := ⟨_, fun_mk l c k, (fun_mk (st := st) l c k).binds fun kV' doc' pm' an' cdv' ct' us hl => b _ _ _ _ _ _ us hl⟩
theorem init_mk {f : Addr} {oc : Value} {od an : Option Addr} {osl : Array (Option Value)} {kV doc pm cdv ct : Value} (l : K.lookup f = some ⟨oc, od, .func (PySem.W.fnOf "__init__" "Cond.__init__" (defArgs sInit) (defBody sInit) (defScope sInit) .none kV doc pm an cdv ct), osl⟩) (c : PySem.W.codeIn K cdv "Cond.__init__" = true) (k : PySem.W.keepIn K (.ref f) = true) :
    ∃ fd, Fun K "__init__" "Cond.__init__" sInit f fd := ⟨_, fun_mk l c k⟩
theorem m_mk {f D : Addr} {oc : Value} {od an : Option Addr} {osl : Array (Option Value)} {doc pm cdv ct : Value} (l : K.lookup f = some ⟨oc, od, .func (PySem.W.fnOf "__init__" "Method.__init__" (defArgs sInM) (defBody sInM) (defScope sInM) .none (.ref D) doc pm an cdv ct), osl⟩) (c : PySem.W.codeIn K cdv "Method.__init__" = true) (k : PySem.W.keepIn K (.ref f) = true)
    (h1 : PySem.W.nsIn K D "pre" = some (some .none)) (h2 : PySem.W.nsIn K D "post" = some (some .none)) : ∃ fd, FunM K f fd :=
  ⟨_, ⟨oc, od, .none, .ref D, doc, pm, an, cdv, ct, osl, rfl, l, c, .inl ⟨rfl, rfl⟩, .inr ⟨D, rfl, fun q hq => by
    simp only [List.mem_cons, List.not_mem_nil, or_false] at hq
    rcases hq with rfl | rfl
    · exact ⟨_, h1, rfl⟩
    · exact ⟨_, h2, rfl⟩⟩⟩, k⟩
theorem c_mk {f D T e0 e1 e2 : Addr} {oT : Obj} {n : Nat} {oc : Value} {od an : Option Addr} {osl : Array (Option Value)} {doc pm cdv ct : Value} (l : K.lookup f = some ⟨oc, od, .func (PySem.W.fnOf "__init__" "ClassDef.__init__" (defArgs sInC) (defBody sInC) (defScope sInC) (.ref T) (.ref D) doc pm an cdv ct), osl⟩) (c : PySem.W.codeIn K cdv "ClassDef.__init__" = true) (k : PySem.W.keepIn K (.ref f) = true)
    (lT : K.lookup T = some oT) (dT : oT.data = .seq ([Value.ref e0]).toArray n) (h1 : PySem.W.nsIn K D "fields" = some (some (.ref e1))) (h2 : PySem.W.nsIn K D "where" = some (some .none)) (h3 : PySem.W.nsIn K D "methods" = some (some (.ref e2))) : ∃ fd, FunC K e0 e1 e2 f fd :=
  ⟨_, ⟨oc, od, .ref T, .ref D, doc, pm, an, cdv, ct, osl, rfl, l, c, .inr ⟨by simp, T, oT, [.ref e0], n, rfl, lT, dT, .cons rfl .nil⟩, .inr ⟨D, rfl, fun q hq => by
    simp only [List.mem_cons, List.not_mem_nil, or_false] at hq
    rcases hq with rfl | rfl | rfl
    · exact ⟨_, h1, rfl⟩
    · exact ⟨_, h2, rfl⟩
    · exact ⟨_, h3, rfl⟩⟩⟩, k⟩
theorem emp {e : Addr} {oe : Obj} {n : Nat} (l : K.lookup e = some oe) (c : oe.cls = .type "tuple") (d : oe.data = .seq #[] n) : ∀ H, SqT K H e [] := fun H => .inr ⟨oe, #[], n, l, c, d, Nat.zero_le _, .nil⟩
end
structure CF (K : PySem.W.Frag) (C fi fe : Addr) (cd : ClassData) : Prop where
  c1 : PySem.W.plainGet K C Str.empty = true
  c2 : PySem.W.hasDictIn K C = true
  c3 : PySem.W.plainOver K C = true
  c4 : PySem.W.findIn K (.ref C) "__setattr__" = some (some (.builtin "object.__setattr__"))
  m1 : PySem.W.makesIn K C = true
  m2 : PySem.W.findIn K (.ref C) "__init__" = some (some (.ref fi))
  m3 : PySem.W.isFn K (.ref fi) = true
  m4 : PySem.W.keepIn K (.ref C) = true
  e1 : PySem.W.findIn K (.ref C) "__eq__" = some (some (.ref fe))
  e2 : PySem.W.isFn K (.ref fe) = true
  ne : PySem.W.findIn K (.ref C) "__ne__" = some (some (.builtin "object.__ne__"))
  mo : PySem.W.mroIn K C (.type "object") = some true
  y1 : PySem.W.findIn K (.ref C) "__class__" = some (some (.builtin "object.__class__"))
  kc : PySem.W.clsIn K C = some cd
  kt : PySem.W.typeIn K (.ref C) = some (.type "type")
  se : PySem.W.subIn K (.ref C) (.ref C) = some true
  a0 : PySem.W.subIn K (.type "NoneType") (.ref C) = some false
  b0 : PySem.W.subIn K (.ref C) (.type "NoneType") = some false
  a1 : PySem.W.subIn K (.type "bool") (.ref C) = some false
  b1 : PySem.W.subIn K (.ref C) (.type "bool") = some false
  a2 : PySem.W.subIn K (.type "int") (.ref C) = some false
  b2 : PySem.W.subIn K (.ref C) (.type "int") = some false
  a3 : PySem.W.subIn K (.type "str") (.ref C) = some false
  b3 : PySem.W.subIn K (.ref C) (.type "str") = some false
  a4 : PySem.W.subIn K (.type "tuple") (.ref C) = some false
  b4 : PySem.W.subIn K (.ref C) (.type "tuple") = some false
  a5 : PySem.W.subIn K (.type "list") (.ref C) = some false
  b5 : PySem.W.subIn K (.ref C) (.type "list") = some false
theorem CF.cls {K : PySem.W.Frag} {C fi fe : Addr} {cd : ClassData} (x : CF K C fi fe cd) : Cls K C := ⟨x.c1, x.c2, x.c3, x.c4⟩
theorem CF.sT {K : PySem.W.Frag} {C fi fe : Addr} {cd : ClassData} (x : CF K C fi fe cd) : ∀ T, T ∈ ["NoneType", "bool", "int", "str", "tuple", "list"] → PySem.W.subIn K (.type T) (.ref C) = some false ∧ PySem.W.subIn K (.ref C) (.type T) = some false := fun T hT => by
  simp only [List.mem_cons, List.not_mem_nil, or_false] at hT
  rcases hT with rfl | rfl | rfl | rfl | rfl | rfl
  · exact ⟨x.a0, x.b0⟩
  · exact ⟨x.a1, x.b1⟩
  · exact ⟨x.a2, x.b2⟩
  · exact ⟨x.a3, x.b3⟩
  · exact ⟨x.a4, x.b4⟩
  · exact ⟨x.a5, x.b5⟩
def pick (a b c : Addr) : Nat → Addr
  | 0 => a
  | 1 => b
  | _ => c
theorem three {P : Nat → Prop} {k : Nat} (hk : k < 3) (h0 : P 0) (h1 : P 1) (h2 : P 2) : P k := by
  have : k = 0 ∨ k = 1 ∨ k = 2 := by omega
  rcases this with rfl | rfl | rfl <;> assumption
theorem all_mk {K : PySem.W.Frag} {mg : Str → Option Value} {h : Heap} {C0 C1 C2 i0 i1 i2 q0 q1 q2 e0 e1 e2 fa fl : Addr} {t1 t2 t3 t4 : Tok} {cdc0 cdc1 cdc2 : ClassData} {oc kV doc pm cdv ct : Value} {od an0 : Option Addr} {osl : Array (Option Value)} (X : K.In h) (G : h.Ns mainGlobals mg)
    (F0 : CF K C0 i0 q0 cdc0) (F1 : CF K C1 i1 q1 cdc1) (F2 : CF K C2 i2 q2 cdc2)
    (mN0 : PySem.W.nsIn K mainGlobals "Cond" = some (some (.ref C0)))
    (mN1 : PySem.W.nsIn K mainGlobals "Method" = some (some (.ref C1)))
    (mN2 : PySem.W.nsIn K mainGlobals "ClassDef" = some (some (.ref C2)))
    (mLet : PySem.W.nsIn K mainGlobals "LETTERS" = some (some (.str lets t1)))
    (mLong : PySem.W.nsIn K mainGlobals "LONGEST_WORD" = some (some (.int 8 t2)))
    (mML : PySem.W.nsIn K mainGlobals "MOST_LITERALS" = some (some (.int 2 t3)))
    (mMC : PySem.W.nsIn K mainGlobals "MOST_CLAUSES" = some (some (.int 4 t4)))
    (z_isinstance : PySem.W.nsIn K mainGlobals "isinstance" = some none)
    (z_int : PySem.W.nsIn K mainGlobals "int" = some none)
    (z_bool : PySem.W.nsIn K mainGlobals "bool" = some none)
    (z_str : PySem.W.nsIn K mainGlobals "str" = some none)
    (z_tuple : PySem.W.nsIn K mainGlobals "tuple" = some none)
    (z_len : PySem.W.nsIn K mainGlobals "len" = some none)
    (z_all : PySem.W.nsIn K mainGlobals "all" = some none)
    (z_sorted : PySem.W.nsIn K mainGlobals "sorted" = some none)
    (z_enumerate : PySem.W.nsIn K mainGlobals "enumerate" = some none)
    (z_list : PySem.W.nsIn K mainGlobals "list" = some none)
    (n0_clauses : PySem.W.findIn K (.ref C0) "clauses" = some none)
    (n1_name : PySem.W.findIn K (.ref C1) "name" = some none)
    (n1_params : PySem.W.findIn K (.ref C1) "params" = some none)
    (n1_result : PySem.W.findIn K (.ref C1) "result" = some none)
    (n1_pre : PySem.W.findIn K (.ref C1) "pre" = some none)
    (n1_post : PySem.W.findIn K (.ref C1) "post" = some none)
    (n1_body : PySem.W.findIn K (.ref C1) "body" = some none)
    (n2_name : PySem.W.findIn K (.ref C2) "name" = some none)
    (n2_bases : PySem.W.findIn K (.ref C2) "bases" = some none)
    (n2_fields : PySem.W.findIn K (.ref C2) "fields" = some none)
    (n2_where : PySem.W.findIn K (.ref C2) "where" = some none)
    (n2_methods : PySem.W.findIn K (.ref C2) "methods" = some none)
    (nt : PySem.W.findIn K (.ref C0) "terms" = some none)
    (s01 : PySem.W.subIn K (.ref C1) (.ref C0) = some false)
    (s02 : PySem.W.subIn K (.ref C2) (.ref C0) = some false)
    (s10 : PySem.W.subIn K (.ref C0) (.ref C1) = some false)
    (s12 : PySem.W.subIn K (.ref C2) (.ref C1) = some false)
    (s20 : PySem.W.subIn K (.ref C0) (.ref C2) = some false)
    (s21 : PySem.W.subIn K (.ref C1) (.ref C2) = some false)
    (y2 : PySem.W.specialIn K (.builtin "object.__class__") "__get__" = some (some (.builtin "getset_descriptor.__get__")))
    (y3 : PySem.W.takesIn K (.builtin "object.__class__") = some true)
    (fi0 : ∃ fd, Fun K "__init__" "Cond.__init__" sInit i0 fd)
    (fi1 : ∃ fd, FunM K i1 fd)
    (fi2 : ∃ fd, FunC K e0 e1 e2 i2 fd)
    (v0 : ∀ H, SqT K H e0 [])
    (v1 : ∀ H, SqT K H e1 [])
    (v2 : ∀ H, SqT K H e2 [])
    (fe0 : ∃ fd, Fun K "__eq__" "Cond.__eq__" sEq0 q0 fd ∧ Binds K fd ["self", "other"] [])
    (fe1 : ∃ fd, Fun K "__eq__" "Method.__eq__" sEq1 q1 fd ∧ Binds K fd ["self", "other"] [])
    (fe2 : ∃ fd, Fun K "__eq__" "ClassDef.__eq__" sEq2 q2 fd ∧ Binds K fd ["self", "other"] [])
    (d_int : ∃ f fd, Fs K mg "is_integer" sIsInt ["thing"] f fd)
    (d_word : ∃ f fd, Fs K mg "is_word" sIsWord ["thing"] f fd)
    (d_term : ∃ f fd, Fs K mg "is_term" sIsTerm ["thing"] f fd)
    (d_lit : ∃ f fd, Fs K mg "is_literal" sIsLit ["thing"] f fd)
    (d_litT : ∃ f fd, Fs K mg "is_literal_over_terms" sLitT ["thing"] f fd)
    (d_cl : ∃ f fd, Fs K mg "is_clause" sIsCl ["thing", "most"] f fd)
    (d_stand : ∃ f fd, Fs K mg "_can_stand" sStand ["thing"] f fd)
    (d_first : ∃ f fd, Fs K mg "_first_wrong" sFirst ["clauses"] f fd)
    (d_well : ∃ f fd, Fs K mg "_law_well" sWell ["_law_cell"] f fd)
    (d_draw : ∃ f fd, Fs K mg "_law_draw" sDraw ["_law_well_here", "_law_base"] f fd)
    (d_one : ∃ f fd, Fs K mg "_law_one" sOne ["_law_well_here", "_law_some"] f fd)
    (d_cond : ∃ f fd, Fs K mg "_law_cond" sCond ["_law_well_here"] f fd)
    (d_mp : ∃ f fd, Fs K mg "_law_method_parts" sMP ["_law_well_here"] f fd)
    (d_me : ∃ f fd, Fs K mg "_law_method" sMe ["_law_parts"] f fd)
    (d_cp : ∃ f fd, Fs K mg "_law_class_parts" sCP ["_law_well_here", "_law_method_here"] f fd)
    (d_cl2 : ∃ f fd, Fs K mg "_law_class" sCl ["_law_parts"] f fd)
    (d_fu : ∃ f fd, Fs K mg "_law_full" sFu ["_law_parts", "_law_places"] f fd)
    (d_mr : ∃ f fd, Fs K mg "_law_method_right" sMR ["_law_one_here", "_law_parts"] f fd)
    (d_cr : ∃ f fd, Fs K mg "_law_class_right" sCR ["_law_one_here", "_law_parts"] f fd)
    (hfa : mg "law" = some (.ref fa)) (mL : PySem.W.nsIn K mainGlobals "law" = some (some (.ref fl))) (lL : K.lookup fl = some ⟨oc, od, .func (PySem.W.fnOf "law" "law" (defArgs sLaw) (defBody sLaw) (defScope sLaw) .none kV doc pm an0 cdv ct), osl⟩) (cL : PySem.W.codeIn K cdv "law" = true) : Law K mg fa := by
  have e := hfa.symm.trans (PySem.W.mg_of X G mL)
  cases e
  have hy : ∀ {C fi fe : Addr} {cd : ClassData}, CF K C fi fe cd → ∀ (H : Hp) (a dx : Addr) (fs : List (Str × V)), H a = some (.ins C dx fs) → TyX K H (.ref a) (.ref C) := fun {C fi fe cd} x H a dx fs e => .base (.ins e x.cls x.y1 y2 y3 x.mo)
  let CC : Nat → Addr := pick C0 C1 C2
  let QQ : Nat → Addr := pick q0 q1 q2
  have subs : ∀ k, k < 3 → ∀ l, l < 3 → k ≠ l → PySem.W.subIn K (.ref (CC l)) (.ref (CC k)) = some false := by
    intro k hk l hl
    refine three (P := fun k => k ≠ l → PySem.W.subIn K (.ref (CC l)) (.ref (CC k)) = some false) hk ?_ ?_ ?_
    · exact three (P := fun l => 0 ≠ l → PySem.W.subIn K (.ref (CC l)) (.ref (CC 0)) = some false) hl (fun e => absurd rfl e) (fun _ => s01) (fun _ => s02)
    · exact three (P := fun l => 1 ≠ l → PySem.W.subIn K (.ref (CC l)) (.ref (CC 1)) = some false) hl (fun _ => s10) (fun e => absurd rfl e) (fun _ => s12)
    · exact three (P := fun l => 2 ≠ l → PySem.W.subIn K (.ref (CC l)) (.ref (CC 2)) = some false) hl (fun _ => s20) (fun _ => s21) (fun e => absurd rfl e)
  have selfs : ∀ k, k < 3 → PySem.W.subIn K (.ref (CC k)) (.ref (CC k)) = some true := fun k hk => three (P := fun k => PySem.W.subIn K (.ref (CC k)) (.ref (CC k)) = some true) hk F0.se F1.se F2.se
  have inj : ∀ k, k < 3 → ∀ l, l < 3 → CC k = CC l → k = l := by
    intro k hk l hl e
    by_cases ne : k = l
    · exact ne
    · have h1 := subs k hk l hl ne
      have h2 := selfs k hk
      rw [show CC l = CC k from e.symm, h2] at h1
      cases h1
  have W : OwnCls K (clk CC QQ) (S2 (clk CC QQ)) := by
    refine ⟨fun k ⟨ds, h⟩ => ?_, fun k ⟨ds, h⟩ => ?_, fun k l ⟨ds, h⟩ ⟨es, g⟩ e => inj k (s2_lt h) l (s2_lt g) e, fun k l ⟨ds, h⟩ ⟨es, g⟩ ne => subs k (s2_lt h) l (s2_lt g) ne, fun k ⟨ds, h⟩ => ?_⟩
    · exact three (P := fun k => PySem.W.findIn K (.ref (CC k)) "__eq__" = some (some (.ref (QQ k)))) (s2_lt h) F0.e1 F1.e1 F2.e1
    · exact three (P := fun k => PySem.W.isFn K (.ref (QQ k)) = true) (s2_lt h) F0.e2 F1.e2 F2.e2
    · exact three (P := fun k => ∀ T, T ∈ ["NoneType", "bool", "int", "str", "tuple", "list"] → PySem.W.subIn K (.type T) (.ref (CC k)) = some false ∧ PySem.W.subIn K (.ref (CC k)) (.type T) = some false) (s2_lt h) F0.sT F1.sT F2.sT
  have KT : Kits K (clk CC QQ) 3 := by
    refine ⟨fun k hk => ?_, fun k hk => ?_, fun k hk => ?_⟩
    · exact three (P := fun k => ∃ cd, PySem.W.clsIn K (CC k) = some cd) hk ⟨_, F0.kc⟩ ⟨_, F1.kc⟩ ⟨_, F2.kc⟩
    · exact three (P := fun k => PySem.W.typeIn K (.ref (CC k)) = some (.type "type")) hk F0.kt F1.kt F2.kt
    · exact three (P := fun k => ∀ (H : Hp) (a dx : Addr) (fs : List (Str × V)), H a = some (.ins (CC k) dx fs) → TyX K H (.ref a) (.ref (CC k))) hk (hy F0) (hy F1) (hy F2)
  have T : Txt K mg CC QQ := by
    refine ⟨W, KT, fun k hk => ?_, fun k hk => ?_, PySem.W.mg_none_of X G z_isinstance⟩
    · exact three (P := fun k => Cls K (CC k)) hk F0.cls F1.cls F2.cls
    · refine three (P := fun k => ∀ x ∈ nm k, NoAttr K (CC k) x) hk ?_ ?_ ?_
      · intro x hx
        have hx : x ∈ (["clauses"] : List Str) := hx
        simp only [List.mem_cons, List.not_mem_nil, or_false] at hx
        subst hx; exact n0_clauses
      · intro x hx
        have hx : x ∈ (["name", "params", "result", "pre", "post", "body"] : List Str) := hx
        simp only [List.mem_cons, List.not_mem_nil, or_false] at hx
        rcases hx with rfl | rfl | rfl | rfl | rfl | rfl
        · exact n1_name
        · exact n1_params
        · exact n1_result
        · exact n1_pre
        · exact n1_post
        · exact n1_body
      · intro x hx
        have hx : x ∈ (["name", "bases", "fields", "where", "methods"] : List Str) := hx
        simp only [List.mem_cons, List.not_mem_nil, or_false] at hx
        rcases hx with rfl | rfl | rfl | rfl | rfl
        · exact n2_name
        · exact n2_bases
        · exact n2_fields
        · exact n2_where
        · exact n2_methods
  obtain ⟨fdI, fi0⟩ := fi0
  obtain ⟨fdM, fi1⟩ := fi1
  obtain ⟨fdC, fi2⟩ := fi2
  have TB : Bx mg := ⟨PySem.W.mg_none_of X G z_isinstance, PySem.W.mg_none_of X G z_int, PySem.W.mg_none_of X G z_bool, PySem.W.mg_none_of X G z_str, PySem.W.mg_none_of X G z_tuple, PySem.W.mg_none_of X G z_len, PySem.W.mg_none_of X G z_all, PySem.W.mg_none_of X G z_sorted, PySem.W.mg_none_of X G z_enumerate, ⟨_, PySem.W.mg_of X G mLet⟩, ⟨_, PySem.W.mg_of X G mLong⟩⟩
  have FM : Forms K mg := ⟨TB, ⟨_, PySem.W.mg_of X G mML⟩, ⟨_, PySem.W.mg_of X G mMC⟩, d_int, d_word, d_term, d_lit, d_cl, d_stand, d_litT⟩
  have CM : CondMk K mg C0 i0 fdI := ⟨⟨F0.cls, n0_clauses, nt, PySem.W.mg_of X G mN0, d_first, FM⟩, fi0, ⟨F0.m1, F0.m2, F0.m3, F0.m4⟩⟩
  have NC : NeC CC := ⟨fun e => (by decide : ¬ (0 : Nat) = 1) (inj 0 (by decide) 1 (by decide) e), fun e => (by decide : ¬ (0 : Nat) = 2) (inj 0 (by decide) 2 (by decide) e), fun e => (by decide : ¬ (1 : Nat) = 2) (inj 1 (by decide) 2 (by decide) e)⟩
  have D : Drw K mg := ⟨⟨PySem.W.mg_none_of X G z_int, PySem.W.mg_none_of X G z_len⟩, d_well, d_draw, d_one⟩
  exact ⟨⟨CC, QQ, i0, i1, i2, e0, e1, e2, fdI, fdM, fdC, T, NC, CM, ⟨⟨F1.m1, F1.m2, F1.m3, F1.m4⟩, fi1, PySem.W.mg_of X G mN1⟩, ⟨⟨F2.m1, F2.m2, F2.m3, F2.m4⟩, fi2, PySem.W.mg_of X G mN2⟩, D, PySem.W.mg_none_of X G z_list, fun k hk => three (P := fun k => NoNe K (CC k)) hk ⟨F0.mo, F0.ne⟩ ⟨F1.mo, F1.ne⟩ ⟨F2.mo, F2.ne⟩, v0, v1, v2, d_cond, d_mp, d_me, d_cp, d_cl2, d_fu, d_mr, d_cr, fe0, fe1, fe2⟩, ⟨oc, kV, doc, pm, cdv, ct, od, an0, osl, lL, cL⟩⟩
end Kx
open PySem PySem.W PyProof.Rows
set_option maxRecDepth 100000 in
set_option maxHeartbeats 0 in
theorem PySem.Challenge.cw_contractheirs_k11_methods_and_classes_holds : PySem.Challenge.rw_contractheirs_k11_methods_and_classes.Holds := by
  w_on; o_law; k_head; (case hw => w_witness2)
  k_fill
  refine Kx.walk (l := PySem.Challenge.rw_contractheirs_k11_methods_and_classes) rfl rfl (fun w h Y => PySem.W.kIn_of Y) ?F
  case F =>
    intro w mg fa h KX G hmg
    refine' Kx.all_mk KX G ⟨?f0_c1, ?f0_c2, ?f0_c3, ?f0_c4, ?f0_m1, ?f0_m2, ?f0_m3, ?f0_m4, ?f0_e1, ?f0_e2, ?f0_ne, ?f0_mo, ?f0_y1, ?f0_kc, ?f0_kt, ?f0_se, ?f0_a0, ?f0_b0, ?f0_a1, ?f0_b1, ?f0_a2, ?f0_b2, ?f0_a3, ?f0_b3, ?f0_a4, ?f0_b4, ?f0_a5, ?f0_b5⟩ ⟨?f1_c1, ?f1_c2, ?f1_c3, ?f1_c4, ?f1_m1, ?f1_m2, ?f1_m3, ?f1_m4, ?f1_e1, ?f1_e2, ?f1_ne, ?f1_mo, ?f1_y1, ?f1_kc, ?f1_kt, ?f1_se, ?f1_a0, ?f1_b0, ?f1_a1, ?f1_b1, ?f1_a2, ?f1_b2, ?f1_a3, ?f1_b3, ?f1_a4, ?f1_b4, ?f1_a5, ?f1_b5⟩ ⟨?f2_c1, ?f2_c2, ?f2_c3, ?f2_c4, ?f2_m1, ?f2_m2, ?f2_m3, ?f2_m4, ?f2_e1, ?f2_e2, ?f2_ne, ?f2_mo, ?f2_y1, ?f2_kc, ?f2_kt, ?f2_se, ?f2_a0, ?f2_b0, ?f2_a1, ?f2_b1, ?f2_a2, ?f2_b2, ?f2_a3, ?f2_b3, ?f2_a4, ?f2_b4, ?f2_a5, ?f2_b5⟩ ?h_mN0 ?h_mN1 ?h_mN2 ?h_mLet ?h_mLong ?h_mML ?h_mMC ?h_z_isinstance ?h_z_int ?h_z_bool ?h_z_str ?h_z_tuple ?h_z_len ?h_z_all ?h_z_sorted ?h_z_enumerate ?h_z_list ?h_n0_clauses ?h_n1_name ?h_n1_params ?h_n1_result ?h_n1_pre ?h_n1_post ?h_n1_body ?h_n2_name ?h_n2_bases ?h_n2_fields ?h_n2_where ?h_n2_methods ?h_nt ?h_s01 ?h_s02 ?h_s10 ?h_s12 ?h_s20 ?h_s21 ?h_y2 ?h_y3 (Kx.init_mk ?gi0a ?gi0b ?gi0c) (Kx.m_mk ?gi1a ?gi1b ?gi1c ?gi1d ?gi1e) (Kx.c_mk ?gi2a ?gi2b ?gi2c ?gi2d ?gi2e ?gi2f ?gi2g ?gi2h) (Kx.emp ?gv0a ?gv0b ?gv0c) (Kx.emp ?gv1a ?gv1b ?gv1c) (Kx.emp ?gv2a ?gv2b ?gv2c) (Kx.fun_bind ?gq0a ?gq0b ?gq0c (fun _ _ _ _ _ _ us hl => match us, hl with | [_, _], _ => rfl)) (Kx.fun_bind ?gq1a ?gq1b ?gq1c (fun _ _ _ _ _ _ us hl => match us, hl with | [_, _], _ => rfl)) (Kx.fun_bind ?gq2a ?gq2b ?gq2c (fun _ _ _ _ _ _ us hl => match us, hl with | [_, _], _ => rfl)) (Kx.def_mk KX G ?uda0 ?udb0 ?udc0 ?udd0 (fun _ _ _ _ _ _ us hl => match us, hl with | [_], _ => rfl)) (Kx.def_mk KX G ?uda1 ?udb1 ?udc1 ?udd1 (fun _ _ _ _ _ _ us hl => match us, hl with | [_], _ => rfl)) (Kx.def_mk KX G ?uda2 ?udb2 ?udc2 ?udd2 (fun _ _ _ _ _ _ us hl => match us, hl with | [_], _ => rfl)) (Kx.def_mk KX G ?uda3 ?udb3 ?udc3 ?udd3 (fun _ _ _ _ _ _ us hl => match us, hl with | [_], _ => rfl)) (Kx.def_mk KX G ?uda4 ?udb4 ?udc4 ?udd4 (fun _ _ _ _ _ _ us hl => match us, hl with | [_], _ => rfl)) (Kx.def_mk KX G ?uda5 ?udb5 ?udc5 ?udd5 (fun _ _ _ _ _ _ us hl => match us, hl with | [_, _], _ => rfl)) (Kx.def_mk KX G ?uda6 ?udb6 ?udc6 ?udd6 (fun _ _ _ _ _ _ us hl => match us, hl with | [_], _ => rfl)) (Kx.def_mk KX G ?uda7 ?udb7 ?udc7 ?udd7 (fun _ _ _ _ _ _ us hl => match us, hl with | [_], _ => rfl)) (Kx.def_mk KX G ?uda8 ?udb8 ?udc8 ?udd8 (fun _ _ _ _ _ _ us hl => match us, hl with | [_], _ => rfl)) (Kx.def_mk KX G ?uda9 ?udb9 ?udc9 ?udd9 (fun _ _ _ _ _ _ us hl => match us, hl with | [_, _], _ => rfl)) (Kx.def_mk KX G ?uda10 ?udb10 ?udc10 ?udd10 (fun _ _ _ _ _ _ us hl => match us, hl with | [_, _], _ => rfl)) (Kx.def_mk KX G ?uda11 ?udb11 ?udc11 ?udd11 (fun _ _ _ _ _ _ us hl => match us, hl with | [_], _ => rfl)) (Kx.def_mk KX G ?uda12 ?udb12 ?udc12 ?udd12 (fun _ _ _ _ _ _ us hl => match us, hl with | [_], _ => rfl)) (Kx.def_mk KX G ?uda13 ?udb13 ?udc13 ?udd13 (fun _ _ _ _ _ _ us hl => match us, hl with | [_], _ => rfl)) (Kx.def_mk KX G ?uda14 ?udb14 ?udc14 ?udd14 (fun _ _ _ _ _ _ us hl => match us, hl with | [_, _], _ => rfl)) (Kx.def_mk KX G ?uda15 ?udb15 ?udc15 ?udd15 (fun _ _ _ _ _ _ us hl => match us, hl with | [_], _ => rfl)) (Kx.def_mk KX G ?uda16 ?udb16 ?udc16 ?udd16 (fun _ _ _ _ _ _ us hl => match us, hl with | [_, _], _ => rfl)) (Kx.def_mk KX G ?uda17 ?udb17 ?udc17 ?udd17 (fun _ _ _ _ _ _ us hl => match us, hl with | [_, _], _ => rfl)) (Kx.def_mk KX G ?uda18 ?udb18 ?udc18 ?udd18 (fun _ _ _ _ _ _ us hl => match us, hl with | [_, _], _ => rfl)) hmg ?umL ?ulL ?ucL
    (case h_mN0 => k_is)
    (case h_mN1 => k_is)
    (case h_mN2 => k_is)
    (case f0_c1 => k_is)
    (case f0_c2 => k_is)
    (case f0_c3 => k_is)
    (case f0_c4 => k_is)
    (case f0_m1 => k_is)
    (case f0_m2 => k_is)
    (case f0_m3 => k_is)
    (case f0_m4 => k_is)
    (case f0_e1 => k_is)
    (case f0_e2 => k_is)
    (case f0_ne => k_is)
    (case f0_mo => k_is)
    (case f0_y1 => k_is)
    (case f0_kc => k_is)
    (case f0_kt => k_is)
    (case f0_se => k_is)
    (case f0_a0 => k_is)
    (case f0_b0 => k_is)
    (case f0_a1 => k_is)
    (case f0_b1 => k_is)
    (case f0_a2 => k_is)
    (case f0_b2 => k_is)
    (case f0_a3 => k_is)
    (case f0_b3 => k_is)
    (case f0_a4 => k_is)
    (case f0_b4 => k_is)
    (case f0_a5 => k_is)
    (case f0_b5 => k_is)
    (case f1_c1 => k_is)
    (case f1_c2 => k_is)
    (case f1_c3 => k_is)
    (case f1_c4 => k_is)
    (case f1_m1 => k_is)
    (case f1_m2 => k_is)
    (case f1_m3 => k_is)
    (case f1_m4 => k_is)
    (case f1_e1 => k_is)
    (case f1_e2 => k_is)
    (case f1_ne => k_is)
    (case f1_mo => k_is)
    (case f1_y1 => k_is)
    (case f1_kc => k_is)
    (case f1_kt => k_is)
    (case f1_se => k_is)
    (case f1_a0 => k_is)
    (case f1_b0 => k_is)
    (case f1_a1 => k_is)
    (case f1_b1 => k_is)
    (case f1_a2 => k_is)
    (case f1_b2 => k_is)
    (case f1_a3 => k_is)
    (case f1_b3 => k_is)
    (case f1_a4 => k_is)
    (case f1_b4 => k_is)
    (case f1_a5 => k_is)
    (case f1_b5 => k_is)
    (case f2_c1 => k_is)
    (case f2_c2 => k_is)
    (case f2_c3 => k_is)
    (case f2_c4 => k_is)
    (case f2_m1 => k_is)
    (case f2_m2 => k_is)
    (case f2_m3 => k_is)
    (case f2_m4 => k_is)
    (case f2_e1 => k_is)
    (case f2_e2 => k_is)
    (case f2_ne => k_is)
    (case f2_mo => k_is)
    (case f2_y1 => k_is)
    (case f2_kc => k_is)
    (case f2_kt => k_is)
    (case f2_se => k_is)
    (case f2_a0 => k_is)
    (case f2_b0 => k_is)
    (case f2_a1 => k_is)
    (case f2_b1 => k_is)
    (case f2_a2 => k_is)
    (case f2_b2 => k_is)
    (case f2_a3 => k_is)
    (case f2_b3 => k_is)
    (case f2_a4 => k_is)
    (case f2_b4 => k_is)
    (case f2_a5 => k_is)
    (case f2_b5 => k_is)
    (case h_mLet => k_is)
    (case h_mLong => k_is)
    (case h_mML => k_is)
    (case h_mMC => k_is)
    (case h_z_isinstance => k_is)
    (case h_z_int => k_is)
    (case h_z_bool => k_is)
    (case h_z_str => k_is)
    (case h_z_tuple => k_is)
    (case h_z_len => k_is)
    (case h_z_all => k_is)
    (case h_z_sorted => k_is)
    (case h_z_enumerate => k_is)
    (case h_z_list => k_is)
    (case h_n0_clauses => k_is)
    (case h_n1_name => k_is)
    (case h_n1_params => k_is)
    (case h_n1_result => k_is)
    (case h_n1_pre => k_is)
    (case h_n1_post => k_is)
    (case h_n1_body => k_is)
    (case h_n2_name => k_is)
    (case h_n2_bases => k_is)
    (case h_n2_fields => k_is)
    (case h_n2_where => k_is)
    (case h_n2_methods => k_is)
    (case h_nt => k_is)
    (case h_s01 => k_is)
    (case h_s02 => k_is)
    (case h_s10 => k_is)
    (case h_s12 => k_is)
    (case h_s20 => k_is)
    (case h_s21 => k_is)
    (case h_y2 => k_is)
    (case h_y3 => k_is)
    (case gi0a => k_is)
    (case gi0b => k_is)
    (case gi0c => k_is)
    (case gi1a => k_is)
    (case gi1b => k_is)
    (case gi1c => k_is)
    (case gi1d => k_is)
    (case gi1e => k_is)
    (case gi2a => k_is)
    (case gi2b => k_is)
    (case gi2c => k_is)
    (case gi2d => k_is)
    (case gi2e => rfl)
    (case gi2f => k_is)
    (case gi2g => k_is)
    (case gi2h => k_is)
    (case gv0a => k_is)
    (case gv0b => rfl)
    (case gv0c => rfl)
    (case gv1a => k_is)
    (case gv1b => rfl)
    (case gv1c => rfl)
    (case gv2a => k_is)
    (case gv2b => rfl)
    (case gv2c => rfl)
    (case gq0a => k_is)
    (case gq0b => k_is)
    (case gq0c => k_is)
    (case gq1a => k_is)
    (case gq1b => k_is)
    (case gq1c => k_is)
    (case gq2a => k_is)
    (case gq2b => k_is)
    (case gq2c => k_is)
    (case uda0 => k_is)
    (case udb0 => k_is)
    (case udc0 => k_is)
    (case udd0 => k_is)
    (case uda1 => k_is)
    (case udb1 => k_is)
    (case udc1 => k_is)
    (case udd1 => k_is)
    (case uda2 => k_is)
    (case udb2 => k_is)
    (case udc2 => k_is)
    (case udd2 => k_is)
    (case uda3 => k_is)
    (case udb3 => k_is)
    (case udc3 => k_is)
    (case udd3 => k_is)
    (case uda4 => k_is)
    (case udb4 => k_is)
    (case udc4 => k_is)
    (case udd4 => k_is)
    (case uda5 => k_is)
    (case udb5 => k_is)
    (case udc5 => k_is)
    (case udd5 => k_is)
    (case uda6 => k_is)
    (case udb6 => k_is)
    (case udc6 => k_is)
    (case udd6 => k_is)
    (case uda7 => k_is)
    (case udb7 => k_is)
    (case udc7 => k_is)
    (case udd7 => k_is)
    (case uda8 => k_is)
    (case udb8 => k_is)
    (case udc8 => k_is)
    (case udd8 => k_is)
    (case uda9 => k_is)
    (case udb9 => k_is)
    (case udc9 => k_is)
    (case udd9 => k_is)
    (case uda10 => k_is)
    (case udb10 => k_is)
    (case udc10 => k_is)
    (case udd10 => k_is)
    (case uda11 => k_is)
    (case udb11 => k_is)
    (case udc11 => k_is)
    (case udd11 => k_is)
    (case uda12 => k_is)
    (case udb12 => k_is)
    (case udc12 => k_is)
    (case udd12 => k_is)
    (case uda13 => k_is)
    (case udb13 => k_is)
    (case udc13 => k_is)
    (case udd13 => k_is)
    (case uda14 => k_is)
    (case udb14 => k_is)
    (case udc14 => k_is)
    (case udd14 => k_is)
    (case uda15 => k_is)
    (case udb15 => k_is)
    (case udc15 => k_is)
    (case udd15 => k_is)
    (case uda16 => k_is)
    (case udb16 => k_is)
    (case udc16 => k_is)
    (case udd16 => k_is)
    (case uda17 => k_is)
    (case udb17 => k_is)
    (case udc17 => k_is)
    (case udd17 => k_is)
    (case uda18 => k_is)
    (case udb18 => k_is)
    (case udc18 => k_is)
    (case udd18 => k_is)
    (case umL => k_is)
    (case ulL => k_is)
    (case ucL => k_is)
