import PyProof.Rows.All
import Wide.All
import OpenK.AllK
import Wide.FinOn
import HandS.OwnEq
import OpenK.KOwn
import OpenK.KOps
import OpenK.KMake
import PyProof.EqKinds
import PyProof.InstNe
import HandS.ForMost
import HandS.ForExc
import HandS.Wide
import HandS.IsInst
import HandS.Flow
import HandS.Walk
import HandS.Text
import HandS.Conv
import HandS.Star
import HandS.ClsMeth
import HandS.TupAny
import HandS.Style
import PySem.Challenge.RW_contractheirs_k20_checks
set_option Elab.async false
set_option linter.all false
set_option maxRecDepth 100000
set_option maxHeartbeats 8000000
set_option linter.all false
/-! == and != of tuples and lists, with any answer, whose items may be objects with an own == -/
namespace PySem.SeqAt
open AutoSeq1 (wpAny_loadPart')
open MeetsSeq MeetsSeq2 MeetsSeq3 SeqRoads2
theorem str_eq_declines_plain (b : Str) (u : Tok) (l : Addr) (c : Value) (dd : Option Addr) (sl : Array (Option Value)) :
    Meets (Builtin.«str.__eq__» ⟨[.str b u, .ref l], []⟩) (fun _ R s => s.heap.get? l = some { cls := c, dict := dd, data := .plain, slots := sl } ∧ R (.ok (.ret .notImplemented)) s) :=
  .of_wp fun prog w A R s h => by obtain ⟨hp, g, d, tk, os⟩ := s; obtain ⟨hl, h⟩ := h; wp_walk using wpAny_loadPart' hl, wpAny_load hl; exact ⟨_, rfl, h⟩
theorem bool_eq_declines_plain (b : Bool) (l : Addr) (c : Value) (dd : Option Addr) (sl : Array (Option Value)) :
    Meets (Builtin.«int.__eq__» ⟨[.bool b, .ref l], []⟩) (fun _ R s => s.heap.get? l = some { cls := c, dict := dd, data := .plain, slots := sl } ∧ R (.ok (.ret .notImplemented)) s) :=
  .of_wp fun prog w A R s h => by obtain ⟨hp, g, d, tk, os⟩ := s; obtain ⟨hl, h⟩ := h; wp_walk using wpAny_loadPart' hl, wpAny_load hl; exact ⟨_, rfl, h⟩
theorem int_eq_declines_plain (b : Int) (u : Tok) (l : Addr) (c : Value) (dd : Option Addr) (sl : Array (Option Value)) :
    Meets (Builtin.«int.__eq__» ⟨[.int b u, .ref l], []⟩) (fun _ R s => s.heap.get? l = some { cls := c, dict := dd, data := .plain, slots := sl } ∧ R (.ok (.ret .notImplemented)) s) :=
  .of_wp fun prog w A R s h => by obtain ⟨hp, g, d, tk, os⟩ := s; obtain ⟨hl, h⟩ := h; wp_walk using wpAny_loadPart' hl, wpAny_load hl; exact ⟨_, rfl, h⟩
end PySem.SeqAt
namespace GQ
open PySem PySem.SeqAt
open AutoSeq1 (wpAny_loadPart')
open MeetsSeq MeetsSeq2 MeetsSeq3 SeqRoads2
section
variable {prog : Program} {w : World} {A : Around} {R : Result → Shared → Prop}
/-- what two rows of things give, by what each pair gives -/
def allEq (m n : Nat) (e : Nat → Bool) : Bool := (List.range (min m n)).all e && m == n
theorem tuple_eqB (l b : Addr) (items items2 : Array Value) (n n2 : Nat) (dd dd2 : Option Addr) (sl sl2 : Array (Option Value)) (e : Nat → Bool) (I : Nat → Shared → Prop)
    (turn : ∀ i (h1 : i < items.size) (h2 : i < items2.size) s, I i s → wpAny (model prog w) A.in1 (eqBool items[i] items2[i]) (fun r s' => r = e i ∧ I (i + 1) s') (fun e s' => R (.error e) s') s)
    (fin : ∀ i s, I i s → R (.ok (.ret (.bool (allEq items.size items2.size e)))) s) {s : Shared} (hl1 : s.heap.get? l = some { cls := .type "tuple", dict := dd, data := .seq items n, slots := sl }) (hb1 : s.heap.get? b = some { cls := .type "tuple", dict := dd2, data := .seq items2 n2, slots := sl2 }) (h : I 0 s) :
    wpAny (model prog w) A.in1 (Builtin.«tuple.__eq__» ⟨[.ref l, .ref b], []⟩) (FinOf prog w A R) (fun e s' => R (.error e) s') s := by
  have f2 := AutoSeq1.sub_tuple_tuple
  have hZ : (items.toList.zip items2.toList).length = min items.size items2.size := by simp
  have h0 := h
  obtain ⟨hp, g, d, tk, os⟩ := s
  wp_walk using wpAny_loadPart' hl1, wpAny_loadPart' hb1, wpAny_forIn_list _ (fun rest b s' => b.1 = none ∧ ∃ i, rest = (items.toList.zip items2.toList).drop i ∧ I i s' ∧ (((List.range (min items.size items2.size)).drop i).all e && items.size == items2.size) = allEq items.size items2.size e) _
  case turn =>
    rintro ⟨y, x⟩ rest b s' ⟨hb', i, hz, hI, hR⟩
    have hlt : i < (items.toList.zip items2.toList).length := by
      rcases Nat.lt_or_ge i (items.toList.zip items2.toList).length with h' | h'
      · exact h'
      · rw [List.drop_of_length_le h'] at hz; cases hz
    have hm : i < min items.size items2.size := hZ ▸ hlt
    have h1 : i < items.size := Nat.lt_of_lt_of_le hm (Nat.min_le_left _ _)
    have h2 : i < items2.size := Nat.lt_of_lt_of_le hm (Nat.min_le_right _ _)
    rw [List.drop_eq_getElem_cons hlt] at hz
    injection hz with hyx hrest
    have hy : y = items[i] := by have := congrArg Prod.fst hyx; simpa using this
    have hx : x = items2[i] := by have := congrArg Prod.snd hyx; simpa using this
    subst hy hx
    have hd : (List.range (min items.size items2.size)).drop i = i :: (List.range (min items.size items2.size)).drop (i + 1) := by simp [List.drop_eq_getElem_cons, hm]
    rw [hd, List.all_cons] at hR
    refine wpAny_bind (wpAny_mono (turn i h1 h2 s' hI) (fun r s2 q2 => ?_) fun _ _ x => x)
    obtain ⟨hr, q2⟩ := q2
    subst hr
    cases hy : e i with
    | true =>
      rw [hy] at hR
      wp_walk
      exact ⟨rfl, i + 1, hrest, q2, by simpa using hR⟩
    | false =>
      rw [hy] at hR
      have hf := fin _ _ q2
      rw [← hR] at hf
      wp_walk
      simpa using hf
  case fin =>
    rintro ⟨b1, b2⟩ s' ⟨hb', i, hz, hI, hR⟩
    simp only at hb'
    subst hb'
    have hge : min items.size items2.size ≤ i := by
      rcases Nat.lt_or_ge i (items.toList.zip items2.toList).length with h' | h'
      · rw [List.drop_eq_getElem_cons h'] at hz; cases hz
      · exact hZ ▸ h'
    rw [List.drop_of_length_le (by simpa using hge)] at hR
    have hf := fin _ _ hI
    rw [← hR] at hf
    wp_walk
    simpa [Builtin.Tuple.tupleCompareSizes] using hf
  case h =>
    exact ⟨rfl, 0, rfl, h0, rfl⟩
theorem tuple_neB (l b : Addr) (items items2 : Array Value) (n n2 : Nat) (dd dd2 : Option Addr) (sl sl2 : Array (Option Value)) (e : Nat → Bool) (I : Nat → Shared → Prop)
    (turn : ∀ i (h1 : i < items.size) (h2 : i < items2.size) s, I i s → wpAny (model prog w) A.in1 (eqBool items[i] items2[i]) (fun r s' => r = e i ∧ I (i + 1) s') (fun e s' => R (.error e) s') s)
    (fin : ∀ i s, I i s → R (.ok (.ret (.bool (!allEq items.size items2.size e)))) s) {s : Shared} (hl1 : s.heap.get? l = some { cls := .type "tuple", dict := dd, data := .seq items n, slots := sl }) (hb1 : s.heap.get? b = some { cls := .type "tuple", dict := dd2, data := .seq items2 n2, slots := sl2 }) (h : I 0 s) :
    wpAny (model prog w) A.in1 (Builtin.«tuple.__ne__» ⟨[.ref l, .ref b], []⟩) (FinOf prog w A R) (fun e s' => R (.error e) s') s := by
  have f2 := AutoSeq1.sub_tuple_tuple
  have hZ : (items.toList.zip items2.toList).length = min items.size items2.size := by simp
  have h0 := h
  obtain ⟨hp, g, d, tk, os⟩ := s
  wp_walk using wpAny_loadPart' hl1, wpAny_loadPart' hb1, wpAny_forIn_list _ (fun rest b s' => b.1 = none ∧ ∃ i, rest = (items.toList.zip items2.toList).drop i ∧ I i s' ∧ (((List.range (min items.size items2.size)).drop i).all e && items.size == items2.size) = allEq items.size items2.size e) _
  case turn =>
    rintro ⟨y, x⟩ rest b s' ⟨hb', i, hz, hI, hR⟩
    have hlt : i < (items.toList.zip items2.toList).length := by
      rcases Nat.lt_or_ge i (items.toList.zip items2.toList).length with h' | h'
      · exact h'
      · rw [List.drop_of_length_le h'] at hz; cases hz
    have hm : i < min items.size items2.size := hZ ▸ hlt
    have h1 : i < items.size := Nat.lt_of_lt_of_le hm (Nat.min_le_left _ _)
    have h2 : i < items2.size := Nat.lt_of_lt_of_le hm (Nat.min_le_right _ _)
    rw [List.drop_eq_getElem_cons hlt] at hz
    injection hz with hyx hrest
    have hy : y = items[i] := by have := congrArg Prod.fst hyx; simpa using this
    have hx : x = items2[i] := by have := congrArg Prod.snd hyx; simpa using this
    subst hy hx
    have hd : (List.range (min items.size items2.size)).drop i = i :: (List.range (min items.size items2.size)).drop (i + 1) := by simp [List.drop_eq_getElem_cons, hm]
    rw [hd, List.all_cons] at hR
    refine wpAny_bind (wpAny_mono (turn i h1 h2 s' hI) (fun r s2 q2 => ?_) fun _ _ x => x)
    obtain ⟨hr, q2⟩ := q2
    subst hr
    cases hy : e i with
    | true =>
      rw [hy] at hR
      wp_walk
      exact ⟨rfl, i + 1, hrest, q2, by simpa using hR⟩
    | false =>
      rw [hy] at hR
      have hf := fin _ _ q2
      rw [← hR] at hf
      wp_walk
      simpa using hf
  case fin =>
    rintro ⟨b1, b2⟩ s' ⟨hb', i, hz, hI, hR⟩
    simp only at hb'
    subst hb'
    have hge : min items.size items2.size ≤ i := by
      rcases Nat.lt_or_ge i (items.toList.zip items2.toList).length with h' | h'
      · rw [List.drop_eq_getElem_cons h'] at hz; cases hz
      · exact hZ ▸ h'
    rw [List.drop_of_length_le (by simpa using hge)] at hR
    have hf := fin _ _ hI
    rw [← hR] at hf
    wp_walk
    simpa [Builtin.Tuple.tupleCompareSizes, bne] using hf
  case h =>
    exact ⟨rfl, 0, rfl, h0, rfl⟩
/-- at each turn the two lists are read anew -/
def ListB (prog : Program) (w : World) (A : Around) (E : Value → Shared → Prop) (l b : Addr) (N : Nat) (e : Nat → Bool) (I : Nat → Shared → Prop) : Prop :=
  ∀ i s, I i s → ∃ (items items2 : Array Value) (n n2 : Nat), s.heap.get? l = some { cls := .type "list", data := .seq items n } ∧ s.heap.get? b = some { cls := .type "list", data := .seq items2 n2 } ∧ items.size = N ∧ items2.size = N ∧
    ∀ (h1 : i < items.size) (h2 : i < items2.size), wpAny (model prog w) A.in1 (eqBool items[i] items2[i]) (fun r s' => r = e i ∧ I (i + 1) s') E s
theorem eq_loopB (l b : Addr) (N : Nat) (e : Nat → Bool) (I : Nat → Shared → Prop) (hl : ListB prog w A (fun e s' => R (.error e) s') l b N e I)
    (fin : ∀ i s, I i s → R (.ok (.ret (.bool ((List.range N).all e)))) s) (k : Nat) :
    ∀ i : Nat, N - i = k → i ≤ N → ((List.range N).drop i).all e = (List.range N).all e → ∀ s, I i s →
      wpAny (model prog w) A.in1 (Builtin.«list.__eq__.loop» ⟨[.ref l, .ref b, rawInt i, rawInt 2], []⟩) (FinOf prog w A R) (fun e s' => R (.error e) s') s := by
  induction k with
  | zero =>
    intro i hk hi hv s h
    obtain ⟨items, items2, n, n2, hl1, hb1, hs1, hs2, _⟩ := hl _ _ h
    have hi' : i = N := by omega
    have hR := fin _ s h
    rw [← hv, hi', List.drop_of_length_le (by simp)] at hR
    obtain ⟨hp, g, d, tk, os⟩ := s
    wp_walk using wpAny_loadPart' hl1, wpAny_loadPart' hb1
    have hi1 : items[((i : Nat) : Int).toNat]? = none := by simp; omega
    have hi2 : items2[((i : Nat) : Int).toNat]? = none := by simp; omega
    rw [hi1, hi2]
    wp_walk using wpAny_loadPart' hl1, wpAny_loadPart' hb1
    show R (.ok (.ret (.bool (items.size == items2.size)))) _
    rw [hs1, hs2]
    simpa using hR
  | succ k ih =>
    intro i hk hi hv s h
    obtain ⟨items, items2, n, n2, hl1, hb1, hs1, hs2, turn⟩ := hl _ _ h
    have hlt : i < items.size := by omega
    have hlt2 : i < items2.size := by omega
    have ht := turn hlt hlt2
    have hd : (List.range N).drop i = i :: (List.range N).drop (i + 1) := by
      have hN : i < (List.range N).length := by simp; omega
      rw [List.drop_eq_getElem_cons hN]; simp
    rw [hd, List.all_cons] at hv
    obtain ⟨hp, g, d, tk, os⟩ := s
    wp_walk using wpAny_loadPart' hl1, wpAny_loadPart' hb1
    have hi1 : items[((i : Nat) : Int).toNat]? = some items[i] := by simp [hlt]
    have hi2 : items2[((i : Nat) : Int).toNat]? = some items2[i] := by simp [hlt2]
    have hc : ((i : Int) + 1) = ((i + 1 : Nat) : Int) := by omega
    rw [hi1, hi2]
    refine wpAny_bind (wpAny_mono ht (fun r s2 h2 => ?_) fun _ _ x => x)
    obtain ⟨hr, h2⟩ := h2
    subst hr
    cases hy : e i with
    | true =>
      rw [hy, Bool.true_and] at hv
      have hrec := ih (i + 1) (by omega) (by omega) hv s2 h2
      obtain ⟨hp2, g2, d2, tk2, os2⟩ := s2
      wp_walk
      rw [hc]
      exact ⟨plainId_quiet plain_eq_loop _, codeAny_builtin entry_eq_loop (by
        rw [Around.under_plainId plain_eq_loop _]
        exact hrec)⟩
    | false =>
      rw [hy, Bool.false_and] at hv
      have hf := fin _ _ h2
      rw [← hv] at hf
      obtain ⟨itemsA, itemsB, nA, nB, hA, hB, hsA, hsB, _⟩ := hl _ _ h2
      obtain ⟨hp2, g2, d2, tk2, os2⟩ := s2
      wp_walk using wpAny_loadPart' hA, wpAny_loadPart' hB
      have hiA : itemsA[((i : Nat) : Int).toNat]? = some (itemsA[i]'(by omega)) := by simp
      have hiB : itemsB[((i : Nat) : Int).toNat]? = some (itemsB[i]'(by omega)) := by simp
      rw [hiA, hiB]
      wp_walk
      simpa using hf
theorem list_eqB (l b : Addr) (N : Nat) (e : Nat → Bool) (I : Nat → Shared → Prop) (hl : ListB prog w A (fun e s' => R (.error e) s') l b N e I)
    (fin : ∀ i s, I i s → R (.ok (.ret (.bool ((List.range N).all e)))) s) {s : Shared} (h : I 0 s) :
    wpAny (model prog w) A.in1 (Builtin.«list.__eq__» ⟨[.ref l, .ref b], []⟩) (FinOf prog w A R) (fun e s' => R (.error e) s') s := by
  obtain ⟨items, items2, n, n2, hl1, hb1, hs1, hs2, _⟩ := hl _ _ h
  have hrec := eq_loopB (A := A) (R := R) l b N e I hl fin _ 0 rfl (Nat.zero_le _) rfl s h
  obtain ⟨hp, g, d, tk, os⟩ := s
  have f3 := AutoSeq1.sub_list_list
  have hne : ¬ (items.size != items2.size) = true := by simp [hs1, hs2]
  wp_walk using wpAny_loadPart' hl1, wpAny_loadPart' hb1
  exact ⟨plainId_quiet plain_eq_loop _, codeAny_builtin entry_eq_loop (by
    rw [Around.under_plainId plain_eq_loop _]
    exact hrec)⟩
end
section
variable {prog : Program} {w : World} {A : Around} {E : Value → Shared → Prop} {s : Shared}
theorem rc_listB {l b : Addr} {N : Nat} {e : Nat → Bool} {Q : Value → Shared → Prop} (hu : A.units < cLine) (I : Nat → Shared → Prop) (hl : ListB prog w A E l b N e I)
    (fin : ∀ i s, I i s → Q (.bool ((List.range N).all e)) s) (h : I 0 s) : wpAny (model prog w) A (richCompare .Eq (.ref l) (.ref b)) Q E s := by
  obtain ⟨items, items2, n, n2, hl1, hb1, _, _, _⟩ := hl _ _ h
  refine wpAny_richCompare_same_room (op := .Eq) ⟨_, hl1, rfl⟩ ⟨_, hb1, rfl⟩ F.slot_list_eq (call_here F.slot_list_eq ⟨_, hl1, rfl⟩ F.entry_list_eq (F.args_list_eq_2 _ _) ?_) hu
  exact list_eqB (R := wants (fun v s' => v ≠ .notImplemented ∧ Q v s') E) l b N e I hl (fun i s' q => ⟨(fun x => nomatch x), fin i s' q⟩) h
theorem rc_tupB {l b : Addr} {items items2 : Array Value} {e : Nat → Bool} {Q : Value → Shared → Prop} (hu : A.units < cLine) (I : Nat → Shared → Prop)
    (hl : s.heap.IsTuple l items) (hb : s.heap.IsTuple b items2)
    (turn : ∀ i (h1 : i < items.size) (h2 : i < items2.size) s, I i s → wpAny (model prog w) A.in1 (eqBool items[i] items2[i]) (fun r s' => r = e i ∧ I (i + 1) s') E s)
    (fin : ∀ i s, I i s → Q (.bool (allEq items.size items2.size e)) s) (h : I 0 s) : wpAny (model prog w) A (richCompare .Eq (.ref l) (.ref b)) Q E s := by
  obtain ⟨⟨cls, dd, data, sl⟩, ho, hc, n, hd⟩ := id hl
  obtain ⟨⟨cls2, dd2, data2, sl2⟩, ho2, hc2, n2, hd2⟩ := id hb
  simp only at hc hd hc2 hd2
  subst hc hd hc2 hd2
  refine wpAny_richCompare_same_room (op := .Eq) ⟨_, ho, rfl⟩ ⟨_, ho2, rfl⟩ F.slot_tuple_eq (call_here F.slot_tuple_eq ⟨_, ho, rfl⟩ F.entry_tuple_eq (F.args_tuple_eq_2 _ _) ?_) hu
  exact tuple_eqB (R := wants (fun v s' => v ≠ .notImplemented ∧ Q v s') E) l b items items2 n n2 dd dd2 sl sl2 e I turn (fun i s' q => ⟨(fun x => nomatch x), fin i s' q⟩) ho ho2 h
theorem rc_tupNeB {l b : Addr} {items items2 : Array Value} {e : Nat → Bool} {Q : Value → Shared → Prop} (hu : A.units < cLine) (I : Nat → Shared → Prop)
    (hl : s.heap.IsTuple l items) (hb : s.heap.IsTuple b items2)
    (turn : ∀ i (h1 : i < items.size) (h2 : i < items2.size) s, I i s → wpAny (model prog w) A.in1 (eqBool items[i] items2[i]) (fun r s' => r = e i ∧ I (i + 1) s') E s)
    (fin : ∀ i s, I i s → Q (.bool (!allEq items.size items2.size e)) s) (h : I 0 s) : wpAny (model prog w) A (richCompare .NotEq (.ref l) (.ref b)) Q E s := by
  obtain ⟨⟨cls, dd, data, sl⟩, ho, hc, n, hd⟩ := id hl
  obtain ⟨⟨cls2, dd2, data2, sl2⟩, ho2, hc2, n2, hd2⟩ := id hb
  simp only at hc hd hc2 hd2
  subst hc hd hc2 hd2
  refine wpAny_richCompare_same_room (op := .NotEq) ⟨_, ho, rfl⟩ ⟨_, ho2, rfl⟩ F.slot_tuple_ne (call_here F.slot_tuple_ne ⟨_, ho, rfl⟩ F.entry_tuple_ne (F.args_tuple_ne_2 _ _) ?_) hu
  exact tuple_neB (R := wants (fun v s' => v ≠ .notImplemented ∧ Q v s') E) l b items items2 n n2 dd dd2 sl sl2 e I turn (fun i s' q => ⟨(fun x => nomatch x), fin i s' q⟩) ho ho2 h
end
end GQ
namespace PySem.W
open PyProof.Rows
section
variable {prog : Program} {w : World} {A : Around} {E : Value → Shared → Prop} {s : Shared} {K : Frag} {x C L f : Addr} {h₀ : Heap} {m : Str → Option Value} {ox : Obj} {od : Option Obj}
/-- a builtin thing == an object with an own ==, which is asked because the thing does not know -/
theorem cmpR_K {a : Value} {Ta ida : String} {Q : Value → Shared → Prop} (hu : A.units < cLine) (F : Fr h₀ L s.heap m) (X₀ : K.In h₀) (I : InstAt s.heap x ox C od) (ha : s.TypeIs a Ta)
    (hsub : subIn K (.ref C) (.type Ta) = some false) (h1 : Slot Ta (cmpInfo .Eq).2.1 ida)
    (hc1 : ∀ Q' : Value → Shared → Prop, Q' .notImplemented s → wpAny (model prog w) A (call (.builtin ida) [a, .ref x]) Q' E s)
    (hs : findIn K (.ref C) (cmpInfo .Eq).2.2 = some (some (.ref f))) (hf : isFn K (.ref f) = true)
    (h : wpAny (model prog w) A (call (.ref f) [.ref x, a]) (CmpBack Q) E s) : wpAny (model prog w) A (richCompare .Eq a (.ref x)) Q E s := by
  have X := X₀.keeps F.keep
  have one : wpAny (model prog w) A (tryCompare (.ref x) (cmpInfo .Eq).2.2 a) (fun r s' => ∃ v, r = some v ∧ Q v s') E s := by
    unfold tryCompare
    refine wpAny_bind (ifBound_K X I hs hf (wpAny_mono h (fun v s' hv => ?_) fun _ _ e => e))
    cases v <;> first | exact hv.elim | exact wpAny_pure ⟨_, rfl, hv⟩
  rcases hi : cmpInfo CmpOp.Eq with ⟨sym, fn, r⟩
  rw [hi] at h1 one
  simp only [richCompare, hi, ha.oneThing_none]
  try with_reducible refine wpAny_holding ?_
  refine wpAny_bind (wpAny_cRoomFor_or (.inr hu) ?_)
  refine wpAny_bind (wpAny_typeOf ha (wpAny_bind (I.type.here ?_)))
  have hne : (Value.type Ta != Value.ref C) = true := by simp
  simp only [hne, if_true]
  refine wpAny_bind ((looks_subIn X hsub).here ?_)
  simp only [Bool.false_eq_true, if_false, Bool.not_false, if_true]
  refine wpAny_bind (m := tryCompare a _ (.ref x)) (wpAny_tryCompare_declines ha h1 (hc1 _ ⟨rfl, ?_⟩))
  refine wpAny_bind (m := tryCompare (.ref x) _ a) (wpAny_mono one (fun r s' z => ?_) fun _ _ e => e)
  obtain ⟨v, rfl, hq⟩ := z
  exact wpAny_pure hq
end
end PySem.W
set_option linter.all false
/-! data with objects that have an own ==: what == says of two of them -/
namespace PySem.SeqAt
open AutoSeq1 (wpAny_loadPart')
open MeetsSeq MeetsSeq2 MeetsSeq3 SeqRoads2
section
variable {prog : Program} {w : World} {A : Around} {R : Result → Shared → Prop}
theorem tuple_eq_declines_own (l x : Addr) (items : Array Value) (n : Nat) (dd : Option Addr) (sl : Array (Option Value)) {s : Shared} (hI : PySem.W.Looks (model prog w) s.heap (isInstance (.ref x) (.type "tuple")) false)
    (hl : s.heap.get? l = some { cls := .type "tuple", dict := dd, data := .seq items n, slots := sl }) (hR : R (.ok (.ret .notImplemented)) s) :
    wpAny (model prog w) A.in1 (Builtin.«tuple.__eq__» ⟨[.ref l, .ref x], []⟩) (GQ.FinOf prog w A R) (fun e s' => R (.error e) s') s := by
  obtain ⟨hp, g, d, tk, os⟩ := s
  wp_walk using wpAny_loadPart' hl, hI.here
  exact hR
theorem list_eq_declines_own (l x : Addr) (items : Array Value) (n : Nat) {s : Shared} (hI : PySem.W.Looks (model prog w) s.heap (isInstance (.ref x) (.type "list")) false)
    (hl : s.heap.get? l = some { cls := .type "list", data := .seq items n }) (hR : R (.ok (.ret .notImplemented)) s) :
    wpAny (model prog w) A.in1 (Builtin.«list.__eq__» ⟨[.ref l, .ref x], []⟩) (GQ.FinOf prog w A R) (fun e s' => R (.error e) s') s := by
  obtain ⟨hp, g, d, tk, os⟩ := s
  wp_walk using wpAny_loadPart' hl, hI.here
  exact hR
end
end PySem.SeqAt
namespace L2
open PySem PySem.Spec PyProof.Rows
inductive OD where
  | fl (v : V)
  | tup (xs : List OD)
  | lst (xs : List OD)
  | obj (k : Nat) (xs : List OD)
structure OCls where
  C : Addr
  f : Addr
  names : List Str
  lv : Nat
section
variable (K : PySem.W.Frag) (cl : Nat → OCls) (H : Hp)
mutual
def Oh : OD → V → Prop
  | .fl v, x => x = v ∧ flatV v = true
  | .tup ds, x => ∃ a xs, x = .ref a ∧ SqT K H a xs ∧ OhAll ds xs
  | .lst ds, x => ∃ a xs, x = .ref a ∧ H a = some (.lst xs) ∧ OhAll ds xs
  | .obj k ds, x => ∃ a dx fs xs, x = .ref a ∧ H a = some (.ins (cl k).C dx fs) ∧ (cl k).names.map (fun n => fs.lookup n) = xs.map some ∧ OhAll ds xs
def OhAll : List OD → List V → Prop
  | [], xs => xs = []
  | d :: ds, xs => ∃ x ys, xs = x :: ys ∧ Oh d x ∧ OhAll ds ys
end
mutual
def eqo : OD → OD → Bool
  | .fl v, .fl w => eqV v w
  | .tup xs, .tup ys => eqoAll xs ys
  | .lst xs, .lst ys => eqoAll xs ys
  | .obj k xs, .obj l ys => k == l && eqoAll xs ys
  | _, _ => false
def eqoAll : List OD → List OD → Bool
  | [], [] => true
  | x :: xs, y :: ys => eqo x y && eqoAll xs ys
  | _, _ => false
end
mutual
def need : OD → Nat
  | .fl _ => 0
  | .tup xs => needAll xs + 1
  | .lst xs => needAll xs + 1
  | .obj k _ => (cl k).lv
def needAll : List OD → Nat
  | [] => 0
  | x :: xs => max (need x) (needAll xs)
end
variable (S : Nat → List OD → Prop)
mutual
def okO : OD → Prop
  | .fl _ => True
  | .tup xs => okAll xs
  | .lst xs => okAll xs
  | .obj k xs => S k xs ∧ okAll xs
def okAll : List OD → Prop
  | [] => True
  | x :: xs => okO x ∧ okAll xs
end
end
def flTy : V → String
  | .non => "NoneType"
  | .bl _ => "bool"
  | .int _ => "int"
  | _ => "str"
/-- the classes that are spoken of -/
def Dm (S : Nat → List OD → Prop) (k : Nat) : Prop := ∃ ds, S k ds
/-- what the text must have of the classes with an own == -/
structure OwnCls (K : PySem.W.Frag) (cl : Nat → OCls) (S : Nat → List OD → Prop) : Prop where
  eqf : ∀ k, Dm S k → PySem.W.findIn K (.ref (cl k).C) "__eq__" = some (some (.ref (cl k).f))
  isf : ∀ k, Dm S k → PySem.W.isFn K (.ref (cl k).f) = true
  inj : ∀ k l, Dm S k → Dm S l → (cl k).C = (cl l).C → k = l
  sub : ∀ k l, Dm S k → Dm S l → k ≠ l → PySem.W.subIn K (.ref (cl l).C) (.ref (cl k).C) = some false
  sT : ∀ k, Dm S k → ∀ T, T ∈ ["NoneType", "bool", "int", "str", "tuple", "list"] → PySem.W.subIn K (.type T) (.ref (cl k).C) = some false ∧ PySem.W.subIn K (.ref (cl k).C) (.type T) = some false
/-- what the own == of these classes promise -/
def OwnGives (X : Cx) (cl : Nat → OCls) (S : Nat → List OD → Prop) : Prop :=
  ∀ k ds, S k ds → ∀ (A : Around) (pins : List (Addr × Obj)) (s : Shared) (σ : St) (H : Hp) (a : Addr) (e : OD) (y : V) (v : Value), Sub X (cl k).lv A → Inv X pins σ H s → RelV y v → Oh X.K cl H (.obj k ds) (.ref a) → Oh X.K cl H e y → okAll S ds → okO S e →
    wpAny (model X.prog X.w) A (call (.ref (cl k).f) [.ref a, v]) (fun r s' => r = .bool (eqo (.obj k ds) e) ∧ ∃ H', Inv X pins σ H' s' ∧ Ext H H') X.xe s
section
variable {K : PySem.W.Frag} {cl : Nat → OCls} {S : Nat → List OD → Prop}
mutual
theorem Oh.ext {H H' : Hp} (x : Ext H H') : ∀ (d : OD) (v : V), Oh K cl H d v → Oh K cl H' d v
  | .fl _, _, h => h
  | .tup ds, _, ⟨a, xs, e, h, q⟩ => ⟨a, xs, e, h.ext x, OhAll.ext x ds xs q⟩
  | .lst ds, _, ⟨a, xs, e, h, q⟩ => ⟨a, xs, e, x _ _ h, OhAll.ext x ds xs q⟩
  | .obj _ ds, _, ⟨a, dx, fs, xs, e, h, l, q⟩ => ⟨a, dx, fs, xs, e, x _ _ h, l, OhAll.ext x ds xs q⟩
theorem OhAll.ext {H H' : Hp} (x : Ext H H') : ∀ (ds : List OD) (xs : List V), OhAll K cl H ds xs → OhAll K cl H' ds xs
  | [], _, h => h
  | d :: ds, _, ⟨v, ys, e, h, q⟩ => ⟨v, ys, e, Oh.ext x d v h, OhAll.ext x ds ys q⟩
end
theorem OhAll.length {H : Hp} : ∀ (ds : List OD) (xs : List V), OhAll K cl H ds xs → ds.length = xs.length
  | [], _, h => by cases h; rfl
  | d :: ds, _, ⟨v, ys, e, _, q⟩ => by rw [e, List.length_cons, List.length_cons, OhAll.length ds ys q]
theorem eqV_refl {v : V} (h : flatV v = true) : eqV v v = true := by
  cases v with
  | non => rfl
  | bl b => show (b == b) = true; exact beq_self_eq_true b
  | int b => show (b == b) = true; exact beq_self_eq_true b
  | str b => show (b == b) = true; exact beq_self_eq_true b
  | _ => cases h
theorem relV_inj {x y : V} {u : Value} (h : RelV x u) (h' : RelV y u) : x = y := by
  cases x <;> cases y <;> simp_all [RelV]
  all_goals (obtain ⟨t, rfl⟩ := h; obtain ⟨t', e⟩ := h'; cases e; try rfl)
theorem map_some_inj : ∀ {xs ys : List V}, xs.map some = ys.map some → xs = ys
  | [], [], _ => rfl
  | [], _ :: _, h => by cases h
  | _ :: _, [], h => by cases h
  | x :: xs, y :: ys, h => by
    rw [List.map_cons, List.map_cons] at h
    injection h with h1 h2
    rw [Option.some.inj h1, map_some_inj h2]
theorem vals_inj : ∀ {xs ys : List V} {us : List Value}, Vals xs us → Vals ys us → xs = ys
  | _, _, _, .nil, .nil => rfl
  | _, _, _, .cons a r, .cons b t => by rw [relV_inj a b, vals_inj r t]
section
variable {X : Cx} {pins : List (Addr × Obj)} {s : Shared} {σ : St} {H : Hp}
theorem tup_obj {a C dx : Addr} {xs : List V} {fs : List (Str × V)} (I : Inv X pins σ H s) (h : SqT X.K H a xs) (h' : H a = some (.ins C dx fs)) : False := by
  obtain ⟨its, r, t, z⟩ := I.tuple h
  obtain ⟨o, ho, hc, _⟩ := t
  obtain ⟨_, O, _⟩ := ins_get I.hok h'
  rw [O.obj] at ho
  cases ho
  cases hc
mutual
theorem eqo_same (W : OwnCls X.K cl S) (I : Inv X pins σ H s) : ∀ (d e : OD) (x : V), Oh X.K cl H d x → Oh X.K cl H e x → okO S d → okO S e → eqo d e = true
  | .fl v, .fl w, x, hd, he, _, _ => by
    obtain ⟨rfl, h⟩ := hd
    obtain ⟨rfl, h'⟩ := he
    exact eqV_refl h
  | .tup ds, .tup es, x, hd, he, oD, oE => by
    obtain ⟨a, xs, rfl, h, q⟩ := hd
    obtain ⟨b, ys, e, h', q'⟩ := he
    cases e
    obtain ⟨its, r, t, z⟩ := I.tuple h
    obtain ⟨its', r', t', z'⟩ := I.tuple h'
    obtain ⟨o, ho, _, n, hn⟩ := t
    obtain ⟨o', ho', _, n', hn'⟩ := t'
    rw [ho] at ho'
    cases ho'
    rw [hn] at hn'
    have e1 : its = its' := by injection hn' with e1 _; exact congrArg Array.toList e1
    subst e1
    rw [← vals_inj r r'] at q'
    exact eqoAll_same W I ds es xs q q' oD oE
  | .lst ds, .lst es, x, hd, he, oD, oE => by
    obtain ⟨a, xs, rfl, h, q⟩ := hd
    obtain ⟨b, ys, e, h', q'⟩ := he
    cases e
    rw [h] at h'
    cases h'
    exact eqoAll_same W I ds es xs q q' oD oE
  | .obj k ds, .obj l es, x, hd, he, oD, oE => by
    obtain ⟨a, dx, fs, xs, rfl, h, n, q⟩ := hd
    obtain ⟨b, dy, gs, ys, e, h', n', q'⟩ := he
    cases e
    rw [h] at h'
    have e1 : (cl k).C = (cl l).C := by injection h' with h'; injection h' with h'
    have e2 : fs = gs := by injection h' with h'; injection h' with _ _ h'
    have e3 := W.inj k l ⟨_, oD.1⟩ ⟨_, oE.1⟩ e1
    subst e3 e2
    rw [n] at n'
    have e4 : xs = ys := map_some_inj n'
    subst e4
    show (k == k && eqoAll ds es) = true
    rw [beq_self_eq_true, eqoAll_same W I ds es xs q q' oD.2 oE.2]
    rfl
  | .fl v, .tup _, x, hd, he, _, _ => by obtain ⟨rfl, h⟩ := hd; obtain ⟨a, xs, rfl, _⟩ := he; cases h
  | .fl v, .lst _, x, hd, he, _, _ => by obtain ⟨rfl, h⟩ := hd; obtain ⟨a, xs, rfl, _⟩ := he; cases h
  | .fl v, .obj _ _, x, hd, he, _, _ => by obtain ⟨rfl, h⟩ := hd; obtain ⟨a, dx, fs, xs, rfl, _⟩ := he; cases h
  | .tup _, .fl v, x, hd, he, _, _ => by obtain ⟨rfl, h⟩ := he; obtain ⟨a, xs, rfl, _⟩ := hd; cases h
  | .lst _, .fl v, x, hd, he, _, _ => by obtain ⟨rfl, h⟩ := he; obtain ⟨a, xs, rfl, _⟩ := hd; cases h
  | .obj _ _, .fl v, x, hd, he, _, _ => by obtain ⟨rfl, h⟩ := he; obtain ⟨a, dx, fs, xs, rfl, _⟩ := hd; cases h
  | .tup _, .lst _, x, hd, he, _, _ => by
    obtain ⟨a, xs, rfl, h, _⟩ := hd
    obtain ⟨b, ys, e, h', _⟩ := he
    cases e
    obtain ⟨its, r, t, z⟩ := I.tuple h
    obtain ⟨z2, its2, k2, r2, e2⟩ := I.hok _ _ h'
    exact absurd rfl (SeqAt.ne_of_list_tuple ⟨_, e2, rfl, _, rfl⟩ t)
  | .lst _, .tup _, x, hd, he, _, _ => by
    obtain ⟨a, xs, rfl, h, _⟩ := he
    obtain ⟨b, ys, e, h', _⟩ := hd
    cases e
    obtain ⟨its, r, t, z⟩ := I.tuple h
    obtain ⟨z2, its2, k2, r2, e2⟩ := I.hok _ _ h'
    exact absurd rfl (SeqAt.ne_of_list_tuple ⟨_, e2, rfl, _, rfl⟩ t)
  | .tup _, .obj _ _, x, hd, he, _, _ => by
    obtain ⟨a, xs, rfl, h, _⟩ := hd
    obtain ⟨b, dx, fs, ys, e, h', _⟩ := he
    cases e
    exact (tup_obj I h h').elim
  | .obj _ _, .tup _, x, hd, he, _, _ => by
    obtain ⟨a, xs, rfl, h, _⟩ := he
    obtain ⟨b, dx, fs, ys, e, h', _⟩ := hd
    cases e
    exact (tup_obj I h h').elim
  | .lst _, .obj _ _, x, hd, he, _, _ => by
    obtain ⟨a, xs, rfl, h, _⟩ := hd
    obtain ⟨b, dx, fs, ys, e, h', _⟩ := he
    cases e
    rw [h] at h'
    cases h'
  | .obj _ _, .lst _, x, hd, he, _, _ => by
    obtain ⟨a, xs, rfl, h, _⟩ := he
    obtain ⟨b, dx, fs, ys, e, h', _⟩ := hd
    cases e
    rw [h] at h'
    cases h'
theorem eqoAll_same (W : OwnCls X.K cl S) (I : Inv X pins σ H s) : ∀ (ds es : List OD) (xs : List V), OhAll X.K cl H ds xs → OhAll X.K cl H es xs → okAll S ds → okAll S es → eqoAll ds es = true
  | [], [], _, _, _, _, _ => rfl
  | d :: ds, e :: es, _, ⟨x, xs, rfl, h, q⟩, ⟨y, ys, e1, h', q'⟩, oD, oE => by
    cases e1
    show (eqo d e && eqoAll ds es) = true
    rw [eqo_same W I d e x h h' oD.1 oE.1, eqoAll_same W I ds es xs q q' oD.2 oE.2]
    rfl
  | [], e :: es, _, h, ⟨y, ys, e1, h', q'⟩, _, _ => by
    have h : _ = [] := h
    rw [e1] at h
    cases h
  | d :: ds, [], _, ⟨y, ys, e1, h', q'⟩, h, _, _ => by
    have h : _ = [] := h
    rw [e1] at h
    cases h
end
end
end
end L2
set_option linter.all false
namespace L2
open PySem PySem.Spec PyProof.Rows
section
variable {cl : Nat → OCls} {S : Nat → List OD → Prop} {X : Cx}
/-- what is asked where == is asked -/
abbrev After (X : Cx) (pins : List (Addr × Obj)) (σ : St) (H : Hp) (b : Bool) : Value → Shared → Prop := fun r s' => r = .bool b ∧ ∃ H', Inv X pins σ H' s' ∧ Ext H H'
theorem own_back (G : OwnGives X cl S) {k : Nat} {ds : List OD} (hk : S k ds) {A : Around} {pins : List (Addr × Obj)} {s : Shared} {σ : St} {H : Hp} {a : Addr} {e : OD} {y : V} {v : Value} (sb : Sub X (cl k).lv A) (I : Inv X pins σ H s) (ry : RelV y v) (h : Oh X.K cl H (.obj k ds) (.ref a)) (he : Oh X.K cl H e y) (oD : okAll S ds) (oE : okO S e) :
    wpAny (model X.prog X.w) A (call (.ref (cl k).f) [.ref a, v]) (PySem.W.CmpBack (After X pins σ H (eqo (.obj k ds) e))) X.xe s :=
  wpAny_mono (G k ds hk A pins s σ H a e y v sb I ry h he oD oE) (fun r s' q => by
    obtain ⟨rfl, q⟩ := q
    exact ⟨rfl, q⟩) fun _ _ e => e
theorem flTy_looks {x : V} {u : Value} (h : flatV x = true) (r : RelV x u) {M : Model} {hp : Heap} : PySem.W.Looks M hp (typeOf u) (.type (flTy x)) := by
  cases x with
  | non => cases r; exact PySem.W.Looks.of_pure rfl
  | bl b => cases r; exact PySem.W.Looks.of_pure rfl
  | int b => obtain ⟨t, rfl⟩ := r; exact PySem.W.Looks.of_pure rfl
  | str b => obtain ⟨t, rfl⟩ := r; exact PySem.W.Looks.of_pure rfl
  | _ => cases h
theorem flTy_mem {x : V} (h : flatV x = true) : flTy x ∈ ["NoneType", "bool", "int", "str", "tuple", "list"] := by
  cases x with
  | non => decide
  | bl b => simp [flTy]
  | int b => simp [flTy]
  | str b => simp [flTy]
  | _ => cases h
theorem ty_looks (W : OwnCls X.K cl S) {pins : List (Addr × Obj)} {s : Shared} {σ : St} {H : Hp} (I : Inv X pins σ H s) {k : Nat} (hk : Dm S k) {e : OD} {y : V} {v : Value} (ry : RelV y v) (he : Oh X.K cl H e y) (oE : okO S e) :
    ∃ tb, PySem.W.Looks (model X.prog X.w) s.heap (typeOf v) tb ∧ PySem.W.notFirst X.K (cl k).C tb = true := by
  cases e with
  | fl w =>
    obtain ⟨rfl, h⟩ := he
    refine ⟨_, flTy_looks h ry, ?_⟩
    unfold PySem.W.notFirst
    rw [(W.sT k hk _ (flTy_mem h)).1]
    simp
  | tup es =>
    obtain ⟨b, xs, rfl, h, _⟩ := he
    obtain rfl : v = Value.ref b := ry
    obtain ⟨its, r, ht, hz⟩ := I.tuple h
    obtain ⟨o, ho, hc⟩ := ht.typeIs
    refine ⟨.type "tuple", hc ▸ (PySem.W.Looks.ld ho).andThen .now, ?_⟩
    unfold PySem.W.notFirst
    rw [(W.sT k hk "tuple" (by decide)).1]
    simp
  | lst es =>
    obtain ⟨b, xs, rfl, h, _⟩ := he
    obtain rfl : v = Value.ref b := ry
    obtain ⟨z2, its2, k2, r2, e2⟩ := I.hok _ _ h
    refine ⟨.type "list", (PySem.W.Looks.ld e2).andThen .now, ?_⟩
    unfold PySem.W.notFirst
    rw [(W.sT k hk "list" (by decide)).1]
    simp
  | obj l es =>
    obtain ⟨b, dx, fs, xs, rfl, h, _, _⟩ := he
    obtain rfl : v = Value.ref b := ry
    obtain ⟨_, O2, _⟩ := ins_get I.hok h
    obtain ⟨o2, J2, _⟩ := O2.look
    refine ⟨.ref (cl l).C, J2.type, ?_⟩
    unfold PySem.W.notFirst
    by_cases hl : k = l
    · subst hl; simp
    · rw [W.sub k l hk ⟨_, oE.1⟩ hl]; simp
/-- an object with an own == on the left -/
theorem rcB_objL (W : OwnCls X.K cl S) (G : OwnGives X cl S) {k : Nat} {A : Around} {pins : List (Addr × Obj)} {s : Shared} {σ : St} {H : Hp} {ds : List OD} {e : OD} {x y : V} {u v : Value} (sb : Sub X (cl k).lv A) (I : Inv X pins σ H s) (rx : RelV x u) (ry : RelV y v) (h : Oh X.K cl H (.obj k ds) x) (he : Oh X.K cl H e y) (oD : okO S (.obj k ds)) (oE : okO S e) :
    wpAny (model X.prog X.w) A (richCompare .Eq u v) (After X pins σ H (eqo (.obj k ds) e)) X.xe s := by
  obtain ⟨a, dx, fs, xs, rfl, hi, hn, hq⟩ := id h
  cases rx
  obtain ⟨_, O1, _⟩ := ins_get I.hok hi
  obtain ⟨o1, J1, _⟩ := O1.look
  obtain ⟨m, hF⟩ := I.fr
  obtain ⟨tb, L, hn⟩ := ty_looks W I ⟨_, oD.1⟩ ry he oE
  exact PySem.W.cmp_K (op := .Eq) (tb := tb) sb.room.units0 hF I.ok.mod.kin J1 L hn (W.eqf k ⟨_, oD.1⟩) (W.isf k ⟨_, oD.1⟩) (own_back G oD.1 sb I ry h he oD.2 oE)
theorem eqo_obj_fl {k : Nat} {ds : List OD} {w : V} : eqo (.obj k ds) (.fl w) = false := by rw [eqo]; all_goals simp
theorem eqo_fl_obj {k : Nat} {ds : List OD} {w : V} : eqo (.fl w) (.obj k ds) = false := by rw [eqo]; all_goals simp
theorem eqo_obj_tup {k : Nat} {ds es : List OD} : eqo (.obj k ds) (.tup es) = false := by rw [eqo]; all_goals simp
theorem eqo_tup_obj {k : Nat} {ds es : List OD} : eqo (.tup es) (.obj k ds) = false := by rw [eqo]; all_goals simp
theorem eqo_obj_lst {k : Nat} {ds es : List OD} : eqo (.obj k ds) (.lst es) = false := by rw [eqo]; all_goals simp
theorem eqo_lst_obj {k : Nat} {ds es : List OD} : eqo (.lst es) (.obj k ds) = false := by rw [eqo]; all_goals simp
theorem rcB_flObj (W : OwnCls X.K cl S) (G : OwnGives X cl S) {k : Nat} {A : Around} {pins : List (Addr × Obj)} {s : Shared} {σ : St} {H : Hp} {ds : List OD} {w : V} {x y : V} {u v : Value} (sb : Sub X (cl k).lv A) (I : Inv X pins σ H s) (rx : RelV x u) (ry : RelV y v) (h : Oh X.K cl H (.fl w) x) (he : Oh X.K cl H (.obj k ds) y) (oE : okO S (.obj k ds)) :
    wpAny (model X.prog X.w) A (richCompare .Eq u v) (After X pins σ H (eqo (.fl w) (.obj k ds))) X.xe s := by
  obtain ⟨a, dx, fs, xs, rfl, hi, hn, hq⟩ := id he
  cases ry
  obtain ⟨_, O1, _⟩ := ins_get I.hok hi
  obtain ⟨o1, J1, _⟩ := O1.look
  obtain ⟨m, hF⟩ := I.fr
  have hb := own_back G oE.1 sb I rx he h oE.2 trivial
  rw [eqo_obj_fl] at hb
  rw [eqo_fl_obj]
  obtain ⟨rfl, hf⟩ := h
  have sT := (W.sT k ⟨_, oE.1⟩ _ (flTy_mem hf)).2
  have ox := O1.obj
  cases x with
  | non =>
    cases rx
    exact PySem.W.cmpR_K sb.room.units0 hF I.ok.mod.kin J1 rfl sT F.slot_NoneType_eq (fun _ hq => call_gives F.slot_NoneType_eq rfl F.entry_NoneType_eq (F.args_NoneType_eq_2 _ _) (SeqAt.NoneType___eq___none_ref_0 _) hq) (W.eqf k ⟨_, oE.1⟩) (W.isf k ⟨_, oE.1⟩) hb
  | int b =>
    obtain ⟨t, rfl⟩ := rx
    exact PySem.W.cmpR_K sb.room.units0 hF I.ok.mod.kin J1 (typeIs_int s b t) sT F.slot_int_eq (fun _ hq => call_meets F.slot_int_eq (typeIs_int s b t) F.entry_int_eq (F.args_int_eq_2 _ _) (SeqAt.int_eq_declines_plain b t _ _ _ _) ⟨ox, hq⟩) (W.eqf k ⟨_, oE.1⟩) (W.isf k ⟨_, oE.1⟩) hb
  | str b =>
    obtain ⟨t, rfl⟩ := rx
    exact PySem.W.cmpR_K sb.room.units0 hF I.ok.mod.kin J1 (typeIs_str s b t) sT F.slot_str_eq (fun _ hq => call_meets F.slot_str_eq (typeIs_str s b t) F.entry_str_eq (F.args_str_eq_2 _ _) (SeqAt.str_eq_declines_plain b t _ _ _ _) ⟨ox, hq⟩) (W.eqf k ⟨_, oE.1⟩) (W.isf k ⟨_, oE.1⟩) hb
  | bl b =>
    cases rx
    exact PySem.W.cmpR_K sb.room.units0 hF I.ok.mod.kin J1 (PySem.typeIs_bool s b) sT F.slot_bool_eq (fun _ hq => call_meets F.slot_bool_eq (PySem.typeIs_bool s b) F.entry_int_eq (F.args_int_eq_2 _ _) (SeqAt.bool_eq_declines_plain b _ _ _ _) ⟨ox, hq⟩) (W.eqf k ⟨_, oE.1⟩) (W.isf k ⟨_, oE.1⟩) hb
  | _ => cases hf
theorem rcB_tupObj (W : OwnCls X.K cl S) (G : OwnGives X cl S) {k : Nat} {A : Around} {pins : List (Addr × Obj)} {s : Shared} {σ : St} {H : Hp} {ds es : List OD} {x y : V} {u v : Value} (sb : Sub X (cl k).lv A) (I : Inv X pins σ H s) (rx : RelV x u) (ry : RelV y v) (h : Oh X.K cl H (.tup es) x) (he : Oh X.K cl H (.obj k ds) y) (oD : okO S (.tup es)) (oE : okO S (.obj k ds)) :
    wpAny (model X.prog X.w) A (richCompare .Eq u v) (After X pins σ H (eqo (.tup es) (.obj k ds))) X.xe s := by
  obtain ⟨a, dx, fs, xs, rfl, hi, hn, hq⟩ := id he
  cases ry
  obtain ⟨_, O1, _⟩ := ins_get I.hok hi
  obtain ⟨o1, J1, _⟩ := O1.look
  obtain ⟨m, hF⟩ := I.fr
  have hb := own_back G oE.1 sb I rx he h oE.2 oD
  rw [eqo_obj_tup] at hb
  rw [eqo_tup_obj]
  obtain ⟨b, ys, rfl, hs, _⟩ := h
  cases rx
  obtain ⟨its, r, ht, hz⟩ := I.tuple hs
  have sT := (W.sT k ⟨_, oE.1⟩ "tuple" (by decide)).2
  have hI : PySem.W.Looks (model X.prog X.w) s.heap (isInstance (.ref a) (.type "tuple")) false := J1.type.andThen (PySem.W.looks_subIn (I.ok.mod.kin.keeps hF.keep) sT)
  obtain ⟨⟨cls, dd, data, sl⟩, ho, hc, n, hd⟩ := id ht
  simp only at hc hd
  subst hc hd
  exact PySem.W.cmpR_K sb.room.units0 hF I.ok.mod.kin J1 ⟨_, ho, rfl⟩ sT F.slot_tuple_eq (fun Q' hq => GQ.call_here F.slot_tuple_eq ⟨_, ho, rfl⟩ F.entry_tuple_eq (F.args_tuple_eq_2 _ _) (SeqAt.tuple_eq_declines_own (R := wants Q' X.xe) b a _ n dd sl hI ho hq)) (W.eqf k ⟨_, oE.1⟩) (W.isf k ⟨_, oE.1⟩) hb
theorem rcB_lstObj (W : OwnCls X.K cl S) (G : OwnGives X cl S) {k : Nat} {A : Around} {pins : List (Addr × Obj)} {s : Shared} {σ : St} {H : Hp} {ds es : List OD} {x y : V} {u v : Value} (sb : Sub X (cl k).lv A) (I : Inv X pins σ H s) (rx : RelV x u) (ry : RelV y v) (h : Oh X.K cl H (.lst es) x) (he : Oh X.K cl H (.obj k ds) y) (oD : okO S (.lst es)) (oE : okO S (.obj k ds)) :
    wpAny (model X.prog X.w) A (richCompare .Eq u v) (After X pins σ H (eqo (.lst es) (.obj k ds))) X.xe s := by
  obtain ⟨a, dx, fs, xs, rfl, hi, hn, hq⟩ := id he
  cases ry
  obtain ⟨_, O1, _⟩ := ins_get I.hok hi
  obtain ⟨o1, J1, _⟩ := O1.look
  obtain ⟨m, hF⟩ := I.fr
  have hb := own_back G oE.1 sb I rx he h oE.2 oD
  rw [eqo_obj_lst] at hb
  rw [eqo_lst_obj]
  obtain ⟨b, ys, rfl, hs, _⟩ := h
  cases rx
  obtain ⟨z, its, n, r, ho⟩ := I.hok _ _ hs
  have sT := (W.sT k ⟨_, oE.1⟩ "list" (by decide)).2
  have hI : PySem.W.Looks (model X.prog X.w) s.heap (isInstance (.ref a) (.type "list")) false := J1.type.andThen (PySem.W.looks_subIn (I.ok.mod.kin.keeps hF.keep) sT)
  exact PySem.W.cmpR_K sb.room.units0 hF I.ok.mod.kin J1 ⟨_, ho, rfl⟩ sT F.slot_list_eq (fun Q' hq => GQ.call_here F.slot_list_eq ⟨_, ho, rfl⟩ F.entry_list_eq (F.args_list_eq_2 _ _) (SeqAt.list_eq_declines_own (R := wants Q' X.xe) b a _ n hI ho hq)) (W.eqf k ⟨_, oE.1⟩) (W.isf k ⟨_, oE.1⟩) hb
theorem allEq_eqo : ∀ (ds es : List OD) (e : Nat → Bool), (∀ i d c, ds[i]? = some d → es[i]? = some c → e i = eqo d c) → GQ.allEq ds.length es.length e = eqoAll ds es
  | [], [], e, _ => rfl
  | [], _ :: _, e, _ => by simp [GQ.allEq, eqoAll]
  | _ :: _, [], e, _ => by simp [GQ.allEq, eqoAll]
  | d :: ds, c :: es, e, h => by
    have ih := allEq_eqo ds es (fun i => e (i + 1)) fun i d' c' h1 h2 => h (i + 1) d' c' (by simpa using h1) (by simpa using h2)
    have h0 : e 0 = eqo d c := h 0 d c rfl rfl
    unfold GQ.allEq at ih ⊢
    rw [eqoAll, ← ih, ← h0]
    have hm : min (d :: ds).length (c :: es).length = min ds.length es.length + 1 := by simp [Nat.succ_min_succ]
    rw [hm, List.range_succ_eq_map, List.all_cons, List.all_map]
    simp [Function.comp_def, Bool.and_assoc]
theorem need_get : ∀ (ds : List OD) (i : Nat) (d : OD), ds[i]? = some d → need cl d ≤ needAll cl ds
  | [], i, d, h => by simp at h
  | x :: xs, 0, d, h => by
    simp at h
    subst h
    show need cl x ≤ max (need cl x) (needAll cl xs)
    omega
  | x :: xs, i + 1, d, h => by
    have := need_get xs i d (by simpa using h)
    show need cl d ≤ max (need cl x) (needAll cl xs)
    omega
theorem okAll_get : ∀ (ds : List OD) (i : Nat) (d : OD), okAll S ds → ds[i]? = some d → okO S d
  | [], i, d, _, h => by simp at h
  | x :: xs, 0, d, o, h => by simp at h; subst h; exact o.1
  | x :: xs, i + 1, d, o, h => okAll_get xs i d o.2 (by simpa using h)
theorem ohAll_get {K : PySem.W.Frag} {H : Hp} : ∀ (ds : List OD) (xs : List V) (i : Nat) (x : V), OhAll K cl H ds xs → xs[i]? = some x → ∃ d, ds[i]? = some d ∧ Oh K cl H d x
  | [], xs, i, x, h, e => by cases h; simp at e
  | d :: ds, _, 0, x, ⟨y, ys, rfl, h, q⟩, e => by simp at e; subst e; exact ⟨d, rfl, h⟩
  | d :: ds, _, i + 1, x, ⟨y, ys, rfl, h, q⟩, e => by
    obtain ⟨d', h1, h2⟩ := ohAll_get ds ys i x q (by simpa using e)
    exact ⟨d', by simpa using h1, h2⟩
def EqOD (X : Cx) (cl : Nat → OCls) (S : Nat → List OD → Prop) (d e : OD) : Prop :=
  ∀ (A : Around) (pins : List (Addr × Obj)) (s : Shared) (σ : St) (H : Hp) (x y : V) (u v : Value), Sub X (max (need cl d) (need cl e)) A → Inv X pins σ H s → RelV x u → RelV y v → Oh X.K cl H d x → Oh X.K cl H e y → okO S d → okO S e →
    wpAny (model X.prog X.w) A (eqBool u v) (fun r s' => r = eqo d e ∧ ∃ H', Inv X pins σ H' s' ∧ Ext H H') X.xe s
def RcOD (X : Cx) (cl : Nat → OCls) (S : Nat → List OD → Prop) (d e : OD) : Prop :=
  ∀ (A : Around) (pins : List (Addr × Obj)) (s : Shared) (σ : St) (H : Hp) (x y : V) (u v : Value), Sub X (max (need cl d) (need cl e)) A → Inv X pins σ H s → RelV x u → RelV y v → Oh X.K cl H d x → Oh X.K cl H e y → okO S d → okO S e →
    wpAny (model X.prog X.w) A (richCompare .Eq u v) (After X pins σ H (eqo d e)) X.xe s
/-- what the items of two rows need -/
theorem turnOD {ds es : List OD} (h : ∀ (i : Nat) (d e : OD), ds[i]? = some d → es[i]? = some e → EqOD X cl S d e) {A : Around} (sb : Sub X (max (needAll cl ds) (needAll cl es) + 1) A) {pins : List (Addr × Obj)} {σ : St} {H : Hp} {xs ys : List V} {its its2 : List Value}
    (p : OhAll X.K cl H ds xs) (q : OhAll X.K cl H es ys) (oD : okAll S ds) (oE : okAll S es) (r : Vals xs its) (r2 : Vals ys its2) (c : Nat → Bool) (hc : ∀ (i : Nat) (d e : OD), ds[i]? = some d → es[i]? = some e → c i = eqo d e)
    (i : Nat) (h1 : i < its.toArray.size) (h2 : i < its2.toArray.size) (s' : Shared) (l : LoopI X pins σ H s') :
    wpAny (model X.prog X.w) A.in1 (eqBool its.toArray[i] its2.toArray[i]) (fun r s2 => r = c i ∧ LoopI X pins σ H s2) X.xe s' := by
  obtain ⟨H1, I1, e1⟩ := l
  have g1 : its[i]? = some its.toArray[i] := by
    have h1' : i < its.length := by simpa using h1
    rw [List.getElem?_eq_getElem h1'] <;> simp
  have g2 : its2[i]? = some its2.toArray[i] := by
    have h2' : i < its2.length := by simpa using h2
    rw [List.getElem?_eq_getElem h2'] <;> simp
  have k1 : i < xs.length := by rw [r.length]; simpa using h1
  have k2 : i < ys.length := by rw [r2.length]; simpa using h2
  obtain ⟨u, hu, ru⟩ := r.get (List.getElem?_eq_getElem k1)
  obtain ⟨v, hv, rv⟩ := r2.get (List.getElem?_eq_getElem k2)
  rw [g1] at hu
  rw [g2] at hv
  rw [Option.some.inj hu, Option.some.inj hv]
  obtain ⟨d, hd, od⟩ := ohAll_get ds xs i _ p (List.getElem?_eq_getElem k1)
  obtain ⟨e, he, oe⟩ := ohAll_get es ys i _ q (List.getElem?_eq_getElem k2)
  have n1 := need_get (cl := cl) ds i d hd
  have n2 := need_get (cl := cl) es i e he
  refine wpAny_mono (h i d e hd he A.in1 pins s' σ H1 _ _ u v (sb.in1.mono (by omega)) I1 ru rv (Oh.ext e1 _ _ od) (Oh.ext e1 _ _ oe) (okAll_get ds i d oD hd) (okAll_get es i e oE he)) (fun r s2 q => ?_) fun _ _ x => x
  obtain ⟨hr, H2, I2, e2⟩ := q
  exact ⟨hr.trans (hc i d e hd he).symm, H2, I2, e1.trans e2⟩
/-- the answers of the pairs -/
def pairs (ds es : List OD) (i : Nat) : Bool := match ds[i]?, es[i]? with
  | some d, some e => eqo d e
  | _, _ => false
theorem pairs_eq {ds es : List OD} {i : Nat} {d e : OD} (h1 : ds[i]? = some d) (h2 : es[i]? = some e) : pairs ds es i = eqo d e := by unfold pairs; rw [h1, h2]
theorem rcOD_tup {ds es : List OD} (h : ∀ (i : Nat) (d e : OD), ds[i]? = some d → es[i]? = some e → EqOD X cl S d e) : RcOD X cl S (.tup ds) (.tup es) := by
  intro A pins s σ H x y u v sb I rx ry hd he oD oE
  obtain ⟨a, xs, rfl, ha, p⟩ := hd
  obtain ⟨b, ys, rfl, hb, q⟩ := he
  cases rx
  cases ry
  obtain ⟨its, r, e, z⟩ := I.tuple ha
  obtain ⟨its2, r2, e2, z2⟩ := I.tuple hb
  have sb' : Sub X (max (needAll cl ds) (needAll cl es) + 1) A := sb.mono (by show _ ≤ max (needAll cl ds + 1) (needAll cl es + 1); omega)
  have z1 : GQ.allEq its.toArray.size its2.toArray.size (pairs ds es) = eqo (.tup ds) (.tup es) := by
    rw [List.size_toArray, List.size_toArray, ← r.length, ← r2.length, ← OhAll.length ds xs p, ← OhAll.length es ys q]
    exact allEq_eqo ds es _ fun i d c h1 h2 => pairs_eq h1 h2
  exact GQ.rc_tupB sb.room.units0 (fun _ s' => LoopI X pins σ H s') e e2 (fun i h1 h2 s' l => turnOD h sb' p q oD oE r r2 (pairs ds es) (fun i d c h1 h2 => pairs_eq h1 h2) i h1 h2 s' l) (fun i s' l => by rw [z1]; exact ⟨rfl, l⟩) ⟨H, I, Ext.rfl'⟩
theorem rcOD_lst {ds es : List OD} (h : ∀ (i : Nat) (d e : OD), ds[i]? = some d → es[i]? = some e → EqOD X cl S d e) : RcOD X cl S (.lst ds) (.lst es) := by
  intro A pins s σ H x y u v sb I rx ry hd he oD oE
  obtain ⟨a, xs, rfl, ha, p⟩ := hd
  obtain ⟨b, ys, rfl, hb, q⟩ := he
  cases rx
  cases ry
  have sb' : Sub X (max (needAll cl ds) (needAll cl es) + 1) A := sb.mono (by show _ ≤ max (needAll cl ds + 1) (needAll cl es + 1); omega)
  have l1 := OhAll.length ds xs p
  have l2 := OhAll.length es ys q
  by_cases hl : ds.length = es.length
  · have z1 : (List.range ds.length).all (pairs ds es) = eqo (.lst ds) (.lst es) := by
      have := allEq_eqo ds es (pairs ds es) fun i d c h1 h2 => pairs_eq h1 h2
      unfold GQ.allEq at this
      rw [show eqo (.lst ds) (.lst es) = eqoAll ds es from rfl, ← this, ← hl]
      simp
    refine GQ.rc_listB (N := ds.length) (e := pairs ds es) sb.room.units0 (fun _ s' => LoopI X pins σ H s') (fun i s' l => ?_) (fun i s' l => by rw [z1]; exact ⟨rfl, l⟩) ⟨H, I, Ext.rfl'⟩
    obtain ⟨H1, I1, e1⟩ := id l
    obtain ⟨z, its, k, r, e⟩ := I1.hok a _ (e1 _ _ ha)
    obtain ⟨z2, its2, k2, r2, e2⟩ := I1.hok b _ (e1 _ _ hb)
    refine ⟨its.toArray, its2.toArray, k, k2, e, e2, by rw [List.size_toArray, ← r.length, l1], by rw [List.size_toArray, ← r2.length, hl, l2], fun h1 h2 => ?_⟩
    exact turnOD h sb' p q oD oE r r2 (pairs ds es) (fun i d c h1 h2 => pairs_eq h1 h2) i h1 h2 s' l
  · obtain ⟨z, its, k, r, e⟩ := I.hok a _ ha
    obtain ⟨z2, its2, k2, r2, e2⟩ := I.hok b _ hb
    have z1 : eqo (.lst ds) (.lst es) = false := by
      have := allEq_eqo ds es (pairs ds es) fun i d c h1 h2 => pairs_eq h1 h2
      unfold GQ.allEq at this
      rw [show eqo (.lst ds) (.lst es) = eqoAll ds es from rfl, ← this]
      simp [hl]
    rw [z1]
    exact SeqAt.RcAt.lists_lengths ⟨_, e, rfl, _, rfl⟩ ⟨_, e2, rfl, _, rfl⟩ (by rw [List.size_toArray, List.size_toArray, ← r.length, ← r2.length, ← l1, ← l2]; simpa using hl) sb.room.units0 X.prog X.w X.xe _ ⟨rfl, H, I, Ext.rfl'⟩
theorem eqOD_ref (W : OwnCls X.K cl S) {d e : OD} (h : RcOD X cl S d e) (hd : ∀ H x, Oh X.K cl H d x → ∃ a, x = .ref a) (he : ∀ H x, Oh X.K cl H e x → ∃ a, x = .ref a) : EqOD X cl S d e := by
  intro A pins s σ H x y u v sb I rx ry od oe oD oE
  obtain ⟨a, rfl⟩ := hd _ _ od
  obtain ⟨b, rfl⟩ := he _ _ oe
  cases rx
  cases ry
  by_cases hab : a = b
  · subst hab
    have e1 := eqo_same W I d e _ od oe oD oE
    exact SeqAt.EqAt.same (A := A) (s := s) (.ref a) X.prog X.w X.xe _ ⟨e1.symm, H, I, Ext.rfl'⟩
  · refine GQ.eqBool_refG hab (wpAny_mono (h A pins s σ H (.ref a) (.ref b) _ _ sb I rfl rfl od oe oD oE) (fun r s' q => ?_) fun _ _ x => x)
    obtain ⟨hr', q⟩ := q
    exact ⟨_, hr', rfl, q⟩
theorem oh_tup_ref {K : PySem.W.Frag} {ds : List OD} (H : Hp) (x : V) (h : Oh K cl H (.tup ds) x) : ∃ a, x = .ref a := let ⟨a, _, e, _⟩ := h; ⟨a, e⟩
theorem oh_lst_ref {K : PySem.W.Frag} {ds : List OD} (H : Hp) (x : V) (h : Oh K cl H (.lst ds) x) : ∃ a, x = .ref a := let ⟨a, _, e, _⟩ := h; ⟨a, e⟩
theorem oh_obj_ref {K : PySem.W.Frag} {k : Nat} {ds : List OD} (H : Hp) (x : V) (h : Oh K cl H (.obj k ds) x) : ∃ a, x = .ref a := let ⟨a, _, _, _, e, _⟩ := h; ⟨a, e⟩
theorem eqo_fl_tup {w : V} {ds : List OD} : eqo (.fl w) (.tup ds) = false := by rw [eqo]; all_goals simp
theorem eqo_tup_fl {w : V} {ds : List OD} : eqo (.tup ds) (.fl w) = false := by rw [eqo]; all_goals simp
theorem eqo_fl_lst {w : V} {ds : List OD} : eqo (.fl w) (.lst ds) = false := by rw [eqo]; all_goals simp
theorem eqo_lst_fl {w : V} {ds : List OD} : eqo (.lst ds) (.fl w) = false := by rw [eqo]; all_goals simp
theorem eqo_tup_lst {es ds : List OD} : eqo (.tup ds) (.lst es) = false := by rw [eqo]; all_goals simp
theorem eqo_lst_tup {es ds : List OD} : eqo (.lst ds) (.tup es) = false := by rw [eqo]; all_goals simp
theorem eqBool_no {P : Program} {w : World} {A : Around} {E : Value → Shared → Prop} {s : Shared} {u v : Value} {Q : Bool → Shared → Prop} (hn : (u == v) = false) (hf : ∀ x t, u ≠ .float x t) (h : wpAny (model P w) A (richCompare .Eq u v) (fun v s' => ∃ r, v = .bool r ∧ Q r s') E s) : wpAny (model P w) A (eqBool u v) Q E s := by
  unfold eqBool
  refine wpAny_holding ?_
  refine wpAny_ite_split (fun hab => absurd hab (by rw [hn]; exact Bool.false_ne_true)) (fun _ => ?_)
  have fin : wpAny (model P w) A (richCompare .Eq u v >>= truthOfDropped) Q E s := by
    refine wpAny_bind (wpAny_mono h (fun v s' hv => ?_) fun _ _ x => x)
    obtain ⟨r, rfl, q⟩ := hv
    exact wpAny_truthy_bool q
  cases u with
  | float x t => exact absurd rfl (hf x t)
  | _ => exact fin
theorem flat_ne_ref {x : V} {u : Value} {a : Addr} (h : flatV x = true) (r : RelV x u) : (u == .ref a) = false ∧ (Value.ref a == u) = false ∧ ∀ x t, u ≠ .float x t := by
  cases x with
  | non => cases r; exact ⟨rfl, rfl, nofun⟩
  | bl b => cases r; exact ⟨rfl, rfl, nofun⟩
  | int b => obtain ⟨t, rfl⟩ := r; exact ⟨rfl, rfl, nofun⟩
  | str b => obtain ⟨t, rfl⟩ := r; exact ⟨rfl, rfl, nofun⟩
  | _ => cases h
theorem flat_tup {x : V} {u : Value} (h : flatV x = true) (r : RelV x u) {A : Around} {s : Shared} {b : Addr} {items : Array Value} (ht : s.heap.IsTuple b items) (hu : A.units < cLine) : SeqAt.EqAt A s u (.ref b) false ∧ SeqAt.EqAt A s (.ref b) u false := by
  cases x with
  | non => cases r; exact ⟨SeqAt.EqAt.none_tuple ht hu, SeqAt.EqAt.tuple_none ht hu⟩
  | bl b => cases r; exact ⟨SeqAt.EqAt.bool_tuple b ht hu, SeqAt.EqAt.tuple_bool b ht hu⟩
  | int b => obtain ⟨t, rfl⟩ := r; exact ⟨SeqAt.EqAt.int_tuple b t ht hu, SeqAt.EqAt.tuple_int b t ht hu⟩
  | str b => obtain ⟨t, rfl⟩ := r; exact ⟨SeqAt.EqAt.str_tuple b t ht hu, SeqAt.EqAt.tuple_str b t ht hu⟩
  | _ => cases h
theorem flat_lst {x : V} {u : Value} (h : flatV x = true) (r : RelV x u) {A : Around} {s : Shared} {b : Addr} {items : Array Value} (ht : s.heap.IsList b items) (hu : A.units < cLine) : SeqAt.EqAt A s u (.ref b) false ∧ SeqAt.EqAt A s (.ref b) u false := by
  cases x with
  | non => cases r; exact ⟨SeqAt.EqAt.none_list ht hu, SeqAt.EqAt.list_none ht hu⟩
  | bl b => cases r; exact ⟨SeqAt.EqAt.bool_list b ht hu, SeqAt.EqAt.list_bool b ht hu⟩
  | int b => obtain ⟨t, rfl⟩ := r; exact ⟨SeqAt.EqAt.int_list b t ht hu, SeqAt.EqAt.list_int b t ht hu⟩
  | str b => obtain ⟨t, rfl⟩ := r; exact ⟨SeqAt.EqAt.str_list b t ht hu, SeqAt.EqAt.list_str b t ht hu⟩
  | _ => cases h
theorem eq_fl_fl (v w : V) : EqOD X cl S (.fl v) (.fl w) := by
  intro A pins s σ H x y u u' sb I rx ry od oe oD oE
  obtain ⟨rfl, h⟩ := od
  obtain ⟨rfl, h'⟩ := oe
  exact eqAt_V (A := A) (s := s) rx ry h h' X.prog X.w X.xe _ ⟨rfl, H, I, Ext.rfl'⟩
theorem eq_fl_tup (v : V) (ds : List OD) : EqOD X cl S (.fl v) (.tup ds) ∧ EqOD X cl S (.tup ds) (.fl v) := by
  refine ⟨fun A pins s σ H x y u u' sb I rx ry od oe oD oE => ?_, fun A pins s σ H x y u u' sb I rx ry oe od oE oD => ?_⟩
  · obtain ⟨rfl, h⟩ := od
    obtain ⟨b, ys, rfl, hb, q⟩ := oe
    cases ry
    obtain ⟨its, r, e, z⟩ := I.tuple hb
    exact (flat_tup h rx e sb.room.units0).1 X.prog X.w X.xe _ ⟨eqo_fl_tup.symm, H, I, Ext.rfl'⟩
  · obtain ⟨rfl, h⟩ := od
    obtain ⟨b, ys, rfl, hb, q⟩ := oe
    cases rx
    obtain ⟨its, r, e, z⟩ := I.tuple hb
    exact (flat_tup h ry e sb.room.units0).2 X.prog X.w X.xe _ ⟨eqo_tup_fl.symm, H, I, Ext.rfl'⟩
theorem eq_fl_lst (v : V) (ds : List OD) : EqOD X cl S (.fl v) (.lst ds) ∧ EqOD X cl S (.lst ds) (.fl v) := by
  refine ⟨fun A pins s σ H x y u u' sb I rx ry od oe oD oE => ?_, fun A pins s σ H x y u u' sb I rx ry oe od oE oD => ?_⟩
  · obtain ⟨rfl, h⟩ := od
    obtain ⟨b, ys, rfl, hb, q⟩ := oe
    cases ry
    obtain ⟨z, its, n, r, e⟩ := I.hok _ _ hb
    exact (flat_lst h rx ⟨_, e, rfl, _, rfl⟩ sb.room.units0).1 X.prog X.w X.xe _ ⟨eqo_fl_lst.symm, H, I, Ext.rfl'⟩
  · obtain ⟨rfl, h⟩ := od
    obtain ⟨b, ys, rfl, hb, q⟩ := oe
    cases rx
    obtain ⟨z, its, n, r, e⟩ := I.hok _ _ hb
    exact (flat_lst h ry ⟨_, e, rfl, _, rfl⟩ sb.room.units0).2 X.prog X.w X.xe _ ⟨eqo_lst_fl.symm, H, I, Ext.rfl'⟩
theorem eq_tup_lst (ds es : List OD) : EqOD X cl S (.tup ds) (.lst es) ∧ EqOD X cl S (.lst es) (.tup ds) := by
  refine ⟨fun A pins s σ H x y u u' sb I rx ry od oe oD oE => ?_, fun A pins s σ H x y u u' sb I rx ry oe od oE oD => ?_⟩
  · obtain ⟨a, xs, rfl, ha, _⟩ := od
    obtain ⟨b, ys, rfl, hb, q⟩ := oe
    cases rx
    cases ry
    obtain ⟨its, r, t, z⟩ := I.tuple ha
    obtain ⟨z, its, n, r, e⟩ := I.hok _ _ hb
    exact SeqAt.EqAt.tuple_list t ⟨_, e, rfl, _, rfl⟩ sb.room.units0 X.prog X.w X.xe _ ⟨eqo_tup_lst.symm, H, I, Ext.rfl'⟩
  · obtain ⟨a, xs, rfl, ha, _⟩ := od
    obtain ⟨b, ys, rfl, hb, q⟩ := oe
    cases rx
    cases ry
    obtain ⟨its, r, t, z⟩ := I.tuple ha
    obtain ⟨z, its, n, r, e⟩ := I.hok _ _ hb
    exact SeqAt.EqAt.list_tuple ⟨_, e, rfl, _, rfl⟩ t sb.room.units0 X.prog X.w X.xe _ ⟨eqo_lst_tup.symm, H, I, Ext.rfl'⟩
theorem rc_obj (W : OwnCls X.K cl S) (G : OwnGives X cl S) (k : Nat) (ds : List OD) (e : OD) : RcOD X cl S (.obj k ds) e :=
  fun A pins s σ H x y u v sb I rx ry od oe oD oE => rcB_objL W G (sb.mono (Nat.le_max_left _ _)) I rx ry od oe oD oE
theorem rc_flObj (W : OwnCls X.K cl S) (G : OwnGives X cl S) (k : Nat) (ds : List OD) (w : V) : RcOD X cl S (.fl w) (.obj k ds) :=
  fun A pins s σ H x y u v sb I rx ry od oe oD oE => rcB_flObj W G (sb.mono (Nat.le_max_right _ _)) I rx ry od oe oE
theorem rc_tupObj (W : OwnCls X.K cl S) (G : OwnGives X cl S) (k : Nat) (ds es : List OD) : RcOD X cl S (.tup es) (.obj k ds) :=
  fun A pins s σ H x y u v sb I rx ry od oe oD oE => rcB_tupObj W G (sb.mono (Nat.le_max_right _ _)) I rx ry od oe oD oE
theorem rc_lstObj (W : OwnCls X.K cl S) (G : OwnGives X cl S) (k : Nat) (ds es : List OD) : RcOD X cl S (.lst es) (.obj k ds) :=
  fun A pins s σ H x y u v sb I rx ry od oe oD oE => rcB_lstObj W G (sb.mono (Nat.le_max_right _ _)) I rx ry od oe oD oE
theorem eq_of_rc_fl {k : Nat} {ds : List OD} {w : V} (h1 : RcOD X cl S (.fl w) (.obj k ds)) (h2 : RcOD X cl S (.obj k ds) (.fl w)) : EqOD X cl S (.fl w) (.obj k ds) ∧ EqOD X cl S (.obj k ds) (.fl w) := by
  refine ⟨fun A pins s σ H x y u u' sb I rx ry od oe oD oE => ?_, fun A pins s σ H x y u u' sb I rx ry od oe oD oE => ?_⟩
  · have q := h1 A pins s σ H x y u u' sb I rx ry od oe oD oE
    obtain ⟨rfl, h⟩ := od
    obtain ⟨a, rfl⟩ := oh_obj_ref _ _ oe
    cases ry
    obtain ⟨n1, n2, n3⟩ := flat_ne_ref (a := a) h rx
    exact eqBool_no n1 n3 (wpAny_mono q (fun r s' z => ⟨_, z.1, rfl, z.2⟩) fun _ _ x => x)
  · have q := h2 A pins s σ H x y u u' sb I rx ry od oe oD oE
    obtain ⟨rfl, h⟩ := oe
    obtain ⟨a, rfl⟩ := oh_obj_ref _ _ od
    cases rx
    obtain ⟨n1, n2, n3⟩ := flat_ne_ref (a := a) h ry
    exact eqBool_no n2 nofun (wpAny_mono q (fun r s' z => ⟨_, z.1, rfl, z.2⟩) fun _ _ x => x)
mutual
theorem eqOD (W : OwnCls X.K cl S) (G : OwnGives X cl S) : ∀ (d e : OD), EqOD X cl S d e
  | .fl v, .fl w => eq_fl_fl v w
  | .fl v, .tup ds => (eq_fl_tup v ds).1
  | .fl v, .lst ds => (eq_fl_lst v ds).1
  | .fl v, .obj k ds => (eq_of_rc_fl (rc_flObj W G k ds v) (rc_obj W G k ds (.fl v))).1
  | .tup ds, .fl v => (eq_fl_tup v ds).2
  | .lst ds, .fl v => (eq_fl_lst v ds).2
  | .obj k ds, .fl v => (eq_of_rc_fl (rc_flObj W G k ds v) (rc_obj W G k ds (.fl v))).2
  | .tup ds, .lst es => (eq_tup_lst ds es).1
  | .lst ds, .tup es => (eq_tup_lst es ds).2
  | .tup ds, .obj k es => eqOD_ref W (rc_tupObj W G k es ds) oh_tup_ref oh_obj_ref
  | .lst ds, .obj k es => eqOD_ref W (rc_lstObj W G k es ds) oh_lst_ref oh_obj_ref
  | .obj k es, .tup ds => eqOD_ref W (rc_obj W G k es (.tup ds)) oh_obj_ref oh_tup_ref
  | .obj k es, .lst ds => eqOD_ref W (rc_obj W G k es (.lst ds)) oh_obj_ref oh_lst_ref
  | .obj k es, .obj l ds => eqOD_ref W (rc_obj W G k es (.obj l ds)) oh_obj_ref oh_obj_ref
  | .tup ds, .tup es => eqOD_ref W (rcOD_tup (eqODs W G ds es)) oh_tup_ref oh_tup_ref
  | .lst ds, .lst es => eqOD_ref W (rcOD_lst (eqODs W G ds es)) oh_lst_ref oh_lst_ref
theorem eqODs (W : OwnCls X.K cl S) (G : OwnGives X cl S) : ∀ (ds es : List OD) (i : Nat) (d e : OD), ds[i]? = some d → es[i]? = some e → EqOD X cl S d e
  | x :: xs, y :: ys, 0, d, e, h1, h2 => by
    have q := eqOD W G x y
    simp at h1 h2
    subst h1 h2
    exact q
  | x :: xs, y :: ys, i + 1, d, e, h1, h2 => eqODs W G xs ys i d e (by simpa using h1) (by simpa using h2)
  | [], es, i, d, e, h1, h2 => by simp at h1
  | x :: xs, [], i, d, e, h1, h2 => by simp at h2
end
end
end L2
set_option linter.all false
namespace PySem.W
open PyProof.Rows Builtin
section
variable {prog : Program} {w : World} {A : Around} {E : Value → Shared → Prop} {s : Shared} {K : Frag} {x C L f : Addr} {h₀ : Heap} {m : Str → Option Value} {ox : Obj} {od : Option Obj} {b tb : Value}
theorem ifBound_objNe {M : Model} {args : List Value} {Q : Option Value → Shared → Prop} (X : K.In s.heap) (I : InstAt s.heap x ox C od) (hs : findIn K (.ref C) "__ne__" = some (some (.builtin "object.__ne__")))
    (h : wpAny M A (call (.builtin "object.__ne__") (.ref x :: args)) (fun v => Q (some v)) E s) : wpAny M A (callSpecialIfBound? (.ref x) "__ne__" args) Q E s := by
  simp only [callSpecialIfBound?, bindSpecialIfBound?]
  refine wpAny_holding (wpAny_bind (wpAny_bind (wpAny_bind (I.type.here ((looks_findIn X hs).here ?_)))))
  refine wpAny_bind (wpAny_askSetting (wpAny_ite ?_))
  have fin : wpAny M A (call (.builtin "object.__ne__") ([.ref x] ++ args) >>= fun v => pure (some v)) Q E s := wpAny_bind (wpAny_mono h (fun v s' h' => wpAny_pure h') fun _ _ h' => h')
  split
  · exact wpAny_bind (wpAny_of_eq (F.cmp_object.ne.bind _) (wpAny_pure (by exact fin)))
  · exact wpAny_tryCatch (wpAny_bind (wpAny_of_eq (F.cmp_object.ne.bind _) (wpAny_pure (by exact fin))))
theorem objNe_entry {Q : Fin → Shared → Prop} (X : K.In s.heap) (I : InstAt s.heap x ox C od) (he : findIn K (.ref C) "__eq__" = some (some (.ref f))) (hf : isFn K (.ref f) = true) (hu : A.units < cLine)
    (hcall : wpAny (model prog w) A (call (.ref f) [.ref x, b]) (fun v s' => ∃ b, v = .bool b ∧ Q (.done (.ret (.bool (!b)))) s') E s) :
    wpAny (model prog w) A (Builtin.«object.__ne__» ⟨[.ref x, b], []⟩) Q E s := by
  unfold Builtin.«object.__ne__»
  repeat (first
    | with_reducible refine wpAny_cRoomFor hu ?_
    | (refine wpAny_bind (m := callSpecialIfBound? (.ref x) (Str.ofString "__eq__") [b])
        (ifBound_K X I he hf (wpAny_mono hcall (fun v s' hr => by
          obtain ⟨b, rfl, hq⟩ := hr
          repeat (first | exact hq | exact wpAny_pure hq | exact wpAny_truthy_bool hq | (refine wpAny_bind (m := truthy (.bool _)) (wpAny_truthy_bool ?_)) | wp_step)) fun _ _ e => e)))
    | wp_step)
/-- x != b, x an object with an own == and no != -/
theorem ne_K {Q : Value → Shared → Prop} (hu : A.units + 1 < cLine) (F0 : Fr h₀ L s.heap m) (X₀ : K.In h₀) (I : InstAt s.heap x ox C od) (hb : Looks (model prog w) s.heap (typeOf b) tb) (hn : notFirst K C tb = true)
    (hm : mroIn K C (.type "object") = some true) (hs : findIn K (.ref C) "__ne__" = some (some (.builtin "object.__ne__"))) (he : findIn K (.ref C) "__eq__" = some (some (.ref f))) (hf : isFn K (.ref f) = true)
    (h : wpAny (model prog w) A.in1 (call (.ref f) [.ref x, b]) (fun v s' => ∃ k, v = .bool k ∧ Q (.bool (!k)) s') E s) : wpAny (model prog w) A (richCompare .NotEq (.ref x) b) Q E s := by
  have X := X₀.keeps F0.keep
  have one : wpAny (model prog w) A (tryCompare (.ref x) (cmpInfo .NotEq).2.1 b) (fun r s' => ∃ v, r = some v ∧ Q v s') E s := by
    unfold tryCompare
    refine wpAny_bind (ifBound_objNe X I hs ?_)
    refine wpAny_call (codeAny_call_builtin F.cmp_object.ne.plain F.cmpEntry_ne (check_slot F.cmpKind_ne F.cmpSplit_ne (I.type.andThen (looks_mroIn X hm)) (F.cmpArgs_ne _ _) ?_))
    refine objNe_entry (A := A.in1) X I he hf (by show A.units + 1 < cLine; exact hu) (wpAny_mono h (fun v s' hv => ?_) fun _ _ e => e)
    obtain ⟨k, rfl, hq⟩ := hv
    first | exact ⟨k, rfl, wpAny_pure ⟨_, rfl, hq⟩⟩ | exact ⟨k, rfl, ⟨_, rfl, hq⟩⟩
  unfold richCompare
  simp only [oneThing_ref]
  refine wpAny_holding (wpAny_bind (wpAny_cRoomFor (Nat.lt_of_succ_lt hu) ?_))
  refine wpAny_bind (I.type.here (wpAny_bind (hb.here ?_)))
  split
  · rename_i q
    have e : subIn K tb (.ref C) = some false := by
      rcases Bool.or_eq_true_iff.mp hn with e | e
      · rw [beq_iff_eq.mp e] at q; simp at q
      · exact beq_iff_eq.mp e
    refine wpAny_bind ((looks_subIn X e).here ?_)
    simp only [Bool.false_eq_true, if_false]
    refine wpAny_bind (wpAny_mono one (fun r s' z => ?_) fun _ _ e => e)
    obtain ⟨v, rfl, hq⟩ := z
    exact wpAny_pure hq
  · refine wpAny_bind (wpAny_pure ?_)
    simp only [Bool.false_eq_true, if_false]
    refine wpAny_bind (wpAny_mono one (fun r s' z => ?_) fun _ _ e => e)
    obtain ⟨v, rfl, hq⟩ := z
    exact wpAny_pure hq
end
end PySem.W
namespace L2
open PySem PySem.Spec PyProof.Rows
section
variable {cl : Nat → OCls} {S : Nat → List OD → Prop} {X : Cx}
theorem rc_flat {A : Around} {s : Shared} {y x : V} {u v : Value} (ry : RelV y u) (rx : RelV x v) (fy : flatV y = true) (fx : flatV x = true) : SeqAt.RcAt A s u v (eqV y x) := by
  cases y with
  | non =>
    cases ry
    cases x with
    | non => cases rx; exact SeqAt.RcAt.none_none
    | bl b => cases rx; exact SeqAt.RcAt.none_bool b
    | int b => obtain ⟨t, rfl⟩ := rx; exact SeqAt.RcAt.none_int b t
    | str b => obtain ⟨t, rfl⟩ := rx; exact SeqAt.RcAt.none_str b t
    | _ => cases fx
  | bl a =>
    cases ry
    cases x with
    | non => cases rx; exact SeqAt.RcAt.bool_none a
    | bl b => cases rx; exact SeqAt.RcAt.bool_bool a b
    | int b => obtain ⟨t, rfl⟩ := rx; exact SeqAt.RcAt.bool_int a b t
    | str b => obtain ⟨t, rfl⟩ := rx; exact SeqAt.RcAt.bool_str a b t
    | _ => cases fx
  | int a =>
    obtain ⟨ta, rfl⟩ := ry
    cases x with
    | non => cases rx; exact SeqAt.RcAt.int_none a ta
    | bl b => cases rx; exact SeqAt.RcAt.int_bool a ta b
    | int b => obtain ⟨t, rfl⟩ := rx; exact SeqAt.RcAt.int_int a ta b t
    | str b => obtain ⟨t, rfl⟩ := rx; exact SeqAt.RcAt.int_str a ta b t
    | _ => cases fx
  | str a =>
    obtain ⟨ta, rfl⟩ := ry
    cases x with
    | non => cases rx; exact SeqAt.RcAt.str_none a ta
    | bl b => cases rx; exact SeqAt.RcAt.str_bool a ta b
    | int b => obtain ⟨t, rfl⟩ := rx; exact SeqAt.RcAt.str_int a ta b t
    | str b => obtain ⟨t, rfl⟩ := rx; exact SeqAt.RcAt.str_str a ta b t
    | _ => cases fx
  | _ => cases fy
theorem rc_flTup {x : V} {u : Value} (h : flatV x = true) (r : RelV x u) {A : Around} {s : Shared} {b : Addr} {items : Array Value} (ht : s.heap.IsTuple b items) (hu : A.units < cLine) : SeqAt.RcAt A s u (.ref b) false ∧ SeqAt.RcAt A s (.ref b) u false := by
  cases x with
  | non => cases r; exact ⟨SeqAt.RcAt.none_tuple ht hu, SeqAt.RcAt.tuple_none ht hu⟩
  | bl b => cases r; exact ⟨SeqAt.RcAt.bool_tuple b ht hu, SeqAt.RcAt.tuple_bool b ht hu⟩
  | int b => obtain ⟨t, rfl⟩ := r; exact ⟨SeqAt.RcAt.int_tuple b t ht hu, SeqAt.RcAt.tuple_int b t ht hu⟩
  | str b => obtain ⟨t, rfl⟩ := r; exact ⟨SeqAt.RcAt.str_tuple b t ht hu, SeqAt.RcAt.tuple_str b t ht hu⟩
  | _ => cases h
/-- == of the two sides, where no list is -/
def noLst : OD → Prop
  | .lst _ => False
  | _ => True
theorem rcOD (W : OwnCls X.K cl S) (G : OwnGives X cl S) : ∀ (d e : OD), noLst d → noLst e → RcOD X cl S d e
  | .fl v, .fl w, _, _ => fun A pins s σ H x y u u' sb I rx ry od oe oD oE => by
    obtain ⟨rfl, h⟩ := od
    obtain ⟨rfl, h'⟩ := oe
    exact rc_flat (A := A) (s := s) rx ry h h' X.prog X.w X.xe _ ⟨rfl, H, I, Ext.rfl'⟩
  | .fl v, .tup ds, _, _ => fun A pins s σ H x y u u' sb I rx ry od oe oD oE => by
    obtain ⟨rfl, h⟩ := od
    obtain ⟨b, ys, rfl, hb, q⟩ := oe
    cases ry
    obtain ⟨its, r, e, z⟩ := I.tuple hb
    rw [eqo_fl_tup]
    exact (rc_flTup h rx e sb.room.units0).1 X.prog X.w X.xe _ ⟨rfl, H, I, Ext.rfl'⟩
  | .tup ds, .fl v, _, _ => fun A pins s σ H x y u u' sb I rx ry oe od oE oD => by
    obtain ⟨rfl, h⟩ := od
    obtain ⟨b, ys, rfl, hb, q⟩ := oe
    cases rx
    obtain ⟨its, r, e, z⟩ := I.tuple hb
    rw [eqo_tup_fl]
    exact (rc_flTup h ry e sb.room.units0).2 X.prog X.w X.xe _ ⟨rfl, H, I, Ext.rfl'⟩
  | .fl v, .obj k ds, _, _ => rc_flObj W G k ds v
  | .tup ds, .obj k es, _, _ => rc_tupObj W G k es ds
  | .obj k es, e, _, _ => rc_obj W G k es e
  | .tup ds, .tup es, _, _ => rcOD_tup (eqODs W G ds es)
  | .lst _, _, h, _ => h.elim
  | .fl _, .lst _, _, h => h.elim
  | .tup _, .lst _, _, h => h.elim
def rEqO (K : PySem.W.Frag) (cl : Nat → OCls) (S : Nat → List OD → Prop) (n : Nat) : R2 := fun x y H Q => ∃ d e, Oh K cl H d x ∧ Oh K cl H e y ∧ okO S d ∧ okO S e ∧ need cl d ≤ n ∧ need cl e ≤ n ∧ noLst d ∧ noLst e ∧ ∀ H', Ext H H' → Q (.bl (eqo d e)) H'
theorem op_eqO (W : OwnCls X.K cl S) (G : OwnGives X cl S) {n : Nat} (hr : Room n X.A) : OpR X (compareOp .Eq) (rEqO X.K cl S n) := by
  intro pins s σ H x y v u Q I rx ry h
  obtain ⟨d, e, hd, he, oD, oE, n1, n2, l1, l2, q⟩ := h
  show wpAny (model X.prog X.w) X.A (richCompare .Eq v u) (EP X pins σ Q) X.xe s
  refine wpAny_mono (rcOD W G d e l1 l2 X.A pins s σ H x y v u ⟨hr.mono (by omega), rfl⟩ I rx ry hd he oD oE) (fun r s' z => ?_) fun _ _ x => x
  obtain ⟨rfl, H', I', e'⟩ := z
  exact ⟨.bl _, H', I', rfl, q H' e'⟩
/-- two lists -/
def rEqOL (K : PySem.W.Frag) (cl : Nat → OCls) (S : Nat → List OD → Prop) (n : Nat) : R2 := fun x y H Q => ∃ ds es, Oh K cl H (.lst ds) x ∧ Oh K cl H (.lst es) y ∧ okAll S ds ∧ okAll S es ∧ needAll cl ds + 1 ≤ n ∧ needAll cl es + 1 ≤ n ∧ ∀ H', Ext H H' → Q (.bl (eqoAll ds es)) H'
theorem op_eqOL (W : OwnCls X.K cl S) (G : OwnGives X cl S) {n : Nat} (hr : Room n X.A) : OpR X (compareOp .Eq) (rEqOL X.K cl S n) := by
  intro pins s σ H x y v u Q I rx ry h
  obtain ⟨ds, es, hd, he, oD, oE, n1, n2, q⟩ := h
  show wpAny (model X.prog X.w) X.A (richCompare .Eq v u) (EP X pins σ Q) X.xe s
  refine wpAny_mono (rcOD_lst (eqODs W G ds es) X.A pins s σ H x y v u ⟨hr.mono (by show max (needAll cl ds + 1) (needAll cl es + 1) ≤ n; omega), rfl⟩ I rx ry hd he oD oE) (fun r s' z => ?_) fun _ _ x => x
  obtain ⟨rfl, H', I', e'⟩ := z
  exact ⟨.bl _, H', I', rfl, q H' e'⟩
/-- != of two tuples -/
def rNeOT (K : PySem.W.Frag) (cl : Nat → OCls) (S : Nat → List OD → Prop) (n : Nat) : R2 := fun x y H Q => ∃ ds es, Oh K cl H (.tup ds) x ∧ Oh K cl H (.tup es) y ∧ okAll S ds ∧ okAll S es ∧ needAll cl ds + 1 ≤ n ∧ needAll cl es + 1 ≤ n ∧ ∀ H', Ext H H' → Q (.bl (!eqoAll ds es)) H'
theorem op_neOT (W : OwnCls X.K cl S) (G : OwnGives X cl S) {n : Nat} (hr : Room n X.A) : OpR X (compareOp .NotEq) (rNeOT X.K cl S n) := by
  intro pins s σ H x y v u Q I rx ry h
  obtain ⟨ds, es, hd, he, oD, oE, n1, n2, q⟩ := h
  obtain ⟨a, xs, rfl, ha, p⟩ := hd
  obtain ⟨b, ys, rfl, hb, q'⟩ := he
  cases rx
  cases ry
  obtain ⟨its, r, e, z⟩ := I.tuple ha
  obtain ⟨its2, r2, e2, z2⟩ := I.tuple hb
  have sb' : Sub X (max (needAll cl ds) (needAll cl es) + 1) X.A := ⟨hr.mono (by omega), rfl⟩
  have z1 : GQ.allEq its.toArray.size its2.toArray.size (pairs ds es) = eqoAll ds es := by
    rw [List.size_toArray, List.size_toArray, ← r.length, ← r2.length, ← OhAll.length ds xs p, ← OhAll.length es ys q']
    exact allEq_eqo ds es _ fun i d c h1 h2 => pairs_eq h1 h2
  show wpAny (model X.prog X.w) X.A (richCompare .NotEq (.ref a) (.ref b)) (EP X pins σ Q) X.xe s
  exact GQ.rc_tupNeB sb'.room.units0 (fun _ s' => LoopI X pins σ H s') e e2 (fun i h1 h2 s' l => turnOD (eqODs W G ds es) sb' p q' oD oE r r2 (pairs ds es) (fun i d c h1 h2 => pairs_eq h1 h2) i h1 h2 s' l)
    (fun i s' l => by rw [z1]; obtain ⟨H', I', e'⟩ := l; exact ⟨.bl _, H', I', rfl, q H' e'⟩) ⟨H, I, Ext.rfl'⟩
/-- what != asks of the class -/
structure NoNe (K : PySem.W.Frag) (C : Addr) : Prop where
  mo : PySem.W.mroIn K C (.type "object") = some true
  ne : PySem.W.findIn K (.ref C) "__ne__" = some (some (.builtin "object.__ne__"))
/-- != of an object with an own == and anything -/
def rNeOO (K : PySem.W.Frag) (cl : Nat → OCls) (S : Nat → List OD → Prop) (n : Nat) : R2 := fun x y H Q => ∃ k ds e, Oh K cl H (.obj k ds) x ∧ Oh K cl H e y ∧ okO S (.obj k ds) ∧ okO S e ∧ (cl k).lv ≤ n ∧ NoNe K (cl k).C ∧ ∀ H', Ext H H' → Q (.bl (!eqo (.obj k ds) e)) H'
theorem op_neOO (W : OwnCls X.K cl S) (G : OwnGives X cl S) {n : Nat} (hr : Room (n + 1) X.A) : OpR X (compareOp .NotEq) (rNeOO X.K cl S n) := by
  intro pins s σ H x y v u Q I rx ry h
  obtain ⟨k, ds, e, hd, he, oD, oE, n1, nn, q⟩ := h
  obtain ⟨a, dx, fs, xs, rfl, hi, hn, hq⟩ := id hd
  cases rx
  obtain ⟨_, O1, _⟩ := ins_get I.hok hi
  obtain ⟨o1, J1, _⟩ := O1.look
  obtain ⟨m, hF⟩ := I.fr
  obtain ⟨tb, L, hn⟩ := ty_looks W I ⟨_, oD.1⟩ ry he oE
  show wpAny (model X.prog X.w) X.A (richCompare .NotEq (.ref a) u) (EP X pins σ Q) X.xe s
  refine PySem.W.ne_K (tb := tb) (by have := hr.un; omega) hF I.ok.mod.kin J1 L hn nn.mo nn.ne (W.eqf k ⟨_, oD.1⟩) (W.isf k ⟨_, oD.1⟩) ?_
  refine wpAny_mono (G k ds oD.1 X.A.in1 pins s σ H a e y u ⟨hr.in1.mono n1, rfl⟩ I ry hd he oD.2 oE) (fun r s' z => ?_) fun _ _ e => e
  obtain ⟨rfl, H', I', e'⟩ := z
  exact ⟨_, rfl, .bl _, H', I', rfl, q H' e'⟩
end
end L2
set_option linter.all false
namespace Kx
open PySem L2 PySem.Spec PyProof.Rows
def top (i : Nat) : Stmt := PySem.Challenge.pw_contractheirs_k20_checks.main.body.getD i (.Pass ⟨0, 0, 0, 0⟩)
structure Fs (K : PySem.W.Frag) (mg : Str → Option Value) (x : Str) (st : Stmt) (ps : List Str) (f : Addr) (fd : FuncData) : Prop where
  F : Fun K x x st f fd
  b : Binds K fd ps []
  m : mg x = some (.ref f)
theorem yes_of {σ : L2.St} {H : Hp} {A B : Hp → Prop} (h : A H) : tYes σ H fun b H3 => if b = true then A H3 else B H3 := by
  show (if true = true then A H else B H)
  rw [if_pos rfl]
  exact h
theorem new_same {H : Hp} {D : Addr} {o : HO} (hD : H D = none) : Same H (upd H D o) := fun b u e => by
  have hb : b ≠ D := fun z => by
    rw [z, hD] at e
    cases e
  rw [upd_ne hb]
  exact e
theorem same_upd {H H2 : Hp} {D : Addr} {o : HO} (hD : H D = none) (s2 : Same H H2) : Same H (upd H2 D o) := fun b u e => by
  have hb : b ≠ D := fun z => by
    rw [z, hD] at e
    cases e
  rw [upd_ne hb]
  exact s2 b u e
theorem tyT {K : PySem.W.Frag} {H : Hp} {a : Addr} {xs : List V} (h : SqT K H a xs) : TyX K H (.ref a) (.type "tuple") := by
  rcases h with (h | ⟨o, h⟩) | ⟨o, its, n, hk, hc, _⟩
  · exact .base (.tup h)
  · exact .fTuple h
  · exact .kTuple hk hc
theorem SqT.same {K : PySem.W.Frag} {H H' : Hp} {a : Addr} {xs : List V} (s : Same H H') (h : SqT K H a xs) : SqT K H' a xs := by
  rcases h with (h | ⟨o, h⟩) | h
  · exact .inl (.inl (s _ _ h))
  · exact .inl (.inr ⟨o, s _ _ h⟩)
  · exact .inr h
/-! a def read off a class: Base.__init__(self, ..) -/
structure CFn (K : PySem.W.Frag) (C : Addr) (mc : Value) (m : Str) (g : Addr) : Prop where
  at_ : PySem.W.findCls K (.ref C) mc m = some (.val (.ref g))
  fn : PySem.W.keepIn K (.ref g) = true
def tCFn (C : Addr) (sp : Sp) (E : XK) (ta : TE) (t : TA) : TE := fun σ H Q => ta σ H fun x H1 => x = .ref C ∧ t σ H1 fun vs H2 => sp vs H2 Q E
section
variable {X : Cx} {CX : CXT} {k : Nat} {C g : Addr} {mc : Value} {fd : FuncData} {ps : List Str} {sp : Sp} {E : XK} {o e : Expr} {es : List Expr} {m : Str} {pos apos : Pos} {ta : TE} {t : TA} {pl : Sem Bool}
theorem cfn_ok {A : Around} {pins : List (Addr × Obj)} {σ : L2.St} {H : Hp} {s : Shared} {E : Value → Shared → Prop} {Q : Value × List Value → Shared → Prop} (I : L2.Inv X pins σ H s) (r : ClX.CRead X.K C mc) (c : CFn X.K C mc m g)
    (h : ∀ s', L2.Inv X pins σ H s' → Q (.ref g, []) s') : wpAny (model X.prog X.w) A (getMethod (.ref C) m pl) Q E s :=
  PySem.W.method_cls I.kIn r.ga (PySem.W.cls_value I.kIn r.rd c.at_ rfl (h _ (I.tok _)))
theorem pe_cfn (he : PE X o ta) (r : ClX.CRead X.K C mc) (c : CFn X.K C mc m g) (F : FnOk X.prog X.w X.K X.mg X.base CX k g fd ps sp) (hr : Room k X.A) (hb : L2.Binds X.K fd ps []) (hx : Passes CX X E) (ha : PA X (e :: es) t)
    (ht : eval (.Call (.Attribute o m apos) (e :: es) [] pos) X.env = (do let ov ← eval o X.env; standAt apos.atName; let (f, first) ← holding [ov] (getMethod ov m pl); callWith pos f first (backTo pos (starEach (e :: es) X.env)) (backToKw pos (keywordEach [] X.env))) := by rfl)
    (hst : starEach (e :: es) X.env = (false, eval e X.env) :: starEach es X.env := by rfl) (hpl : (backTo pos (starEach es X.env)).any (·.1) = false := by rfl) :
    PE X (.Call (.Attribute o m apos) (e :: es) [] pos) (tCFn C sp E ta t) := by
  refine ⟨fun pins s σ H Q I h => ?_⟩
  refine PySem.W.methodCall_KW (pl := pl) (thn (he.run pins s σ H _ I h) fun u s1 hq => ?_) ht
  obtain ⟨x, H1, I1, rx, ex, q⟩ := hq
  subst ex
  obtain rfl : u = Value.ref C := rx
  refine cfn_ok I1 r c fun s2 I2 => ?_
  refine PySem.W.callWith_K (first := []) (h₀ := X.base) I.ok.mod.kin c.fn (thn (ha.run pos pins s2 σ H1 _ I2 q) fun us s3 hq => ?_) hst hpl
  obtain ⟨vs, H2, I3, rv, q2⟩ := hq
  exact ⟨I3.kIn, run_fn F hr hb (dvs := []) .nil hx I3 rv (by rw [List.append_nil]; exact q2)⟩
end
end Kx
namespace Kx
open PySem L2
abbrev sWell : Stmt := top 22
abbrev sDraw : Stmt := top 23
abbrev sOne : Stmt := top 24

/-- a source of draws as it stands: three whole numbers, the last one small -/
def WellAt (H : Hp) (p : Addr) (n : Int) : Prop := ∃ a b c : Int, H p = some (.lst [.int a, .int b, .int c]) ∧ 0 ≤ b ∧ b < 4294967296 ∧ 0 ≤ c ∧ c ≤ n
def spWell : Sp := fun vs H Q _ => ∃ c : Int, vs = [.int c] ∧ ∀ p H', H p = none → Same H H' → WellAt H' p 0 → Q (.ref p) H'
def spDraw : Sp := fun vs H Q _ => ∃ (p : Addr) (m n : Int), vs = [.ref p, .int m] ∧ WellAt H p n ∧ n ≤ 1000000 ∧ 0 < m ∧ m < 1000000 ∧
  ∀ (r : Int) (xs : List V), 0 ≤ r → r < m → WellAt (upd H p (.lst xs)) p (n + 1) → Q (.int r) (upd H p (.lst xs))
def spOne (K : PySem.W.Frag) : Sp := fun vs H Q _ => ∃ (p q : Addr) (n : Int) (ys : List V), vs = [.ref p, .ref q] ∧ WellAt H p n ∧ n ≤ 1000000 ∧ p ≠ q ∧ SqL K H q ys ∧ 0 < ys.length ∧ ys.length < 1000000 ∧
  ∀ (r : Nat) (v : V) (xs : List V), ys[r]? = some v → WellAt (upd H p (.lst xs)) p (n + 1) → Q v (upd H p (.lst xs))

structure Bl (mg : Str → Option Value) : Prop where
  int : mg "int" = none
  len : mg "len" = none

section
variable {P : Program} {w : World} {K : PySem.W.Frag} {mg : Str → Option Value} {base : Heap}
theorem scW : FnScope ["_law_cell"] ["_law_cell"] (defScope sWell) := ⟨rfl, rfl, rfl, by decide +kernel, rfl, by decide +kernel, by decide +kernel⟩
theorem ok_well {f : Addr} {fd : FuncData} (F : Fun K "_law_well" "_law_well" sWell f fd) (T : Bl mg) : FnOk P w K mg base CX0 1 f fd ["_law_cell"] spWell := by
  refine F.ok scW (fun vs H Q E h => ?_) (fun cdv A outer s H vs Q E hr h => ?_)
  · obtain ⟨c, rfl, _⟩ := h
    rfl
  · obtain ⟨c, rfl, k⟩ := h
    have hu := hu_of hr
    refine ⟨_, pss_one (ps_ret (pe_lst (pa_cons (pe_op op_mul (pv 0) (pe_callTy call_int1 (by rfl) T.int (by decide +kernel) (pa_cons (pe_cmpR op_ge (pv 0) (pe_op op_pow pe_int pe_int) (nomark _)) pa_nil)))
      (pa_cons (pe_op op_mod (pe_callTy call_int1 (by rfl) T.int (by decide +kernel) (pa_cons (pv 0) pa_nil)) pe_int) (pa_cons pe_int pa_nil))))), ?_⟩
    refine ⟨_, rfl, _, rfl, _, _, rfl, rfl, ⟨by decide, by decide, by decide⟩, _, _, rfl, rfl, .inr ⟨_, rfl, _, _, rfl, rfl, .inr ?_, _, rfl, .inl ⟨_, rfl, _, _, rfl, rfl, (by show (0 : Int) < 2147483629; decide), (by show 3 ≤ sizeLine; decide), fun p hp => ?_⟩⟩⟩
    · split <;> omega
    · refine k p _ hp (fun b o e => ?_) ⟨_, _, 0, upd_same, Int.emod_nonneg _ (by decide), ?_, Int.le_refl _, Int.le_refl _⟩
      · rw [upd_ne (ne_of_none e hp)]
        exact e
      · have := Int.emod_lt_of_pos c (show (0 : Int) < 2147483629 by decide)
        omega
theorem ml (x : Int) : -(2 ^ 64) < x % 2147483647 ∧ x % 2147483647 < 2 ^ 64 := by omega
theorem scD : FnScope ["_law_well_here", "_law_base", "_law_digit", "_law_number"] ["_law_well_here", "_law_base"] (defScope sDraw) := ⟨rfl, rfl, rfl, by decide +kernel, rfl, by decide +kernel, by decide +kernel⟩
theorem ok_draw {f : Addr} {fd : FuncData} (F : Fun K "_law_draw" "_law_draw" sDraw f fd) (T : Bl mg) : FnOk P w K mg base CX0 1 f fd ["_law_well_here", "_law_base"] spDraw := by
  refine F.ok scD (fun vs H Q E h => ?_) (fun cdv A outer s H vs Q E hr h => ?_)
  · obtain ⟨p, m, n, rfl, _⟩ := h
    rfl
  · obtain ⟨p, m, n, rfl, ⟨a, b, c, hp, hb0, hb1, hc0, hcn⟩, hn, hm0, hm1, k⟩ := h
    have hu := hu_of hr
    refine ⟨_, pss_cons (ps_if (pt_cmpR op_gt (pe_ix ix_list (pv 0) pe_int (fun _ _ => rfl)) pe_int (nomark _))
        (pss_cons (ps_set (i := 2) scD.nd rfl (Or.inl rfl) (pe_op op_mod (pe_callTy call_int1 (by rfl) T.int (by decide +kernel) (pa_cons (pe_ix ix_list (pv 0) pe_int (fun _ _ => rfl)) pa_nil)) (pv 1)))
        (pss_cons (ps_asg (pe_op op_fdivW (pe_ix ix_list (pv 0) pe_int (fun _ _ => rfl)) (pv 1)) (pg_sub (pv 0) pe_int set_list))
        (pss_one (ps_ret (pv 2))))) pss_nil)
      (pss_cons (ps_asg (pe_op op_add (pe_ix ix_list (pv 0) pe_int (fun _ _ => rfl)) pe_int) (pg_sub (pv 0) pe_int set_list))
      (pss_cons (ps_set (i := 3) scD.nd rfl (Or.inl rfl) (pe_op op_mod (pe_callTy call_int1 (by rfl) T.int (by decide +kernel) (pa_cons (pe_op op_mul (pe_callTy call_int1 (by rfl) T.int (by decide +kernel) (pa_cons
          (pe_op op_add (pe_op op_add (pe_ix ix_list (pv 0) pe_int (fun _ _ => rfl)) (pe_op op_mul pe_int (pe_ix ix_list (pv 0) pe_int (fun _ _ => rfl)))) pe_int) pa_nil)) pe_int) pa_nil)) pe_int))
      (pss_cons (ps_set (i := 3) scD.nd rfl (Or.inl rfl) (pe_op op_mod (pe_callTy call_int1 (by rfl) T.int (by decide +kernel) (pa_cons (pe_op op_mul (pv 3) (pe_op op_add (pe_op op_fdiv (pv 3) pe_int) pe_int)) pa_nil)) pe_int))
      (pss_one (ps_ret (pe_op op_mod (pe_callTy call_int1 (by rfl) T.int (by decide +kernel) (pa_cons (pe_op op_mod (pe_callTy call_int1 (by rfl) T.int (by decide +kernel) (pa_cons (pe_op op_mul (pv 3) (pe_op op_add (pe_op op_fdiv (pv 3) pe_int) pe_int)) pa_nil)) pe_int) pa_nil)) (pv 1))))))), ?_⟩
    have g0 : ∀ (x y z : V), atI [x, y, z] 0 = some x := fun _ _ _ => rfl
    have g1 : ∀ (x y z : V), atI [x, y, z] 1 = some y := fun _ _ _ => rfl
    have g2 : ∀ (x y z : V), atI [x, y, z] 2 = some z := fun _ _ _ => rfl
    have hc1 : c + 1 ≤ n + 1 := by omega
    refine ⟨_, rfl, p, _, _, _, rfl, rfl, SqL.of hp, g0 _ _ _, _, _, rfl, rfl, _, rfl, ?_⟩
    refine ite2 (fun _ => ?_) (fun _ => ?_)
    · refine ⟨_, rfl, p, _, _, _, rfl, rfl, SqL.of hp, g0 _ _ _, .inl ⟨_, rfl, _, rfl, _, _, rfl, rfl, hm0, ?_⟩⟩
      refine ⟨_, rfl, p, _, _, _, rfl, rfl, SqL.of hp, g0 _ _ _, _, rfl, _, _, rfl, rfl, wide_div (b := 20) hm0 (by omega) (by decide) (by decide), _, rfl, p, _, _, 0, rfl, rfl, hp, rfl, _, rfl, ?_⟩
      exact k _ _ (Int.emod_nonneg _ (by omega)) (Int.emod_lt_of_pos _ hm0) ⟨_, b, c, upd_same, hb0, hb1, hc0, by omega⟩
    · refine ⟨_, rfl, p, _, _, _, rfl, rfl, SqL.of hp, g2 _ _ _, _, _, rfl, rfl, _, rfl, p, _, _, 2, rfl, rfl, hp, rfl, ?_⟩
      have e2 : (upd H p (.lst [.int a, .int b, .int (c + 1)])) p = some (.lst [.int a, .int b, .int (c + 1)]) := upd_same
      refine ⟨_, rfl, p, _, _, _, rfl, rfl, SqL.of e2, g1 _ _ _, _, rfl, p, _, _, _, rfl, rfl, SqL.of e2, g2 _ _ _, _, _, rfl, rfl, .inl ⟨by decide, by decide⟩, _, _, rfl, rfl, _, _, rfl, rfl,
        .inl ⟨_, rfl, _, _, rfl, rfl, .inr ⟨by decide, by decide⟩, .inl ⟨_, rfl, _, _, rfl, rfl, (by show (0 : Int) < 2147483647; decide), ?_⟩⟩⟩
      refine ⟨_, rfl, _, rfl, _, _, rfl, rfl, ⟨by decide, by decide⟩, _, _, rfl, rfl, _, _, rfl, rfl, .inl (ml _), .inl ⟨_, rfl, _, _, rfl, rfl, (by show (0 : Int) < 2147483647; decide), ?_⟩⟩
      refine ⟨_, rfl, _, rfl, _, _, rfl, rfl, ⟨by decide, by decide⟩, _, _, rfl, rfl, _, _, rfl, rfl, .inl (ml _), .inl ⟨_, rfl, _, _, rfl, rfl, (by show (0 : Int) < 2147483399; decide), .inl ⟨_, rfl, _, rfl, _, _, rfl, rfl, hm0, ?_⟩⟩⟩
      exact k _ _ (Int.emod_nonneg _ (by omega)) (Int.emod_lt_of_pos _ hm0) ⟨a, b, c + 1, upd_same, hb0, hb1, by omega, by omega⟩
theorem scO : FnScope ["_law_well_here", "_law_some"] ["_law_well_here", "_law_some"] (defScope sOne) := ⟨rfl, rfl, rfl, by decide +kernel, rfl, by decide +kernel, by decide +kernel⟩
theorem ok_one {f g : Addr} {fd fdD : FuncData} (F : Fun K "_law_one" "_law_one" sOne f fd) (T : Bl mg) (FD : Fun K "_law_draw" "_law_draw" sDraw g fdD) (bD : Binds K fdD ["_law_well_here", "_law_base"] []) (mD : mg "_law_draw" = some (.ref g)) : FnOk P w K mg base CX0 2 f fd ["_law_well_here", "_law_some"] (spOne K) := by
  have GD : FnOk P w K mg base CX0 1 g fdD ["_law_well_here", "_law_base"] spDraw := ok_draw FD T
  refine F.ok scO (fun vs H Q E h => ?_) (fun cdv A outer s H vs Q E hr h => ?_)
  · obtain ⟨p, q, n, ys, rfl, _⟩ := h
    rfl
  · obtain ⟨p, q, n, ys, rfl, hW, hn, hne, hq, h0, h1, k⟩ := h
    refine ⟨_, pss_one (ps_ret (pe_ix ix_list (pv 1) (pe_call GD hr rfl mD FD.kp bD .nil pass0 (pa_cons (pv 0) (pa_cons (pe_callB call_len_seq (by rfl) T.len PySem.boot_len (pa_cons (pv 1) pa_nil)) pa_nil))) (fun _ _ => rfl))), ?_⟩
    refine ⟨_, rfl, _, rfl, _, rfl, q, ys, rfl, .inl hq, p, _, n, rfl, hW, hn, by omega, by omega, fun r xs r0 r1 hW' => ?_⟩
    have hr2 : r.toNat < ys.length := by omega
    have e1 : ys[r.toNat]? = some ys[r.toNat] := by simp [hr2]
    refine ⟨q, ys, r, _, rfl, rfl, ?_, at_of (j := r.toNat) (by omega) e1, k r.toNat _ xs e1 hW'⟩
    rcases hq with (z | ⟨o, z⟩) | z
    · exact .inl (.inl (by rw [upd_ne (fun e => hne e.symm)]; exact z))
    · exact .inl (.inr ⟨o, by rw [upd_ne (fun e => hne e.symm)]; exact z⟩)
    · exact .inr z
end
end Kx
set_option linter.all false
namespace Kx
open PySem L2 PySem.Spec PyProof.Rows
/-! draws among things that are told by OD -/
def KeepB (p : Addr) (H H' : Hp) : Prop := ∀ b u, b ≠ p → H b = some u → H' b = some u
theorem KeepB.trans {p : Addr} {H1 H2 H3 : Hp} (a : KeepB p H1 H2) (b : KeepB p H2 H3) : KeepB p H1 H3 := fun x u n z => b x u n (a x u n z)
theorem KeepB.of {p : Addr} {H1 H2 : Hp} (a : Same H1 H2) : KeepB p H1 H2 := fun x u _ z => a x u z
theorem KeepB.at {p : Addr} {H : Hp} {o : HO} : KeepB p H (upd H p o) := fun x u n z => by rw [upd_ne n]; exact z
theorem WellAt.mono {H : Hp} {p : Addr} {n m : Int} (h : WellAt H p n) (l : n ≤ m) : WellAt H p m := let ⟨a, b, c, e, h0, h1, h2, h3⟩ := h; ⟨a, b, c, e, h0, h1, h2, by omega⟩
theorem WellAt.same {H H' : Hp} {p : Addr} {n : Int} (h : WellAt H p n) (s : Same H H') : WellAt H' p n := let ⟨a, b, c, e, r⟩ := h; ⟨a, b, c, s _ _ e, r⟩
theorem WellAt.lst {H : Hp} {p : Addr} {n : Int} (h : WellAt H p n) : ∃ ms, H p = some (.lst ms) := let ⟨_, _, _, e, _⟩ := h; ⟨_, e⟩
theorem WellAt.ne {H : Hp} {p q : Addr} {n : Int} (h : WellAt H p n) (e : H q = none) : q ≠ p := fun z => by
  obtain ⟨_, g⟩ := h.lst
  rw [z, g] at e
  cases e
theorem le_sz {n : Nat} (h : n ≤ 100) : n ≤ sizeLine := by rw [sizeLine_eq]; omega
structure Drw (K : PySem.W.Frag) (mg : PySem.Str → Option Value) : Prop where
  T : Bl mg
  well : ∃ f fd, Fs K mg "_law_well" sWell ["_law_cell"] f fd
  draw : ∃ f fd, Fs K mg "_law_draw" sDraw ["_law_well_here", "_law_base"] f fd
  one : ∃ f fd, Fs K mg "_law_one" sOne ["_law_well_here", "_law_some"] f fd
mutual
/-- no list within -/
def noL : OD → Prop
  | .fl _ => True
  | .tup xs => noLs xs
  | .lst _ => False
  | .obj _ xs => noLs xs
def noLs : List OD → Prop
  | [] => True
  | x :: xs => noL x ∧ noLs xs
end
theorem noL_lst : ∀ {d : OD}, noL d → noLst d
  | .fl _, _ => trivial
  | .tup _, _ => trivial
  | .obj _ _, _ => trivial
  | .lst _, h => h
theorem SqT.keepB {K : PySem.W.Frag} {H H' : Hp} {p a : Addr} {ms xs : List V} (hp : H p = some (.lst ms)) (k : KeepB p H H') (h : SqT K H a xs) : SqT K H' a xs := by
  rcases h with (h | ⟨o, h⟩) | h
  · exact .inl (.inl (k _ _ (fun z => by rw [z, hp] at h; cases h) h))
  · exact .inl (.inr ⟨o, k _ _ (fun z => by rw [z, hp] at h; cases h) h⟩)
  · exact .inr h
section
variable {K : PySem.W.Frag} {cl : Nat → OCls} {S : Nat → List OD → Prop}
mutual
theorem Oh.keepB {H H' : Hp} {p : Addr} {ms : List V} (hp : H p = some (.lst ms)) (k : KeepB p H H') : ∀ (d : OD) (v : V), noL d → Oh K cl H d v → Oh K cl H' d v
  | .fl _, _, _, h => h
  | .tup ds, _, n, ⟨a, xs, e, h, q⟩ => ⟨a, xs, e, SqT.keepB hp k h, OhAll.keepB hp k ds xs n q⟩
  | .lst ds, _, n, _ => n.elim
  | .obj _ ds, _, n, ⟨a, dx, fs, xs, e, h, l, q⟩ => ⟨a, dx, fs, xs, e, k _ _ (fun z => by rw [z, hp] at h; cases h) h, l, OhAll.keepB hp k ds xs n q⟩
theorem OhAll.keepB {H H' : Hp} {p : Addr} {ms : List V} (hp : H p = some (.lst ms)) (k : KeepB p H H') : ∀ (ds : List OD) (xs : List V), noLs ds → OhAll K cl H ds xs → OhAll K cl H' ds xs
  | [], _, _, h => h
  | d :: ds, _, n, ⟨v, ys, e, h, q⟩ => ⟨v, ys, e, Oh.keepB hp k d v n.1 h, OhAll.keepB hp k ds ys n.2 q⟩
end
theorem ext_of {H H' : Hp} (s : Same H H') : Ext H H' := fun a o h => s a o h
theorem Oh.same {H H' : Hp} (s : Same H H') {d : OD} {v : V} (h : Oh K cl H d v) : Oh K cl H' d v := Oh.ext (ext_of s) d v h
theorem OhAll.same {H H' : Hp} (s : Same H H') {d : List OD} {v : List V} (h : OhAll K cl H d v) : OhAll K cl H' d v := OhAll.ext (ext_of s) d v h
theorem noLs_get : ∀ {ds : List OD}, noLs ds → ∀ {i : Nat} {d : OD}, ds[i]? = some d → noL d
  | [], _, i, d, h => by simp at h
  | x :: xs, n, 0, d, h => by simp at h; subst h; exact n.1
  | x :: xs, n, i + 1, d, h => noLs_get n.2 (i := i) (by simpa using h)
theorem one_od {H : Hp} {p q : Addr} {n : Int} {ys : List V} {ds : List OD} {Q : VK} {E : XK}
    (W : WellAt H p n) (hn : n ≤ 1000000) (hq : H q = none) (ha : OhAll K cl H ds ys) (nl : noLs ds) (h0 : 0 < ys.length) (h1 : ys.length < 1000000) (k : ∀ d v H', d ∈ ds → noL d → Oh K cl H' d v → KeepB p H H' → WellAt H' p (n + 1) → Q v H') : spOne K [.ref p, .ref q] (upd H q (.lst ys)) Q E := by
  refine ⟨p, q, n, ys, rfl, W.same (new_same hq), hn, (W.ne hq).symm, SqL.of upd_same, h0, h1, fun r v xs hv W2 => ?_⟩
  have k2 : KeepB p H (upd (upd H q (.lst ys)) p (.lst xs)) := (KeepB.of (new_same hq)).trans KeepB.at
  obtain ⟨d, hd, od⟩ := ohAll_get ds ys r v ha hv
  obtain ⟨ms, hp⟩ := W.lst
  exact k d v _ (List.mem_of_getElem? hd) (noLs_get nl hd) (Oh.keepB hp k2 d v (noLs_get nl hd) od) k2 W2
theorem oh_str {H : Hp} (z : Str) : Oh K cl H (.fl (.str z)) (.str z) := ⟨rfl, rfl⟩
theorem oh_int {H : Hp} (z : Int) : Oh K cl H (.fl (.int z)) (.int z) := ⟨rfl, rfl⟩
theorem oh_non {H : Hp} : Oh K cl H (.fl .non) .non := ⟨rfl, rfl⟩
theorem oh_tup {H : Hp} {a : Addr} {xs : List V} {ds : List OD} (h : SqT K H a xs) (q : OhAll K cl H ds xs) : Oh K cl H (.tup ds) (.ref a) := ⟨a, xs, rfl, h, q⟩
theorem oh_nil {H : Hp} : OhAll K cl H [] [] := rfl
theorem oh_cons {H : Hp} {d : OD} {v : V} {ds : List OD} {vs : List V} (h : Oh K cl H d v) (q : OhAll K cl H ds vs) : OhAll K cl H (d :: ds) (v :: vs) := ⟨v, vs, rfl, h, q⟩
end
/-! what the own == of a class promises -/
def spOwn (K : PySem.W.Frag) (cl : Nat → OCls) (S : Nat → List OD → Prop) (k : Nat) : Sp := fun vs H Q _ => ∃ (a : Addr) (ds : List OD) (e : OD) (y : V), vs = [.ref a, y] ∧ Oh K cl H (.obj k ds) (.ref a) ∧ Oh K cl H e y ∧ S k ds ∧ okAll S ds ∧ okO S e ∧ ∀ H', Ext H H' → Q (.bl (eqo (.obj k ds) e)) H'
theorem own_run {X : Cx} {cl : Nat → OCls} {S : Nat → List OD → Prop} {CX : CXT} {E : XK} {fd : FuncData} {ps : List Str} {k : Nat} (F : FnOk X.prog X.w X.K X.mg X.base CX (cl k).lv (cl k).f fd ps (spOwn X.K cl S k)) (hb : L2.Binds X.K fd ps []) (hx : Passes CX X E)
    {ds : List OD} (hk : S k ds) {A : Around} {pins : List (Addr × Obj)} {s : Shared} {σ : L2.St} {H : Hp} {a : Addr} {e : OD} {y : V} {v : Value} (sb : Sub X (cl k).lv A) (I : L2.Inv X pins σ H s) (ry : RelV y v) (h : Oh X.K cl H (.obj k ds) (.ref a)) (he : Oh X.K cl H e y) (oD : okAll S ds) (oE : okO S e) :
    wpAny (model X.prog X.w) A (call (.ref (cl k).f) [.ref a, v]) (fun r s' => r = .bool (eqo (.obj k ds) e) ∧ ∃ H', L2.Inv X pins σ H' s' ∧ Ext H H') X.xe s := by
  have hsp : spOwn X.K cl S k [.ref a, y] H (fun v H' => v = .bl (eqo (.obj k ds) e) ∧ Ext H H') E := ⟨a, ds, e, y, rfl, h, he, hk, oD, oE, fun H' e => ⟨rfl, e⟩⟩
  have e0 : Env0 X.prog X.w X.K X.mg X.base A X.stack s H := by
    have e := I.env0
    exact ⟨by rw [sb.fr]; exact e.frames, e.mod, e.bs, e.bsz, e.funs, e.frf, e.hok, e.bare⟩
  have hl := F.len _ _ _ _ hsp
  have r2 : Vals [V.ref a, y] [Value.ref a, v] := .cons rfl (.cons ry .nil)
  refine wpAny_call (codeAny_mono (F.run A X.stack s H ⟨[.ref a, v], []⟩ [.ref a, v] [.ref a, y] _ E sb.room e0 (by
    have := hb s [.ref a, v] I.kIn (by simpa using hl)
    simpa using this) r2 hsp) fun r s' hq => ?_)
  cases r with
  | error e => exact hx pins σ H s e s' I hq
  | ok fl =>
    cases fl with
    | ret w =>
      obtain ⟨z, H', I', rz, ez, ex⟩ := I.after hq
      subst ez
      cases rz
      exact ⟨rfl, H', I', ex⟩
    | next => exact False.elim hq
    | brk => exact False.elim hq
    | cont => exact False.elim hq
/-! isinstance of what OD tells -/
structure Kits (K : PySem.W.Frag) (cl : Nat → OCls) (n : Nat) : Prop where
  kc : ∀ k, k < n → ∃ cd, PySem.W.clsIn K (cl k).C = some cd
  kt : ∀ k, k < n → PySem.W.typeIn K (.ref (cl k).C) = some (.type "type")
  ty : ∀ k, k < n → ∀ (H : Hp) (a dx : Addr) (fs : List (Str × V)), H a = some (.ins (cl k).C dx fs) → TyX K H (.ref a) (.ref (cl k).C)
theorem kit_no {K : PySem.W.Frag} {C : Addr} {t : Value} {cd : ClassData} (kc : PySem.W.clsIn K C = some cd) (kt : PySem.W.typeIn K (.ref C) = some (.type "type")) (ks : PySem.W.subIn K t (.ref C) = some false) (hn : (t == .ref C) = false) : PySem.W.kitOne K t (.ref C) = some false := by
  unfold PySem.W.kitOne
  rw [if_neg (by rw [hn]; exact Bool.false_ne_true)]
  unfold PySem.W.kitCls
  dsimp only
  rw [kc, kt, ks]
  simp
theorem kit_yes {K : PySem.W.Frag} {C : Addr} {t : Value} {cd : ClassData} (kc : PySem.W.clsIn K C = some cd) (kt : PySem.W.typeIn K (.ref C) = some (.type "type")) (ks : PySem.W.subIn K t (.ref C) = some true) : PySem.W.kitOne K t (.ref C) = some true := by
  unfold PySem.W.kitOne
  split
  · rfl
  · unfold PySem.W.kitCls
    dsimp only
    rw [kc, kt, ks]
    simp
theorem kit_self {K : PySem.W.Frag} {C : Addr} : PySem.W.kitOne K (.ref C) (.ref C) = some true := by
  unfold PySem.W.kitOne
  rw [if_pos (beq_self_eq_true _)]
end Kx
set_option linter.all false
namespace Kx
open PySem L2 PySem.Spec PyProof.Rows
/-! the six classes: Slot and the checks -/
def nm : Nat → List Str
  | 0 => ["word", "owner", "method"]
  | 1 => ["site"]
  | 2 => ["site"]
  | 3 => ["site"]
  | 4 => ["heir", "slot"]
  | _ => ["heir", "slot", "above"]
abbrev clk (C f : Nat → Addr) (k : Nat) : OCls := ⟨C k, f k, nm k, if k = 0 then 1 else 3⟩
def S0 (k : Nat) (ds : List OD) : Prop := k = 0 ∧ ∃ a b c : Str, ds = [.fl (.str a), .fl (.str b), .fl (.str c)]
/-- what may be a part of a check -/
def Fit (cl : Nat → OCls) (d : OD) : Prop := okO S0 d ∧ noL d ∧ need cl d ≤ 2
def SS (cl : Nat → OCls) (k : Nat) (ds : List OD) : Prop := S0 k ds ∨ (1 ≤ k ∧ k ≤ 5 ∧ ds.length = (nm k).length ∧ ∀ d ∈ ds, Fit cl d)
theorem ss_lt {cl : Nat → OCls} {k : Nat} {ds : List OD} (h : SS cl k ds) : k < 6 := by
  rcases h with ⟨rfl, _⟩ | ⟨h1, h2, _⟩
  · decide
  · omega
theorem isi_no {K : PySem.W.Frag} {cl : Nat → OCls} {S : Nat → List OD → Prop} {k : Nat} {e : OD} {y : V} {H : Hp} (hS : ∀ l es, S l es → l < 6) (KT : Kits K cl 6) (W : OwnCls K cl S) (hk : Dm S k) (he : Oh K cl H e y) (oE : okO S e) (hne : ∀ es, e ≠ .obj k es) : ∃ t, TyX K H y t ∧ PySem.W.kitOne K t (.ref (cl k).C) = some false := by
  have k6 : k < 6 := let ⟨ds, h⟩ := hk; hS k ds h
  obtain ⟨cd, kc⟩ := KT.kc k k6
  have kt := KT.kt k k6
  have no : ∀ T, T ∈ ["NoneType", "bool", "int", "str", "tuple", "list"] → PySem.W.kitOne K (.type T) (.ref (cl k).C) = some false := fun T hT => kit_no kc kt (W.sT k hk T hT).1 (by simp)
  cases e with
  | fl v =>
    obtain ⟨rfl, h⟩ := he
    cases y with
    | non => exact ⟨_, .base .non, no _ (by decide)⟩
    | bl b => exact ⟨_, .base (.bl b), no _ (by decide)⟩
    | int b => exact ⟨_, .base (.int b), no _ (by decide)⟩
    | str b => exact ⟨_, .base (.str b), no _ (by decide)⟩
    | _ => cases h
  | tup ds =>
    obtain ⟨a, xs, rfl, h, _⟩ := he
    exact ⟨_, tyT h, no _ (by decide)⟩
  | lst ds =>
    obtain ⟨a, xs, rfl, h, _⟩ := he
    exact ⟨_, .base (.lst h), no _ (by decide)⟩
  | obj l es =>
    obtain ⟨a, dx, fs, xs, rfl, h, _, _⟩ := he
    have hl : k ≠ l := fun z => hne es (by rw [z])
    refine ⟨_, KT.ty l (hS l es oE.1) H a dx fs h, kit_no kc kt (W.sub k l hk ⟨_, oE.1⟩ hl) ?_⟩
    have : (cl l).C ≠ (cl k).C := fun z => hl (W.inj k l hk ⟨_, oE.1⟩ z.symm)
    simpa using this
theorem eqo_ne {k : Nat} {ds : List OD} {e : OD} (hne : ∀ es, e ≠ .obj k es) : eqo (.obj k ds) e = false := by
  cases e with
  | fl v => exact eqo_obj_fl
  | tup v => exact eqo_obj_tup
  | lst v => exact eqo_obj_lst
  | obj l es =>
    have hl : k ≠ l := fun z => hne es (by rw [z])
    show (k == l && eqoAll ds es) = false
    rw [beq_eq_false_iff_ne.mpr hl, Bool.false_and]
theorem oh1 {K : PySem.W.Frag} {cl : Nat → OCls} {H : Hp} {ds : List OD} {xs : List V} {a : Option V} (h : [a] = xs.map some) (q : OhAll K cl H ds xs) : ∃ d v, ds = [d] ∧ a = some v ∧ Oh K cl H d v := by
  match xs, h with
  | [v], h =>
    injection h with h1 _
    match ds, q with
    | [d], ⟨_, _, e, h, q⟩ => cases e; exact ⟨d, v, rfl, h1, h⟩
    | [], q => cases q
    | _ :: _ :: _, ⟨_, _, e, _, ⟨_, _, e', _⟩⟩ => cases e; cases e'
  | [], h => cases h
  | _ :: _ :: _, h => cases h
theorem oh2 {K : PySem.W.Frag} {cl : Nat → OCls} {H : Hp} {ds : List OD} {xs : List V} {a b : Option V} (h : [a, b] = xs.map some) (q : OhAll K cl H ds xs) : ∃ d c v u, ds = [d, c] ∧ a = some v ∧ b = some u ∧ Oh K cl H d v ∧ Oh K cl H c u := by
  match xs, h with
  | v :: xs, h =>
    injection h with h1 h2
    match ds, q with
    | d :: ds, ⟨_, _, e, h, q⟩ =>
      cases e
      obtain ⟨c, u, rfl, e, h'⟩ := oh1 h2 q
      exact ⟨d, c, v, u, rfl, h1, e, h, h'⟩
    | [], q => cases q
theorem oh3 {K : PySem.W.Frag} {cl : Nat → OCls} {H : Hp} {ds : List OD} {xs : List V} {a b c : Option V} (h : [a, b, c] = xs.map some) (q : OhAll K cl H ds xs) : ∃ d e g v u z, ds = [d, e, g] ∧ a = some v ∧ b = some u ∧ c = some z ∧ Oh K cl H d v ∧ Oh K cl H e u ∧ Oh K cl H g z := by
  match xs, h with
  | v :: xs, h =>
    injection h with h1 h2
    match ds, q with
    | d :: ds, ⟨_, _, e, h, q⟩ =>
      cases e
      obtain ⟨c, g, u, z, rfl, e1, e2, h', h''⟩ := oh2 h2 q
      exact ⟨d, c, g, v, u, z, rfl, h1, e1, e2, h, h', h''⟩
    | [], q => cases q
/-- what the text has of these classes -/
structure Txt (K : PySem.W.Frag) (mg : Str → Option Value) (C f : Nat → Addr) : Prop where
  W : OwnCls K (clk C f) (SS (clk C f))
  KT : Kits K (clk C f) 6
  cls : ∀ k, k < 6 → Cls K (C k)
  no : ∀ k, k < 6 → ∀ x ∈ nm k, NoAttr K (C k) x
  isi : mg "isinstance" = none
theorem w0 {K : PySem.W.Frag} {mg : Str → Option Value} {C f : Nat → Addr} (T : Txt K mg C f) : OwnCls K (clk C f) S0 := by
  have up : ∀ k, Dm S0 k → Dm (SS (clk C f)) k := fun k ⟨ds, h⟩ => ⟨ds, .inl h⟩
  exact ⟨fun k h => T.W.eqf k (up k h), fun k h => T.W.isf k (up k h), fun k l h h' => T.W.inj k l (up k h) (up l h'), fun k l h h' => T.W.sub k l (up k h) (up l h'), fun k h => T.W.sT k (up k h)⟩
section
variable {P : Program} {w : World} {K : PySem.W.Frag} {mg : Str → Option Value} {base : Heap} {C fe : Nat → Addr}
abbrev sEq0 : Stmt := inClass (top 17) 2
theorem scEq0 : FnScope ["self", "other"] ["self", "other"] (defScope sEq0) := ⟨rfl, rfl, rfl, by decide +kernel, rfl, by decide +kernel, by decide +kernel⟩
theorem dec_str {a b : Str} : decide (V.str a = V.str b) = eqV (.str a) (.str b) := by
  show _ = (a == b)
  rw [Bool.eq_iff_iff]
  simp
theorem ok_eq0 {S : Nat → List OD → Prop} {fd : FuncData} (F : Fun K "__eq__" "Slot.__eq__" sEq0 (fe 0) fd) (T : Txt K mg C fe) (hS : ∀ l es, S l es → l < 6) (W : OwnCls K (clk C fe) S) (h0 : ∀ ds, S 0 ds → S0 0 ds) (gC : mg "Slot" = some (.ref (C 0))) : FnOk P w K mg base CX0 (clk C fe 0).lv (clk C fe 0).f fd ["self", "other"] (spOwn K (clk C fe) S 0) := by
  refine F.ok scEq0 (fun vs H Q E h => ?_) (fun cdv A outer s H vs Q E hr h => ?_)
  · obtain ⟨a, ds, e, y, rfl, _⟩ := h
    rfl
  · obtain ⟨a, ds, e, y, rfl, ha, he, hk, oD, oE, q⟩ := h
    refine ⟨_, pss_one (ps_ret (pe_and (pe_callB call_isi (by rfl) T.isi boot_isinstance (pa_cons (pv 1) (pa_cons (pe_glob (v := .ref (C 0)) (by rfl) gC rfl) pa_nil)))
      (pe_and (pe_cmpR op_eq (pe_fld (pv 0) (by rfl)) (pe_fld (pv 1) (by rfl)) (nomark _))
      (pe_and (pe_cmpR op_eq (pe_fld (pv 0) (by rfl)) (pe_fld (pv 1) (by rfl)) (nomark _))
      (pe_one (pe_cmpR op_eq (pe_fld (pv 0) (by rfl)) (pe_fld (pv 1) (by rfl)) (nomark _))))))), ?_⟩
    by_cases hne : ∃ es, e = .obj 0 es
    case neg =>
      obtain ⟨t, ty, kit⟩ := isi_no hS T.KT W ⟨ds, hk⟩ he oE (fun es z => hne ⟨es, z⟩)
      rw [eqo_ne fun es z => hne ⟨es, z⟩] at q
      exact ⟨_, rfl, y, .ref (C 0), _, _, false, rfl, .own _, ty, kit, false, rfl, iteF (q H Ext.rfl')⟩
    case pos =>
    obtain ⟨es, rfl⟩ := hne
    obtain ⟨_, a1, a2, a3, rfl⟩ := h0 ds hk
    obtain ⟨_, b1, b2, b3, rfl⟩ := h0 es oE.1
    obtain ⟨a', dx, fs, xs, e1, hi, hn, hq⟩ := ha
    cases e1
    obtain ⟨b, dy, gs, ys, rfl, hi', hn', hq'⟩ := he
    obtain ⟨_, _, _, v1, v2, v3, e2, l1, l2, l3, o1, o2, o3⟩ := oh3 hn hq
    cases e2
    obtain ⟨rfl, _⟩ := o1
    obtain ⟨rfl, _⟩ := o2
    obtain ⟨rfl, _⟩ := o3
    obtain ⟨_, _, _, u1, u2, u3, e2, m1, m2, m3, r1, r2, r3⟩ := oh3 hn' hq'
    cases e2
    obtain ⟨rfl, _⟩ := r1
    obtain ⟨rfl, _⟩ := r2
    obtain ⟨rfl, _⟩ := r3
    have c0 := T.cls 0 (by decide)
    have n0 := T.no 0 (by decide)
    refine ⟨_, rfl, .ref b, .ref (C 0), _, _, true, rfl, .own _, T.KT.ty 0 (by decide) H b dy gs hi', kit_self, true, rfl, iteT ?_⟩
    refine ⟨_, rfl, a, C 0, dx, fs, _, rfl, hi, c0, n0 _ (by decide), l1, _, rfl, b, C 0, dy, gs, _, rfl, hi', c0, n0 _ (by decide), m1, rfl, _, rfl, ?_⟩
    have q' := q H Ext.rfl'
    have e : eqo (.obj 0 [.fl (.str a1), .fl (.str a2), .fl (.str a3)]) (.obj 0 [.fl (.str b1), .fl (.str b2), .fl (.str b3)]) = (eqV (.str a1) (.str b1) && (eqV (.str a2) (.str b2) && (eqV (.str a3) (.str b3) && true))) := rfl
    rw [e] at q'
    rw [dec_str]
    cases h1 : eqV (V.str a1) (V.str b1) with
    | false => rw [h1, Bool.false_and] at q'; exact iteF q'
    | true =>
    rw [h1, Bool.true_and] at q'
    refine iteT ⟨_, rfl, a, C 0, dx, fs, _, rfl, hi, c0, n0 _ (by decide), l2, _, rfl, b, C 0, dy, gs, _, rfl, hi', c0, n0 _ (by decide), m2, rfl, _, rfl, ?_⟩
    rw [dec_str]
    cases h2 : eqV (V.str a2) (V.str b2) with
    | false => rw [h2, Bool.false_and] at q'; exact iteF q'
    | true =>
    rw [h2, Bool.true_and, Bool.and_true] at q'
    refine iteT ⟨_, rfl, a, C 0, dx, fs, _, rfl, hi, c0, n0 _ (by decide), l3, _, rfl, b, C 0, dy, gs, _, rfl, hi', c0, n0 _ (by decide), m3, rfl, ?_⟩
    rw [dec_str]
    exact q'

abbrev sEq1 : Stmt := inClass (top 6) 1
theorem scEq1 : FnScope ["self", "other"] ["self", "other"] (defScope sEq1) := ⟨rfl, rfl, rfl, by decide +kernel, rfl, by decide +kernel, by decide +kernel⟩
theorem ok_eq1 {fd : FuncData} (F : Fun K "__eq__" "CallCheck.__eq__" sEq1 (fe 1) fd) (T : Txt K mg C fe) (G0 : ∀ X : Cx, X.prog = P → X.w = w → X.K = K → X.mg = mg → X.base = base → OwnGives X (clk C fe) S0) (gC : mg "CallCheck" = some (.ref (C 1))) : FnOk P w K mg base CX0 (clk C fe 1).lv (clk C fe 1).f fd ["self", "other"] (spOwn K (clk C fe) (SS (clk C fe)) 1) := by
  refine F.ok scEq1 (fun vs H Q E h => ?_) (fun cdv A outer s H vs Q E hr h => ?_)
  · obtain ⟨a, ds, e, y, rfl, _⟩ := h
    rfl
  · obtain ⟨a, ds, e, y, rfl, ha, he, hk, oD, oE, q⟩ := h
    refine ⟨_, pss_one (ps_ret (pe_and (pe_callB call_isi (by rfl) T.isi boot_isinstance (pa_cons (pv 1) (pa_cons (pe_glob (v := .ref (C 1)) (by rfl) gC rfl) pa_nil))) (pe_one (pe_cmpR (op_eqO (cl := clk C fe) (S := S0) (n := 2) (w0 T) (G0 _ rfl rfl rfl rfl rfl) hr) (pe_fld (pv 0) (by rfl)) (pe_fld (pv 1) (by rfl)) (nomark _))))), ?_⟩
    by_cases hne : ∃ es, e = .obj 1 es
    case neg =>
      obtain ⟨t, ty, kit⟩ := isi_no (fun _ _ => ss_lt) T.KT T.W ⟨ds, hk⟩ he oE (fun es z => hne ⟨es, z⟩)
      rw [eqo_ne fun es z => hne ⟨es, z⟩] at q
      exact ⟨_, rfl, y, .ref (C 1), _, _, false, rfl, .own _, ty, kit, false, rfl, iteF (q H Ext.rfl')⟩
    case pos =>
    obtain ⟨es, rfl⟩ := hne
    have hk1 : ∀ d ∈ ds, Fit (clk C fe) d := by
      rcases hk with ⟨z, _⟩ | ⟨_, _, _, z⟩
      · cases z
      · exact z
    have hk2 : ∀ d ∈ es, Fit (clk C fe) d := by
      rcases oE.1 with ⟨z, _⟩ | ⟨_, _, _, z⟩
      · cases z
      · exact z
    obtain ⟨a', dx, fs, xs, e1, hi, hn, hq⟩ := ha
    cases e1
    obtain ⟨b, dy, gs, ys, rfl, hi', hn', hq'⟩ := he
    obtain ⟨d0, v0, ez, l0, o0⟩ := oh1 hn hq
    subst ez
    obtain ⟨e0, u0, ez, m0, r0⟩ := oh1 hn' hq'
    subst ez
    have c0 := T.cls 1 (by decide)
    have n0 := T.no 1 (by decide)
    refine ⟨_, rfl, .ref b, .ref (C 1), _, _, true, rfl, .own _, T.KT.ty 1 (by decide) H b dy gs hi', kit_self, true, rfl, iteT ?_⟩
    have e : eqo (.obj 1 [d0]) (.obj 1 [e0]) = (eqo d0 e0 && true) := by rw [show eqo (.obj 1 [d0]) (.obj 1 [e0]) = (1 == 1 && (eqo d0 e0 && true)) from rfl]; simp
    rw [e] at q
    obtain ⟨p0, t0, z0⟩ := hk1 d0 (by simp)
    obtain ⟨p0', t0', z0'⟩ := hk2 e0 (by simp)
    rw [Bool.and_true] at q
    exact ⟨_, rfl, a, C 1, dx, fs, _, rfl, hi, c0, n0 _ (by decide), l0, _, rfl, b, C 1, dy, gs, _, rfl, hi', c0, n0 _ (by decide), m0, d0, e0, o0, r0, p0, p0', z0, z0', noL_lst t0, noL_lst t0', fun H0 y0 => q H0 y0⟩
abbrev sEq2 : Stmt := inClass (top 7) 1
theorem scEq2 : FnScope ["self", "other"] ["self", "other"] (defScope sEq2) := ⟨rfl, rfl, rfl, by decide +kernel, rfl, by decide +kernel, by decide +kernel⟩
theorem ok_eq2 {fd : FuncData} (F : Fun K "__eq__" "NewCheck.__eq__" sEq2 (fe 2) fd) (T : Txt K mg C fe) (G0 : ∀ X : Cx, X.prog = P → X.w = w → X.K = K → X.mg = mg → X.base = base → OwnGives X (clk C fe) S0) (gC : mg "NewCheck" = some (.ref (C 2))) : FnOk P w K mg base CX0 (clk C fe 2).lv (clk C fe 2).f fd ["self", "other"] (spOwn K (clk C fe) (SS (clk C fe)) 2) := by
  refine F.ok scEq2 (fun vs H Q E h => ?_) (fun cdv A outer s H vs Q E hr h => ?_)
  · obtain ⟨a, ds, e, y, rfl, _⟩ := h
    rfl
  · obtain ⟨a, ds, e, y, rfl, ha, he, hk, oD, oE, q⟩ := h
    refine ⟨_, pss_one (ps_ret (pe_and (pe_callB call_isi (by rfl) T.isi boot_isinstance (pa_cons (pv 1) (pa_cons (pe_glob (v := .ref (C 2)) (by rfl) gC rfl) pa_nil))) (pe_one (pe_cmpR (op_eqO (cl := clk C fe) (S := S0) (n := 2) (w0 T) (G0 _ rfl rfl rfl rfl rfl) hr) (pe_fld (pv 0) (by rfl)) (pe_fld (pv 1) (by rfl)) (nomark _))))), ?_⟩
    by_cases hne : ∃ es, e = .obj 2 es
    case neg =>
      obtain ⟨t, ty, kit⟩ := isi_no (fun _ _ => ss_lt) T.KT T.W ⟨ds, hk⟩ he oE (fun es z => hne ⟨es, z⟩)
      rw [eqo_ne fun es z => hne ⟨es, z⟩] at q
      exact ⟨_, rfl, y, .ref (C 2), _, _, false, rfl, .own _, ty, kit, false, rfl, iteF (q H Ext.rfl')⟩
    case pos =>
    obtain ⟨es, rfl⟩ := hne
    have hk1 : ∀ d ∈ ds, Fit (clk C fe) d := by
      rcases hk with ⟨z, _⟩ | ⟨_, _, _, z⟩
      · cases z
      · exact z
    have hk2 : ∀ d ∈ es, Fit (clk C fe) d := by
      rcases oE.1 with ⟨z, _⟩ | ⟨_, _, _, z⟩
      · cases z
      · exact z
    obtain ⟨a', dx, fs, xs, e1, hi, hn, hq⟩ := ha
    cases e1
    obtain ⟨b, dy, gs, ys, rfl, hi', hn', hq'⟩ := he
    obtain ⟨d0, v0, ez, l0, o0⟩ := oh1 hn hq
    subst ez
    obtain ⟨e0, u0, ez, m0, r0⟩ := oh1 hn' hq'
    subst ez
    have c0 := T.cls 2 (by decide)
    have n0 := T.no 2 (by decide)
    refine ⟨_, rfl, .ref b, .ref (C 2), _, _, true, rfl, .own _, T.KT.ty 2 (by decide) H b dy gs hi', kit_self, true, rfl, iteT ?_⟩
    have e : eqo (.obj 2 [d0]) (.obj 2 [e0]) = (eqo d0 e0 && true) := by rw [show eqo (.obj 2 [d0]) (.obj 2 [e0]) = (2 == 2 && (eqo d0 e0 && true)) from rfl]; simp
    rw [e] at q
    obtain ⟨p0, t0, z0⟩ := hk1 d0 (by simp)
    obtain ⟨p0', t0', z0'⟩ := hk2 e0 (by simp)
    rw [Bool.and_true] at q
    exact ⟨_, rfl, a, C 2, dx, fs, _, rfl, hi, c0, n0 _ (by decide), l0, _, rfl, b, C 2, dy, gs, _, rfl, hi', c0, n0 _ (by decide), m0, d0, e0, o0, r0, p0, p0', z0, z0', noL_lst t0, noL_lst t0', fun H0 y0 => q H0 y0⟩
abbrev sEq3 : Stmt := inClass (top 8) 1
theorem scEq3 : FnScope ["self", "other"] ["self", "other"] (defScope sEq3) := ⟨rfl, rfl, rfl, by decide +kernel, rfl, by decide +kernel, by decide +kernel⟩
theorem ok_eq3 {fd : FuncData} (F : Fun K "__eq__" "BodyCheck.__eq__" sEq3 (fe 3) fd) (T : Txt K mg C fe) (G0 : ∀ X : Cx, X.prog = P → X.w = w → X.K = K → X.mg = mg → X.base = base → OwnGives X (clk C fe) S0) (gC : mg "BodyCheck" = some (.ref (C 3))) : FnOk P w K mg base CX0 (clk C fe 3).lv (clk C fe 3).f fd ["self", "other"] (spOwn K (clk C fe) (SS (clk C fe)) 3) := by
  refine F.ok scEq3 (fun vs H Q E h => ?_) (fun cdv A outer s H vs Q E hr h => ?_)
  · obtain ⟨a, ds, e, y, rfl, _⟩ := h
    rfl
  · obtain ⟨a, ds, e, y, rfl, ha, he, hk, oD, oE, q⟩ := h
    refine ⟨_, pss_one (ps_ret (pe_and (pe_callB call_isi (by rfl) T.isi boot_isinstance (pa_cons (pv 1) (pa_cons (pe_glob (v := .ref (C 3)) (by rfl) gC rfl) pa_nil))) (pe_one (pe_cmpR (op_eqO (cl := clk C fe) (S := S0) (n := 2) (w0 T) (G0 _ rfl rfl rfl rfl rfl) hr) (pe_fld (pv 0) (by rfl)) (pe_fld (pv 1) (by rfl)) (nomark _))))), ?_⟩
    by_cases hne : ∃ es, e = .obj 3 es
    case neg =>
      obtain ⟨t, ty, kit⟩ := isi_no (fun _ _ => ss_lt) T.KT T.W ⟨ds, hk⟩ he oE (fun es z => hne ⟨es, z⟩)
      rw [eqo_ne fun es z => hne ⟨es, z⟩] at q
      exact ⟨_, rfl, y, .ref (C 3), _, _, false, rfl, .own _, ty, kit, false, rfl, iteF (q H Ext.rfl')⟩
    case pos =>
    obtain ⟨es, rfl⟩ := hne
    have hk1 : ∀ d ∈ ds, Fit (clk C fe) d := by
      rcases hk with ⟨z, _⟩ | ⟨_, _, _, z⟩
      · cases z
      · exact z
    have hk2 : ∀ d ∈ es, Fit (clk C fe) d := by
      rcases oE.1 with ⟨z, _⟩ | ⟨_, _, _, z⟩
      · cases z
      · exact z
    obtain ⟨a', dx, fs, xs, e1, hi, hn, hq⟩ := ha
    cases e1
    obtain ⟨b, dy, gs, ys, rfl, hi', hn', hq'⟩ := he
    obtain ⟨d0, v0, ez, l0, o0⟩ := oh1 hn hq
    subst ez
    obtain ⟨e0, u0, ez, m0, r0⟩ := oh1 hn' hq'
    subst ez
    have c0 := T.cls 3 (by decide)
    have n0 := T.no 3 (by decide)
    refine ⟨_, rfl, .ref b, .ref (C 3), _, _, true, rfl, .own _, T.KT.ty 3 (by decide) H b dy gs hi', kit_self, true, rfl, iteT ?_⟩
    have e : eqo (.obj 3 [d0]) (.obj 3 [e0]) = (eqo d0 e0 && true) := by rw [show eqo (.obj 3 [d0]) (.obj 3 [e0]) = (3 == 3 && (eqo d0 e0 && true)) from rfl]; simp
    rw [e] at q
    obtain ⟨p0, t0, z0⟩ := hk1 d0 (by simp)
    obtain ⟨p0', t0', z0'⟩ := hk2 e0 (by simp)
    rw [Bool.and_true] at q
    exact ⟨_, rfl, a, C 3, dx, fs, _, rfl, hi, c0, n0 _ (by decide), l0, _, rfl, b, C 3, dy, gs, _, rfl, hi', c0, n0 _ (by decide), m0, d0, e0, o0, r0, p0, p0', z0, z0', noL_lst t0, noL_lst t0', fun H0 y0 => q H0 y0⟩
abbrev sEq4 : Stmt := inClass (top 9) 1
theorem scEq4 : FnScope ["self", "other"] ["self", "other"] (defScope sEq4) := ⟨rfl, rfl, rfl, by decide +kernel, rfl, by decide +kernel, by decide +kernel⟩
theorem ok_eq4 {fd : FuncData} (F : Fun K "__eq__" "HeirEntry.__eq__" sEq4 (fe 4) fd) (T : Txt K mg C fe) (G0 : ∀ X : Cx, X.prog = P → X.w = w → X.K = K → X.mg = mg → X.base = base → OwnGives X (clk C fe) S0) (gC : mg "HeirEntry" = some (.ref (C 4))) : FnOk P w K mg base CX0 (clk C fe 4).lv (clk C fe 4).f fd ["self", "other"] (spOwn K (clk C fe) (SS (clk C fe)) 4) := by
  refine F.ok scEq4 (fun vs H Q E h => ?_) (fun cdv A outer s H vs Q E hr h => ?_)
  · obtain ⟨a, ds, e, y, rfl, _⟩ := h
    rfl
  · obtain ⟨a, ds, e, y, rfl, ha, he, hk, oD, oE, q⟩ := h
    refine ⟨_, pss_one (ps_ret (pe_and (pe_callB call_isi (by rfl) T.isi boot_isinstance (pa_cons (pv 1) (pa_cons (pe_glob (v := .ref (C 4)) (by rfl) gC rfl) pa_nil))) (pe_and (pe_cmpR (op_eqO (cl := clk C fe) (S := S0) (n := 2) (w0 T) (G0 _ rfl rfl rfl rfl rfl) hr) (pe_fld (pv 0) (by rfl)) (pe_fld (pv 1) (by rfl)) (nomark _)) (pe_one (pe_cmpR (op_eqO (cl := clk C fe) (S := S0) (n := 2) (w0 T) (G0 _ rfl rfl rfl rfl rfl) hr) (pe_fld (pv 0) (by rfl)) (pe_fld (pv 1) (by rfl)) (nomark _)))))), ?_⟩
    by_cases hne : ∃ es, e = .obj 4 es
    case neg =>
      obtain ⟨t, ty, kit⟩ := isi_no (fun _ _ => ss_lt) T.KT T.W ⟨ds, hk⟩ he oE (fun es z => hne ⟨es, z⟩)
      rw [eqo_ne fun es z => hne ⟨es, z⟩] at q
      exact ⟨_, rfl, y, .ref (C 4), _, _, false, rfl, .own _, ty, kit, false, rfl, iteF (q H Ext.rfl')⟩
    case pos =>
    obtain ⟨es, rfl⟩ := hne
    have hk1 : ∀ d ∈ ds, Fit (clk C fe) d := by
      rcases hk with ⟨z, _⟩ | ⟨_, _, _, z⟩
      · cases z
      · exact z
    have hk2 : ∀ d ∈ es, Fit (clk C fe) d := by
      rcases oE.1 with ⟨z, _⟩ | ⟨_, _, _, z⟩
      · cases z
      · exact z
    obtain ⟨a', dx, fs, xs, e1, hi, hn, hq⟩ := ha
    cases e1
    obtain ⟨b, dy, gs, ys, rfl, hi', hn', hq'⟩ := he
    obtain ⟨d0, d1, v0, v1, ez, l0, l1, o0, o1⟩ := oh2 hn hq
    subst ez
    obtain ⟨e0, e1, u0, u1, ez, m0, m1, r0, r1⟩ := oh2 hn' hq'
    subst ez
    have c0 := T.cls 4 (by decide)
    have n0 := T.no 4 (by decide)
    refine ⟨_, rfl, .ref b, .ref (C 4), _, _, true, rfl, .own _, T.KT.ty 4 (by decide) H b dy gs hi', kit_self, true, rfl, iteT ?_⟩
    have e : eqo (.obj 4 [d0, d1]) (.obj 4 [e0, e1]) = (eqo d0 e0 && (eqo d1 e1 && true)) := by rw [show eqo (.obj 4 [d0, d1]) (.obj 4 [e0, e1]) = (4 == 4 && (eqo d0 e0 && (eqo d1 e1 && true))) from rfl]; simp
    rw [e] at q
    obtain ⟨p0, t0, z0⟩ := hk1 d0 (by simp)
    obtain ⟨p0', t0', z0'⟩ := hk2 e0 (by simp)
    refine ⟨_, rfl, a, C 4, dx, fs, _, rfl, hi, c0, n0 _ (by decide), l0, _, rfl, b, C 4, dy, gs, _, rfl, hi', c0, n0 _ (by decide), m0, d0, e0, o0, r0, p0, p0', z0, z0', noL_lst t0, noL_lst t0', fun H0 y0 => ⟨_, rfl, ?_⟩⟩
    have x0 : Ext H H0 := y0
    cases hh0 : eqo d0 e0 with
    | false => rw [hh0, Bool.false_and] at q; exact iteF (q H0 x0)
    | true =>
    rw [hh0, Bool.true_and] at q
    refine iteT ?_
    obtain ⟨p1, t1, z1⟩ := hk1 d1 (by simp)
    obtain ⟨p1', t1', z1'⟩ := hk2 e1 (by simp)
    rw [Bool.and_true] at q
    exact ⟨_, rfl, a, C 4, dx, fs, _, rfl, (x0 _ _ hi), c0, n0 _ (by decide), l1, _, rfl, b, C 4, dy, gs, _, rfl, (x0 _ _ hi'), c0, n0 _ (by decide), m1, d1, e1, (Oh.ext (x0) _ _ o1), (Oh.ext (x0) _ _ r1), p1, p1', z1, z1', noL_lst t1, noL_lst t1', fun H1 y1 => q H1 (x0.trans y1)⟩
abbrev sEq5 : Stmt := inClass (top 10) 1
theorem scEq5 : FnScope ["self", "other"] ["self", "other"] (defScope sEq5) := ⟨rfl, rfl, rfl, by decide +kernel, rfl, by decide +kernel, by decide +kernel⟩
theorem ok_eq5 {fd : FuncData} (F : Fun K "__eq__" "HeirExit.__eq__" sEq5 (fe 5) fd) (T : Txt K mg C fe) (G0 : ∀ X : Cx, X.prog = P → X.w = w → X.K = K → X.mg = mg → X.base = base → OwnGives X (clk C fe) S0) (gC : mg "HeirExit" = some (.ref (C 5))) : FnOk P w K mg base CX0 (clk C fe 5).lv (clk C fe 5).f fd ["self", "other"] (spOwn K (clk C fe) (SS (clk C fe)) 5) := by
  refine F.ok scEq5 (fun vs H Q E h => ?_) (fun cdv A outer s H vs Q E hr h => ?_)
  · obtain ⟨a, ds, e, y, rfl, _⟩ := h
    rfl
  · obtain ⟨a, ds, e, y, rfl, ha, he, hk, oD, oE, q⟩ := h
    refine ⟨_, pss_one (ps_ret (pe_and (pe_callB call_isi (by rfl) T.isi boot_isinstance (pa_cons (pv 1) (pa_cons (pe_glob (v := .ref (C 5)) (by rfl) gC rfl) pa_nil))) (pe_and (pe_cmpR (op_eqO (cl := clk C fe) (S := S0) (n := 2) (w0 T) (G0 _ rfl rfl rfl rfl rfl) hr) (pe_fld (pv 0) (by rfl)) (pe_fld (pv 1) (by rfl)) (nomark _)) (pe_and (pe_cmpR (op_eqO (cl := clk C fe) (S := S0) (n := 2) (w0 T) (G0 _ rfl rfl rfl rfl rfl) hr) (pe_fld (pv 0) (by rfl)) (pe_fld (pv 1) (by rfl)) (nomark _)) (pe_one (pe_cmpR (op_eqO (cl := clk C fe) (S := S0) (n := 2) (w0 T) (G0 _ rfl rfl rfl rfl rfl) hr) (pe_fld (pv 0) (by rfl)) (pe_fld (pv 1) (by rfl)) (nomark _))))))), ?_⟩
    by_cases hne : ∃ es, e = .obj 5 es
    case neg =>
      obtain ⟨t, ty, kit⟩ := isi_no (fun _ _ => ss_lt) T.KT T.W ⟨ds, hk⟩ he oE (fun es z => hne ⟨es, z⟩)
      rw [eqo_ne fun es z => hne ⟨es, z⟩] at q
      exact ⟨_, rfl, y, .ref (C 5), _, _, false, rfl, .own _, ty, kit, false, rfl, iteF (q H Ext.rfl')⟩
    case pos =>
    obtain ⟨es, rfl⟩ := hne
    have hk1 : ∀ d ∈ ds, Fit (clk C fe) d := by
      rcases hk with ⟨z, _⟩ | ⟨_, _, _, z⟩
      · cases z
      · exact z
    have hk2 : ∀ d ∈ es, Fit (clk C fe) d := by
      rcases oE.1 with ⟨z, _⟩ | ⟨_, _, _, z⟩
      · cases z
      · exact z
    obtain ⟨a', dx, fs, xs, e1, hi, hn, hq⟩ := ha
    cases e1
    obtain ⟨b, dy, gs, ys, rfl, hi', hn', hq'⟩ := he
    obtain ⟨d0, d1, d2, v0, v1, v2, ez, l0, l1, l2, o0, o1, o2⟩ := oh3 hn hq
    subst ez
    obtain ⟨e0, e1, e2, u0, u1, u2, ez, m0, m1, m2, r0, r1, r2⟩ := oh3 hn' hq'
    subst ez
    have c0 := T.cls 5 (by decide)
    have n0 := T.no 5 (by decide)
    refine ⟨_, rfl, .ref b, .ref (C 5), _, _, true, rfl, .own _, T.KT.ty 5 (by decide) H b dy gs hi', kit_self, true, rfl, iteT ?_⟩
    have e : eqo (.obj 5 [d0, d1, d2]) (.obj 5 [e0, e1, e2]) = (eqo d0 e0 && (eqo d1 e1 && (eqo d2 e2 && true))) := by rw [show eqo (.obj 5 [d0, d1, d2]) (.obj 5 [e0, e1, e2]) = (5 == 5 && (eqo d0 e0 && (eqo d1 e1 && (eqo d2 e2 && true)))) from rfl]; simp
    rw [e] at q
    obtain ⟨p0, t0, z0⟩ := hk1 d0 (by simp)
    obtain ⟨p0', t0', z0'⟩ := hk2 e0 (by simp)
    refine ⟨_, rfl, a, C 5, dx, fs, _, rfl, hi, c0, n0 _ (by decide), l0, _, rfl, b, C 5, dy, gs, _, rfl, hi', c0, n0 _ (by decide), m0, d0, e0, o0, r0, p0, p0', z0, z0', noL_lst t0, noL_lst t0', fun H0 y0 => ⟨_, rfl, ?_⟩⟩
    have x0 : Ext H H0 := y0
    cases hh0 : eqo d0 e0 with
    | false => rw [hh0, Bool.false_and] at q; exact iteF (q H0 x0)
    | true =>
    rw [hh0, Bool.true_and] at q
    refine iteT ?_
    obtain ⟨p1, t1, z1⟩ := hk1 d1 (by simp)
    obtain ⟨p1', t1', z1'⟩ := hk2 e1 (by simp)
    refine ⟨_, rfl, a, C 5, dx, fs, _, rfl, (x0 _ _ hi), c0, n0 _ (by decide), l1, _, rfl, b, C 5, dy, gs, _, rfl, (x0 _ _ hi'), c0, n0 _ (by decide), m1, d1, e1, (Oh.ext (x0) _ _ o1), (Oh.ext (x0) _ _ r1), p1, p1', z1, z1', noL_lst t1, noL_lst t1', fun H1 y1 => ⟨_, rfl, ?_⟩⟩
    have x1 : Ext H H1 := x0.trans y1
    cases hh1 : eqo d1 e1 with
    | false => rw [hh1, Bool.false_and] at q; exact iteF (q H1 x1)
    | true =>
    rw [hh1, Bool.true_and] at q
    refine iteT ?_
    obtain ⟨p2, t2, z2⟩ := hk1 d2 (by simp)
    obtain ⟨p2', t2', z2'⟩ := hk2 e2 (by simp)
    rw [Bool.and_true] at q
    exact ⟨_, rfl, a, C 5, dx, fs, _, rfl, (x1 _ _ hi), c0, n0 _ (by decide), l2, _, rfl, b, C 5, dy, gs, _, rfl, (x1 _ _ hi'), c0, n0 _ (by decide), m2, d2, e2, (Oh.ext (x1) _ _ o2), (Oh.ext (x1) _ _ r2), p2, p2', z2, z2', noL_lst t2, noL_lst t2', fun H2 y2 => q H2 (x1.trans y2)⟩
end
end Kx
set_option linter.all false
namespace Kx
open PySem L2 PySem.Spec PyProof.Rows
/-! a statement, an expression that is never reached -/
theorem ps_dead {X : Cx} {st : Stmt} : PS X st (fun _ _ _ => False) := ⟨fun _ _ _ _ _ _ h => h.elim⟩
theorem pe_dead {X : Cx} {e : Expr} : PE X e (fun _ _ _ => False) := ⟨fun _ _ _ _ _ _ h => h.elim⟩
section
variable {K : PySem.W.Frag} {cl : Nat → OCls}
theorem SqT.keepA {H H' : Hp} {p a C dx : Addr} {fs : List (Str × V)} {xs : List V} (hp : H p = some (.ins C dx fs)) (k : KeepB p H H') (h : SqT K H a xs) : SqT K H' a xs := by
  rcases h with (h | ⟨o, h⟩) | h
  · exact .inl (.inl (k _ _ (fun z => by rw [z, hp] at h; cases h) h))
  · exact .inl (.inr ⟨o, k _ _ (fun z => by rw [z, hp] at h; cases h) h⟩)
  · exact .inr h
mutual
theorem Oh.keepA {H H' : Hp} {p C dx : Addr} (hne : ∀ l, (cl l).names ≠ []) (hp : H p = some (.ins C dx [])) (k : KeepB p H H') : ∀ (d : OD) (v : V), Oh K cl H d v → Oh K cl H' d v
  | .fl _, _, h => h
  | .tup ds, _, ⟨a, xs, e, h, q⟩ => ⟨a, xs, e, SqT.keepA hp k h, OhAll.keepA hne hp k ds xs q⟩
  | .lst ds, _, ⟨a, xs, e, h, q⟩ => ⟨a, xs, e, k _ _ (fun z => by rw [z, hp] at h; cases h) h, OhAll.keepA hne hp k ds xs q⟩
  | .obj l ds, _, ⟨a, dx, fs, xs, e, h, m, q⟩ => by
    refine ⟨a, dx, fs, xs, e, k _ _ (fun z => ?_) h, m, OhAll.keepA hne hp k ds xs q⟩
    rw [z, hp] at h
    cases h
    cases hn : (cl l).names with
    | nil => exact hne l hn
    | cons x r =>
      rw [hn] at m
      cases xs with
      | nil => cases m
      | cons v vs =>
        rw [List.map_cons, List.map_cons] at m
        injection m with m1 _
        cases m1
theorem OhAll.keepA {H H' : Hp} {p C dx : Addr} (hne : ∀ l, (cl l).names ≠ []) (hp : H p = some (.ins C dx [])) (k : KeepB p H H') : ∀ (ds : List OD) (xs : List V), OhAll K cl H ds xs → OhAll K cl H' ds xs
  | [], _, h => h
  | d :: ds, _, ⟨v, ys, e, h, q⟩ => ⟨v, ys, e, Oh.keepA hne hp k d v h, OhAll.keepA hne hp k ds ys q⟩
end
end
theorem nm_ne {C f : Nat → Addr} (l : Nat) : (clk C f l).names ≠ [] := by
  show nm l ≠ []
  unfold nm
  split <;> simp
/-- an object without an attribute SIDE of its own -/
def NoS (cl : Nat → OCls) (H : Hp) (k : Nat) (a : Addr) : Prop := ∃ dx fs, H a = some (.ins (cl k).C dx fs) ∧ fs.lookup ("SIDE" : Str) = none
/-- what a making promises -/
def spIn (K : PySem.W.Frag) (cl : Nat → OCls) (k : Nat) (ok : List OD → Prop) : Sp := fun vs H Q _ => ∃ (a dx : Addr) (ds : List OD) (xs : List V), vs = .ref a :: xs ∧ H a = some (.ins (cl k).C dx []) ∧ OhAll K cl H ds xs ∧ ds.length = (nm k).length ∧ ok ds ∧ ∀ H', KeepB a H H' → Oh K cl H' (.obj k ds) (.ref a) → NoS cl H' k a → Q .non H'
theorem one_of {ds : List OD} {n : Nat} (h : ds.length = n) : ds.length = n := h
theorem ohl1 {K : PySem.W.Frag} {cl : Nat → OCls} {H : Hp} {ds : List OD} {xs : List V} (h : ds.length = 1) (q : OhAll K cl H ds xs) : ∃ d v, ds = [d] ∧ xs = [v] ∧ Oh K cl H d v := by
  match ds, h, q with
  | [d], _, ⟨v, _, e, h, q⟩ => cases q; exact ⟨d, v, rfl, e, h⟩
theorem ohl2 {K : PySem.W.Frag} {cl : Nat → OCls} {H : Hp} {ds : List OD} {xs : List V} (h : ds.length = 2) (q : OhAll K cl H ds xs) : ∃ d c v u, ds = [d, c] ∧ xs = [v, u] ∧ Oh K cl H d v ∧ Oh K cl H c u := by
  match ds, h, q with
  | [d, c], _, ⟨v, _, e, h, ⟨u, _, e', h', q⟩⟩ => cases q; cases e'; exact ⟨d, c, v, u, rfl, e, h, h'⟩
theorem ohl3 {K : PySem.W.Frag} {cl : Nat → OCls} {H : Hp} {ds : List OD} {xs : List V} (h : ds.length = 3) (q : OhAll K cl H ds xs) : ∃ d c b v u z, ds = [d, c, b] ∧ xs = [v, u, z] ∧ Oh K cl H d v ∧ Oh K cl H c u ∧ Oh K cl H b z := by
  match ds, h, q with
  | [d, c, b], _, ⟨v, _, e, h, ⟨u, _, e', h', ⟨z, _, e'', h'', q⟩⟩⟩ => cases q; cases e''; cases e'; exact ⟨d, c, b, v, u, z, rfl, e, h, h', h''⟩
section
variable {P : Program} {w : World} {K : PySem.W.Frag} {mg : Str → Option Value} {base : Heap} {C fe : Nat → Addr}
abbrev sIn0 : Stmt := inClass (top 17) 0
def okW (ds : List OD) : Prop := ∃ w o m : Str, ds = [.fl (.str w), .fl (.str o), .fl (.str m)] ∧ (w = "call" ∨ w = "next")
theorem scIn0 : FnScope ["self", "word", "owner", "method"] ["self", "word", "owner", "method"] (defScope sIn0) := ⟨rfl, rfl, rfl, by decide +kernel, rfl, by decide +kernel, by decide +kernel⟩
theorem ok_in0 {f : Addr} {fd : FuncData} (F : Fun K "__init__" "Slot.__init__" sIn0 f fd) (T : Txt K mg C fe) : FnOk P w K mg base CX0 1 f fd ["self", "word", "owner", "method"] (spIn K (clk C fe) 0 okW) := by
  refine F.ok scIn0 (fun vs H Q E h => ?_) (fun cdv A outer s H vs Q E hr h => ?_)
  · obtain ⟨a, dx, ds, xs, rfl, _, hx, hl, _⟩ := h
    obtain ⟨_, _, _, _, _, _, rfl, rfl, _⟩ := ohl3 hl hx
    rfl
  · obtain ⟨a, dx, ds, xs, rfl, ha, hx, hl, ⟨x, y, z, rfl, hw⟩, q⟩ := h
    obtain ⟨d1, d2, d3, v1, v2, v3, e1, rfl, o1, o2, o3⟩ := ohl3 hl hx
    cases e1
    obtain ⟨rfl, _⟩ := o1
    obtain ⟨rfl, _⟩ := o2
    obtain ⟨rfl, _⟩ := o3
    have c0 := T.cls 0 (by decide)
    have n0 := T.no 0 (by decide)
    refine ⟨_, pss_cons (ps_if (pt_cmpR op_notIn_seq (pv 1) (pe_tup (pa_cons pe_str (pa_cons pe_str pa_nil))) (by with_unfolding_all rfl)) (pss_one ps_dead) pss_nil)
      (pss_cons (ps_fld (pv 0) (pv 1) (by rfl)) (pss_cons (ps_fld (pv 0) (pv 2) (by rfl)) (pss_one (ps_fld (pv 0) (pv 3) (by rfl))))), ?_⟩
    refine ⟨_, rfl, by show 2 ≤ sizeLine; decide, fun t ht => ⟨t, _, rfl, .inr (SqT.of upd_same), rfl, rfl, _, rfl, ?_⟩⟩
    have e : (if true = true then !inV (.str x) [V.str "call", .str "next"] else inV (.str x) [V.str "call", .str "next"]) = false := by
      rcases hw with rfl | rfl <;> decide
    rw [e]
    have na : a ≠ t := fun z => by rw [← z, ha] at ht; cases ht
    refine iteF ⟨_, rfl, _, rfl, a, C 0, dx, [], rfl, by rw [upd_ne na]; exact ha, c0, n0 _ (by decide), by decide, ?_⟩
    refine ⟨_, rfl, _, rfl, a, C 0, dx, _, rfl, upd_same, c0, n0 _ (by decide), by show 1 < 1000; decide, ?_⟩
    refine ⟨_, rfl, _, rfl, a, C 0, dx, _, rfl, upd_same, c0, n0 _ (by decide), by show 2 < 1000; decide, ?_⟩
    refine q _ (fun b u nb e => ?_) ⟨a, dx, _, [.str x, .str y, .str z], rfl, upd_same, rfl, oh_cons (oh_str x) (oh_cons (oh_str y) (oh_cons (oh_str z) oh_nil))⟩ ⟨dx, _, upd_same, rfl⟩
    rw [upd_ne nb, upd_ne nb, upd_ne nb]
    exact new_same ht b u e
/-! the inits of the two classes above the checks -/
abbrev sInS : Stmt := inClass (top 2) 0
abbrev sInL : Stmt := inClass (top 3) 0
def spBs (C : Nat → Addr) (ns : List Str) (ok : Nat → Prop) : Sp := fun vs H Q _ => ∃ (k : Nat) (a dx : Addr) (xs : List V), vs = .ref a :: xs ∧ ok k ∧ xs.length = ns.length ∧ H a = some (.ins (C k) dx []) ∧ ∀ H' fs, KeepB a H H' → H' a = some (.ins (C k) dx fs) → fs.length = ns.length → ns.map (fun n => fs.lookup n) = xs.map some → fs.lookup ("SIDE" : Str) = none → Q .non H'
theorem scInS : FnScope ["self", "site"] ["self", "site"] (defScope sInS) := ⟨rfl, rfl, rfl, by decide +kernel, rfl, by decide +kernel, by decide +kernel⟩
theorem ok_inS {f : Addr} {fd : FuncData} (F : Fun K "__init__" "OnSite.__init__" sInS f fd) (T : Txt K mg C fe) : FnOk P w K mg base CX0 1 f fd ["self", "site"] (spBs C ["site"] fun k => 1 ≤ k ∧ k ≤ 3) := by
  refine F.ok scInS (fun vs H Q E h => ?_) (fun cdv A outer s H vs Q E hr h => ?_)
  · obtain ⟨k, a, dx, xs, rfl, _, hl, _⟩ := h
    show xs.length + 1 = 2
    rw [hl]; rfl
  · obtain ⟨k, a, dx, xs, rfl, hk, hl, ha, q⟩ := h
    obtain ⟨x, rfl⟩ : ∃ x, xs = [x] := match xs, hl with | [x], _ => ⟨x, rfl⟩
    have c0 := T.cls k (by omega)
    have n0 : NoAttr K (C k) "site" := T.no k (by omega) _ (by
      have : k = 1 ∨ k = 2 ∨ k = 3 := by omega
      rcases this with rfl | rfl | rfl <;> decide)
    refine ⟨_, pss_one (ps_fld (pv 0) (pv 1) (by rfl)), ?_⟩
    refine ⟨_, rfl, _, rfl, a, C k, dx, [], rfl, ha, c0, n0, by decide, ?_⟩
    exact q _ _ (fun b u nb e => by rw [upd_ne nb]; exact e) upd_same rfl rfl rfl
theorem scInL : FnScope ["self", "heir", "slot"] ["self", "heir", "slot"] (defScope sInL) := ⟨rfl, rfl, rfl, by decide +kernel, rfl, by decide +kernel, by decide +kernel⟩
theorem ok_inL {f : Addr} {fd : FuncData} (F : Fun K "__init__" "OnLine.__init__" sInL f fd) (T : Txt K mg C fe) : FnOk P w K mg base CX0 1 f fd ["self", "heir", "slot"] (spBs C ["heir", "slot"] fun k => 4 ≤ k ∧ k ≤ 5) := by
  refine F.ok scInL (fun vs H Q E h => ?_) (fun cdv A outer s H vs Q E hr h => ?_)
  · obtain ⟨k, a, dx, xs, rfl, _, hl, _⟩ := h
    show xs.length + 1 = 3
    rw [hl]; rfl
  · obtain ⟨k, a, dx, xs, rfl, hk, hl, ha, q⟩ := h
    obtain ⟨x, y, rfl⟩ : ∃ x y, xs = [x, y] := match xs, hl with | [x, y], _ => ⟨x, y, rfl⟩
    have c0 := T.cls k (by omega)
    have n0 : ∀ z ∈ (["heir", "slot"] : List Str), NoAttr K (C k) z := fun z hz => T.no k (by omega) _ (by
      have : k = 4 ∨ k = 5 := by omega
      rcases this with rfl | rfl
      · exact hz
      · show z ∈ (["heir", "slot"] : List Str) ++ (["above"] : List Str)
        exact List.mem_append_left _ hz)
    refine ⟨_, pss_cons (ps_fld (pv 0) (pv 1) (by rfl)) (pss_one (ps_fld (pv 0) (pv 2) (by rfl))), ?_⟩
    refine ⟨_, rfl, _, rfl, a, C k, dx, [], rfl, ha, c0, n0 _ (by decide), by decide, ?_⟩
    refine ⟨_, rfl, _, rfl, a, C k, dx, _, rfl, upd_same, c0, n0 _ (by decide), by show 1 < 1000; decide, ?_⟩
    exact q _ _ (fun b u nb e => by rw [upd_ne nb, upd_ne nb]; exact e) upd_same rfl rfl rfl

abbrev sIn1 : Stmt := inClass (top 6) 0
theorem scIn1 : FnScope ["self", "site"] ["self", "site"] (defScope sIn1) := ⟨rfl, rfl, rfl, by decide +kernel, rfl, by decide +kernel, by decide +kernel⟩
theorem ok_in1 {f B g : Addr} {mc : Value} {fd fdB : FuncData} (F : Fun K "__init__" "CallCheck.__init__" sIn1 f fd) (T : Txt K mg C fe) (gB : mg "OnSite" = some (.ref B)) (r : ClX.CRead K B mc) (c : CFn K B mc "__init__" g) (FB : Fun K "__init__" "OnSite.__init__" sInS g fdB) (bB : Binds K fdB ["self", "site"] []) : FnOk P w K mg base CX0 2 f fd ["self", "site"] (spIn K (clk C fe) 1 fun _ => True) := by
  have GB : FnOk P w K mg base CX0 1 g fdB ["self", "site"] (spBs C ["site"] fun k => 1 ≤ k ∧ k ≤ 3) := ok_inS FB T
  refine F.ok scIn1 (fun vs H Q E h => ?_) (fun cdv A outer s H vs Q E hr h => ?_)
  · obtain ⟨a, dx, ds, xs, rfl, _, hx, hl, _⟩ := h
    show xs.length + 1 = 2
    rw [← OhAll.length ds xs hx, hl]; rfl
  · obtain ⟨a, dx, ds, xs, rfl, ha, hx, hl, _, q⟩ := h
    obtain ⟨d0, v0, rfl, rfl, o0⟩ := ohl1 hl hx
    refine ⟨_, pss_one (ps_expr (pe_cfn (pe_glob (v := .ref B) (by rfl) gB rfl) r c GB hr bB pass0 (pa_cons (pv 0) (pa_cons (pv 1) pa_nil)))), ?_⟩
    refine ⟨rfl, _, rfl, _, rfl, 1, a, dx, [v0], rfl, by decide, rfl, ha, fun H1 fs kp h1 hn hm hs => ?_⟩
    exact q H1 kp ⟨a, dx, fs, [v0], rfl, h1, hm, (oh_cons (Oh.keepA nm_ne ha kp _ _ o0) oh_nil)⟩ ⟨dx, fs, h1, hs⟩
abbrev sIn2 : Stmt := inClass (top 7) 0
theorem scIn2 : FnScope ["self", "site"] ["self", "site"] (defScope sIn2) := ⟨rfl, rfl, rfl, by decide +kernel, rfl, by decide +kernel, by decide +kernel⟩
theorem ok_in2 {f B g : Addr} {mc : Value} {fd fdB : FuncData} (F : Fun K "__init__" "NewCheck.__init__" sIn2 f fd) (T : Txt K mg C fe) (gB : mg "OnSite" = some (.ref B)) (r : ClX.CRead K B mc) (c : CFn K B mc "__init__" g) (FB : Fun K "__init__" "OnSite.__init__" sInS g fdB) (bB : Binds K fdB ["self", "site"] []) : FnOk P w K mg base CX0 2 f fd ["self", "site"] (spIn K (clk C fe) 2 fun _ => True) := by
  have GB : FnOk P w K mg base CX0 1 g fdB ["self", "site"] (spBs C ["site"] fun k => 1 ≤ k ∧ k ≤ 3) := ok_inS FB T
  refine F.ok scIn2 (fun vs H Q E h => ?_) (fun cdv A outer s H vs Q E hr h => ?_)
  · obtain ⟨a, dx, ds, xs, rfl, _, hx, hl, _⟩ := h
    show xs.length + 1 = 2
    rw [← OhAll.length ds xs hx, hl]; rfl
  · obtain ⟨a, dx, ds, xs, rfl, ha, hx, hl, _, q⟩ := h
    obtain ⟨d0, v0, rfl, rfl, o0⟩ := ohl1 hl hx
    refine ⟨_, pss_one (ps_expr (pe_cfn (pe_glob (v := .ref B) (by rfl) gB rfl) r c GB hr bB pass0 (pa_cons (pv 0) (pa_cons (pv 1) pa_nil)))), ?_⟩
    refine ⟨rfl, _, rfl, _, rfl, 2, a, dx, [v0], rfl, by decide, rfl, ha, fun H1 fs kp h1 hn hm hs => ?_⟩
    exact q H1 kp ⟨a, dx, fs, [v0], rfl, h1, hm, (oh_cons (Oh.keepA nm_ne ha kp _ _ o0) oh_nil)⟩ ⟨dx, fs, h1, hs⟩
abbrev sIn3 : Stmt := inClass (top 8) 0
theorem scIn3 : FnScope ["self", "site"] ["self", "site"] (defScope sIn3) := ⟨rfl, rfl, rfl, by decide +kernel, rfl, by decide +kernel, by decide +kernel⟩
theorem ok_in3 {f B g : Addr} {mc : Value} {fd fdB : FuncData} (F : Fun K "__init__" "BodyCheck.__init__" sIn3 f fd) (T : Txt K mg C fe) (gB : mg "OnSite" = some (.ref B)) (r : ClX.CRead K B mc) (c : CFn K B mc "__init__" g) (FB : Fun K "__init__" "OnSite.__init__" sInS g fdB) (bB : Binds K fdB ["self", "site"] []) : FnOk P w K mg base CX0 2 f fd ["self", "site"] (spIn K (clk C fe) 3 fun _ => True) := by
  have GB : FnOk P w K mg base CX0 1 g fdB ["self", "site"] (spBs C ["site"] fun k => 1 ≤ k ∧ k ≤ 3) := ok_inS FB T
  refine F.ok scIn3 (fun vs H Q E h => ?_) (fun cdv A outer s H vs Q E hr h => ?_)
  · obtain ⟨a, dx, ds, xs, rfl, _, hx, hl, _⟩ := h
    show xs.length + 1 = 2
    rw [← OhAll.length ds xs hx, hl]; rfl
  · obtain ⟨a, dx, ds, xs, rfl, ha, hx, hl, _, q⟩ := h
    obtain ⟨d0, v0, rfl, rfl, o0⟩ := ohl1 hl hx
    refine ⟨_, pss_one (ps_expr (pe_cfn (pe_glob (v := .ref B) (by rfl) gB rfl) r c GB hr bB pass0 (pa_cons (pv 0) (pa_cons (pv 1) pa_nil)))), ?_⟩
    refine ⟨rfl, _, rfl, _, rfl, 3, a, dx, [v0], rfl, by decide, rfl, ha, fun H1 fs kp h1 hn hm hs => ?_⟩
    exact q H1 kp ⟨a, dx, fs, [v0], rfl, h1, hm, (oh_cons (Oh.keepA nm_ne ha kp _ _ o0) oh_nil)⟩ ⟨dx, fs, h1, hs⟩
abbrev sIn4 : Stmt := inClass (top 9) 0
theorem scIn4 : FnScope ["self", "heir", "slot"] ["self", "heir", "slot"] (defScope sIn4) := ⟨rfl, rfl, rfl, by decide +kernel, rfl, by decide +kernel, by decide +kernel⟩
theorem ok_in4 {f B g : Addr} {mc : Value} {fd fdB : FuncData} (F : Fun K "__init__" "HeirEntry.__init__" sIn4 f fd) (T : Txt K mg C fe) (gB : mg "OnLine" = some (.ref B)) (r : ClX.CRead K B mc) (c : CFn K B mc "__init__" g) (FB : Fun K "__init__" "OnLine.__init__" sInL g fdB) (bB : Binds K fdB ["self", "heir", "slot"] []) : FnOk P w K mg base CX0 2 f fd ["self", "heir", "slot"] (spIn K (clk C fe) 4 fun _ => True) := by
  have GB : FnOk P w K mg base CX0 1 g fdB ["self", "heir", "slot"] (spBs C ["heir", "slot"] fun k => 4 ≤ k ∧ k ≤ 5) := ok_inL FB T
  refine F.ok scIn4 (fun vs H Q E h => ?_) (fun cdv A outer s H vs Q E hr h => ?_)
  · obtain ⟨a, dx, ds, xs, rfl, _, hx, hl, _⟩ := h
    show xs.length + 1 = 3
    rw [← OhAll.length ds xs hx, hl]; rfl
  · obtain ⟨a, dx, ds, xs, rfl, ha, hx, hl, _, q⟩ := h
    obtain ⟨d0, d1, v0, v1, rfl, rfl, o0, o1⟩ := ohl2 hl hx
    refine ⟨_, pss_one (ps_expr (pe_cfn (pe_glob (v := .ref B) (by rfl) gB rfl) r c GB hr bB pass0 (pa_cons (pv 0) (pa_cons (pv 1) (pa_cons (pv 2) pa_nil))))), ?_⟩
    refine ⟨rfl, _, rfl, _, rfl, _, rfl, 4, a, dx, [v0, v1], rfl, by decide, rfl, ha, fun H1 fs kp h1 hn hm hs => ?_⟩
    exact q H1 kp ⟨a, dx, fs, [v0, v1], rfl, h1, hm, (oh_cons (Oh.keepA nm_ne ha kp _ _ o0) (oh_cons (Oh.keepA nm_ne ha kp _ _ o1) oh_nil))⟩ ⟨dx, fs, h1, hs⟩
abbrev sIn5 : Stmt := inClass (top 10) 0
theorem scIn5 : FnScope ["self", "heir", "slot", "above"] ["self", "heir", "slot", "above"] (defScope sIn5) := ⟨rfl, rfl, rfl, by decide +kernel, rfl, by decide +kernel, by decide +kernel⟩
theorem ok_in5 {f B g : Addr} {mc : Value} {fd fdB : FuncData} (F : Fun K "__init__" "HeirExit.__init__" sIn5 f fd) (T : Txt K mg C fe) (gB : mg "OnLine" = some (.ref B)) (r : ClX.CRead K B mc) (c : CFn K B mc "__init__" g) (FB : Fun K "__init__" "OnLine.__init__" sInL g fdB) (bB : Binds K fdB ["self", "heir", "slot"] []) : FnOk P w K mg base CX0 2 f fd ["self", "heir", "slot", "above"] (spIn K (clk C fe) 5 fun _ => True) := by
  have GB : FnOk P w K mg base CX0 1 g fdB ["self", "heir", "slot"] (spBs C ["heir", "slot"] fun k => 4 ≤ k ∧ k ≤ 5) := ok_inL FB T
  refine F.ok scIn5 (fun vs H Q E h => ?_) (fun cdv A outer s H vs Q E hr h => ?_)
  · obtain ⟨a, dx, ds, xs, rfl, _, hx, hl, _⟩ := h
    show xs.length + 1 = 4
    rw [← OhAll.length ds xs hx, hl]; rfl
  · obtain ⟨a, dx, ds, xs, rfl, ha, hx, hl, _, q⟩ := h
    obtain ⟨d0, d1, d2, v0, v1, v2, rfl, rfl, o0, o1, o2⟩ := ohl3 hl hx
    refine ⟨_, pss_cons (ps_expr (pe_cfn (pe_glob (v := .ref B) (by rfl) gB rfl) r c GB hr bB pass0 (pa_cons (pv 0) (pa_cons (pv 1) (pa_cons (pv 2) pa_nil))))) (pss_one (ps_fld (pv 0) (pv 3) (by rfl))), ?_⟩
    refine ⟨rfl, _, rfl, _, rfl, _, rfl, 5, a, dx, [v0, v1], rfl, by decide, rfl, ha, fun H1 fs kp h1 hn hm hs => ?_⟩
    refine ⟨_, rfl, _, rfl, a, C 5, dx, fs, rfl, h1, T.cls 5 (by decide), T.no 5 (by decide) _ (by decide), by rw [hn]; decide, ?_⟩
    have kk : KeepB a H (upd H1 a (.ins (C 5) dx (putF "above" v2 fs))) := kp.trans KeepB.at
    refine q _ kk ⟨a, dx, _, [v0, v1, v2], rfl, upd_same, ?_, (oh_cons (Oh.keepA nm_ne ha kk _ _ o0) (oh_cons (Oh.keepA nm_ne ha kk _ _ o1) (oh_cons (Oh.keepA nm_ne ha kk _ _ o2) oh_nil)))⟩ ⟨dx, _, upd_same, by rw [lookup_putF, if_neg (by decide)]; exact hs⟩
    injection hm with m1 hm
    injection hm with m2 _
    have m1 : fs.lookup ("heir" : Str) = some v0 := m1
    have m2 : fs.lookup ("slot" : Str) = some v1 := m2
    show ([(putF "above" v2 fs).lookup ("heir" : Str), (putF "above" v2 fs).lookup ("slot" : Str), (putF "above" v2 fs).lookup ("above" : Str)] : List (Option V)) = [some v0, some v1, some v2]
    rw [lookup_putF, lookup_putF, lookup_putF, if_neg (by decide), if_neg (by decide), if_pos rfl, m1, m2]
end
end Kx
set_option linter.all false
namespace Kx
open PySem L2 PySem.Spec PyProof.Rows
abbrev sParts : Stmt := top 25
abbrev nPt : List Str := ["_law_well_here", "_law_word", "_law_some", "_law_slot", "_law_found"]
def wd : Nat → Str
  | 1 => "call"
  | 2 => "new"
  | 3 => "body"
  | 4 => "entry"
  | _ => "exit"
/-- a word and the parts of the check that it names -/
structure Part (cl : Nat → OCls) (k : Nat) (ds : List OD) : Prop where
  k1 : 1 ≤ k
  k5 : k ≤ 5
  len : ds.length = (nm k).length
  fit : ∀ d ∈ ds, Fit cl d
abbrev odP (k : Nat) (ds : List OD) : OD := .tup [.fl (.str (wd k)), .tup ds]
def spParts (K : PySem.W.Frag) (cl : Nat → OCls) : Sp := fun vs H Q _ => ∃ (p : Addr) (n : Int), vs = [.ref p] ∧ WellAt H p n ∧ n + 10 ≤ 1000000 ∧ ∀ k ds t H', Part cl k ds → Oh K cl H' (odP k ds) (.ref t) → KeepB p H H' → WellAt H' p (n + 10) → Q (.ref t) H'
theorem noLs_of : ∀ {ds : List OD}, (∀ d ∈ ds, noL d) → noLs ds
  | [], _ => trivial
  | d :: ds, h => ⟨h d List.mem_cons_self, noLs_of fun e he => h e (List.mem_cons_of_mem _ he)⟩
section
variable {K : PySem.W.Frag} {cl : Nat → OCls} {H1 : Hp} {xs : List V} {ds : List OD} {Q : VK}
/-- a new tuple -/
theorem tup_new {p : Addr} (hp : H1 p = none) (hx : OhAll K cl H1 ds xs) : Oh K cl (upd H1 p (.tup xs)) (.tup ds) (.ref p) ∧ Same H1 (upd H1 p (.tup xs)) := ⟨oh_tup (SqT.of upd_same) (OhAll.ext (ext_of (new_same hp)) ds xs hx), new_same hp⟩
/-- a draw -/
theorem od_pick {p q : Addr} {n m : Int} {r : Nat} {v : V} {zs : List V} (W : WellAt H1 p n) (hq : H1 q = none) (ha : OhAll K cl H1 ds xs) (nl : noLs ds) (hv : xs[r]? = some v) (W2 : WellAt (upd (upd H1 q (.lst xs)) p (.lst zs)) p m) :
    ∃ H', upd (upd H1 q (.lst xs)) p (.lst zs) = H' ∧ KeepB p H1 H' ∧ WellAt H' p m ∧ ∃ d, d ∈ ds ∧ noL d ∧ Oh K cl H' d v := by
  have k2 : KeepB p H1 (upd (upd H1 q (.lst xs)) p (.lst zs)) := (KeepB.of (new_same hq)).trans KeepB.at
  obtain ⟨d, hd, od⟩ := ohAll_get ds xs r v ha hv
  obtain ⟨ms, hp⟩ := W.lst
  exact ⟨_, rfl, k2, W2, d, List.mem_of_getElem? hd, noLs_get nl hd, Oh.keepB hp k2 d v (noLs_get nl hd) od⟩
theorem oh_app {es : List OD} {ys : List V} : ∀ {ds : List OD} {xs : List V}, OhAll K cl H1 ds xs → OhAll K cl H1 es ys → OhAll K cl H1 (ds ++ es) (xs ++ ys)
  | [], _, h, g => by cases h; exact g
  | d :: ds, _, ⟨v, vs, e, h, q⟩, g => by cases e; exact ⟨v, vs ++ ys, rfl, h, oh_app q g⟩
theorem same_make {x dx C : Addr} {H H' : Hp} (nx : H x = none) (ndx : H dx = none) (k : KeepB x (upd (upd H dx (.own x)) x (.ins C dx [])) H') : Same H H' := fun b u e => by
  have hb : b ≠ x := fun z => by rw [z, nx] at e; cases e
  have hd : b ≠ dx := fun z => by rw [z, ndx] at e; cases e
  exact k b u hb (by rw [upd_ne hb, upd_ne hd]; exact e)
theorem Oh.sm {H H' : Hp} (s : Same H H') {d : OD} {v : V} (h : Oh K cl H d v) : Oh K cl H' d v := Oh.ext (ext_of s) d v h
theorem OhAll.sm {H H' : Hp} (s : Same H H') {d : List OD} {v : List V} (h : OhAll K cl H d v) : OhAll K cl H' d v := OhAll.ext (ext_of s) d v h
end
section
variable {P : Program} {w : World} {K : PySem.W.Frag} {mg : Str → Option Value} {base : Heap} {C fe : Nat → Addr}
theorem scPt : FnScope nPt ["_law_well_here"] (defScope sParts) := ⟨rfl, rfl, rfl, by decide +kernel, rfl, by decide +kernel, by decide +kernel⟩
structure SlotMk (K : PySem.W.Frag) (mg : Str → Option Value) (C : Nat → Addr) (fi : Addr) (fdi : FuncData) : Prop where
  M : Mk K (C 0) fi
  F : Fun K "__init__" "Slot.__init__" sIn0 fi fdi
  b : Binds K fdi ["self", "word", "owner", "method"] []
  g : mg "Slot" = some (.ref (C 0))
theorem ok_parts {f fi : Addr} {fd fdi : FuncData} (F : Fs K mg "_law_parts" sParts ["_law_well_here"] f fd) (D : Drw K mg) (T : Txt K mg C fe) (M : SlotMk K mg C fi fdi) : FnOk P w K mg base CX0 3 f fd ["_law_well_here"] (spParts K (clk C fe)) := by
  obtain ⟨_, _, dD⟩ := D.draw
  obtain ⟨_, _, dO⟩ := D.one
  have GO : FnOk P w K mg base CX0 2 _ _ ["_law_well_here", "_law_some"] (spOne K) := ok_one dO.F D.T dD.F dD.b dD.m
  have GI : FnOk P w K mg base CX0 1 fi fdi ["self", "word", "owner", "method"] (spIn K (clk C fe) 0 okW) := ok_in0 M.F T
  refine F.F.ok scPt (fun vs H Q E h => ?_) (fun cdv A outer s H vs Q E hr h => ?_)
  · obtain ⟨p, n, rfl, _⟩ := h
    rfl
  · obtain ⟨p, n, rfl, hW, hn, k⟩ := h
    have hr2 : Room 2 (A.deeper (envOfC "_law_parts" (defScope sParts) s.heap.objs.size f cdv)) := hr
    refine ⟨_, pss_cons (ps_set (i := 1) scPt.nd rfl (Or.inl rfl) (pe_call GO hr (by rfl) dO.m dO.F.kp dO.b .nil pass0 (pa_cons (pv 0) (pa_cons (pe_lst (pa_cons pe_str (pa_cons pe_str (pa_cons pe_str (pa_cons pe_str (pa_cons pe_str pa_nil)))))) pa_nil))))
      (pss_cons (ps_if (pt_cmpR op_in_seq (pv 1) (pe_tup (pa_cons pe_str (pa_cons pe_str (pa_cons pe_str pa_nil)))) (by with_unfolding_all rfl))
        (pss_cons (ps_set (i := 2) scPt.nd rfl (Or.inl rfl) (pe_lst (pa_cons (pe_tup (pa_cons pe_str (pa_cons pe_str (pa_cons (pe_tup pa_nil) pa_nil)))) (pa_cons (pe_tup (pa_cons pe_str (pa_cons pe_str (pa_cons (pe_tup (pa_cons pe_int pa_nil)) pa_nil))))
          (pa_cons (pe_tup (pa_cons pe_non (pa_cons pe_non (pa_cons (pe_tup pa_nil) pa_nil)))) (pa_cons (pe_tup (pa_cons pe_str (pa_cons pe_str (pa_cons (pe_tup pa_nil) pa_nil)))) (pa_cons pe_non (pa_cons pe_str pa_nil))))))))
        (pss_one (ps_ret (pe_tup (pa_cons (pv 1) (pa_cons (pe_tup (pa_cons (pe_call GO hr (by rfl) dO.m dO.F.kp dO.b .nil pass0 (pa_cons (pv 0) (pa_cons (pv 2) pa_nil))) pa_nil)) pa_nil)))))) pss_nil)
      (pss_cons (ps_set (i := 3) scPt.nd rfl (Or.inl rfl) (pe_make M.M GI hr2 (by rfl) M.g M.b .nil pass0 (pa_cons (pe_call GO hr (by rfl) dO.m dO.F.kp dO.b .nil pass0 (pa_cons (pv 0) (pa_cons (pe_lst (pa_cons pe_str (pa_cons pe_str pa_nil))) pa_nil)))
          (pa_cons (pe_call GO hr (by rfl) dO.m dO.F.kp dO.b .nil pass0 (pa_cons (pv 0) (pa_cons (pe_lst (pa_cons pe_str (pa_cons pe_str pa_nil))) pa_nil))) (pa_cons pe_str pa_nil)))))
      (pss_cons (ps_set (i := 4) scPt.nd rfl (Or.inl rfl) (pe_tup (pa_cons (pe_call GO hr (by rfl) dO.m dO.F.kp dO.b .nil pass0 (pa_cons (pv 0) (pa_cons (pe_lst (pa_cons pe_str (pa_cons pe_str (pa_cons pe_non pa_nil)))) pa_nil)))
          (pa_cons (pe_call GO hr (by rfl) dO.m dO.F.kp dO.b .nil pass0 (pa_cons (pv 0) (pa_cons (pe_lst (pa_cons (pv 3) (pa_cons (pv 3) (pa_cons pe_non (pa_cons pe_str pa_nil))))) pa_nil))) pa_nil))))
      (pss_one (ps_ret (pe_tup (pa_cons (pv 1) (pa_cons (pe_op op_catA (pv 4) (pe_ifExp (pt_cmpR op_eq (pv 1) pe_str (nomark _))
          (pe_tup (pa_cons (pe_call GO hr (by rfl) dO.m dO.F.kp dO.b .nil pass0 (pa_cons (pv 0) (pa_cons (pe_lst (pa_cons pe_str (pa_cons pe_str (pa_cons pe_int pa_nil)))) pa_nil))) pa_nil)) (pe_tup pa_nil))) pa_nil)))))))), ?_⟩
    refine ⟨_, rfl, le_sz (Nat.le_of_ble_eq_true rfl), fun q hq => ?_⟩
    refine ⟨p, q, _, _, rfl, hW.same (new_same hq), by omega, (hW.ne hq).symm, SqL.of upd_same, Nat.le_of_ble_eq_true rfl, Nat.le_of_ble_eq_true rfl, fun r1 v1 x1 hv1 W1 => ?_⟩
    obtain ⟨H1, eH1, k1, W1, d1, hd1, nd1, od1⟩ := od_pick (K := K) (cl := clk C fe) (ds := [.fl (.str "call"), .fl (.str "new"), .fl (.str "body"), .fl (.str "entry"), .fl (.str "exit")]) (xs := [V.str "call", V.str "new", V.str "body", V.str "entry", V.str "exit"]) (zs := x1) hW hq (oh_cons (oh_str _) (oh_cons (oh_str _) (oh_cons (oh_str _) (oh_cons (oh_str _) (oh_cons (oh_str _) oh_nil))))) ⟨trivial, trivial, trivial, trivial, trivial, trivial⟩ hv1 W1
    rw [eH1]
    obtain ⟨kk, hk1, hk5, rfl⟩ : ∃ kk, 1 ≤ kk ∧ kk ≤ 5 ∧ d1 = .fl (.str (wd kk)) := by
      simp only [List.mem_cons, List.not_mem_nil, or_false] at hd1
      rcases hd1 with h | h | h | h | h
      · exact ⟨1, by decide, by decide, h⟩
      · exact ⟨2, by decide, by decide, h⟩
      · exact ⟨3, by decide, by decide, h⟩
      · exact ⟨4, by decide, by decide, h⟩
      · exact ⟨5, by decide, by decide, h⟩
    obtain ⟨rfl, _⟩ := od1
    refine ⟨_, rfl, le_sz (Nat.le_of_ble_eq_true rfl), fun t ht => ⟨t, _, rfl, .inr (SqT.of upd_same), rfl, rfl, _, rfl, ?_⟩⟩
    have e : (if false = true then !inV (.str (wd kk)) [V.str "call", .str "new", .str "body"] else inV (.str (wd kk)) [V.str "call", .str "new", .str "body"]) = decide (kk ≤ 3) := by
      have : kk = 1 ∨ kk = 2 ∨ kk = 3 ∨ kk = 4 ∨ kk = 5 := by omega
      rcases this with rfl | rfl | rfl | rfl | rfl <;> decide
    rw [e]
    have k2 : KeepB p H (upd H1 t (.tup [V.str "call", .str "new", .str "body"])) := k1.trans (KeepB.of (new_same ht))
    have W2 := W1.same (new_same (o := .tup [V.str "call", .str "new", .str "body"]) ht)
    generalize upd H1 t (.tup [V.str "call", .str "new", .str "body"]) = H2 at k2 W2 ⊢
    by_cases h3 : kk ≤ 3
    case pos =>
      rw [decide_eq_true h3]
      refine iteT ?_
      refine ⟨le_sz (Nat.le_of_ble_eq_true rfl), fun u0 hu0 => ?_⟩
      obtain ⟨ou0, su0⟩ := tup_new (K := K) (cl := clk C fe) (ds := []) (xs := []) hu0 oh_nil
      generalize upd H2 u0 (.tup []) = H3 at ou0 su0 ⊢
      refine ⟨le_sz (Nat.le_of_ble_eq_true rfl), fun u1 hu1 => ?_⟩
      obtain ⟨ou1, su1⟩ := tup_new (K := K) (cl := clk C fe) (ds := [.fl (.str "a"), .fl (.str "m"), .tup []]) (xs := [V.str "a", V.str "m", V.ref u0]) hu1 (oh_cons (oh_str _) (oh_cons (oh_str _) (oh_cons ou0 oh_nil)))
      generalize upd H3 u1 (.tup [V.str "a", V.str "m", V.ref u0]) = H4 at ou1 su1 ⊢
      refine ⟨le_sz (Nat.le_of_ble_eq_true rfl), fun u2 hu2 => ?_⟩
      obtain ⟨ou2, su2⟩ := tup_new (K := K) (cl := clk C fe) (ds := [.fl (.int 0)]) (xs := [V.int 0]) hu2 (oh_cons (oh_int _) oh_nil)
      generalize upd H4 u2 (.tup [V.int 0]) = H5 at ou2 su2 ⊢
      refine ⟨le_sz (Nat.le_of_ble_eq_true rfl), fun u3 hu3 => ?_⟩
      obtain ⟨ou3, su3⟩ := tup_new (K := K) (cl := clk C fe) (ds := [.fl (.str "a"), .fl (.str "m"), .tup [.fl (.int 0)]]) (xs := [V.str "a", V.str "m", V.ref u2]) hu3 (oh_cons (oh_str _) (oh_cons (oh_str _) (oh_cons ou2 oh_nil)))
      generalize upd H5 u3 (.tup [V.str "a", V.str "m", V.ref u2]) = H6 at ou3 su3 ⊢
      refine ⟨le_sz (Nat.le_of_ble_eq_true rfl), fun u4 hu4 => ?_⟩
      obtain ⟨ou4, su4⟩ := tup_new (K := K) (cl := clk C fe) (ds := []) (xs := []) hu4 oh_nil
      generalize upd H6 u4 (.tup []) = H7 at ou4 su4 ⊢
      refine ⟨le_sz (Nat.le_of_ble_eq_true rfl), fun u5 hu5 => ?_⟩
      obtain ⟨ou5, su5⟩ := tup_new (K := K) (cl := clk C fe) (ds := [.fl .non, .fl .non, .tup []]) (xs := [V.non, V.non, V.ref u4]) hu5 (oh_cons oh_non (oh_cons oh_non (oh_cons ou4 oh_nil)))
      generalize upd H7 u5 (.tup [V.non, V.non, V.ref u4]) = H8 at ou5 su5 ⊢
      refine ⟨le_sz (Nat.le_of_ble_eq_true rfl), fun u6 hu6 => ?_⟩
      obtain ⟨ou6, su6⟩ := tup_new (K := K) (cl := clk C fe) (ds := []) (xs := []) hu6 oh_nil
      generalize upd H8 u6 (.tup []) = H9 at ou6 su6 ⊢
      refine ⟨le_sz (Nat.le_of_ble_eq_true rfl), fun u7 hu7 => ?_⟩
      obtain ⟨ou7, su7⟩ := tup_new (K := K) (cl := clk C fe) (ds := [.fl (.str "b"), .fl (.str "m"), .tup []]) (xs := [V.str "b", V.str "m", V.ref u6]) hu7 (oh_cons (oh_str _) (oh_cons (oh_str _) (oh_cons ou6 oh_nil)))
      generalize upd H9 u7 (.tup [V.str "b", V.str "m", V.ref u6]) = H10 at ou7 su7 ⊢
      have a1 := Oh.sm (((((su2.trans su3).trans su4).trans su5).trans su6).trans su7) ou1
      have a3 := Oh.sm (((su4.trans su5).trans su6).trans su7) ou3
      have a5 := Oh.sm (su6.trans su7) ou5
      have s27 : Same H2 H10 := ((((((su0.trans su1).trans su2).trans su3).trans su4).trans su5).trans su6).trans su7
      have k10 := k2.trans (KeepB.of s27)
      have W10 := W2.same s27
      refine ⟨le_sz (Nat.le_of_ble_eq_true rfl), fun l hl => ⟨_, rfl, _, rfl, _, rfl, ?_⟩⟩
      refine ⟨p, l, _, _, rfl, W10.same (new_same hl), by omega, (W10.ne hl).symm, SqL.of upd_same, Nat.le_of_ble_eq_true rfl, Nat.le_of_ble_eq_true rfl, fun r11 v11 x11 hv11 W11 => ?_⟩
      obtain ⟨H11, eH11, k11, W11, d11, hd11, nd11, od11⟩ := od_pick (K := K) (cl := clk C fe) (ds := [.tup [.fl (.str "a"), .fl (.str "m"), .tup []], .tup [.fl (.str "a"), .fl (.str "m"), .tup [.fl (.int 0)]], .tup [.fl .non, .fl .non, .tup []], .tup [.fl (.str "b"), .fl (.str "m"), .tup []], .fl .non, .fl (.str "a")]) (xs := [V.ref u1, V.ref u3, V.ref u5, V.ref u7, V.non, V.str "a"]) (zs := x11) W10 hl (oh_cons a1 (oh_cons a3 (oh_cons a5 (oh_cons ou7 (oh_cons oh_non (oh_cons (oh_str _) oh_nil)))))) ⟨⟨trivial, trivial, trivial, trivial⟩, ⟨trivial, trivial, ⟨trivial, trivial⟩, trivial⟩, ⟨trivial, trivial, trivial, trivial⟩, ⟨trivial, trivial, trivial, trivial⟩, trivial, trivial, trivial⟩ hv11 W11
      rw [eH11]
      have fd : Fit (clk C fe) d11 := by
        simp only [List.mem_cons, List.not_mem_nil, or_false] at hd11
        rcases hd11 with rfl | rfl | rfl | rfl | rfl | rfl
        · exact ⟨⟨trivial, trivial, trivial, trivial⟩, nd11, Nat.le_of_ble_eq_true rfl⟩
        · exact ⟨⟨trivial, trivial, ⟨trivial, trivial⟩, trivial⟩, nd11, Nat.le_of_ble_eq_true rfl⟩
        · exact ⟨⟨trivial, trivial, trivial, trivial⟩, nd11, Nat.le_of_ble_eq_true rfl⟩
        · exact ⟨⟨trivial, trivial, trivial, trivial⟩, nd11, Nat.le_of_ble_eq_true rfl⟩
        · exact ⟨trivial, nd11, Nat.le_of_ble_eq_true rfl⟩
        · exact ⟨trivial, nd11, Nat.le_of_ble_eq_true rfl⟩
      refine ⟨le_sz (Nat.le_of_ble_eq_true rfl), fun u8 hu8 => ?_⟩
      obtain ⟨ou8, su8⟩ := tup_new (K := K) (cl := clk C fe) (ds := [d11]) (xs := [v11]) hu8 (oh_cons od11 oh_nil)
      generalize upd H11 u8 (.tup [v11]) = H12 at ou8 su8 ⊢
      refine ⟨le_sz (Nat.le_of_ble_eq_true rfl), fun u9 hu9 => ?_⟩
      obtain ⟨ou9, su9⟩ := tup_new (K := K) (cl := clk C fe) (ds := [.fl (.str (wd kk)), .tup [d11]]) (xs := [V.str (wd kk), V.ref u8]) hu9 (oh_cons (oh_str _) (oh_cons ou8 oh_nil))
      generalize upd H12 u9 (.tup [V.str (wd kk), V.ref u8]) = H13 at ou9 su9 ⊢
      refine k kk [d11] u9 H13 ⟨hk1, hk5, ?_, fun x hx => by rw [List.mem_singleton.mp hx]; exact fd⟩ ou9 ((k10.trans k11).trans (KeepB.of (su8.trans su9))) ((W11.same (su8.trans su9)).mono (by omega))
      have : kk = 1 ∨ kk = 2 ∨ kk = 3 := by omega
      rcases this with rfl | rfl | rfl <;> rfl
    case neg =>
    rw [decide_eq_false h3]
    refine iteF ?_
    refine ⟨_, rfl, le_sz (Nat.le_of_ble_eq_true rfl), fun q1 hq1 => ?_⟩
    refine ⟨p, q1, _, _, rfl, W2.same (new_same hq1), by omega, (W2.ne hq1).symm, SqL.of upd_same, Nat.le_of_ble_eq_true rfl, Nat.le_of_ble_eq_true rfl, fun r3 v3 x3 hv3 W3 => ?_⟩
    obtain ⟨H3, eH3, k3, W3, d3, hd3, nd3, od3⟩ := od_pick (K := K) (cl := clk C fe) (ds := [.fl (.str "call"), .fl (.str "next")]) (xs := [V.str "call", V.str "next"]) (zs := x3) W2 hq1 (oh_cons (oh_str _) (oh_cons (oh_str _) oh_nil)) ⟨trivial, trivial, trivial⟩ hv3 W3
    rw [eH3]
    refine ⟨_, rfl, le_sz (Nat.le_of_ble_eq_true rfl), fun q2 hq2 => ?_⟩
    refine ⟨p, q2, _, _, rfl, W3.same (new_same hq2), by omega, (W3.ne hq2).symm, SqL.of upd_same, Nat.le_of_ble_eq_true rfl, Nat.le_of_ble_eq_true rfl, fun r4 v4 x4 hv4 W4 => ?_⟩
    obtain ⟨H4, eH4, k4, W4, d4, hd4, nd4, od4⟩ := od_pick (K := K) (cl := clk C fe) (ds := [.fl (.str "a"), .fl (.str "b")]) (xs := [V.str "a", V.str "b"]) (zs := x4) W3 hq2 (oh_cons (oh_str _) (oh_cons (oh_str _) oh_nil)) ⟨trivial, trivial, trivial⟩ hv4 W4
    rw [eH4]
    obtain ⟨z1, rfl, hz1⟩ : ∃ z : Str, d3 = .fl (.str z) ∧ (z = "call" ∨ z = "next") := by
      simp only [List.mem_cons, List.not_mem_nil, or_false] at hd3
      rcases hd3 with h | h
      · exact ⟨_, h, .inl rfl⟩
      · exact ⟨_, h, .inr rfl⟩
    obtain ⟨z2, rfl⟩ : ∃ z : Str, d4 = .fl (.str z) := by
      simp only [List.mem_cons, List.not_mem_nil, or_false] at hd4
      rcases hd4 with h | h <;> exact ⟨_, h⟩
    obtain ⟨rfl, _⟩ := od3
    obtain ⟨rfl, _⟩ := od4
    refine fun x dx nx ndx nex => ⟨x, dx, [.fl (.str z1), .fl (.str z2), .fl (.str "m")], _, rfl, upd_same, oh_cons (oh_str _) (oh_cons (oh_str _) (oh_cons (oh_str _) oh_nil)), rfl, ⟨_, _, _, rfl, hz1⟩, fun H5 kp os _ => ⟨rfl, ?_⟩⟩
    have s5 : Same H4 H5 := same_make nx ndx kp
    have W5 := W4.same s5
    have k5 : KeepB p H H5 := ((k2.trans k3).trans k4).trans (KeepB.of s5)
    have fs : Fit (clk C fe) (.obj 0 [.fl (.str z1), .fl (.str z2), .fl (.str "m")]) := ⟨⟨⟨rfl, _, _, _, rfl⟩, trivial, trivial, trivial, trivial⟩, ⟨trivial, trivial, trivial, trivial⟩, Nat.le_of_ble_eq_true rfl⟩
    have ns : noL (.obj 0 [.fl (.str z1), .fl (.str z2), .fl (.str "m")]) := fs.2.1
    refine ⟨_, rfl, le_sz (Nat.le_of_ble_eq_true rfl), fun q3 hq3 => ?_⟩
    refine ⟨p, q3, _, _, rfl, W5.same (new_same hq3), by omega, (W5.ne hq3).symm, SqL.of upd_same, Nat.le_of_ble_eq_true rfl, Nat.le_of_ble_eq_true rfl, fun r6 v6 x6 hv6 W6 => ?_⟩
    obtain ⟨H6, eH6, k6, W6, d6, hd6, nd6, od6⟩ := od_pick (K := K) (cl := clk C fe) (ds := [.fl (.str "c"), .fl (.str "d"), .fl .non]) (xs := [V.str "c", V.str "d", V.non]) (zs := x6) W5 hq3 (oh_cons (oh_str _) (oh_cons (oh_str _) (oh_cons oh_non oh_nil))) ⟨trivial, trivial, trivial, trivial⟩ hv6 W6
    rw [eH6]
    obtain ⟨ms, hp5⟩ := W5.lst
    have os6 := Oh.keepB hp5 k6 _ _ ns os
    refine ⟨_, rfl, _, rfl, _, rfl, le_sz (Nat.le_of_ble_eq_true rfl), fun q4 hq4 => ?_⟩
    refine ⟨p, q4, _, _, rfl, W6.same (new_same hq4), by omega, (W6.ne hq4).symm, SqL.of upd_same, Nat.le_of_ble_eq_true rfl, Nat.le_of_ble_eq_true rfl, fun r7 v7 x7 hv7 W7 => ?_⟩
    obtain ⟨H7, eH7, k7, W7, d7, hd7, nd7, od7⟩ := od_pick (K := K) (cl := clk C fe) (ds := [.obj 0 [.fl (.str z1), .fl (.str z2), .fl (.str "m")], .obj 0 [.fl (.str z1), .fl (.str z2), .fl (.str "m")], .fl .non, .fl (.str "slot")]) (xs := [V.ref x, V.ref x, V.non, V.str "slot"]) (zs := x7) W6 hq4 (oh_cons os6 (oh_cons os6 (oh_cons oh_non (oh_cons (oh_str _) oh_nil)))) ⟨ns, ns, trivial, trivial, trivial⟩ hv7 W7
    rw [eH7]
    have f3 : Fit (clk C fe) d6 := by
      simp only [List.mem_cons, List.not_mem_nil, or_false] at hd6
      rcases hd6 with rfl | rfl | rfl <;> exact ⟨trivial, nd6, Nat.le_of_ble_eq_true rfl⟩
    have f4 : Fit (clk C fe) d7 := by
      simp only [List.mem_cons, List.not_mem_nil, or_false] at hd7
      rcases hd7 with rfl | rfl | rfl | rfl
      · exact fs
      · exact fs
      · exact ⟨trivial, nd7, Nat.le_of_ble_eq_true rfl⟩
      · exact ⟨trivial, nd7, Nat.le_of_ble_eq_true rfl⟩
    obtain ⟨ms6, hp6⟩ := W6.lst
    have o67 := Oh.keepB hp6 k7 _ _ nd6 od6
    have k07 : KeepB p H H7 := (k5.trans k6).trans k7
    refine ⟨le_sz (Nat.le_of_ble_eq_true rfl), fun u0 hu0 => ?_⟩
    obtain ⟨ou0, su0⟩ := tup_new (K := K) (cl := clk C fe) (ds := [d6, d7]) (xs := [v6, v7]) hu0 (oh_cons o67 (oh_cons od7 oh_nil))
    generalize upd H7 u0 (.tup [v6, v7]) = H8 at ou0 su0 ⊢
    have W8 := W7.same su0
    refine ⟨_, rfl, _, rfl, _, rfl, rfl, _, rfl, ?_⟩
    by_cases h5 : kk = 5
    case pos =>
      subst h5
      refine iteT ?_
      refine ⟨_, rfl, le_sz (Nat.le_of_ble_eq_true rfl), fun q5 hq5 => ?_⟩
      refine ⟨p, q5, _, _, rfl, W8.same (new_same hq5), by omega, (W8.ne hq5).symm, SqL.of upd_same, Nat.le_of_ble_eq_true rfl, Nat.le_of_ble_eq_true rfl, fun r9 v9 x9 hv9 W9 => ?_⟩
      obtain ⟨H9, eH9, k9, W9, d9, hd9, nd9, od9⟩ := od_pick (K := K) (cl := clk C fe) (ds := [.fl (.str "a"), .fl (.str "b"), .fl (.int 5)]) (xs := [V.str "a", V.str "b", V.int 5]) (zs := x9) W8 hq5 (oh_cons (oh_str _) (oh_cons (oh_str _) (oh_cons (oh_int _) oh_nil))) ⟨trivial, trivial, trivial, trivial⟩ hv9 W9
      rw [eH9]
      have f5 : Fit (clk C fe) d9 := by
        simp only [List.mem_cons, List.not_mem_nil, or_false] at hd9
        rcases hd9 with rfl | rfl | rfl <;> exact ⟨trivial, nd9, Nat.le_of_ble_eq_true rfl⟩
      obtain ⟨ms8, hp8⟩ := W8.lst
      have o89 := Oh.keepB hp8 k9 _ _ (by exact ⟨nd6, nd7, trivial⟩) ou0
      refine ⟨le_sz (Nat.le_of_ble_eq_true rfl), fun u1 hu1 => ?_⟩
      obtain ⟨ou1, su1⟩ := tup_new (K := K) (cl := clk C fe) (ds := [d9]) (xs := [v9]) hu1 (oh_cons od9 oh_nil)
      generalize upd H9 u1 (.tup [v9]) = H10 at ou1 su1 ⊢
      obtain ⟨_, ys, ey, sqy, oay⟩ := id ou1
      cases ey
      obtain ⟨_, zs, ez, sqz, oaz⟩ := id (Oh.sm su1 o89)
      cases ez
      have lz := OhAll.length _ _ oaz
      have ly := OhAll.length _ _ oay
      refine ⟨u0, u1, zs, ys, rfl, rfl, sqz, sqy, le_sz (by rw [← lz, ← ly]; exact Nat.le_of_ble_eq_true rfl), (fun e => by rw [e] at lz; cases lz), (fun _ e => by rw [e] at ly; cases ly), fun _ _ u2 hu2 => ?_⟩
      obtain ⟨ou2, su2⟩ := tup_new (K := K) (cl := clk C fe) (ds := [d6, d7, d9]) (xs := zs ++ ys) hu2 (oh_app oaz oay)
      generalize upd H10 u2 (.tup (zs ++ ys)) = H12 at ou2 su2 ⊢
      refine ⟨le_sz (Nat.le_of_ble_eq_true rfl), fun u3 hu3 => ?_⟩
      obtain ⟨ou3, su3⟩ := tup_new (K := K) (cl := clk C fe) (ds := [.fl (.str (wd 5)), .tup [d6, d7, d9]]) (xs := [V.str (wd 5), V.ref u2]) hu3 (oh_cons (oh_str _) (oh_cons ou2 oh_nil))
      generalize upd H12 u3 (.tup [V.str (wd 5), V.ref u2]) = H13 at ou3 su3 ⊢
      refine k 5 [d6, d7, d9] u3 H13 ⟨hk1, hk5, rfl, fun x hx => ?_⟩ ou3 (((k07.trans (KeepB.of su0)).trans k9).trans (KeepB.of ((su1.trans su2).trans su3))) (((W9.same su1).same (su2.trans su3)).mono (by omega))
      simp only [List.mem_cons, List.not_mem_nil, or_false] at hx
      rcases hx with rfl | rfl | rfl
      · exact f3
      · exact f4
      · exact f5
    case neg =>
      have h4 : kk = 4 := by omega
      subst h4
      refine iteF ?_
      refine ⟨le_sz (Nat.le_of_ble_eq_true rfl), fun u1 hu1 => ?_⟩
      obtain ⟨ou1, su1⟩ := tup_new (K := K) (cl := clk C fe) (ds := []) (xs := []) hu1 oh_nil
      generalize upd H8 u1 (.tup []) = H10 at ou1 su1 ⊢
      obtain ⟨_, ys, ey, sqy, oay⟩ := id ou1
      cases ey
      cases oay
      obtain ⟨_, zs, ez, sqz, oaz⟩ := id (Oh.sm su1 ou0)
      cases ez
      have lz := OhAll.length _ _ oaz
      refine ⟨u0, u1, zs, [], rfl, rfl, sqz, sqy, le_sz (by rw [← lz]; exact Nat.le_of_ble_eq_true rfl), (fun e => by rw [e] at lz; cases lz), fun _ _ => ?_, (fun _ e => absurd rfl e)⟩
      refine ⟨le_sz (Nat.le_of_ble_eq_true rfl), fun u3 hu3 => ?_⟩
      obtain ⟨ou3, su3⟩ := tup_new (K := K) (cl := clk C fe) (ds := [.fl (.str (wd 4)), .tup [d6, d7]]) (xs := [V.str (wd 4), V.ref u0]) hu3 (oh_cons (oh_str _) (oh_cons (Oh.sm su1 ou0) oh_nil))
      generalize upd H10 u3 (.tup [V.str (wd 4), V.ref u0]) = H13 at ou3 su3 ⊢
      refine k 4 [d6, d7] u3 H13 ⟨hk1, hk5, rfl, fun x hx => ?_⟩ ou3 ((k07.trans (KeepB.of su0)).trans (KeepB.of (su1.trans su3))) ((W8.same (su1.trans su3)).mono (by omega))
      simp only [List.mem_cons, List.not_mem_nil, or_false] at hx
      rcases hx with rfl | rfl
      · exact f3
      · exact f4
end
end Kx
set_option linter.all false
namespace Kx
open PySem L2 PySem.Spec PyProof.Rows
abbrev sMade : Stmt := top 26
def spMade (K : PySem.W.Frag) (cl : Nat → OCls) : Sp := fun vs H Q _ => ∃ (k : Nat) (ds : List OD) (z : V), vs = [.str (wd k), z] ∧ Part cl k ds ∧ Oh K cl H (.tup ds) z ∧ ∀ a H', Oh K cl H' (.obj k ds) (.ref a) → NoS cl H' k a → Same H H' → Q (.ref a) H'
/-- what a class of a check has -/
structure ChkMk (K : PySem.W.Frag) (mg : Str → Option Value) (C : Nat → Addr) (k : Nat) (nmC : Str) (q : Str) (st : Stmt) (ps : List Str) (fi : Addr) (fdi : FuncData) : Prop where
  M : Mk K (C k) fi
  F : Fun K "__init__" q st fi fdi
  b : Binds K fdi ps []
  g : mg nmC = some (.ref (C k))
/-- the class above it, its init -/
structure BaseOf (K : PySem.W.Frag) (mg : Str → Option Value) (nmB q : Str) (st : Stmt) (ps : List Str) (B g : Addr) (fd : FuncData) (mc : Value) : Prop where
  gB : mg nmB = some (.ref B)
  r : ClX.CRead K B mc
  c : CFn K B mc "__init__" g
  F : Fun K "__init__" q st g fd
  b : Binds K fd ps []
structure Mks (K : PySem.W.Frag) (mg : Str → Option Value) (C : Nat → Addr) : Prop where
  bS : ∃ B g fd mc, BaseOf K mg "OnSite" "OnSite.__init__" sInS ["self", "site"] B g fd mc
  bL : ∃ B g fd mc, BaseOf K mg "OnLine" "OnLine.__init__" sInL ["self", "heir", "slot"] B g fd mc
  m1 : ∃ fi fdi, ChkMk K mg C 1 "CallCheck" "CallCheck.__init__" sIn1 ["self", "site"] fi fdi
  m2 : ∃ fi fdi, ChkMk K mg C 2 "NewCheck" "NewCheck.__init__" sIn2 ["self", "site"] fi fdi
  m3 : ∃ fi fdi, ChkMk K mg C 3 "BodyCheck" "BodyCheck.__init__" sIn3 ["self", "site"] fi fdi
  m4 : ∃ fi fdi, ChkMk K mg C 4 "HeirEntry" "HeirEntry.__init__" sIn4 ["self", "heir", "slot"] fi fdi
  m5 : ∃ fi fdi, ChkMk K mg C 5 "HeirExit" "HeirExit.__init__" sIn5 ["self", "heir", "slot", "above"] fi fdi
theorem wd_eq {k j : Nat} (hk : 1 ≤ k ∧ k ≤ 5) (hj : 1 ≤ j ∧ j ≤ 5) : decide (V.str (wd k) = V.str (wd j)) = decide (k = j) := by
  have h1 : k = 1 ∨ k = 2 ∨ k = 3 ∨ k = 4 ∨ k = 5 := by omega
  have h2 : j = 1 ∨ j = 2 ∨ j = 3 ∨ j = 4 ∨ j = 5 := by omega
  rcases h1 with rfl | rfl | rfl | rfl | rfl <;> rcases h2 with rfl | rfl | rfl | rfl | rfl <;> decide
section
variable {P : Program} {w : World} {K : PySem.W.Frag} {mg : Str → Option Value} {base : Heap} {C fe : Nat → Addr}
theorem scMade : FnScope ["_law_word", "_law_some"] ["_law_word", "_law_some"] (defScope sMade) := ⟨rfl, rfl, rfl, by decide +kernel, rfl, by decide +kernel, by decide +kernel⟩
theorem ok_made {f : Addr} {fd : FuncData} (F : Fs K mg "_law_made" sMade ["_law_word", "_law_some"] f fd) (T : Txt K mg C fe) (M : Mks K mg C) : FnOk P w K mg base CX0 4 f fd ["_law_word", "_law_some"] (spMade K (clk C fe)) := by
  obtain ⟨BS, gS, fdS, mcS, bS⟩ := M.bS
  obtain ⟨BL, gL, fdL, mcL, bL⟩ := M.bL
  obtain ⟨f1, fd1, m1⟩ := M.m1
  have G1 : FnOk P w K mg base CX0 2 f1 fd1 ["self", "site"] (spIn K (clk C fe) 1 fun _ => True) := ok_in1 m1.F T bS.gB bS.r bS.c bS.F bS.b
  obtain ⟨f2, fd2, m2⟩ := M.m2
  have G2 : FnOk P w K mg base CX0 2 f2 fd2 ["self", "site"] (spIn K (clk C fe) 2 fun _ => True) := ok_in2 m2.F T bS.gB bS.r bS.c bS.F bS.b
  obtain ⟨f3, fd3, m3⟩ := M.m3
  have G3 : FnOk P w K mg base CX0 2 f3 fd3 ["self", "site"] (spIn K (clk C fe) 3 fun _ => True) := ok_in3 m3.F T bS.gB bS.r bS.c bS.F bS.b
  obtain ⟨f4, fd4, m4⟩ := M.m4
  have G4 : FnOk P w K mg base CX0 2 f4 fd4 ["self", "heir", "slot"] (spIn K (clk C fe) 4 fun _ => True) := ok_in4 m4.F T bL.gB bL.r bL.c bL.F bL.b
  obtain ⟨f5, fd5, m5⟩ := M.m5
  have G5 : FnOk P w K mg base CX0 2 f5 fd5 ["self", "heir", "slot", "above"] (spIn K (clk C fe) 5 fun _ => True) := ok_in5 m5.F T bL.gB bL.r bL.c bL.F bL.b
  refine F.F.ok scMade (fun vs H Q E h => ?_) (fun cdv A outer s H vs Q E hr h => ?_)
  · obtain ⟨k, ds, z, rfl, _⟩ := h
    rfl
  · obtain ⟨kk, ds, z, rfl, hp, hz, k⟩ := h
    obtain ⟨t, xs, rfl, ht, hx⟩ := hz
    have hl := OhAll.length ds xs hx
    have hr1 := hp.k1
    have hr5 := hp.k5
    refine ⟨_, pss_cons (ps_if (pt_cmpR op_eq (pv 0) pe_str (nomark _)) (pss_one (ps_ret (pe_make m1.M G1 hr (by rfl) m1.g m1.b .nil pass0 (pa_cons (pe_ix ix_tup (pv 1) pe_int (fun _ _ => rfl)) pa_nil)))) pss_nil) (pss_cons (ps_if (pt_cmpR op_eq (pv 0) pe_str (nomark _)) (pss_one (ps_ret (pe_make m2.M G2 hr (by rfl) m2.g m2.b .nil pass0 (pa_cons (pe_ix ix_tup (pv 1) pe_int (fun _ _ => rfl)) pa_nil)))) pss_nil) (pss_cons (ps_if (pt_cmpR op_eq (pv 0) pe_str (nomark _)) (pss_one (ps_ret (pe_make m3.M G3 hr (by rfl) m3.g m3.b .nil pass0 (pa_cons (pe_ix ix_tup (pv 1) pe_int (fun _ _ => rfl)) pa_nil)))) pss_nil) (pss_one (ps_ret (pe_ifExp (pt_cmpR op_eq (pv 0) pe_str (nomark _)) (pe_make m4.M G4 hr (by rfl) m4.g m4.b .nil pass0 (pa_cons (pe_ix ix_tup (pv 1) pe_int (fun _ _ => rfl)) (pa_cons (pe_ix ix_tup (pv 1) pe_int (fun _ _ => rfl)) pa_nil))) (pe_make m5.M G5 hr (by rfl) m5.g m5.b .nil pass0 (pa_cons (pe_ix ix_tup (pv 1) pe_int (fun _ _ => rfl)) (pa_cons (pe_ix ix_tup (pv 1) pe_int (fun _ _ => rfl)) (pa_cons (pe_ix ix_tup (pv 1) pe_int (fun _ _ => rfl)) pa_nil))))))))), ?_⟩
    refine ⟨_, rfl, rfl, _, rfl, ?_⟩
    have e1 : decide (V.str (wd kk) = V.str "call") = decide (kk = 1) := wd_eq (j := 1) ⟨hr1, hr5⟩ (by decide)
    rw [e1]
    by_cases c1 : kk = 1
    case pos =>
      subst c1
      refine iteT ?_
      obtain ⟨d0, v0, rfl, rfl, o0⟩ := ohl1 hp.len hx
      refine ⟨_, rfl, t, _, 0, v0, rfl, rfl, ht, rfl, fun x dx nx ndx nex => ?_⟩
      have sm : Same H (upd (upd H dx (.own x)) x (.ins (C 1) dx [])) := fun b u e => by rw [upd_ne (ne_of_none e nx), upd_ne (ne_of_none e ndx)]; exact e
      exact ⟨x, dx, [d0], _, rfl, upd_same, (oh_cons (Oh.sm sm o0) oh_nil), rfl, trivial, fun H5 kp os nos => ⟨rfl, k x H5 os nos (same_make nx ndx kp)⟩⟩
    case neg =>
    rw [decide_eq_false c1]
    refine iteF ?_
    refine ⟨_, rfl, rfl, _, rfl, ?_⟩
    have e2 : decide (V.str (wd kk) = V.str "new") = decide (kk = 2) := wd_eq (j := 2) ⟨hr1, hr5⟩ (by decide)
    rw [e2]
    by_cases c2 : kk = 2
    case pos =>
      subst c2
      refine iteT ?_
      obtain ⟨d0, v0, rfl, rfl, o0⟩ := ohl1 hp.len hx
      refine ⟨_, rfl, t, _, 0, v0, rfl, rfl, ht, rfl, fun x dx nx ndx nex => ?_⟩
      have sm : Same H (upd (upd H dx (.own x)) x (.ins (C 2) dx [])) := fun b u e => by rw [upd_ne (ne_of_none e nx), upd_ne (ne_of_none e ndx)]; exact e
      exact ⟨x, dx, [d0], _, rfl, upd_same, (oh_cons (Oh.sm sm o0) oh_nil), rfl, trivial, fun H5 kp os nos => ⟨rfl, k x H5 os nos (same_make nx ndx kp)⟩⟩
    case neg =>
    rw [decide_eq_false c2]
    refine iteF ?_
    refine ⟨_, rfl, rfl, _, rfl, ?_⟩
    have e3 : decide (V.str (wd kk) = V.str "body") = decide (kk = 3) := wd_eq (j := 3) ⟨hr1, hr5⟩ (by decide)
    rw [e3]
    by_cases c3 : kk = 3
    case pos =>
      subst c3
      refine iteT ?_
      obtain ⟨d0, v0, rfl, rfl, o0⟩ := ohl1 hp.len hx
      refine ⟨_, rfl, t, _, 0, v0, rfl, rfl, ht, rfl, fun x dx nx ndx nex => ?_⟩
      have sm : Same H (upd (upd H dx (.own x)) x (.ins (C 3) dx [])) := fun b u e => by rw [upd_ne (ne_of_none e nx), upd_ne (ne_of_none e ndx)]; exact e
      exact ⟨x, dx, [d0], _, rfl, upd_same, (oh_cons (Oh.sm sm o0) oh_nil), rfl, trivial, fun H5 kp os nos => ⟨rfl, k x H5 os nos (same_make nx ndx kp)⟩⟩
    case neg =>
    rw [decide_eq_false c3]
    refine iteF ?_
    refine ⟨_, rfl, rfl, _, rfl, ?_⟩
    have e4 : decide (V.str (wd kk) = V.str "entry") = decide (kk = 4) := wd_eq (j := 4) ⟨hr1, hr5⟩ (by decide)
    rw [e4]
    by_cases c4 : kk = 4
    case pos =>
      subst c4
      refine iteT ?_
      obtain ⟨d0, d1, v0, v1, rfl, rfl, o0, o1⟩ := ohl2 hp.len hx
      refine ⟨_, rfl, t, _, 0, v0, rfl, rfl, ht, rfl, _, rfl, t, _, 1, v1, rfl, rfl, ht, rfl, fun x dx nx ndx nex => ?_⟩
      have sm : Same H (upd (upd H dx (.own x)) x (.ins (C 4) dx [])) := fun b u e => by rw [upd_ne (ne_of_none e nx), upd_ne (ne_of_none e ndx)]; exact e
      exact ⟨x, dx, [d0, d1], _, rfl, upd_same, (oh_cons (Oh.sm sm o0) (oh_cons (Oh.sm sm o1) oh_nil)), rfl, trivial, fun H5 kp os nos => ⟨rfl, k x H5 os nos (same_make nx ndx kp)⟩⟩
    case neg =>
    rw [decide_eq_false c4]
    refine iteF ?_
    have c5 : kk = 5 := by omega
    subst c5
    obtain ⟨d0, d1, d2, v0, v1, v2, rfl, rfl, o0, o1, o2⟩ := ohl3 hp.len hx
    refine ⟨_, rfl, t, _, 0, v0, rfl, rfl, ht, rfl, _, rfl, t, _, 1, v1, rfl, rfl, ht, rfl, _, rfl, t, _, 2, v2, rfl, rfl, ht, rfl, fun x dx nx ndx nex => ?_⟩
    have sm : Same H (upd (upd H dx (.own x)) x (.ins (C 5) dx [])) := fun b u e => by rw [upd_ne (ne_of_none e nx), upd_ne (ne_of_none e ndx)]; exact e
    exact ⟨x, dx, [d0, d1, d2], _, rfl, upd_same, (oh_cons (Oh.sm sm o0) (oh_cons (Oh.sm sm o1) (oh_cons (Oh.sm sm o2) oh_nil))), rfl, trivial, fun H5 kp os nos => ⟨rfl, k x H5 os nos (same_make nx ndx kp)⟩⟩
end
end Kx
set_option linter.all false
namespace Kx
open PySem L2 PySem.Spec PyProof.Rows
abbrev sRight : Stmt := top 27
abbrev nR : List Str := ["_law_word", "_law_some", "_law_check", "_law_on_site", "_law_at_entry", "_law_kinds", "_law_own", "_law_one_here"]
def atE (k : Nat) : Bool := decide (k = 1) || (decide (k = 2) || decide (k = 4))
def supT (k : Nat) : Nat → Bool
  | 0 => true
  | 1 => decide (k ≤ 3)
  | 2 => !decide (k ≤ 3)
  | 3 => atE k
  | _ => !atE k
def bnm : Nat → Str
  | 0 => "Check"
  | 1 => "OnSite"
  | 2 => "OnLine"
  | 3 => "AtEntry"
  | _ => "AtExit"
def cnm : Nat → Str
  | 1 => "CallCheck"
  | 2 => "NewCheck"
  | 3 => "BodyCheck"
  | 4 => "HeirEntry"
  | _ => "HeirExit"
/-- the classes above the checks, and what they say of them -/
structure Sup (K : PySem.W.Frag) (mg : Str → Option Value) (C B : Nat → Addr) : Prop where
  g : ∀ j, j < 5 → mg (bnm j) = some (.ref (B j))
  kit : ∀ k, 1 ≤ k ∧ k ≤ 5 → ∀ j, j < 5 → PySem.W.kitOne K (.ref (C k)) (.ref (B j)) = some (supT k j)
  gC : ∀ k, 1 ≤ k ∧ k ≤ 5 → mg (cnm k) = some (.ref (C k))
  side : ∀ k, 1 ≤ k ∧ k ≤ 5 → ∃ u, Con K (C k) "SIDE" (.str (if atE k = true then "entry" else "exit")) u
theorem eqV_rf {v : V} (h : flatV v = true) : eqV v v = true := eqV_refl h
mutual
theorem eqo_rf {K : PySem.W.Frag} {cl : Nat → OCls} {H : Hp} : ∀ (d : OD) (v : V), Oh K cl H d v → eqo d d = true
  | .fl w, v, ⟨e, h⟩ => eqV_refl (by rw [← e]; exact e ▸ h)
  | .tup ds, _, ⟨_, xs, _, _, q⟩ => eqoAll_rf ds xs q
  | .lst ds, _, ⟨_, xs, _, _, q⟩ => eqoAll_rf ds xs q
  | .obj k ds, _, ⟨_, _, _, xs, _, _, _, q⟩ => by
    show (k == k && eqoAll ds ds) = true
    rw [beq_self_eq_true, eqoAll_rf ds xs q]
    rfl
theorem eqoAll_rf {K : PySem.W.Frag} {cl : Nat → OCls} {H : Hp} : ∀ (ds : List OD) (xs : List V), OhAll K cl H ds xs → eqoAll ds ds = true
  | [], _, _ => rfl
  | d :: ds, _, ⟨v, vs, _, h, q⟩ => by
    show (eqo d d && eqoAll ds ds) = true
    rw [eqo_rf d v h, eqoAll_rf ds vs q]
    rfl
end
def spRight (K : PySem.W.Frag) (cl : Nat → OCls) : Sp := fun vs H Q _ => ∃ (k : Nat) (ds : List OD) (z : V), vs = [.str (wd k), z] ∧ Part cl k ds ∧ Oh K cl H (.tup ds) z ∧ ∀ H', Same H H' → Q (.bl true) H'
theorem bools5 {K : PySem.W.Frag} {H : Hp} {a : Addr} {b1 b2 b3 b4 b5 : Bool} (h : SqL K H a [.bl b1, .bl b2, .bl b3, .bl b4, .bl b5]) : Dp K H (.ref a) (.list [.bool b1, .bool b2, .bool b3, .bool b4, .bool b5]) :=
  .lst h (.cons (.bl _) (.cons (.bl _) (.cons (.bl _) (.cons (.bl _) (.cons (.bl _) .nil)))))
theorem eqv_bools {l : List Bool} : PyData.eqv (.list (l.map PyData.bool)) (.list (l.map PyData.bool)) = true := SeqAt.eqv_refl _ (by
  show PyData.canLayAll0 (l.map PyData.bool) = true
  induction l with
  | nil => rfl
  | cons a l ih => simp [PyData.canLayAll0, PyData.canLay0, ih])
abbrev GivesAll (P : Program) (w : World) (K : PySem.W.Frag) (mg : Str → Option Value) (base : Heap) (cl : Nat → OCls) (S : Nat → List OD → Prop) : Prop := ∀ X : Cx, X.prog = P → X.w = w → X.K = K → X.mg = mg → X.base = base → OwnGives X cl S
abbrev bl5 (k : Nat) : List V := [.bl (decide (k = 1)), .bl (decide (k = 2)), .bl (decide (k = 3)), .bl (decide (k = 4)), .bl (decide (k = 5))]
theorem own_kit {K : PySem.W.Frag} {mg : Str → Option Value} {C fe : Nat → Addr} (T : Txt K mg C fe) {k j : Nat} (hk : 1 ≤ k ∧ k ≤ 5) (hj : 1 ≤ j ∧ j ≤ 5) : PySem.W.kitOne K (.ref (C k)) (.ref (C j)) = some (decide (k = j)) := by
  have dm : ∀ i, 1 ≤ i ∧ i ≤ 5 → Dm (SS (clk C fe)) i := fun i hi => ⟨List.replicate (nm i).length (.fl .non), .inr ⟨hi.1, hi.2, List.length_replicate, fun d hd => by rw [List.eq_of_mem_replicate hd]; exact ⟨trivial, trivial, Nat.zero_le _⟩⟩⟩
  by_cases h : k = j
  · subst h
    rw [decide_eq_true rfl]
    exact kit_self
  · rw [decide_eq_false h]
    obtain ⟨cd, kc⟩ := T.KT.kc j (by omega)
    refine kit_no kc (T.KT.kt j (by omega)) (T.W.sub j k (dm j hj) (dm k hk) (Ne.symm h)) ?_
    have : C k ≠ C j := fun z => h (T.W.inj k j (dm k hk) (dm j hj) z)
    simpa using this
section
variable {P : Program} {w : World} {K : PySem.W.Frag} {mg : Str → Option Value} {base : Heap} {C fe B : Nat → Addr}
theorem scR : FnScope nR ["_law_word", "_law_some"] (defScope sRight) := ⟨rfl, rfl, rfl, by decide +kernel, rfl, by decide +kernel, by decide +kernel⟩
theorem ok_right {f fM : Addr} {fd fdM : FuncData} (F : Fs K mg "_law_right" sRight ["_law_word", "_law_some"] f fd) (Md : Fs K mg "_law_made" sMade ["_law_word", "_law_some"] fM fdM) (T : Txt K mg C fe) (M : Mks K mg C) (U : Sup K mg C B) (G0 : GivesAll P w K mg base (clk C fe) S0) (int : mg "int" = none) : FnOk P w K mg base CX0 5 f fd ["_law_word", "_law_some"] (spRight K (clk C fe)) := by
  have GM : FnOk P w K mg base CX0 4 fM fdM ["_law_word", "_law_some"] (spMade K (clk C fe)) := ok_made Md T M
  refine F.F.ok scR (fun vs H Q E h => ?_) (fun cdv A outer s H vs Q E hr h => ?_)
  · obtain ⟨k, ds, z, rfl, _⟩ := h
    rfl
  · obtain ⟨kk, ds, z, rfl, hp, hz, k⟩ := h
    have hk : 1 ≤ kk ∧ kk ≤ 5 := ⟨hp.k1, hp.k5⟩
    have hr3 : Room 3 (A.deeper (envOfC "_law_right" (defScope sRight) s.heap.objs.size f cdv)) := hr.mono (by decide)
    have hr2 : Room 2 (A.deeper (envOfC "_law_right" (defScope sRight) s.heap.objs.size f cdv)) := hr.mono (by decide)
    have hu : (cxOf CX0 P w K mg base nR "_law_right" (defScope sRight) f cdv A outer s H E).nox.A.units + 64 < cLine := hr.units
    refine ⟨_, pss_cons (ps_par3 (i := 2) (j := 3) (l := 4) rfl scR.nd rfl rfl rfl (by decide) (by decide) (by decide) rfl rfl rfl (pa_cons (pe_call GM hr (by rfl) Md.m Md.F.kp Md.b .nil pass0 (pa_cons (pv 0) (pa_cons (pv 1) pa_nil)))
          (pa_cons (pe_cmpR op_in_seq (pv 0) (pe_tup (pa_cons pe_str (pa_cons pe_str (pa_cons pe_str pa_nil)))) (by with_unfolding_all rfl)) (pa_cons (pe_cmpR op_in_seq (pv 0) (pe_tup (pa_cons pe_str (pa_cons pe_str (pa_cons pe_str pa_nil)))) (by with_unfolding_all rfl)) pa_nil))) (by rfl))
      (pss_cons (ps_set (i := 5) scR.nd rfl (Or.inl rfl) (pe_lst (pa_cons (pe_callB call_isi (by rfl) T.isi boot_isinstance (pa_cons (pv 2) (pa_cons (pe_glob (v := .ref (B 0)) (by rfl) (U.g 0 (by decide)) rfl) pa_nil))) (pa_cons (pe_callB call_isi (by rfl) T.isi boot_isinstance (pa_cons (pv 2) (pa_cons (pe_glob (v := .ref (B 1)) (by rfl) (U.g 1 (by decide)) rfl) pa_nil))) (pa_cons (pe_callB call_isi (by rfl) T.isi boot_isinstance (pa_cons (pv 2) (pa_cons (pe_glob (v := .ref (B 2)) (by rfl) (U.g 2 (by decide)) rfl) pa_nil))) pa_nil)))))
      (pss_cons (ps_set (i := 5) scR.nd rfl (Or.inl rfl) (pe_op op_cat (pv 5) (pe_lst (pa_cons (pe_callB call_isi (by rfl) T.isi boot_isinstance (pa_cons (pv 2) (pa_cons (pe_glob (v := .ref (B 3)) (by rfl) (U.g 3 (by decide)) rfl) pa_nil))) (pa_cons (pe_callB call_isi (by rfl) T.isi boot_isinstance (pa_cons (pv 2) (pa_cons (pe_glob (v := .ref (B 4)) (by rfl) (U.g 4 (by decide)) rfl) pa_nil))) pa_nil)))))
      (pss_cons (ps_if (PW.pt (pw_or (pt_cmpR (op_neD hu) (pv 5) (pe_lst (pa_cons pe_bl (pa_cons (pv 3) (pa_cons (pe_not (pv 3)) (pa_cons (pv 4) (pa_cons (pe_not (pv 4)) pa_nil)))))) (nomark _))
          (pw_or1 (pt_cmpR op_ne (pe_con (pv 2) (by rfl)) (pe_ix ix_list (pe_lst (pa_cons pe_str (pa_cons pe_str pa_nil))) (pe_callTy call_int1 (by rfl) int (by decide +kernel) (pa_cons (pv 4) pa_nil)) (fun _ _ => rfl)) (nomark _))))) (pss_one (ps_ret pe_bl)) pss_nil)
      (pss_cons (ps_set (i := 6) scR.nd rfl (Or.inl rfl) (pe_lst (pa_cons (pe_callB call_isi (by rfl) T.isi boot_isinstance (pa_cons (pv 2) (pa_cons (pe_glob (v := .ref (C 1)) (by rfl) (U.gC 1 (by decide)) rfl) pa_nil))) (pa_cons (pe_callB call_isi (by rfl) T.isi boot_isinstance (pa_cons (pv 2) (pa_cons (pe_glob (v := .ref (C 2)) (by rfl) (U.gC 2 (by decide)) rfl) pa_nil))) (pa_cons (pe_callB call_isi (by rfl) T.isi boot_isinstance (pa_cons (pv 2) (pa_cons (pe_glob (v := .ref (C 3)) (by rfl) (U.gC 3 (by decide)) rfl) pa_nil))) pa_nil)))))
      (pss_cons (ps_set (i := 6) scR.nd rfl (Or.inl rfl) (pe_op op_cat (pv 6) (pe_lst (pa_cons (pe_callB call_isi (by rfl) T.isi boot_isinstance (pa_cons (pv 2) (pa_cons (pe_glob (v := .ref (C 4)) (by rfl) (U.gC 4 (by decide)) rfl) pa_nil))) (pa_cons (pe_callB call_isi (by rfl) T.isi boot_isinstance (pa_cons (pv 2) (pa_cons (pe_glob (v := .ref (C 5)) (by rfl) (U.gC 5 (by decide)) rfl) pa_nil))) pa_nil)))))
      (pss_cons (ps_if (pt_cmpR (op_neD hu) (pv 6) (pe_lc (own := [("_law_one_here", 7)]) (g := gName 7) (tt := tYes) rfl scR.nd (pi_list (pe_lst (pa_cons pe_str (pa_cons pe_str (pa_cons pe_str (pa_cons pe_str (pa_cons pe_str pa_nil))))))) (blkOk_by (N := nR) (sc := defScope sRight) (by decide +kernel))
          (fun _ _ _ _ _ => pg_name (i := 7) scR.nd rfl (Or.inl rfl)) (fun _ _ _ _ _ => pts_nil) (fun _ _ _ _ _ => pe_cmpR op_eq (pv 0) (pv 7) (nomark _))) (nomark _)) (pss_one (ps_ret pe_bl)) pss_nil)
      (pss_cons (ps_if (pt_val (pv 3)) (pss_one (ps_ret (pe_cmpR (op_eqO (cl := clk C fe) (S := S0) (n := 2) (w0 T) (G0 _ rfl rfl rfl rfl rfl) hr2) (pe_fld (pv 2) (by rfl)) (pe_ix ix_tup (pv 1) pe_int (fun _ _ => rfl)) (nomark _)))) pss_nil)
      (pss_one (ps_ret (pe_and (pe_cmpR (op_eqO (cl := clk C fe) (S := S0) (n := 3) (w0 T) (G0 _ rfl rfl rfl rfl rfl) hr3) (pe_tup (pa_cons (pe_fld (pv 2) (by rfl)) (pa_cons (pe_fld (pv 2) (by rfl)) pa_nil))) (pe_slice sl_tupA (pv 1) po_none (po_some pe_int)) (nomark _))
        (pe_one (pe_or (pe_cmpR op_eq (pv 0) pe_str (nomark _)) (pe_one (pe_cmpR (op_eqO (cl := clk C fe) (S := S0) (n := 2) (w0 T) (G0 _ rfl rfl rfl rfl rfl) hr2) (pe_fld (pv 2) (by rfl)) (pe_ix ix_tup (pv 1) pe_int (fun _ _ => rfl)) (nomark _))))))))))))))), ?_⟩
    obtain ⟨t, xs, rfl, ht, hx⟩ := hz
    have cc := T.cls kk (by omega)
    have e1 : (if false = true then !inV (.str (wd kk)) [V.str "call", .str "new", .str "body"] else inV (.str (wd kk)) [V.str "call", .str "new", .str "body"]) = decide (kk ≤ 3) := by
      have : kk = 1 ∨ kk = 2 ∨ kk = 3 ∨ kk = 4 ∨ kk = 5 := by omega
      rcases this with rfl | rfl | rfl | rfl | rfl <;> decide
    have e2 : (if false = true then !inV (.str (wd kk)) [V.str "call", .str "new", .str "entry"] else inV (.str (wd kk)) [V.str "call", .str "new", .str "entry"]) = atE kk := by
      have : kk = 1 ∨ kk = 2 ∨ kk = 3 ∨ kk = 4 ∨ kk = 5 := by omega
      rcases this with rfl | rfl | rfl | rfl | rfl <;> decide
    refine ⟨_, rfl, _, rfl, kk, ds, .ref t, rfl, hp, ⟨t, xs, rfl, ht, hx⟩, fun a H1 oa na s1 => ⟨_, rfl, le_sz (Nat.le_of_ble_eq_true rfl), fun t1 ht1 => ⟨t1, _, rfl, .inr (SqT.of upd_same), rfl, rfl, ?_⟩⟩⟩
    refine ⟨_, rfl, le_sz (Nat.le_of_ble_eq_true rfl), fun t2 ht2 => ⟨t2, _, rfl, .inr (SqT.of upd_same), rfl, rfl, ?_⟩⟩
    rw [e1, e2]
    refine ⟨_, _, _, rfl, ?_⟩
    obtain ⟨H2, eH2, s2⟩ : ∃ H2, upd (upd H1 t1 (.tup [V.str "call", .str "new", .str "body"])) t2 (.tup [V.str "call", .str "new", .str "entry"]) = H2 ∧ Same H1 H2 := ⟨_, rfl, (new_same ht1).trans (new_same ht2)⟩
    rw [eH2]
    obtain ⟨a', dx, fs, ys, ea, hi1, hn, hq1⟩ := id oa
    cases ea
    obtain ⟨dx', fs', hi1', hsd⟩ := na
    rw [hi1] at hi1'
    cases hi1'
    have hi2 := s2 _ _ hi1
    have ty : ∀ {H' : Hp}, H' a = some (.ins (C kk) dx fs) → TyX K H' (.ref a) (.ref (C kk)) := fun {H'} h => T.KT.ty kk (by omega) H' a dx fs h
    refine ⟨_, rfl, .ref a, .ref (B 0), _, _, _, rfl, .own _, ty hi2, U.kit kk hk 0 (by decide), _, rfl, .ref a, .ref (B 1), _, _, _, rfl, .own _, ty hi2, U.kit kk hk 1 (by decide), _, rfl, .ref a, .ref (B 2), _, _, _, rfl, .own _, ty hi2, U.kit kk hk 2 (by decide), le_sz (Nat.le_of_ble_eq_true rfl), fun l1 hl1 => ?_⟩
    have s3 := new_same (o := .lst [V.bl (supT kk 0), .bl (supT kk 1), .bl (supT kk 2)]) hl1
    have g1 : (upd H2 l1 (.lst [V.bl (supT kk 0), .bl (supT kk 1), .bl (supT kk 2)])) l1 = some (.lst [V.bl (supT kk 0), .bl (supT kk 1), .bl (supT kk 2)]) := upd_same
    obtain ⟨H3, eH3⟩ : ∃ H3, upd H2 l1 (.lst [V.bl (supT kk 0), .bl (supT kk 1), .bl (supT kk 2)]) = H3 := ⟨_, rfl⟩
    rw [eH3] at s3 g1 ⊢
    have hi3 := s3 _ _ hi2
    refine ⟨_, rfl, _, rfl, .ref a, .ref (B 3), _, _, _, rfl, .own _, ty hi3, U.kit kk hk 3 (by decide), _, rfl, .ref a, .ref (B 4), _, _, _, rfl, .own _, ty hi3, U.kit kk hk 4 (by decide), le_sz (Nat.le_of_ble_eq_true rfl), fun l2 hl2 => ?_⟩
    have s4 := new_same (o := .lst [V.bl (supT kk 3), .bl (supT kk 4)]) hl2
    refine ⟨l1, l2, _, _, rfl, rfl, s4 _ _ g1, upd_same, le_sz (Nat.le_of_ble_eq_true rfl), fun l3 hl3 => ?_⟩
    have s5 := s4.trans (new_same (o := .lst ([V.bl (supT kk 0), .bl (supT kk 1), .bl (supT kk 2)] ++ [V.bl (supT kk 3), .bl (supT kk 4)])) hl3)
    have g3 : (upd (upd H3 l2 (.lst [V.bl (supT kk 3), .bl (supT kk 4)])) l3 (.lst ([V.bl (supT kk 0), .bl (supT kk 1), .bl (supT kk 2)] ++ [V.bl (supT kk 3), .bl (supT kk 4)]))) l3 = some (.lst [V.bl (supT kk 0), .bl (supT kk 1), .bl (supT kk 2), .bl (supT kk 3), .bl (supT kk 4)]) := upd_same
    obtain ⟨H5, eH5⟩ : ∃ H5, upd (upd H3 l2 (.lst [V.bl (supT kk 3), .bl (supT kk 4)])) l3 (.lst ([V.bl (supT kk 0), .bl (supT kk 1), .bl (supT kk 2)] ++ [V.bl (supT kk 3), .bl (supT kk 4)])) = H5 := ⟨_, rfl⟩
    rw [eH5] at s5 g3 ⊢
    have hi5 := s5 _ _ hi3
    refine ⟨_, rfl, _, rfl, _, rfl, _, rfl, _, rfl, _, rfl, _, rfl, le_sz (Nat.le_of_ble_eq_true rfl), fun l4 hl4 => ?_⟩
    have s6 := new_same (o := .lst [V.bl true, .bl (decide (kk ≤ 3)), .bl (!decide (kk ≤ 3)), .bl (atE kk), .bl (!atE kk)]) hl4
    refine ⟨_, _, bools5 (SqL.of (s6 _ _ g3)), bools5 (SqL.of upd_same), rfl, rfl, ?_⟩
    rw [show PyData.eqv (.list [.bool (supT kk 0), .bool (supT kk 1), .bool (supT kk 2), .bool (supT kk 3), .bool (supT kk 4)]) (.list [.bool true, .bool (decide (kk ≤ 3)), .bool (!decide (kk ≤ 3)), .bool (atE kk), .bool (!atE kk)]) = true from eqv_bools (l := [true, decide (kk ≤ 3), !decide (kk ≤ 3), atE kk, !atE kk])]
    refine ⟨_, rfl, iteF ?_⟩
    obtain ⟨H6, eH6⟩ : ∃ H6, upd H5 l4 (.lst [V.bl true, .bl (decide (kk ≤ 3)), .bl (!decide (kk ≤ 3)), .bl (atE kk), .bl (!atE kk)]) = H6 := ⟨_, rfl⟩
    rw [eH6] at s6 ⊢
    have hi6 := s6 _ _ hi5
    obtain ⟨us, con⟩ := U.side kk hk
    refine ⟨_, rfl, a, C kk, dx, fs, _, us, rfl, hi6, cc, con, hsd, ?_⟩
    refine ⟨le_sz (Nat.le_of_ble_eq_true rfl), fun l5 hl5 => ⟨_, rfl, .inr ⟨_, rfl, ?_⟩⟩⟩
    have sE : atI [V.str "exit", .str "entry"] (if atE kk = true then 1 else 0) = some (.str (if atE kk = true then "entry" else "exit")) := by
      cases atE kk <;> rfl
    refine ⟨l5, _, _, _, rfl, rfl, SqL.of upd_same, sE, by rfl, _, rfl, ?_⟩
    have eN : (!decide (V.str (if atE kk = true then "entry" else "exit") = V.str (if atE kk = true then "entry" else "exit"))) = false := by rw [decide_eq_true rfl]; rfl
    rw [eN]
    refine iteF ?_
    have s7 := s6.trans (new_same (o := .lst [V.str "exit", .str "entry"]) hl5)
    obtain ⟨H7, eH7⟩ : ∃ H7, upd H6 l5 (.lst [V.str "exit", .str "entry"]) = H7 := ⟨_, rfl⟩
    rw [eH7] at s7 ⊢
    have hi7 := s7 _ _ hi5
    refine ⟨_, rfl, .ref a, .ref (C 1), _, _, _, rfl, .own _, ty hi7, own_kit T hk (j := 1) (by decide), _, rfl, .ref a, .ref (C 2), _, _, _, rfl, .own _, ty hi7, own_kit T hk (j := 2) (by decide), _, rfl, .ref a, .ref (C 3), _, _, _, rfl, .own _, ty hi7, own_kit T hk (j := 3) (by decide), le_sz (Nat.le_of_ble_eq_true rfl), fun l6 hl6 => ?_⟩
    have s8 := new_same (o := .lst [V.bl (decide (kk = 1)), .bl (decide (kk = 2)), .bl (decide (kk = 3))]) hl6
    have g6 : (upd H7 l6 (.lst [V.bl (decide (kk = 1)), .bl (decide (kk = 2)), .bl (decide (kk = 3))])) l6 = some (.lst [V.bl (decide (kk = 1)), .bl (decide (kk = 2)), .bl (decide (kk = 3))]) := upd_same
    obtain ⟨H8, eH8⟩ : ∃ H8, upd H7 l6 (.lst [V.bl (decide (kk = 1)), .bl (decide (kk = 2)), .bl (decide (kk = 3))]) = H8 := ⟨_, rfl⟩
    rw [eH8] at s8 g6 ⊢
    have hi8 := s8 _ _ hi7
    refine ⟨_, rfl, _, rfl, .ref a, .ref (C 4), _, _, _, rfl, .own _, ty hi8, own_kit T hk (j := 4) (by decide), _, rfl, .ref a, .ref (C 5), _, _, _, rfl, .own _, ty hi8, own_kit T hk (j := 5) (by decide), le_sz (Nat.le_of_ble_eq_true rfl), fun l7 hl7 => ?_⟩
    have s9 := new_same (o := .lst [V.bl (decide (kk = 4)), .bl (decide (kk = 5))]) hl7
    refine ⟨l6, l7, _, _, rfl, rfl, s9 _ _ g6, upd_same, le_sz (Nat.le_of_ble_eq_true rfl), fun l8 hl8 => ?_⟩
    have s10 := s9.trans (new_same (o := .lst ([V.bl (decide (kk = 1)), .bl (decide (kk = 2)), .bl (decide (kk = 3))] ++ [V.bl (decide (kk = 4)), .bl (decide (kk = 5))])) hl8)
    have g8 : (upd (upd H8 l7 (.lst [V.bl (decide (kk = 4)), .bl (decide (kk = 5))])) l8 (.lst ([V.bl (decide (kk = 1)), .bl (decide (kk = 2)), .bl (decide (kk = 3))] ++ [V.bl (decide (kk = 4)), .bl (decide (kk = 5))]))) l8 = some (.lst (bl5 kk)) := upd_same
    obtain ⟨H10, eH10⟩ : ∃ H10, upd (upd H8 l7 (.lst [V.bl (decide (kk = 4)), .bl (decide (kk = 5))])) l8 (.lst ([V.bl (decide (kk = 1)), .bl (decide (kk = 2)), .bl (decide (kk = 3))] ++ [V.bl (decide (kk = 4)), .bl (decide (kk = 5))])) = H10 := ⟨_, rfl⟩
    rw [eH10] at s10 g8 ⊢
    have hi10 := s10 _ _ hi8
    refine ⟨_, rfl, le_sz (Nat.le_of_ble_eq_true rfl), fun l9 hl9 => ⟨l9, rfl, ⟨_, SqL.of upd_same⟩, fun D hD => ?_⟩⟩
    have s11 := new_same (o := .lst [V.str "call", .str "new", .str "body", .str "entry", .str "exit"]) hl9
    have g9 : (upd H10 l9 (.lst [V.str "call", .str "new", .str "body", .str "entry", .str "exit"])) l9 = some (.lst [V.str "call", .str "new", .str "body", .str "entry", .str "exit"]) := upd_same
    obtain ⟨H11, eH11⟩ : ∃ H11, upd H10 l9 (.lst [V.str "call", .str "new", .str "body", .str "entry", .str "exit"]) = H11 := ⟨_, rfl⟩
    rw [eH11] at s11 g9 hD ⊢
    refine lc_it (walk_list (xs := [V.str "call", .str "new", .str "body", .str "entry", .str "exit"])) (fun i H2 => Same H11 H2 ∧ H2 D = some (.lst ((bl5 kk).take i))) ⟨new_same hD, upd_same⟩ (fun i H2 _ h => SqL.of (h.1 _ _ g9)) ?_ ?_
    · rintro i x H12 H13 hi ⟨s12, gD⟩ ⟨rfl, hx'⟩
      refine ⟨rfl, yes_of ?_⟩
      have hi' : i < 5 := hi
      obtain ⟨j, ej⟩ : ∃ j, j = i + 1 := ⟨_, rfl⟩
      have hxw : x = .str (wd j) := by
        have : i = 0 ∨ i = 1 ∨ i = 2 ∨ i = 3 ∨ i = 4 := by omega
        rcases this with rfl | rfl | rfl | rfl | rfl <;> (subst ej; exact (Option.some.inj hx').symm)
      subst hxw
      refine ⟨_, rfl, _, rfl, rfl, _, gD, small1000 (by rw [List.length_take]; show min i 5 ≤ 1000; omega), same_upd hD s12, ?_⟩
      rw [upd_same, wd_eq hk (j := j) (by omega), List.take_add_one]
      have eb : (bl5 kk)[i]? = some (.bl (decide (kk = j))) := by
        have : i = 0 ∨ i = 1 ∨ i = 2 ∨ i = 3 ∨ i = 4 := by omega
        rcases this with rfl | rfl | rfl | rfl | rfl <;> (subst ej; rfl)
      rw [eb]
      rfl
    rintro H12 ⟨s12, gD⟩
    have gD' : H12 D = some (.lst (bl5 kk)) := gD
    have hi12 := s12 _ _ (s11 _ _ hi10)
    refine ⟨_, _, bools5 (SqL.of (s12 _ _ (s11 _ _ g8))), bools5 (SqL.of gD'), rfl, rfl, ?_⟩
    rw [show PyData.eqv (.list [.bool (decide (kk = 1)), .bool (decide (kk = 2)), .bool (decide (kk = 3)), .bool (decide (kk = 4)), .bool (decide (kk = 5))]) (.list [.bool (decide (kk = 1)), .bool (decide (kk = 2)), .bool (decide (kk = 3)), .bool (decide (kk = 4)), .bool (decide (kk = 5))]) = true from eqv_bools (l := [decide (kk = 1), decide (kk = 2), decide (kk = 3), decide (kk = 4), decide (kk = 5)])]
    refine ⟨_, rfl, iteF ?_⟩
    have sAll : Same H H12 := ((((((s1.trans s2).trans s3).trans s5).trans (s7)).trans s8).trans s10).trans (s11.trans s12)
    have sA : Same H1 H12 := (((((s2.trans s3).trans s5).trans s7).trans s8).trans s10).trans (s11.trans s12)
    have oa12 := Oh.sm sA oa
    have hx12 := OhAll.sm sAll hx
    have ht12 := SqT.same sAll ht
    have hq12 := OhAll.sm sA hq1
    refine ⟨_, rfl, _, rfl, ?_⟩
    by_cases h3 : kk ≤ 3
    case pos =>
      rw [decide_eq_true h3]
      have en : nm kk = (["site"] : List Str) := by
        have : kk = 1 ∨ kk = 2 ∨ kk = 3 := by omega
        rcases this with rfl | rfl | rfl <;> rfl
      have hn' : [fs.lookup ("site" : Str)] = ys.map some := by
        have h := hn
        rw [show (clk C fe kk).names = (["site"] : List Str) from en] at h
        exact h
      have hl := hp.len
      rw [en] at hl
      have n0 := T.no kk (by omega)
      rw [en] at n0
      obtain ⟨d0, v0, rfl, rfl, o0⟩ := ohl1 hl hx12
      obtain ⟨d1, v1, e, l1', o1⟩ := oh1 hn' hq12
      cases e
      obtain ⟨p0, t0, z0⟩ := hp.fit d0 (by simp)
      refine iteT ⟨_, rfl, a, C kk, dx, fs, _, rfl, hi12, cc, n0 _ (by simp), l1', _, rfl, t, _, 0, v0, rfl, rfl, ht12, rfl, d0, d0, o1, o0, p0, p0, z0, z0, noL_lst t0, noL_lst t0, fun H' e' => ?_⟩
      rw [eqo_rf d0 v0 o0]
      exact k H' (sAll.trans e')
    case neg =>
    rw [decide_eq_false h3]
    refine iteF ?_
    by_cases h4 : kk = 4
    case pos =>
      subst h4
      obtain ⟨d0, d1, v0, v1, rfl, rfl, o0, o1⟩ := ohl2 hp.len hx12
      obtain ⟨_, _, w0', w1, e, m0, m1, r0, r1⟩ := oh2 hn hq12
      cases e
      have n0 := T.no 4 (by decide)
      obtain ⟨p0, t0, z0⟩ := hp.fit d0 (by simp)
      obtain ⟨p1, t1', z1⟩ := hp.fit d1 (by simp)
      refine ⟨_, rfl, a, C 4, dx, fs, _, rfl, hi12, cc, n0 _ (by decide), m0, _, rfl, a, C 4, dx, fs, _, rfl, hi12, cc, n0 _ (by decide), m1, le_sz (Nat.le_of_ble_eq_true rfl), fun u1 hu1 => ?_⟩
      obtain ⟨ou1, su1⟩ := tup_new (K := K) (cl := clk C fe) (ds := [d0, d1]) (xs := [w0', w1]) hu1 (oh_cons r0 (oh_cons r1 oh_nil))
      obtain ⟨H14, eH14⟩ : ∃ H14, upd H12 u1 (.tup [w0', w1]) = H14 := ⟨_, rfl⟩
      rw [eH14] at ou1 su1 ⊢
      have nd : needAll (clk C fe) [d0, d1] + 1 ≤ 3 := by
        show max (need (clk C fe) d0) (max (need (clk C fe) d1) 0) + 1 ≤ 3
        omega
      refine ⟨_, rfl, _, rfl, t, _, rfl, SqT.same su1 ht12, fun _ => ?_, fun h => absurd ⟨rfl, rfl⟩ h⟩
      refine ⟨.tup [d0, d1], .tup [d0, d1], ou1, oh_tup (SqT.same su1 ht12) (OhAll.sm su1 hx12), ⟨p0, p1, trivial⟩, ⟨p0, p1, trivial⟩, nd, nd, trivial, trivial, fun H' e' => ⟨_, rfl, ?_⟩⟩
      rw [eqo_rf _ _ ou1]
      refine iteT ⟨_, rfl, rfl, _, rfl, iteT ?_⟩
      exact k H' ((sAll.trans su1).trans e')
    case neg =>
    have h5 : kk = 5 := by omega
    subst h5
    obtain ⟨d0, d1, d2, v0, v1, v2, rfl, rfl, o0, o1, o2⟩ := ohl3 hp.len hx12
    obtain ⟨_, _, _, w0', w1, w2, e, m0, m1, m2, r0, r1, r2⟩ := oh3 hn hq12
    cases e
    have n0 := T.no 5 (by decide)
    obtain ⟨p0, t0, z0⟩ := hp.fit d0 (by simp)
    obtain ⟨p1, t1', z1⟩ := hp.fit d1 (by simp)
    obtain ⟨p2, t2', z2⟩ := hp.fit d2 (by simp)
    refine ⟨_, rfl, a, C 5, dx, fs, _, rfl, hi12, cc, n0 _ (by decide), m0, _, rfl, a, C 5, dx, fs, _, rfl, hi12, cc, n0 _ (by decide), m1, le_sz (Nat.le_of_ble_eq_true rfl), fun u1 hu1 => ?_⟩
    obtain ⟨ou1, su1⟩ := tup_new (K := K) (cl := clk C fe) (ds := [d0, d1]) (xs := [w0', w1]) hu1 (oh_cons r0 (oh_cons r1 oh_nil))
    obtain ⟨H14, eH14⟩ : ∃ H14, upd H12 u1 (.tup [w0', w1]) = H14 := ⟨_, rfl⟩
    rw [eH14] at ou1 su1 ⊢
    have nd : needAll (clk C fe) [d0, d1] + 1 ≤ 3 := by
      show max (need (clk C fe) d0) (max (need (clk C fe) d1) 0) + 1 ≤ 3
      omega
    refine ⟨_, rfl, _, rfl, t, _, rfl, SqT.same su1 ht12, fun h => absurd h.2 (by show ¬ HT.sIx 3 3 (some 2) = 3; decide), fun _ u2 hu2 => ?_⟩
    obtain ⟨ou2, su2⟩ := tup_new (K := K) (cl := clk C fe) (ds := [d0, d1]) (xs := [v0, v1]) hu2 (oh_cons (Oh.sm su1 o0) (oh_cons (Oh.sm su1 o1) oh_nil))
    refine ⟨.tup [d0, d1], .tup [d0, d1], Oh.sm su2 ou1, ou2, ⟨p0, p1, trivial⟩, ⟨p0, p1, trivial⟩, nd, nd, trivial, trivial, fun H' e' => ⟨_, rfl, ?_⟩⟩
    rw [eqo_rf _ _ ou1]
    have sE' : Same H12 H' := (su1.trans su2).trans e'
    refine iteT ⟨_, rfl, rfl, _, rfl, iteF ⟨_, rfl, a, C 5, dx, fs, _, rfl, sE' _ _ hi12, cc, n0 _ (by decide), m2, _, rfl, t, _, 2, v2, rfl, rfl, SqT.same sE' ht12, rfl, d2, d2, Oh.sm sE' r2, Oh.sm sE' o2, p2, p2, z2, z2, noL_lst t2', noL_lst t2', fun H'' e'' => ?_⟩⟩
    rw [eqo_rf d2 v2 o2]
    exact k H'' ((sAll.trans sE').trans e'')
end
end Kx
set_option linter.all false
namespace Kx
open PySem L2 PySem.Spec PyProof.Rows
abbrev sLaw : Stmt := top 28
abbrev nL : List PySem.Str := ["_law_script", "_law_cell", "_law_well_here", "_law_row", "_law_word", "_law_some", "_law_other", "_law_more", "_law_k"]
theorem cut_mem {xs : List V} {lo hi : Option Int} : ∀ v ∈ cutV xs lo hi, v ∈ xs := fun v h => List.mem_of_mem_drop (List.mem_of_mem_take h)
mutual
theorem okO_mono {S S' : Nat → List OD → Prop} (h : ∀ k ds, S k ds → S' k ds) : ∀ (d : OD), okO S d → okO S' d
  | .fl _, _ => trivial
  | .tup xs, o => okAll_mono h xs o
  | .lst xs, o => okAll_mono h xs o
  | .obj k xs, o => ⟨h k xs o.1, okAll_mono h xs o.2⟩
theorem okAll_mono {S S' : Nat → List OD → Prop} (h : ∀ k ds, S k ds → S' k ds) : ∀ (ds : List OD), okAll S ds → okAll S' ds
  | [], _ => trivial
  | d :: ds, o => ⟨okO_mono h d o.1, okAll_mono h ds o.2⟩
end
theorem fit_ok {C f : Nat → Addr} : ∀ {ds : List OD}, (∀ d ∈ ds, Fit (clk C f) d) → okAll (SS (clk C f)) ds
  | [], _ => trivial
  | d :: ds, h => ⟨okO_mono (fun _ _ z => .inl z) d (h d List.mem_cons_self).1, fit_ok fun e he => h e (List.mem_cons_of_mem _ he)⟩
theorem fit_need {C f : Nat → Addr} : ∀ {ds : List OD}, (∀ d ∈ ds, Fit (clk C f) d) → needAll (clk C f) ds ≤ 2
  | [], _ => Nat.zero_le _
  | d :: ds, h => by
    have h1 := (h d List.mem_cons_self).2.2
    have h2 := fit_need fun e he => h e (List.mem_cons_of_mem _ he)
    show max _ _ ≤ 2
    omega
theorem fit_noL {C f : Nat → Addr} {ds : List OD} (h : ∀ d ∈ ds, Fit (clk C f) d) : noLs ds := noLs_of fun d hd => (h d hd).2.1
theorem part_ss {C f : Nat → Addr} {k : Nat} {ds : List OD} (p : Part (clk C f) k ds) : okO (SS (clk C f)) (.obj k ds) := ⟨.inr ⟨p.k1, p.k5, p.len, p.fit⟩, fit_ok p.fit⟩
theorem part_eq {C f : Nat → Addr} {k l : Nat} {ds es : List OD} (p : Part (clk C f) k ds) (q : Part (clk C f) l es) : eqo (.obj k ds) (.obj l es) = eqo (odP k ds) (odP l es) := by
  show (k == l && eqoAll ds es) = (eqV (.str (wd k)) (.str (wd l)) && (eqoAll ds es && true))
  rw [← dec_str, wd_eq ⟨p.k1, p.k5⟩ ⟨q.k1, q.k5⟩, Bool.and_true]
  rfl
theorem part_need {C f : Nat → Addr} {k : Nat} {ds : List OD} (p : Part (clk C f) k ds) : needAll (clk C f) [.fl (.str (wd k)), .tup ds] + 1 ≤ 4 := by
  have := fit_need p.fit
  show max 0 (max (needAll (clk C f) ds + 1) 0) + 1 ≤ 4
  omega
/-- the row of words and parts -/
def RowAt (K : PySem.W.Frag) (cl : Nat → OCls) (H : Hp) (xs : List V) : Prop := ∀ x ∈ xs, ∃ k ds, Part cl k ds ∧ Oh K cl H (odP k ds) x
theorem RowAt.same {K : PySem.W.Frag} {cl : Nat → OCls} {H H' : Hp} {xs : List V} (s : Same H H') (h : RowAt K cl H xs) : RowAt K cl H' xs := fun x hx => let ⟨k, ds, p, o⟩ := h x hx; ⟨k, ds, p, Oh.sm s o⟩
theorem odP_noL {C f : Nat → Addr} {k : Nat} {ds : List OD} (p : Part (clk C f) k ds) : noL (odP k ds) := ⟨trivial, fit_noL p.fit, trivial⟩
theorem odP_at {K : PySem.W.Frag} {cl : Nat → OCls} {H : Hp} {k : Nat} {ds : List OD} {x : V} (o : Oh K cl H (odP k ds) x) : ∃ t z, x = .ref t ∧ SqT K H t [.str (wd k), z] ∧ Oh K cl H (.tup ds) z := by
  obtain ⟨t, xs, rfl, ht, hx⟩ := o
  obtain ⟨d, c, v, u, e, rfl, o1, o2⟩ := ohl2 rfl hx
  cases e
  obtain ⟨rfl, _⟩ := o1
  exact ⟨t, u, rfl, ht, o2⟩
theorem RowAt.keepB {K : PySem.W.Frag} {C f : Nat → Addr} {H H' : Hp} {p : Addr} {ms xs : List V} (hp : H p = some (.lst ms)) (k : KeepB p H H') (h : RowAt K (clk C f) H xs) : RowAt K (clk C f) H' xs := fun x hx => let ⟨j, ds, q, o⟩ := h x hx; ⟨j, ds, q, Oh.keepB hp k _ _ (odP_noL q) o⟩
theorem KeepB.updN {p D : Addr} {H H' : Hp} {o : HO} (k : KeepB p H H') (hD : H D = none) : KeepB p H (upd H' D o) := fun b u n z => by
  have : b ≠ D := fun e => by rw [e, hD] at z; cases z
  rw [upd_ne this]
  exact k b u n z
theorem WellAt.updN {p D : Addr} {H : Hp} {n : Int} {o : HO} (h : WellAt H p n) (hD : D ≠ p) : WellAt (upd H D o) p n := let ⟨a, b, c, e, r⟩ := h; ⟨a, b, c, by rw [upd_ne (Ne.symm hD)]; exact e, r⟩
theorem nm_le {cl : Nat → OCls} {k : Nat} {ds : List OD} (h : Part cl k ds) : ds.length ≤ 3 := by
  rw [h.len]
  have := h.k1; have := h.k5
  have hh : k = 1 ∨ k = 2 ∨ k = 3 ∨ k = 4 ∨ k = 5 := by omega
  rcases hh with rfl | rfl | rfl | rfl | rfl <;> decide
theorem nm_ge {cl : Nat → OCls} {k : Nat} {ds : List OD} (h : Part cl k ds) : 1 ≤ ds.length := by
  rw [h.len]
  have := h.k1; have := h.k5
  have hh : k = 1 ∨ k = 2 ∨ k = 3 ∨ k = 4 ∨ k = 5 := by omega
  rcases hh with rfl | rfl | rfl | rfl | rfl <;> decide
theorem oh_take {K : PySem.W.Frag} {cl : Nat → OCls} {H : Hp} : ∀ {ds : List OD} {xs : List V} (m : Nat), OhAll K cl H ds xs → OhAll K cl H (ds.take m) (xs.take m)
  | _, _, 0, _ => rfl
  | [], _, m + 1, h => by cases h; rfl
  | d :: ds, _, m + 1, ⟨v, vs, e, h, q⟩ => by cases e; exact ⟨v, vs.take m, rfl, h, oh_take m q⟩
theorem sl_od {K : PySem.W.Frag} {cl : Nat → OCls} {H : Hp} {u : Addr} {ds : List OD} {xs : List V} {Q : VK} {m : Nat} (hu : SqT K H u xs) (hx : OhAll K cl H ds xs) (hm : m ≤ ds.length) (k : ∀ t H', Oh K cl H' (.tup (ds.take m)) (.ref t) → Same H H' → Q (.ref t) H') : rSlA K (.ref u) none (some (m : Int)) H Q := by
  have l := OhAll.length ds xs hx
  have e1 : HT.sIx xs.length xs.length (some (m : Int)) = m := by
    rw [HT.sIx_nat]
    omega
  refine ⟨u, xs, rfl, hu, fun h => ?_, fun _ p hp => ?_⟩
  · rw [e1] at h
    have : ds.take m = ds := List.take_of_length_le (by omega)
    rw [this] at k
    exact k u H (oh_tup hu hx) fun _ _ z => z
  · have e : cutV xs none (some (m : Int)) = xs.take m := by
      unfold cutV
      rw [e1, HT.sIx_none]
      simp
    rw [e]
    exact k p _ (oh_tup (SqT.of upd_same) (OhAll.sm (new_same hp) (oh_take m hx))) (new_same hp)
structure LawOf (K : PySem.W.Frag) (mg : PySem.Str → Option Value) (C fe B : Nat → Addr) (fi : Addr) (fdi : FuncData) : Prop where
  T : Txt K mg C fe
  M : Mks K mg C
  U : Sup K mg C B
  D : Drw K mg
  Sl : SlotMk K mg C fi fdi
  rng : mg "range" = none
  int : mg "int" = none
  nn : ∀ k, 1 ≤ k ∧ k ≤ 5 → NoNe K (C k)
  parts : ∃ f fd, Fs K mg "_law_parts" sParts ["_law_well_here"] f fd
  made : ∃ f fd, Fs K mg "_law_made" sMade ["_law_word", "_law_some"] f fd
  right : ∃ f fd, Fs K mg "_law_right" sRight ["_law_word", "_law_some"] f fd
  e0 : ∃ fd, Fun K "__eq__" "Slot.__eq__" sEq0 (fe 0) fd ∧ Binds K fd ["self", "other"] []
  e1 : ∃ fd, Fun K "__eq__" "CallCheck.__eq__" sEq1 (fe 1) fd ∧ Binds K fd ["self", "other"] []
  e2 : ∃ fd, Fun K "__eq__" "NewCheck.__eq__" sEq2 (fe 2) fd ∧ Binds K fd ["self", "other"] []
  e3 : ∃ fd, Fun K "__eq__" "BodyCheck.__eq__" sEq3 (fe 3) fd ∧ Binds K fd ["self", "other"] []
  e4 : ∃ fd, Fun K "__eq__" "HeirEntry.__eq__" sEq4 (fe 4) fd ∧ Binds K fd ["self", "other"] []
  e5 : ∃ fd, Fun K "__eq__" "HeirExit.__eq__" sEq5 (fe 5) fd ∧ Binds K fd ["self", "other"] []
  sd3 : ∃ mc u, ClX.CRead K (B 3) mc ∧ ClX.CVal K (B 3) mc "SIDE" (.str "entry") u
  sd4 : ∃ mc u, ClX.CRead K (B 4) mc ∧ ClX.CVal K (B 4) mc "SIDE" (.str "exit") u
section
variable {P : Program} {w : World} {K : PySem.W.Frag} {mg : PySem.Str → Option Value} {base : Heap} {C fe B : Nat → Addr} {fi : Addr} {fdi : FuncData}
theorem gives0 (M : LawOf K mg C fe B fi fdi) : GivesAll P w K mg base (clk C fe) S0 := by
  intro X h1 h2 h3 h4 h5
  subst h1 h2 h3 h4 h5
  intro k ds hk A pins s σ H a e y v sb I ry h he oD oE
  obtain ⟨fd, F, b⟩ := M.e0
  have k0 : k = 0 := hk.1
  subst k0
  exact own_run (E := E0) (ok_eq0 F M.T (fun l es h => by rw [h.1]; decide) (w0 M.T) (fun _ h => h) M.Sl.g) b pass0 hk sb I ry h he oD oE
theorem givesS (M : LawOf K mg C fe B fi fdi) : GivesAll P w K mg base (clk C fe) (SS (clk C fe)) := by
  intro X h1 h2 h3 h4 h5
  subst h1 h2 h3 h4 h5
  intro k ds hk A pins s σ H a e y v sb I ry h he oD oE
  have G0 : GivesAll X.prog X.w X.K X.mg X.base (clk C fe) S0 := gives0 M
  have k6 := ss_lt hk
  have : k = 0 ∨ k = 1 ∨ k = 2 ∨ k = 3 ∨ k = 4 ∨ k = 5 := by omega
  rcases this with rfl | rfl | rfl | rfl | rfl | rfl
  · obtain ⟨fd, F, b⟩ := M.e0
    exact own_run (E := E0) (ok_eq0 F M.T (fun _ _ => ss_lt) M.T.W (fun ds h => by
      rcases h with h | ⟨h, _⟩
      · exact h
      · cases h) M.Sl.g) b pass0 hk sb I ry h he oD oE
  · obtain ⟨fd, F, b⟩ := M.e1
    exact own_run (E := E0) (ok_eq1 F M.T G0 (M.U.gC 1 (by decide))) b pass0 hk sb I ry h he oD oE
  · obtain ⟨fd, F, b⟩ := M.e2
    exact own_run (E := E0) (ok_eq2 F M.T G0 (M.U.gC 2 (by decide))) b pass0 hk sb I ry h he oD oE
  · obtain ⟨fd, F, b⟩ := M.e3
    exact own_run (E := E0) (ok_eq3 F M.T G0 (M.U.gC 3 (by decide))) b pass0 hk sb I ry h he oD oE
  · obtain ⟨fd, F, b⟩ := M.e4
    exact own_run (E := E0) (ok_eq4 F M.T G0 (M.U.gC 4 (by decide))) b pass0 hk sb I ry h he oD oE
  · obtain ⟨fd, F, b⟩ := M.e5
    exact own_run (E := E0) (ok_eq5 F M.T G0 (M.U.gC 5 (by decide))) b pass0 hk sb I ry h he oD oE
theorem scL : FnScope nL ["_law_script"] (defScope sLaw) := ⟨rfl, rfl, rfl, by decide +kernel, rfl, by decide +kernel, by decide +kernel⟩
theorem law_body {a : Addr} {ns : List Int} (M : LawOf K mg C fe B fi fdi) (f : Addr) (cdv : Value) (A : Around) (outer : List Env) (s : Shared) (H : Hp) (E : XK) (hr : Room 9 (A.deeper (envOfC "law" (defScope sLaw) s.heap.objs.size f cdv)))
    (hS : SqL K H a (ns.map V.int)) (hn : ns.length ≤ 63) : ∃ t, PSs (cxOf CX0 P w K mg base nL "law" (defScope sLaw) f cdv A outer s H E).nox (defBody sLaw) t ∧ t { nx := fun _ _ => V.non = V.bl true, rt := fun v _ => v = V.bl true } (start nL [.ref a]) H := by
  obtain ⟨_, _, dW⟩ := M.D.well
  obtain ⟨_, _, dD⟩ := M.D.draw
  obtain ⟨_, _, dO⟩ := M.D.one
  obtain ⟨_, _, dP⟩ := M.parts
  obtain ⟨_, _, dM⟩ := M.made
  obtain ⟨_, _, dR⟩ := M.right
  have G0 : GivesAll P w K mg base (clk C fe) S0 := gives0 M
  have GS : GivesAll P w K mg base (clk C fe) (SS (clk C fe)) := givesS M
  have GW : FnOk P w K mg base CX0 1 _ _ ["_law_cell"] spWell := ok_well dW.F M.D.T
  have GO : FnOk P w K mg base CX0 2 _ _ ["_law_well_here", "_law_some"] (spOne K) := ok_one dO.F M.D.T dD.F dD.b dD.m
  have GP : FnOk P w K mg base CX0 3 _ _ ["_law_well_here"] (spParts K (clk C fe)) := ok_parts dP M.D M.T M.Sl
  have GM : FnOk P w K mg base CX0 4 _ _ ["_law_word", "_law_some"] (spMade K (clk C fe)) := ok_made dM M.T M.M
  have GR : FnOk P w K mg base CX0 5 _ _ ["_law_word", "_law_some"] (spRight K (clk C fe)) := ok_right dR dM M.T M.M M.U G0 M.int
  have hr1 : Room 1 _ := hr.mono (by decide)
  have hr2 : Room 2 _ := hr.mono (by decide)
  have hr3 : Room 3 _ := hr.mono (by decide)
  have hr4 : Room 4 _ := hr.mono (by decide)
  have hr5 : Room 5 _ := hr.mono (by decide)
  have hu : (cxOf CX0 P w K mg base nL "law" (defScope sLaw) f cdv A outer s H E).nox.A.units + 64 < cLine := hr.units
  refine ⟨_, (pss_cons (ps_for PassesOwn.never rfl (pi_list (pe_op op_cat (pe_slice sl_list (pv 0) po_none (po_some pe_int)) (pe_lst (pa_cons pe_int pa_nil)))) (pg_name (i := 1) scL.nd rfl (Or.inl rfl)) (pss_cons (ps_set (i := 2) scL.nd rfl (Or.inr rfl) (pe_call GW hr1 (by rfl) dW.m dW.F.kp dW.b .nil pass0 (pa_cons (pv 1) pa_nil))) (pss_cons (ps_setLc (i := 3) (own := [("_law_k", 8)]) (g := gName 8) (tt := tYes) (te := tCall (spParts K (clk C fe)) [] E0 (tCons (tVar 2) tNil)) rfl scL.nd rfl rfl (sw_true rfl rfl rfl rfl) (pi_range1 rfl M.rng (pa_cons pe_int pa_nil)) (blkOk_by (N := nL) (sc := defScope sLaw) (by decide +kernel)) (fun _ _ _ _ _ => pg_name (i := 8) scL.nd rfl (Or.inl rfl)) (fun _ _ _ _ _ => pts_nil) (fun _ _ _ _ _ => (pe_call GP hr3 (by rfl) dP.m dP.F.kp dP.b .nil pass0 (pa_cons (pv 2) pa_nil)))) (pss_cons (ps_expr (pe_bm PySem.F.plainAttrs_list PySem.F.slot_list_append PySem.F.type_list_append mt_append (pv 3) (pa_cons (pe_tup (pa_cons (pe_call GO hr2 (by rfl) dO.m dO.F.kp dO.b .nil pass0 (pa_cons (pv 2) (pa_cons (pe_lst (pa_cons pe_str (pa_cons pe_str (pa_cons pe_str pa_nil)))) pa_nil))) (pa_cons (pe_slice sl_tupA (pe_ix ix_tup (pe_ix ix_list (pv 3) pe_int (fun _ _ => rfl)) pe_int (fun _ _ => rfl)) po_none (po_some pe_int)) pa_nil))) pa_nil))) (pss_cons (ps_expr (pe_bm PySem.F.plainAttrs_list PySem.F.slot_list_append PySem.F.type_list_append mt_append (pv 3) (pa_cons (pe_tup (pa_cons pe_str (pa_cons (pe_slice sl_tupA (pe_op op_catA (pe_ix ix_tup (pe_ix ix_list (pv 3) pe_int (fun _ _ => rfl)) pe_int (fun _ _ => rfl)) (pe_tup (pa_cons pe_non pa_nil))) po_none (po_some pe_int)) pa_nil))) pa_nil))) (pss_one (ps_for PassesOwn.never rfl (pi_list (pv 3)) (pg_tup rfl (pgs_cons (pg_name (i := 4) scL.nd rfl (Or.inl rfl)) (pgs_cons (pg_name (i := 5) scL.nd rfl (Or.inl rfl)) pgs_nil))) (pss_cons (ps_if (PW.pt (pw_or (pt_not (pt_val (pe_call GR hr5 (by rfl) dR.m dR.F.kp dR.b .nil pass0 (pa_cons (pv 4) (pa_cons (pv 5) pa_nil))))) (pw_or (pt_cmpR (op_eqO (cl := clk C fe) (S := SS (clk C fe)) (n := 4) M.T.W (GS _ rfl rfl rfl rfl rfl) hr4) (pe_call GM hr4 (by rfl) dM.m dM.F.kp dM.b .nil pass0 (pa_cons (pv 4) (pa_cons (pv 5) pa_nil))) (pe_op op_catA (pe_tup (pa_cons (pv 4) pa_nil)) (pv 5)) (nomark _)) (pw_or1 (pt_cmpR (op_eqO (cl := clk C fe) (S := SS (clk C fe)) (n := 4) M.T.W (GS _ rfl rfl rfl rfl rfl) hr4) (pe_call GM hr4 (by rfl) dM.m dM.F.kp dM.b .nil pass0 (pa_cons (pv 4) (pa_cons (pv 5) pa_nil))) (pv 4) (nomark _)))))) (pss_one (ps_ret pe_bl)) pss_nil) (pss_one (ps_for PassesOwn.never rfl (pi_list (pv 3)) (pg_tup rfl (pgs_cons (pg_name (i := 6) scL.nd rfl (Or.inl rfl)) (pgs_cons (pg_name (i := 7) scL.nd rfl (Or.inl rfl)) pgs_nil))) (pss_cons (ps_if (pt_cmpR op_ne (pe_cmpR (op_eqO (cl := clk C fe) (S := SS (clk C fe)) (n := 4) M.T.W (GS _ rfl rfl rfl rfl rfl) hr4) (pe_call GM hr4 (by rfl) dM.m dM.F.kp dM.b .nil pass0 (pa_cons (pv 4) (pa_cons (pv 5) pa_nil))) (pe_call GM hr4 (by rfl) dM.m dM.F.kp dM.b .nil pass0 (pa_cons (pv 6) (pa_cons (pv 7) pa_nil))) (nomark _)) (pe_cmpR (op_eqO (cl := clk C fe) (S := SS (clk C fe)) (n := 4) M.T.W (GS _ rfl rfl rfl rfl rfl) hr4) (pe_tup (pa_cons (pv 4) (pa_cons (pv 5) pa_nil))) (pe_tup (pa_cons (pv 6) (pa_cons (pv 7) pa_nil))) (nomark _)) (nomark _)) (pss_one (ps_ret pe_bl)) pss_nil) (pss_one (ps_if (pt_cmpR op_ne (pe_cmpR (op_neOO (cl := clk C fe) (S := SS (clk C fe)) (n := 4) M.T.W (GS _ rfl rfl rfl rfl rfl) hr5) (pe_call GM hr4 (by rfl) dM.m dM.F.kp dM.b .nil pass0 (pa_cons (pv 4) (pa_cons (pv 5) pa_nil))) (pe_call GM hr4 (by rfl) dM.m dM.F.kp dM.b .nil pass0 (pa_cons (pv 6) (pa_cons (pv 7) pa_nil))) (nomark _)) (pe_cmpR (op_neOT (cl := clk C fe) (S := SS (clk C fe)) (n := 4) M.T.W (GS _ rfl rfl rfl rfl rfl) hr4) (pe_tup (pa_cons (pv 4) (pa_cons (pv 5) pa_nil))) (pe_tup (pa_cons (pv 6) (pa_cons (pv 7) pa_nil))) (nomark _)) (nomark _)) (pss_one (ps_ret pe_bl)) pss_nil))))))))))))) (pss_one (ps_ret (pe_cmpR (op_eqD hu) (pe_tup (pa_cons (ClX.pe_cval (pe_glob (v := .ref (B 3)) (by rfl) (M.U.g 3 (by decide)) rfl)) (pa_cons (ClX.pe_cval (pe_glob (v := .ref (B 4)) (by rfl) (M.U.g 4 (by decide)) rfl)) pa_nil))) (pe_tup (pa_cons pe_str (pa_cons pe_str pa_nil))) (nomark _))))), ?_⟩
  have hc : ∀ v ∈ cutV (ns.map V.int) none (some 10) ++ [V.int 0], ∃ c, v = V.int c := by
    intro v hv
    rcases List.mem_append.mp hv with h | h
    · obtain ⟨c, _, e⟩ := List.mem_map.mp (cut_mem v h)
      exact ⟨c, e.symm⟩
    · exact ⟨0, by simpa using h⟩
  have hcl : (cutV (ns.map V.int) none (some 10)).length ≤ 63 := Nat.le_trans (cutV_length _ _ _) (by rw [List.length_map]; exact hn)
  refine ⟨_, rfl, _, rfl, a, _, rfl, hS, fun l0 n0 => ?_⟩
  refine ⟨by show 1 ≤ sizeLine; decide, fun l1 n1 => ?_⟩
  have e01 : l0 ≠ l1 := ne_of_none (o := .lst (cutV (ns.map V.int) none (some 10))) upd_same n1
  refine ⟨l0, l1, _, _, rfl, rfl, (by rw [upd_ne e01]; exact upd_same), upd_same, (Nat.le_of_lt (small1000 (by show _ + 1 ≤ 1000; omega))), fun l2 n2 => ?_⟩
  refine ⟨l2, rfl, ⟨_, SqL.of upd_same⟩, ?_⟩
  refine for_list (K := K) (a := l2) (xs := cutV (ns.map V.int) none (some 10) ++ [V.int 0])
    (fun i σ H2 => ∃ o1 o2 o3 o4 o5 o6 o7 : Option V, σ = [some (.ref a), o1, o2, o3, o4, o5, o6, o7, none] ∧ H2 l2 = some (.lst (cutV (ns.map V.int) none (some 10) ++ [V.int 0])))
    ⟨none, none, none, none, none, none, none, rfl, upd_same⟩ (fun i σ H2 _ ⟨_, _, _, _, _, _, _, _, h2⟩ => SqL.of h2) ?_ ?_
  · rintro i y σ H2 hi ⟨o1, o2, o3, o4, o5, o6, o7, rfl, h2⟩
    obtain ⟨c, rfl⟩ := hc y (List.mem_of_getElem? hi)
    refine ⟨_, rfl, c, rfl, fun wl H3 nw s3 hW => ?_⟩
    have nl2 : l2 ≠ wl := ne_of_none h2 nw
    have h23 := s3 _ _ h2
    refine ⟨3, rfl, by decide, by decide, fun D hD => ?_⟩
    have nDw : D ≠ wl := hW.ne hD
    have nD2 : l2 ≠ D := fun z => by rw [← z, h23] at hD; cases hD
    refine lc_range (lo := 0) (n := 3) (fun i H5 => KeepB wl H3 H5 ∧ WellAt H5 wl (10 * i) ∧ ∃ xs, H5 D = some (.lst xs) ∧ xs.length = i ∧ RowAt K (clk C fe) H5 xs)
      ⟨KeepB.of (new_same hD), (hW.same (new_same hD)).mono (by omega), [], upd_same, rfl, fun x hx => nomatch hx⟩ ?_ ?_
    · rintro i H5 hi ⟨k5, W5, xs, gD, hxl, hrow⟩
      refine ⟨rfl, yes_of ⟨_, rfl, wl, _, rfl, W5, by omega, fun k ds t H6 hp ho k6 W6 => ?_⟩⟩
      have gD6 := k6 D _ nDw gD
      obtain ⟨ms, hw5⟩ := W5.lst
      refine ⟨xs, gD6, small1000 (by omega), (k5.trans k6).updN hD, (W6.updN nDw).mono (by omega), _, upd_same, by rw [List.length_append, hxl]; rfl, fun x hx => ?_⟩
      rcases List.mem_append.mp hx with h | h
      · exact (RowAt.keepB gD6 KeepB.at (RowAt.keepB hw5 k6 hrow)) x h
      · rw [List.mem_singleton.mp h]
        exact ⟨k, ds, hp, Oh.keepB gD6 KeepB.at _ _ (odP_noL hp) ho⟩
    rintro H5 ⟨k5, W5, xs, gD, hxl, hrow⟩
    obtain ⟨x0, x1, x2, rfl⟩ : ∃ x0 x1 x2, xs = [x0, x1, x2] := match xs, hxl with | [x0, x1, x2], _ => ⟨x0, x1, x2, rfl⟩
    have h25 := k5 _ _ nl2 h23
    refine ⟨_, rfl, .inl ⟨rfl, _, SqL.of gD⟩, _, rfl, le_sz (Nat.le_of_ble_eq_true rfl), fun q hq => ?_⟩
    refine ⟨wl, q, _, _, rfl, W5.same (new_same hq), by omega, (W5.ne hq).symm, SqL.of upd_same, Nat.le_of_ble_eq_true rfl, Nat.le_of_ble_eq_true rfl, fun r v xs6 hv W6 => ?_⟩
    obtain ⟨H6, eH6, k6, W6, d6, hd6, nd6, od6⟩ := od_pick (K := K) (cl := clk C fe) (ds := [.fl (.str "call"), .fl (.str "new"), .fl (.str "body")]) (xs := [V.str "call", .str "new", .str "body"]) (zs := xs6) W5 hq (oh_cons (oh_str _) (oh_cons (oh_str _) (oh_cons (oh_str _) oh_nil))) ⟨trivial, trivial, trivial, trivial⟩ hv W6
    rw [eH6]
    obtain ⟨jj, hj1, hj3, rfl⟩ : ∃ jj, 1 ≤ jj ∧ jj ≤ 3 ∧ d6 = .fl (.str (wd jj)) := by
      simp only [List.mem_cons, List.not_mem_nil, or_false] at hd6
      rcases hd6 with h | h | h
      · exact ⟨1, by decide, by decide, h⟩
      · exact ⟨2, by decide, by decide, h⟩
      · exact ⟨3, by decide, by decide, h⟩
    obtain ⟨rfl, _⟩ := od6
    have gD6 := k6 D _ nDw gD
    have h26 := k6 _ _ nl2 h25
    obtain ⟨ms5, hw5⟩ := W5.lst
    have hrow6 := RowAt.keepB hw5 k6 hrow
    obtain ⟨k0, ds0, hp0, ho0⟩ := hrow6 x0 (by simp)
    obtain ⟨t0, z0, rfl, ht0, oz0⟩ := odP_at ho0
    obtain ⟨u0, zs, rfl, hu0, hzs⟩ := oz0
    have hl0 : 1 ≤ ds0.length := by
      rw [hp0.len]
      have := hp0.k1; have := hp0.k5
      have hh : k0 = 1 ∨ k0 = 2 ∨ k0 = 3 ∨ k0 = 4 ∨ k0 = 5 := by omega
      rcases hh with rfl | rfl | rfl | rfl | rfl <;> decide
    refine ⟨_, rfl, D, _, 0, _, rfl, rfl, SqL.of gD6, rfl, t0, _, 1, .ref u0, rfl, rfl, ht0, rfl, _, rfl, sl_od (m := 1) hu0 hzs hl0 fun t1 H7 o7' s7 => ?_⟩
    refine ⟨le_sz (Nat.le_of_ble_eq_true rfl), fun t2 ht2 => ?_⟩
    obtain ⟨o2', s8⟩ := tup_new (K := K) (cl := clk C fe) (ds := [.fl (.str (wd jj)), .tup (ds0.take 1)]) (xs := [V.str (wd jj), .ref t1]) ht2 (oh_cons (oh_str _) (oh_cons o7' oh_nil))
    obtain ⟨H8, eH8⟩ : ∃ H8, upd H7 t2 (.tup [V.str (wd jj), .ref t1]) = H8 := ⟨_, rfl⟩
    rw [eH8] at o2' s8 ⊢
    have s68 := s7.trans s8
    have gD8 := s68 _ _ gD6
    have hpj : Part (clk C fe) jj (ds0.take 1) := ⟨hj1, by omega, by
      rw [List.length_take]
      have hh : jj = 1 ∨ jj = 2 ∨ jj = 3 := by omega
      have e1 : min 1 ds0.length = 1 := by omega
      rw [e1]
      rcases hh with rfl | rfl | rfl <;> rfl, fun d hd => hp0.fit d (List.mem_of_mem_take hd)⟩
    refine ⟨D, _, _, rfl, rfl, gD8, small1000 (Nat.le_of_ble_eq_true rfl), ?_⟩
    have hrow8 := hrow6.same s68
    have k89 : KeepB D H8 (upd H8 D (.lst ([.ref t0, x1, x2] ++ [V.ref t2]))) := KeepB.at
    have gD9 : (upd H8 D (.lst ([.ref t0, x1, x2] ++ [V.ref t2]))) D = some (.lst ([.ref t0, x1, x2] ++ [V.ref t2])) := upd_same
    obtain ⟨H9, eH9⟩ : ∃ H9, upd H8 D (.lst ([.ref t0, x1, x2] ++ [V.ref t2])) = H9 := ⟨_, rfl⟩
    rw [eH9] at k89 gD9 ⊢
    have h29 := k89 _ _ nD2 (s68 _ _ h26)
    have hrow9 : RowAt K (clk C fe) H9 ([.ref t0, x1, x2] ++ [V.ref t2]) := fun x hx => by
      rcases List.mem_append.mp hx with h | h
      · exact (RowAt.keepB gD8 k89 hrow8) x h
      · rw [List.mem_singleton.mp h]
        exact ⟨jj, _, hpj, Oh.keepB gD8 k89 _ _ (odP_noL hpj) o2'⟩
    have ht09 : SqT K H9 t0 [.str (wd k0), .ref u0] := SqT.keepB gD8 k89 (SqT.same s68 ht0)
    have hu09 : SqT K H9 u0 zs := SqT.keepB gD8 k89 (SqT.same s68 hu0)
    have hzs9 : OhAll K (clk C fe) H9 ds0 zs := OhAll.keepB gD8 k89 _ _ (fit_noL hp0.fit) (OhAll.sm s68 hzs)
    refine ⟨_, rfl, .inl ⟨rfl, _, SqL.of gD9⟩, _, rfl, D, _, 0, _, rfl, rfl, SqL.of gD9, rfl, t0, _, 1, .ref u0, rfl, rfl, ht09, rfl, le_sz (Nat.le_of_ble_eq_true rfl), fun n1 hn1 => ?_⟩
    have s10 := new_same (o := .tup [V.non]) hn1
    have lz := OhAll.length _ _ hzs9
    refine ⟨u0, n1, zs, _, rfl, rfl, SqT.same s10 hu09, SqT.of upd_same, le_sz (by have := hp0.k5; have l3 : ds0.length ≤ 3 := nm_le hp0; show zs.length + 1 ≤ 100; omega), (fun e => by rw [e] at lz; have : ds0.length = 0 := lz; omega), (fun _ e => by cases e), fun _ _ c1 hc1 => ?_⟩
    have s11 := s10.trans (new_same (o := .tup (zs ++ [V.non])) hc1)
    refine ⟨_, rfl, sl_od (K := K) (cl := clk C fe) (m := 2) (ds := ds0 ++ [OD.fl .non]) (SqT.of upd_same) (oh_app (OhAll.sm s11 hzs9) (oh_cons oh_non oh_nil)) (by rw [List.length_append]; show 2 ≤ ds0.length + 1; omega) fun t3 H12 o12 s12 => ?_⟩
    refine ⟨le_sz (Nat.le_of_ble_eq_true rfl), fun t4 ht4 => ?_⟩
    obtain ⟨o13, s13⟩ := tup_new (K := K) (cl := clk C fe) (ds := [.fl (.str (wd 4)), .tup ((ds0 ++ [OD.fl .non]).take 2)]) (xs := [V.str "entry", .ref t3]) ht4 (oh_cons (oh_str _) (oh_cons o12 oh_nil))
    obtain ⟨H13, eH13⟩ : ∃ H13, upd H12 t4 (.tup [V.str "entry", .ref t3]) = H13 := ⟨_, rfl⟩
    rw [eH13] at o13 s13 ⊢
    have s913 := (s11.trans s12).trans s13
    have gD13 := s913 _ _ gD9
    have hp4 : Part (clk C fe) 4 ((ds0 ++ [OD.fl .non]).take 2) := ⟨by decide, by decide, by
      rw [List.length_take, List.length_append]
      show min 2 (ds0.length + 1) = 2
      omega, fun d hd => by
      rcases List.mem_append.mp (List.mem_of_mem_take hd) with h | h
      · exact hp0.fit d h
      · rw [List.mem_singleton.mp h]
        exact ⟨trivial, trivial, Nat.zero_le _⟩⟩
    refine ⟨D, _, _, rfl, rfl, gD13, small1000 (Nat.le_of_ble_eq_true rfl), ?_⟩
    have k14 : KeepB D H13 (upd H13 D (.lst (([.ref t0, x1, x2] ++ [V.ref t2]) ++ [V.ref t4]))) := KeepB.at
    have gD14 : (upd H13 D (.lst (([.ref t0, x1, x2] ++ [V.ref t2]) ++ [V.ref t4]))) D = some (.lst (([.ref t0, x1, x2] ++ [V.ref t2]) ++ [V.ref t4])) := upd_same
    obtain ⟨H14, eH14⟩ : ∃ H14, upd H13 D (.lst (([.ref t0, x1, x2] ++ [V.ref t2]) ++ [V.ref t4])) = H14 := ⟨_, rfl⟩
    rw [eH14] at k14 gD14 ⊢
    have h214 := k14 _ _ nD2 (s913 _ _ h29)
    have hrow14 : RowAt K (clk C fe) H14 (([.ref t0, x1, x2] ++ [V.ref t2]) ++ [V.ref t4]) := fun x hx => by
      rcases List.mem_append.mp hx with h | h
      · exact (RowAt.keepB gD13 k14 (hrow9.same s913)) x h
      · rw [List.mem_singleton.mp h]
        exact ⟨4, _, hp4, Oh.keepB gD13 k14 _ _ (odP_noL hp4) o13⟩
    generalize (([.ref t0, x1, x2] ++ [V.ref t2]) ++ [V.ref t4] : List V) = row at gD14 hrow14 ⊢
    refine ⟨_, rfl, D, rfl, ⟨_, SqL.of gD14⟩, ?_⟩
    refine for_list (K := K) (a := D) (xs := row) (fun i σ H' => (∃ o4 o5 o6 o7 : Option V, σ = [some (.ref a), some (.int c), some (.ref wl), some (.ref D), o4, o5, o6, o7, none]) ∧ Same H14 H')
      ⟨⟨_, _, _, _, rfl⟩, fun _ _ z => z⟩ (fun i σ H' _ h => SqL.of (h.2 _ _ gD14)) ?_ ?_
    · rintro j x σ H15 hj ⟨⟨o4, o5, o6, o7, rfl⟩, s15⟩
      obtain ⟨k, ds, hp, ho⟩ := hrow14 x (List.mem_of_getElem? hj)
      obtain ⟨t, z, rfl, ht, oz⟩ := odP_at (Oh.sm s15 ho)
      refine ⟨t, _, rfl, ht, rfl, _, _, rfl, _, _, rfl, rfl, ?_⟩
      refine ⟨_, rfl, _, rfl, k, ds, z, rfl, hp, oz, fun H16 s16 => ⟨_, rfl, iteF ?_⟩⟩
      have oz16 := Oh.sm s16 oz
      refine ⟨_, rfl, _, rfl, k, ds, z, rfl, hp, oz16, fun a1 H17 oa1 _ s17 => ?_⟩
      refine ⟨_, rfl, le_sz (Nat.le_of_ble_eq_true rfl), fun t5 ht5 => ?_⟩
      have s18 := new_same (o := .tup [V.str (wd k)]) ht5
      obtain ⟨uz, zz, rfl, huz, hzz⟩ := Oh.sm (s17.trans s18) oz16
      have lzz := OhAll.length _ _ hzz
      have ld : 1 ≤ ds.length ∧ ds.length ≤ 3 := ⟨nm_ge hp, nm_le hp⟩
      refine ⟨_, rfl, t5, uz, _, zz, rfl, rfl, SqT.of upd_same, huz, le_sz (by show 1 + zz.length ≤ 100; omega), (fun e => by cases e), (fun _ e => by rw [e] at lzz; have : ds.length = 0 := lzz; omega), fun _ _ t6 ht6 => ?_⟩
      have s19 := s18.trans (new_same (o := .tup ([V.str (wd k)] ++ zz)) ht6)
      have n4 : needAll (clk C fe) (.fl (.str (wd k)) :: ds) + 1 ≤ 4 := by
        have := fit_need hp.fit
        show max 0 (needAll (clk C fe) ds) + 1 ≤ 4
        omega
      have n3 : need (clk C fe) (.obj k ds) ≤ 4 := by
        show (if k = 0 then 1 else 3) ≤ 4
        split <;> omega
      refine ⟨.obj k ds, .tup (.fl (.str (wd k)) :: ds), Oh.sm s19 oa1, oh_tup (SqT.of upd_same) (oh_cons (oh_str _) (OhAll.sm (new_same ht6) hzz)), part_ss hp, ⟨trivial, fit_ok hp.fit⟩, n3, n4, trivial, trivial, fun H20 e20 => ⟨_, rfl, ?_⟩⟩
      rw [eqo_obj_tup]
      refine iteF ?_
      have s20 : Same H16 H20 := (s17.trans s19).trans e20
      refine ⟨_, rfl, _, rfl, k, ds, .ref uz, rfl, hp, Oh.sm s20 oz16, fun a2 H21 oa2 _ s21 => ?_⟩
      refine ⟨_, rfl, .obj k ds, .fl (.str (wd k)), oa2, ⟨rfl, rfl⟩, part_ss hp, trivial, n3, Nat.zero_le _, trivial, trivial, fun H22 e22 => ⟨_, rfl, ?_⟩⟩
      rw [eqo_obj_fl]
      refine iteF ?_
      have s22 : Same H14 H22 := ((s15.trans s16).trans s20).trans (s21.trans e22)
      have oz22 : Oh K (clk C fe) H22 (.tup ds) (.ref uz) := Oh.sm (s20.trans (s21.trans e22)) oz16
      refine ⟨_, rfl, D, rfl, ⟨_, SqL.of (s22 _ _ gD14)⟩, ?_⟩
      refine for_list (K := K) (a := D) (xs := row) (fun i σ H' => (∃ o6 o7 : Option V, σ = [some (.ref a), some (.int c), some (.ref wl), some (.ref D), some (.str (wd k)), some (.ref uz), o6, o7, none]) ∧ Same H22 H')
        ⟨⟨_, _, rfl⟩, fun _ _ z => z⟩ (fun i σ H' _ h => SqL.of (h.2 _ _ (s22 _ _ gD14))) ?_ ?_
      · rintro jj' x' σ H23 hj' ⟨⟨o6', o7', rfl⟩, s23⟩
        obtain ⟨l, es, hp', ho'⟩ := hrow14 x' (List.mem_of_getElem? hj')
        obtain ⟨t', z', rfl, ht', oz'⟩ := odP_at (Oh.sm (s22.trans s23) ho')
        refine ⟨t', _, rfl, ht', rfl, _, _, rfl, _, _, rfl, rfl, ?_⟩
        have n3' : need (clk C fe) (.obj l es) ≤ 4 := by
          show (if l = 0 then 1 else 3) ≤ 4
          split <;> omega
        have oz23 := Oh.sm s23 oz22
        refine ⟨_, rfl, _, rfl, k, ds, .ref uz, rfl, hp, oz23, fun b1 H24 ob1 _ s24 => ?_⟩
        refine ⟨_, rfl, _, rfl, l, es, z', rfl, hp', Oh.sm s24 oz', fun b2 H25 ob2 _ s25 => ?_⟩
        refine ⟨.obj k ds, .obj l es, Oh.sm s25 ob1, ob2, part_ss hp, part_ss hp', n3, n3', trivial, trivial, fun H26 e26 => ?_⟩
        have s26 : Same H23 H26 := (s24.trans s25).trans e26
        refine ⟨_, rfl, _, rfl, le_sz (Nat.le_of_ble_eq_true rfl), fun p1 hp1 => ?_⟩
        obtain ⟨op1, sp1⟩ := tup_new (K := K) (cl := clk C fe) (ds := [.fl (.str (wd k)), .tup ds]) (xs := [V.str (wd k), .ref uz]) hp1 (oh_cons (oh_str _) (oh_cons (Oh.sm s26 oz23) oh_nil))
        obtain ⟨H27, eH27⟩ : ∃ H27, upd H26 p1 (.tup [V.str (wd k), .ref uz]) = H27 := ⟨_, rfl⟩
        rw [eH27] at op1 sp1 ⊢
        refine ⟨_, rfl, _, rfl, le_sz (Nat.le_of_ble_eq_true rfl), fun p2 hp2 => ?_⟩
        obtain ⟨op2, sp2⟩ := tup_new (K := K) (cl := clk C fe) (ds := [.fl (.str (wd l)), .tup es]) (xs := [V.str (wd l), z']) hp2 (oh_cons (oh_str _) (oh_cons (Oh.sm (s26.trans sp1) oz') oh_nil))
        obtain ⟨H28, eH28⟩ : ∃ H28, upd H27 p2 (.tup [V.str (wd l), z']) = H28 := ⟨_, rfl⟩
        rw [eH28] at op2 sp2 ⊢
        refine ⟨odP k ds, odP l es, Oh.sm sp2 op1, op2, ⟨trivial, fit_ok hp.fit, trivial⟩, ⟨trivial, fit_ok hp'.fit, trivial⟩, part_need hp, part_need hp', trivial, trivial, fun H29 e29 => ⟨rfl, _, rfl, ?_⟩⟩
        have eB : (!decide (V.bl (eqo (.obj k ds) (.obj l es)) = V.bl (eqo (odP k ds) (odP l es)))) = false := by rw [part_eq hp hp', decide_eq_true rfl]; rfl
        rw [eB]
        refine iteF ?_
        have s29 : Same H23 H29 := ((s26.trans sp1).trans sp2).trans e29
        have oz29 := Oh.sm s29 oz23
        have oz29' := Oh.sm s29 oz'
        refine ⟨_, rfl, _, rfl, k, ds, .ref uz, rfl, hp, oz29, fun b3 H30 ob3 _ s30 => ?_⟩
        refine ⟨_, rfl, _, rfl, l, es, z', rfl, hp', Oh.sm s30 oz29', fun b4 H31 ob4 _ s31 => ?_⟩
        refine ⟨k, ds, .obj l es, Oh.sm s31 ob3, ob4, part_ss hp, part_ss hp', n3, M.nn k ⟨hp.k1, hp.k5⟩, fun H32 e32 => ?_⟩
        have s32 : Same H29 H32 := (s30.trans s31).trans e32
        refine ⟨_, rfl, _, rfl, le_sz (Nat.le_of_ble_eq_true rfl), fun p3 hp3 => ?_⟩
        obtain ⟨op3, sp3⟩ := tup_new (K := K) (cl := clk C fe) (ds := [.fl (.str (wd k)), .tup ds]) (xs := [V.str (wd k), .ref uz]) hp3 (oh_cons (oh_str _) (oh_cons (Oh.sm s32 oz29) oh_nil))
        obtain ⟨H33, eH33⟩ : ∃ H33, upd H32 p3 (.tup [V.str (wd k), .ref uz]) = H33 := ⟨_, rfl⟩
        rw [eH33] at op3 sp3 ⊢
        refine ⟨_, rfl, _, rfl, le_sz (Nat.le_of_ble_eq_true rfl), fun p4 hp4' => ?_⟩
        obtain ⟨op4, sp4⟩ := tup_new (K := K) (cl := clk C fe) (ds := [.fl (.str (wd l)), .tup es]) (xs := [V.str (wd l), z']) hp4' (oh_cons (oh_str _) (oh_cons (Oh.sm (s32.trans sp3) oz29') oh_nil))
        obtain ⟨H34, eH34⟩ : ∃ H34, upd H33 p4 (.tup [V.str (wd l), z']) = H34 := ⟨_, rfl⟩
        rw [eH34] at op4 sp4 ⊢
        refine ⟨[.fl (.str (wd k)), .tup ds], [.fl (.str (wd l)), .tup es], Oh.sm sp4 op3, op4, ⟨trivial, fit_ok hp.fit, trivial⟩, ⟨trivial, fit_ok hp'.fit, trivial⟩, part_need hp, part_need hp', fun H35 e35 => ⟨rfl, _, rfl, ?_⟩⟩
        have eC : (!decide (V.bl (!eqo (.obj k ds) (.obj l es)) = V.bl (!eqoAll [.fl (.str (wd k)), .tup ds] [.fl (.str (wd l)), .tup es]))) = false := by rw [show eqoAll [.fl (.str (wd k)), .tup ds] [.fl (.str (wd l)), .tup es] = eqo (odP k ds) (odP l es) from rfl, part_eq hp hp', decide_eq_true rfl]; rfl
        rw [eC]
        exact iteF ⟨⟨_, _, rfl⟩, (s23.trans s29).trans (((s32.trans sp3).trans sp4).trans e35)⟩
      · rintro σ H23 ⟨⟨o6', o7', rfl⟩, s23⟩
        exact ⟨⟨_, _, _, _, rfl⟩, s22.trans s23⟩
    · rintro σ H15 ⟨⟨o4, o5, o6, o7, rfl⟩, s15⟩
      exact ⟨_, _, _, _, _, _, _, rfl, s15 _ _ h214⟩
  · rintro σ H2 ⟨o1, o2, o3, o4, o5, o6, o7, rfl, h2⟩
    obtain ⟨mc3, u3, r3, c3⟩ := M.sd3
    obtain ⟨mc4, u4, r4, c4⟩ := M.sd4
    refine ⟨B 3, mc3, _, u3, rfl, r3, c3, B 4, mc4, _, u4, rfl, r4, c4, le_sz (Nat.le_of_ble_eq_true rfl), fun t1 ht1 => ⟨le_sz (Nat.le_of_ble_eq_true rfl), fun t2 ht2 => ?_⟩⟩
    refine ⟨.tuple [.str "entry", .str "exit"], .tuple [.str "entry", .str "exit"], .tup (SqT.same (new_same ht2) (SqT.of upd_same)) (.cons (.str _) (.cons (.str _) .nil)), .tup (SqT.of upd_same) (.cons (.str _) (.cons (.str _) .nil)), by decide +kernel, by decide +kernel, ?_⟩
    show V.bl (PyData.eqv (.tuple [.str "entry", .str "exit"]) (.tuple [.str "entry", .str "exit"])) = V.bl true
    rw [SeqAt.eqv_refl _ (by decide +kernel)]
end
end Kx
namespace Kx
open PySem L2 PySem.Spec PyProof.Rows
/-! the law's own call, by a caller around whom nothing is being shown -/
section
variable {P : Program} {w : World} {K : PySem.W.Frag} {mg mb : Str → Option Value} {fa a : Addr} {s : Shared} {vs : List Value} {ns : List Int}
abbrev oScript (vs : List Value) : Obj := { cls := .type "list", data := .seq vs.toArray }
/-- what may be tracked at the entry: the script, and nothing else -/
structure Entry (K : PySem.W.Frag) (H : Hp) (a : Addr) (vs : List Value) (ns : List Int) : Prop where
  only : ∀ b u, H b = some u → b = a ∧ u = .frz (oScript vs) (.lst (ns.map V.int)) ∧ K.lookup a = none
  seq : SqL K H a (ns.map V.int)
theorem entry_run {oc kV doc pm cdv ct : Value} {od an : Option Addr} {osl : Array (Option Value)} {H : Hp} (En : Entry K H a vs ns)
    (KX : K.In s.heap) (hns : s.heap.Ns mainGlobals mg) (hb : s.heap.Ns builtinsNs mb) (hbb : ∀ x : Str, x ≠ "__name__" → mb x = bootBuiltins x) (hlim : s.heap.NoLimit) (hg : s.gens = #[])
    (ha : s.heap.get? a = some (oScript vs)) (hi : IntsAre vs ns) (hl : ns.length ≤ 63)
    (lk : K.lookup fa = some ⟨oc, od, .func (PySem.W.fnOf "law" "law" (defArgs sLaw) (defBody sLaw) (defScope sLaw) .none kV doc pm an cdv ct), osl⟩) (hcd : PySem.W.codeIn K cdv "law" = true)
    (body : ∀ (base : Heap), K.In base → base.Ns mainGlobals mg → ∃ t, PSs (cxOf CX0 P w K mg base nL "law" (defScope sLaw) fa cdv callerA [] s H E0).nox (defBody sLaw) t ∧ t { nx := fun _ _ => V.non = V.bl true, rt := fun v _ => v = V.bl true } (start nL [.ref a]) H) :
    codeAny (model P w) callerA (.call (.ref fa) ⟨[.ref a], []⟩) (fun r s' => r = .ok (.ret (.bool true)) ∧ OldK s.heap s'.heap ∧ s'.os = s.os ∧ AllBare s'.gens) s := by
  have rv := vals_ints hi
  have free : ∀ {b : Addr} {o : Obj}, s.heap.get? b = some o → (b = a → o ≠ oScript vs) → H b = none := fun {b o} e d => by
    cases q : H b with
    | none => rfl
    | some u =>
      obtain ⟨rfl, _, _⟩ := En.only b u q
      rw [ha] at e
      exact absurd (Option.some.inj e).symm (d rfl)
  have freeD : ∀ {b : Addr} {o : Obj} {es : Array DictEntry} {ep : Nat}, s.heap.get? b = some o → o.data = .dict es ep → H b = none := fun {b o es ep} e d =>
    free e fun _ z => by
      rw [z] at d
      cases d
  have nsB : ∀ {b : Addr} {m : Str → Option Value}, s.heap.Ns b m → (hidT s.heap H).Ns b m := fun {b m} ⟨o, es, ep, e, d, r⟩ => ⟨o, es, ep, hidT_get e (freeD e d), d, r⟩
  have KB : K.In (hidT s.heap H) := fun b o e => hidT_get (KX b o e) (by
    cases q : H b with
    | none => rfl
    | some u =>
      obtain ⟨rfl, _, n⟩ := En.only b u q
      rw [n] at e
      cases e)
  have M : Mod K mg (hidT s.heap H) := ⟨KB, nsB hns, ⟨mb, nsB hb, hbb⟩, let ⟨mc, h1, h2⟩ := hlim; ⟨mc, nsB h1, h2⟩⟩
  have ok : HOk P w H s.heap := fun b u q => by
    obtain ⟨rfl, rfl, _⟩ := En.only b u q
    exact ⟨ha, by rw [List.length_map]; exact Nat.le_of_lt (small1000 (by omega)), vs, _, rv, ha⟩
  have e0 : Env0 P w K mg (hidT s.heap H) callerA [] s H := ⟨rfl, M, fun b o e => of_hidT e, Nat.le_of_eq (hidT_size _ _), trivial, fun b hb => absurd (show b ∈ ([] : List Addr) from hb) (by simp), ok, .of_eq hg⟩
  have F : FnScope nL ["_law_script"] (defScope sLaw) := scL
  have bd : BindsTo s (PySem.W.fnOf "law" "law" (defArgs sLaw) (defBody sLaw) (defScope sLaw) .none kV doc pm an cdv ct) ⟨[.ref a], []⟩ [("_law_script", .ref a)] := .of_eq rfl
  refine codeAny_call_function (by decide) (KX _ _ lk) rfl F.co F.gen rfl (PySem.W.codeRec_of KX hcd) (bd _ _ _ _ ?_)
  refine wpAny_newFunctionEnv_cells F.kind (fun y hy => ?_) fun env he s1 x => ?_
  · rw [List.mem_singleton.mp hy]
    exact .inl (by rfl)
  · subst he
    refine ⟨hlim.keeps x.toInCall.keep, codeAny_func ?_⟩
    obtain ⟨t, ht, hq⟩ := body _ KB (nsB hns)
    have I := inv_start (CX := CX0) (E := E0) (us := [.ref a]) (vs := [.ref a]) F (show callerA.handled = none from rfl) e0 rfl (.cons rfl .nil) x
    refine wpAny_mono (ht.run [] s1 _ H _ (I.wish _) hq) (fun fl s' hs => ?_) fun e s' hs => False.elim hs
    · cases fl with
      | ret u =>
        obtain ⟨v, σ', H', J, r, q⟩ := hs
        have q' : v = .bl true := q
        subst q'
        obtain rfl : u = Value.bool true := r
        refine ⟨rfl, OldK.of_keep fun b o e => ?_, J.os, J.bare⟩
        cases z : H b with
        | none => exact J.base.keep b o e z (fun y => absurd (show b ∈ ([] : List Addr) from y) (by simp)) (fun y => absurd (show b ∈ ([] : List Addr) from y) (by simp))
        | some u =>
          obtain ⟨rfl, rfl, _⟩ := En.only b u z
          obtain ⟨e2, _⟩ := J.hok b _ (J.base.frzs b _ _ z)
          rw [ha] at e
          cases e
          exact e2
      | next =>
        obtain ⟨_, _, _, q⟩ := hs
        cases (show V.non = V.bl true from q)
      | brk =>
        obtain ⟨_, _, _, q⟩ := hs
        exact False.elim q
      | cont =>
        obtain ⟨_, _, _, q⟩ := hs
        exact False.elim q
end
end Kx
set_option linter.all false
namespace Kx
open PySem L2 PySem.Spec PyProof.Rows
/-! what the top has left, and the law's head -/
structure Law (K : PySem.W.Frag) (mg : Str → Option Value) (fa : Addr) : Prop where
  ex : ∃ (C fe B : Nat → Addr) (fi : Addr) (fdi : FuncData), LawOf K mg C fe B fi fdi
  fn : ∃ (oc kV doc pm cdv ct : Value) (od an : Option Addr) (osl : Array (Option Value)), K.lookup fa = some ⟨oc, od, .func (PySem.W.fnOf "law" "law" (defArgs sLaw) (defBody sLaw) (defScope sLaw) .none kV doc pm an cdv ct), osl⟩ ∧ PySem.W.codeIn K cdv "law" = true
theorem walk {l : PySem.W.OpenLaw} {q : Program} {loose : List Str} {XP : (Str → Option Value) → Heap → Prop} {YP : World → Heap → Prop} {d : DefRec} {K : Params → PySem.W.Frag} (hn : l.most = some 63) (hdf : d.params.defaults = [])
    (hY : ∀ (w : World) (h : Heap), YP w h → (K w.params).In h)
    (F : ∀ (w : World) (mg : Str → Option Value) (fa : Addr) (h : Heap), (K w.params).In h → h.Ns mainGlobals mg → mg d.name = some (.ref fa) → Law (K w.params) mg fa) :
    PySem.W.WalkO q loose XP YP l.row.toRowW d [] (fun f vs => PySem.call f vs) := by
  refine Att.attach_call hn hdf fun w s₀ s₁ mg mb fa o pm cd doc a vs ns G Y ho hd hcd hmg hobj hints hlen hg => ?_
  have KX := hY w _ Y
  obtain ⟨⟨C, fe, B, fi, fdi, M⟩, ⟨oc, kV, dc, pm', cdv, ct, od, an, osl, lk, hc⟩⟩ := F w mg fa _ KX G.T.g hmg
  have go : ∀ H, Entry (K w.params) H a vs ns → _ := fun H En => entry_run (P := l.prog) (w := w) En KX G.T.g G.T.b G.T.builtins G.T.nolimit hg hobj hints hlen lk hc fun base _ _ =>
    law_body (P := l.prog) (w := w) (base := base) M fa cdv callerA [] s₁ H E0 (Room.deeper (k := 9) (A := callerA) ⟨rfl, by decide, by decide⟩ _) En.seq hlen
  cases hk : (K w.params).lookup a with
  | some ob =>
    have e := KX a ob hk
    rw [hobj] at e
    cases e
    exact go (fun _ => none) ⟨fun b u z => (by cases (show (none : Option HO) = some u from z)), .inr ⟨_, vs.toArray, _, hk, rfl, rfl, rfl, by rw [List.size_toArray, hints.length]; exact Nat.le_of_lt (small1000 (by omega)), by simpa using vals_ints hints⟩⟩
  | none =>
    refine go (fun b => if b = a then some (.frz (oScript vs) (.lst (ns.map V.int))) else none) ⟨fun b u z => ?_, .inl (.inr ⟨oScript vs, if_pos rfl⟩)⟩
    by_cases hb : b = a
    · have z' := (if_pos hb).symm.trans z
      exact ⟨hb, (Option.some.inj z').symm, hk⟩
    · have z' := (if_neg hb).symm.trans z
      cases z'
end Kx
set_option linter.all false
namespace Kx
open PySem L2 PySem.Spec PyProof.Rows

section
variable {K : PySem.W.Frag} {mg : Str → Option Value} {h : Heap} {B C : Addr}
theorem def_mk {x : Str} {st : Stmt} {ps : List Str} {f : Addr} {oc : Value} {od an : Option Addr} {osl : Array (Option Value)} {kV doc pm cdv ct : Value} (X : K.In h) (G : h.Ns mainGlobals mg) (m : PySem.W.nsIn K mainGlobals x = some (some (.ref f)))
    (l : K.lookup f = some ⟨oc, od, .func (PySem.W.fnOf x x (defArgs st) (defBody st) (defScope st) .none kV doc pm an cdv ct), osl⟩) (c : PySem.W.codeIn K cdv x = true) (k : PySem.W.keepIn K (.ref f) = true)
    (b : ∀ (kV doc pm : Value) (an : Option Addr) (cdv ct : Value) (us : List Value), us.length = ps.length → bindArgs (PySem.W.fnOf x x (defArgs st) (defBody st) (defScope st) .none kV doc pm an cdv ct) ⟨us, []⟩ = pure (ps.zip us)) :
    ∃ f fd, Fs K mg x st ps f fd := ⟨f, _, fun_mk l c k, (fun_mk (st := st) l c k).binds b, PySem.W.mg_of X G m⟩
theorem fun_bind {x q : Str} {st : Stmt} {ps : List Str} {f : Addr} {oc : Value} {od an : Option Addr} {osl : Array (Option Value)} {kV doc pm cdv ct : Value}
    (l : K.lookup f = some ⟨oc, od, .func (PySem.W.fnOf x q (defArgs st) (defBody st) (defScope st) .none kV doc pm an cdv ct), osl⟩) (c : PySem.W.codeIn K cdv q = true) (k : PySem.W.keepIn K (.ref f) = true)
    (b : ∀ (kV doc pm : Value) (an : Option Addr) (cdv ct : Value) (us : List Value), us.length = ps.length → bindArgs (PySem.W.fnOf x q (defArgs st) (defBody st) (defScope st) .none kV doc pm an cdv ct) ⟨us, []⟩ = pure (ps.zip us)) :
    ∃ fd, Fun K x q st f fd ∧ Binds K fd ps [] := ⟨_, fun_mk l c k, (fun_mk (st := st) l c k).binds fun kV' doc' pm' an' cdv' ct' us hl => b _ _ _ _ _ _ us hl⟩
end
structure CF (K : PySem.W.Frag) (C fi fe : Addr) (cd : ClassData) : Prop where
  c1 : PySem.W.plainGet K C Str.empty = true
  c2 : PySem.W.hasDictIn K C = true
  c3 : PySem.W.plainOver K C = true
  c4 : PySem.W.findIn K (.ref C) "__setattr__" = some (some (.builtin "object.__setattr__"))
  m1 : PySem.W.makesIn K C = true
  m2 : PySem.W.findIn K (.ref C) "__init__" = some (some (.ref fi))
  m3 : PySem.W.isFn K (.ref fi) = true
  m4 : PySem.W.keepIn K (.ref C) = true
  e1 : PySem.W.findIn K (.ref C) "__eq__" = some (some (.ref fe))
  e2 : PySem.W.isFn K (.ref fe) = true
  ne : PySem.W.findIn K (.ref C) "__ne__" = some (some (.builtin "object.__ne__"))
  mo : PySem.W.mroIn K C (.type "object") = some true
  y1 : PySem.W.findIn K (.ref C) "__class__" = some (some (.builtin "object.__class__"))
  kc : PySem.W.clsIn K C = some cd
  kt : PySem.W.typeIn K (.ref C) = some (.type "type")
  se : PySem.W.subIn K (.ref C) (.ref C) = some true
  a0 : PySem.W.subIn K (.type "NoneType") (.ref C) = some false
  b0 : PySem.W.subIn K (.ref C) (.type "NoneType") = some false
  a1 : PySem.W.subIn K (.type "bool") (.ref C) = some false
  b1 : PySem.W.subIn K (.ref C) (.type "bool") = some false
  a2 : PySem.W.subIn K (.type "int") (.ref C) = some false
  b2 : PySem.W.subIn K (.ref C) (.type "int") = some false
  a3 : PySem.W.subIn K (.type "str") (.ref C) = some false
  b3 : PySem.W.subIn K (.ref C) (.type "str") = some false
  a4 : PySem.W.subIn K (.type "tuple") (.ref C) = some false
  b4 : PySem.W.subIn K (.ref C) (.type "tuple") = some false
  a5 : PySem.W.subIn K (.type "list") (.ref C) = some false
  b5 : PySem.W.subIn K (.ref C) (.type "list") = some false
theorem CF.cls {K : PySem.W.Frag} {C fi fe : Addr} {cd : ClassData} (x : CF K C fi fe cd) : Cls K C := ⟨x.c1, x.c2, x.c3, x.c4⟩
theorem CF.sT {K : PySem.W.Frag} {C fi fe : Addr} {cd : ClassData} (x : CF K C fi fe cd) : ∀ T, T ∈ ["NoneType", "bool", "int", "str", "tuple", "list"] → PySem.W.subIn K (.type T) (.ref C) = some false ∧ PySem.W.subIn K (.ref C) (.type T) = some false := fun T hT => by
  simp only [List.mem_cons, List.not_mem_nil, or_false] at hT
  rcases hT with rfl | rfl | rfl | rfl | rfl | rfl
  · exact ⟨x.a0, x.b0⟩
  · exact ⟨x.a1, x.b1⟩
  · exact ⟨x.a2, x.b2⟩
  · exact ⟨x.a3, x.b3⟩
  · exact ⟨x.a4, x.b4⟩
  · exact ⟨x.a5, x.b5⟩
def pick (a b c d e f : Addr) : Nat → Addr
  | 0 => a
  | 1 => b
  | 2 => c
  | 3 => d
  | 4 => e
  | _ => f
theorem six {P : Nat → Prop} {k : Nat} (hk : k < 6) (h0 : P 0) (h1 : P 1) (h2 : P 2) (h3 : P 3) (h4 : P 4) (h5 : P 5) : P k := by
  have : k = 0 ∨ k = 1 ∨ k = 2 ∨ k = 3 ∨ k = 4 ∨ k = 5 := by omega
  rcases this with rfl | rfl | rfl | rfl | rfl | rfl <;> assumption
theorem five {P : Nat → Prop} {k : Nat} (hk : 1 ≤ k ∧ k ≤ 5) (h1 : P 1) (h2 : P 2) (h3 : P 3) (h4 : P 4) (h5 : P 5) : P k := by
  have : k = 1 ∨ k = 2 ∨ k = 3 ∨ k = 4 ∨ k = 5 := by omega
  rcases this with rfl | rfl | rfl | rfl | rfl <;> assumption
theorem five0 {P : Nat → Prop} {k : Nat} (hk : k < 5) (h0 : P 0) (h1 : P 1) (h2 : P 2) (h3 : P 3) (h4 : P 4) : P k := by
  have : k = 0 ∨ k = 1 ∨ k = 2 ∨ k = 3 ∨ k = 4 := by omega
  rcases this with rfl | rfl | rfl | rfl | rfl <;> assumption
theorem con_mk {K : PySem.W.Frag} {C : Addr} {z : Str} {tk : Tok} (a : PySem.W.findIn K (.ref C) "SIDE" = some (some (.str z tk))) (b : PySem.W.specialIn K (.str z tk) "__get__" = some none) : ∃ u, Con K C "SIDE" (.str z) u := ⟨_, a, ⟨_, rfl⟩, b, by decide⟩
theorem all_mk {K : PySem.W.Frag} {mg : Str → Option Value} {h : Heap} {C0 C1 C2 C3 C4 C5 i0 i1 i2 i3 i4 i5 q0 q1 q2 q3 q4 q5 B0 B1 B2 B3 B4 gS gL fa fl : Addr} {tk1 tk2 tk3 tk4 tk5 tq3 tq4 : Tok} {cdB0 cdB1 cdB2 cdB3 cdB4 cdc0 cdc1 cdc2 cdc3 cdc4 cdc5 : ClassData} {oc kV doc pm cdv ct : Value} {od an0 : Option Addr} {osl : Array (Option Value)} (X : K.In h) (G : h.Ns mainGlobals mg)
    (F0 : CF K C0 i0 q0 cdc0) (F1 : CF K C1 i1 q1 cdc1) (F2 : CF K C2 i2 q2 cdc2) (F3 : CF K C3 i3 q3 cdc3) (F4 : CF K C4 i4 q4 cdc4) (F5 : CF K C5 i5 q5 cdc5)
    (mN0 : PySem.W.nsIn K mainGlobals "Slot" = some (some (.ref C0)))
    (mN1 : PySem.W.nsIn K mainGlobals "CallCheck" = some (some (.ref C1)))
    (mN2 : PySem.W.nsIn K mainGlobals "NewCheck" = some (some (.ref C2)))
    (mN3 : PySem.W.nsIn K mainGlobals "BodyCheck" = some (some (.ref C3)))
    (mN4 : PySem.W.nsIn K mainGlobals "HeirEntry" = some (some (.ref C4)))
    (mN5 : PySem.W.nsIn K mainGlobals "HeirExit" = some (some (.ref C5)))
    (mB0 : PySem.W.nsIn K mainGlobals "Check" = some (some (.ref B0)))
    (mB1 : PySem.W.nsIn K mainGlobals "OnSite" = some (some (.ref B1)))
    (mB2 : PySem.W.nsIn K mainGlobals "OnLine" = some (some (.ref B2)))
    (mB3 : PySem.W.nsIn K mainGlobals "AtEntry" = some (some (.ref B3)))
    (mB4 : PySem.W.nsIn K mainGlobals "AtExit" = some (some (.ref B4)))
    (z_isinstance : PySem.W.nsIn K mainGlobals "isinstance" = some none)
    (z_int : PySem.W.nsIn K mainGlobals "int" = some none)
    (z_len : PySem.W.nsIn K mainGlobals "len" = some none)
    (z_range : PySem.W.nsIn K mainGlobals "range" = some none)
    (n0_word : PySem.W.findIn K (.ref C0) "word" = some none)
    (n0_owner : PySem.W.findIn K (.ref C0) "owner" = some none)
    (n0_method : PySem.W.findIn K (.ref C0) "method" = some none)
    (n1_site : PySem.W.findIn K (.ref C1) "site" = some none)
    (n2_site : PySem.W.findIn K (.ref C2) "site" = some none)
    (n3_site : PySem.W.findIn K (.ref C3) "site" = some none)
    (n4_heir : PySem.W.findIn K (.ref C4) "heir" = some none)
    (n4_slot : PySem.W.findIn K (.ref C4) "slot" = some none)
    (n5_heir : PySem.W.findIn K (.ref C5) "heir" = some none)
    (n5_slot : PySem.W.findIn K (.ref C5) "slot" = some none)
    (n5_above : PySem.W.findIn K (.ref C5) "above" = some none)
    (s01 : PySem.W.subIn K (.ref C1) (.ref C0) = some false)
    (s02 : PySem.W.subIn K (.ref C2) (.ref C0) = some false)
    (s03 : PySem.W.subIn K (.ref C3) (.ref C0) = some false)
    (s04 : PySem.W.subIn K (.ref C4) (.ref C0) = some false)
    (s05 : PySem.W.subIn K (.ref C5) (.ref C0) = some false)
    (s10 : PySem.W.subIn K (.ref C0) (.ref C1) = some false)
    (s12 : PySem.W.subIn K (.ref C2) (.ref C1) = some false)
    (s13 : PySem.W.subIn K (.ref C3) (.ref C1) = some false)
    (s14 : PySem.W.subIn K (.ref C4) (.ref C1) = some false)
    (s15 : PySem.W.subIn K (.ref C5) (.ref C1) = some false)
    (s20 : PySem.W.subIn K (.ref C0) (.ref C2) = some false)
    (s21 : PySem.W.subIn K (.ref C1) (.ref C2) = some false)
    (s23 : PySem.W.subIn K (.ref C3) (.ref C2) = some false)
    (s24 : PySem.W.subIn K (.ref C4) (.ref C2) = some false)
    (s25 : PySem.W.subIn K (.ref C5) (.ref C2) = some false)
    (s30 : PySem.W.subIn K (.ref C0) (.ref C3) = some false)
    (s31 : PySem.W.subIn K (.ref C1) (.ref C3) = some false)
    (s32 : PySem.W.subIn K (.ref C2) (.ref C3) = some false)
    (s34 : PySem.W.subIn K (.ref C4) (.ref C3) = some false)
    (s35 : PySem.W.subIn K (.ref C5) (.ref C3) = some false)
    (s40 : PySem.W.subIn K (.ref C0) (.ref C4) = some false)
    (s41 : PySem.W.subIn K (.ref C1) (.ref C4) = some false)
    (s42 : PySem.W.subIn K (.ref C2) (.ref C4) = some false)
    (s43 : PySem.W.subIn K (.ref C3) (.ref C4) = some false)
    (s45 : PySem.W.subIn K (.ref C5) (.ref C4) = some false)
    (s50 : PySem.W.subIn K (.ref C0) (.ref C5) = some false)
    (s51 : PySem.W.subIn K (.ref C1) (.ref C5) = some false)
    (s52 : PySem.W.subIn K (.ref C2) (.ref C5) = some false)
    (s53 : PySem.W.subIn K (.ref C3) (.ref C5) = some false)
    (s54 : PySem.W.subIn K (.ref C4) (.ref C5) = some false)
    (y2 : PySem.W.specialIn K (.builtin "object.__class__") "__get__" = some (some (.builtin "getset_descriptor.__get__")))
    (y3 : PySem.W.takesIn K (.builtin "object.__class__") = some true)
    (kB0 : PySem.W.clsIn K B0 = some cdB0)
    (tB0 : PySem.W.typeIn K (.ref B0) = some (.type "type"))
    (kB1 : PySem.W.clsIn K B1 = some cdB1)
    (tB1 : PySem.W.typeIn K (.ref B1) = some (.type "type"))
    (kB2 : PySem.W.clsIn K B2 = some cdB2)
    (tB2 : PySem.W.typeIn K (.ref B2) = some (.type "type"))
    (kB3 : PySem.W.clsIn K B3 = some cdB3)
    (tB3 : PySem.W.typeIn K (.ref B3) = some (.type "type"))
    (kB4 : PySem.W.clsIn K B4 = some cdB4)
    (tB4 : PySem.W.typeIn K (.ref B4) = some (.type "type"))
    (u10 : PySem.W.subIn K (.ref C1) (.ref B0) = some true)
    (u11 : PySem.W.subIn K (.ref C1) (.ref B1) = some true)
    (u12 : PySem.W.subIn K (.ref C1) (.ref B2) = some false)
    (v12 : (Value.ref C1 == Value.ref B2) = false)
    (u13 : PySem.W.subIn K (.ref C1) (.ref B3) = some true)
    (u14 : PySem.W.subIn K (.ref C1) (.ref B4) = some false)
    (v14 : (Value.ref C1 == Value.ref B4) = false)
    (u20 : PySem.W.subIn K (.ref C2) (.ref B0) = some true)
    (u21 : PySem.W.subIn K (.ref C2) (.ref B1) = some true)
    (u22 : PySem.W.subIn K (.ref C2) (.ref B2) = some false)
    (v22 : (Value.ref C2 == Value.ref B2) = false)
    (u23 : PySem.W.subIn K (.ref C2) (.ref B3) = some true)
    (u24 : PySem.W.subIn K (.ref C2) (.ref B4) = some false)
    (v24 : (Value.ref C2 == Value.ref B4) = false)
    (u30 : PySem.W.subIn K (.ref C3) (.ref B0) = some true)
    (u31 : PySem.W.subIn K (.ref C3) (.ref B1) = some true)
    (u32 : PySem.W.subIn K (.ref C3) (.ref B2) = some false)
    (v32 : (Value.ref C3 == Value.ref B2) = false)
    (u33 : PySem.W.subIn K (.ref C3) (.ref B3) = some false)
    (v33 : (Value.ref C3 == Value.ref B3) = false)
    (u34 : PySem.W.subIn K (.ref C3) (.ref B4) = some true)
    (u40 : PySem.W.subIn K (.ref C4) (.ref B0) = some true)
    (u41 : PySem.W.subIn K (.ref C4) (.ref B1) = some false)
    (v41 : (Value.ref C4 == Value.ref B1) = false)
    (u42 : PySem.W.subIn K (.ref C4) (.ref B2) = some true)
    (u43 : PySem.W.subIn K (.ref C4) (.ref B3) = some true)
    (u44 : PySem.W.subIn K (.ref C4) (.ref B4) = some false)
    (v44 : (Value.ref C4 == Value.ref B4) = false)
    (u50 : PySem.W.subIn K (.ref C5) (.ref B0) = some true)
    (u51 : PySem.W.subIn K (.ref C5) (.ref B1) = some false)
    (v51 : (Value.ref C5 == Value.ref B1) = false)
    (u52 : PySem.W.subIn K (.ref C5) (.ref B2) = some true)
    (u53 : PySem.W.subIn K (.ref C5) (.ref B3) = some false)
    (v53 : (Value.ref C5 == Value.ref B3) = false)
    (u54 : PySem.W.subIn K (.ref C5) (.ref B4) = some true)
    (d1a : PySem.W.findIn K (.ref C1) "SIDE" = some (some (.str "entry" tk1)))
    (d1b : PySem.W.specialIn K (.str "entry" tk1) "__get__" = some none)
    (d2a : PySem.W.findIn K (.ref C2) "SIDE" = some (some (.str "entry" tk2)))
    (d2b : PySem.W.specialIn K (.str "entry" tk2) "__get__" = some none)
    (d3a : PySem.W.findIn K (.ref C3) "SIDE" = some (some (.str "exit" tk3)))
    (d3b : PySem.W.specialIn K (.str "exit" tk3) "__get__" = some none)
    (d4a : PySem.W.findIn K (.ref C4) "SIDE" = some (some (.str "entry" tk4)))
    (d4b : PySem.W.specialIn K (.str "entry" tk4) "__get__" = some none)
    (d5a : PySem.W.findIn K (.ref C5) "SIDE" = some (some (.str "exit" tk5)))
    (d5b : PySem.W.specialIn K (.str "exit" tk5) "__get__" = some none)
    (r3a : PySem.W.readsIn K B3 (.type "type") = true)
    (r3b : PySem.W.specialIn K (.ref B3) "__getattribute__" = some (some (.builtin "type.__getattribute__")))
    (r3c : PySem.W.findCls K (.ref B3) (.type "type") "SIDE" = some (.val (.str "entry" tq3)))
    (r4a : PySem.W.readsIn K B4 (.type "type") = true)
    (r4b : PySem.W.specialIn K (.ref B4) "__getattribute__" = some (some (.builtin "type.__getattribute__")))
    (r4c : PySem.W.findCls K (.ref B4) (.type "type") "SIDE" = some (.val (.str "exit" tq4)))
    (r1a : PySem.W.readsIn K B1 (.type "type") = true)
    (r1b : PySem.W.specialIn K (.ref B1) "__getattribute__" = some (some (.builtin "type.__getattribute__")))
    (r1c : PySem.W.findCls K (.ref B1) (.type "type") "__init__" = some (.val (.ref gS)))
    (r1d : PySem.W.keepIn K (.ref gS) = true)
    (r2a : PySem.W.readsIn K B2 (.type "type") = true)
    (r2b : PySem.W.specialIn K (.ref B2) "__getattribute__" = some (some (.builtin "type.__getattribute__")))
    (r2c : PySem.W.findCls K (.ref B2) (.type "type") "__init__" = some (.val (.ref gL)))
    (r2d : PySem.W.keepIn K (.ref gL) = true)
    (fi0 : ∃ fd, Fun K "__init__" "Slot.__init__" sIn0 i0 fd ∧ Binds K fd ["self", "word", "owner", "method"] [])
    (fi1 : ∃ fd, Fun K "__init__" "CallCheck.__init__" sIn1 i1 fd ∧ Binds K fd ["self", "site"] [])
    (fi2 : ∃ fd, Fun K "__init__" "NewCheck.__init__" sIn2 i2 fd ∧ Binds K fd ["self", "site"] [])
    (fi3 : ∃ fd, Fun K "__init__" "BodyCheck.__init__" sIn3 i3 fd ∧ Binds K fd ["self", "site"] [])
    (fi4 : ∃ fd, Fun K "__init__" "HeirEntry.__init__" sIn4 i4 fd ∧ Binds K fd ["self", "heir", "slot"] [])
    (fi5 : ∃ fd, Fun K "__init__" "HeirExit.__init__" sIn5 i5 fd ∧ Binds K fd ["self", "heir", "slot", "above"] [])
    (fe0 : ∃ fd, Fun K "__eq__" "Slot.__eq__" sEq0 q0 fd ∧ Binds K fd ["self", "other"] [])
    (fe1 : ∃ fd, Fun K "__eq__" "CallCheck.__eq__" sEq1 q1 fd ∧ Binds K fd ["self", "other"] [])
    (fe2 : ∃ fd, Fun K "__eq__" "NewCheck.__eq__" sEq2 q2 fd ∧ Binds K fd ["self", "other"] [])
    (fe3 : ∃ fd, Fun K "__eq__" "BodyCheck.__eq__" sEq3 q3 fd ∧ Binds K fd ["self", "other"] [])
    (fe4 : ∃ fd, Fun K "__eq__" "HeirEntry.__eq__" sEq4 q4 fd ∧ Binds K fd ["self", "other"] [])
    (fe5 : ∃ fd, Fun K "__eq__" "HeirExit.__eq__" sEq5 q5 fd ∧ Binds K fd ["self", "other"] [])
    (fS : ∃ fd, Fun K "__init__" "OnSite.__init__" sInS gS fd ∧ Binds K fd ["self", "site"] [])
    (fL : ∃ fd, Fun K "__init__" "OnLine.__init__" sInL gL fd ∧ Binds K fd ["self", "heir", "slot"] [])
    (d_well : ∃ f fd, Fs K mg "_law_well" sWell ["_law_cell"] f fd)
    (d_draw : ∃ f fd, Fs K mg "_law_draw" sDraw ["_law_well_here", "_law_base"] f fd)
    (d_one : ∃ f fd, Fs K mg "_law_one" sOne ["_law_well_here", "_law_some"] f fd)
    (d_parts : ∃ f fd, Fs K mg "_law_parts" sParts ["_law_well_here"] f fd)
    (d_made : ∃ f fd, Fs K mg "_law_made" sMade ["_law_word", "_law_some"] f fd)
    (d_right : ∃ f fd, Fs K mg "_law_right" sRight ["_law_word", "_law_some"] f fd)
    (hfa : mg "law" = some (.ref fa)) (mL : PySem.W.nsIn K mainGlobals "law" = some (some (.ref fl))) (lL : K.lookup fl = some ⟨oc, od, .func (PySem.W.fnOf "law" "law" (defArgs sLaw) (defBody sLaw) (defScope sLaw) .none kV doc pm an0 cdv ct), osl⟩) (cL : PySem.W.codeIn K cdv "law" = true) : Law K mg fa := by
  have e := hfa.symm.trans (PySem.W.mg_of X G mL)
  cases e
  have hy : ∀ {C fi fe : Addr} {cd : ClassData}, CF K C fi fe cd → ∀ (H : Hp) (a dx : Addr) (fs : List (Str × V)), H a = some (.ins C dx fs) → TyX K H (.ref a) (.ref C) := fun {C fi fe cd} x H a dx fs e => .base (.ins e x.cls x.y1 y2 y3 x.mo)
  let CC : Nat → Addr := pick C0 C1 C2 C3 C4 C5
  let QQ : Nat → Addr := pick q0 q1 q2 q3 q4 q5
  let BB : Nat → Addr := pick B0 B1 B2 B3 B4 B4
  have subs : ∀ k, k < 6 → ∀ l, l < 6 → k ≠ l → PySem.W.subIn K (.ref (CC l)) (.ref (CC k)) = some false := by
    intro k hk l hl
    refine six (P := fun k => k ≠ l → PySem.W.subIn K (.ref (CC l)) (.ref (CC k)) = some false) hk ?_ ?_ ?_ ?_ ?_ ?_
    · exact six (P := fun l => 0 ≠ l → PySem.W.subIn K (.ref (CC l)) (.ref (CC 0)) = some false) hl (fun e => absurd rfl e) (fun _ => s01) (fun _ => s02) (fun _ => s03) (fun _ => s04) (fun _ => s05)
    · exact six (P := fun l => 1 ≠ l → PySem.W.subIn K (.ref (CC l)) (.ref (CC 1)) = some false) hl (fun _ => s10) (fun e => absurd rfl e) (fun _ => s12) (fun _ => s13) (fun _ => s14) (fun _ => s15)
    · exact six (P := fun l => 2 ≠ l → PySem.W.subIn K (.ref (CC l)) (.ref (CC 2)) = some false) hl (fun _ => s20) (fun _ => s21) (fun e => absurd rfl e) (fun _ => s23) (fun _ => s24) (fun _ => s25)
    · exact six (P := fun l => 3 ≠ l → PySem.W.subIn K (.ref (CC l)) (.ref (CC 3)) = some false) hl (fun _ => s30) (fun _ => s31) (fun _ => s32) (fun e => absurd rfl e) (fun _ => s34) (fun _ => s35)
    · exact six (P := fun l => 4 ≠ l → PySem.W.subIn K (.ref (CC l)) (.ref (CC 4)) = some false) hl (fun _ => s40) (fun _ => s41) (fun _ => s42) (fun _ => s43) (fun e => absurd rfl e) (fun _ => s45)
    · exact six (P := fun l => 5 ≠ l → PySem.W.subIn K (.ref (CC l)) (.ref (CC 5)) = some false) hl (fun _ => s50) (fun _ => s51) (fun _ => s52) (fun _ => s53) (fun _ => s54) (fun e => absurd rfl e)
  have selfs : ∀ k, k < 6 → PySem.W.subIn K (.ref (CC k)) (.ref (CC k)) = some true := fun k hk => six (P := fun k => PySem.W.subIn K (.ref (CC k)) (.ref (CC k)) = some true) hk F0.se F1.se F2.se F3.se F4.se F5.se
  have W : OwnCls K (clk CC QQ) (SS (clk CC QQ)) := by
    refine ⟨fun k ⟨ds, h⟩ => ?_, fun k ⟨ds, h⟩ => ?_, fun k l ⟨ds, h⟩ ⟨es, g⟩ e => ?_, fun k l ⟨ds, h⟩ ⟨es, g⟩ ne => subs k (ss_lt h) l (ss_lt g) ne, fun k ⟨ds, h⟩ => ?_⟩
    · exact six (P := fun k => PySem.W.findIn K (.ref (CC k)) "__eq__" = some (some (.ref (QQ k)))) (ss_lt h) F0.e1 F1.e1 F2.e1 F3.e1 F4.e1 F5.e1
    · exact six (P := fun k => PySem.W.isFn K (.ref (QQ k)) = true) (ss_lt h) F0.e2 F1.e2 F2.e2 F3.e2 F4.e2 F5.e2
    · by_cases ne : k = l
      · exact ne
      · have h1 := subs k (ss_lt h) l (ss_lt g) ne
        have h2 := selfs k (ss_lt h)
        rw [show CC l = CC k from e.symm, h2] at h1
        cases h1
    · exact six (P := fun k => ∀ T, T ∈ ["NoneType", "bool", "int", "str", "tuple", "list"] → PySem.W.subIn K (.type T) (.ref (CC k)) = some false ∧ PySem.W.subIn K (.ref (CC k)) (.type T) = some false) (ss_lt h) F0.sT F1.sT F2.sT F3.sT F4.sT F5.sT
  have KT : Kits K (clk CC QQ) 6 := by
    refine ⟨fun k hk => ?_, fun k hk => ?_, fun k hk => ?_⟩
    · exact six (P := fun k => ∃ cd, PySem.W.clsIn K (CC k) = some cd) hk ⟨_, F0.kc⟩ ⟨_, F1.kc⟩ ⟨_, F2.kc⟩ ⟨_, F3.kc⟩ ⟨_, F4.kc⟩ ⟨_, F5.kc⟩
    · exact six (P := fun k => PySem.W.typeIn K (.ref (CC k)) = some (.type "type")) hk F0.kt F1.kt F2.kt F3.kt F4.kt F5.kt
    · exact six (P := fun k => ∀ (H : Hp) (a dx : Addr) (fs : List (Str × V)), H a = some (.ins (CC k) dx fs) → TyX K H (.ref a) (.ref (CC k))) hk (hy F0) (hy F1) (hy F2) (hy F3) (hy F4) (hy F5)
  have T : Txt K mg CC QQ := by
    refine ⟨W, KT, fun k hk => ?_, fun k hk => ?_, PySem.W.mg_none_of X G z_isinstance⟩
    · exact six (P := fun k => Cls K (CC k)) hk F0.cls F1.cls F2.cls F3.cls F4.cls F5.cls
    · refine six (P := fun k => ∀ x ∈ nm k, NoAttr K (CC k) x) hk ?_ ?_ ?_ ?_ ?_ ?_
      · intro x hx
        have hx : x ∈ (["word", "owner", "method"] : List Str) := hx
        simp only [List.mem_cons, List.not_mem_nil, or_false] at hx
        rcases hx with rfl | rfl | rfl
        · exact n0_word
        · exact n0_owner
        · exact n0_method
      · intro x hx
        have hx : x ∈ (["site"] : List Str) := hx
        simp only [List.mem_cons, List.not_mem_nil, or_false] at hx
        subst hx; exact n1_site
      · intro x hx
        have hx : x ∈ (["site"] : List Str) := hx
        simp only [List.mem_cons, List.not_mem_nil, or_false] at hx
        subst hx; exact n2_site
      · intro x hx
        have hx : x ∈ (["site"] : List Str) := hx
        simp only [List.mem_cons, List.not_mem_nil, or_false] at hx
        subst hx; exact n3_site
      · intro x hx
        have hx : x ∈ (["heir", "slot"] : List Str) := hx
        simp only [List.mem_cons, List.not_mem_nil, or_false] at hx
        rcases hx with rfl | rfl
        · exact n4_heir
        · exact n4_slot
      · intro x hx
        have hx : x ∈ (["heir", "slot", "above"] : List Str) := hx
        simp only [List.mem_cons, List.not_mem_nil, or_false] at hx
        rcases hx with rfl | rfl | rfl
        · exact n5_heir
        · exact n5_slot
        · exact n5_above
  obtain ⟨fdi0, fi0a, fi0b⟩ := fi0
  obtain ⟨fdi1, fi1a, fi1b⟩ := fi1
  obtain ⟨fdi2, fi2a, fi2b⟩ := fi2
  obtain ⟨fdi3, fi3a, fi3b⟩ := fi3
  obtain ⟨fdi4, fi4a, fi4b⟩ := fi4
  obtain ⟨fdi5, fi5a, fi5b⟩ := fi5
  obtain ⟨fdS, fSa, fSb⟩ := fS
  obtain ⟨fdL, fLa, fLb⟩ := fL
  have MK : Mks K mg CC := by
    refine ⟨⟨B1, gS, fdS, _, PySem.W.mg_of X G mB1, ⟨r1a, r1b⟩, ⟨r1c, r1d⟩, fSa, fSb⟩, ⟨B2, gL, fdL, _, PySem.W.mg_of X G mB2, ⟨r2a, r2b⟩, ⟨r2c, r2d⟩, fLa, fLb⟩, ⟨i1, fdi1, ⟨F1.m1, F1.m2, F1.m3, F1.m4⟩, fi1a, fi1b, PySem.W.mg_of X G mN1⟩, ⟨i2, fdi2, ⟨F2.m1, F2.m2, F2.m3, F2.m4⟩, fi2a, fi2b, PySem.W.mg_of X G mN2⟩, ⟨i3, fdi3, ⟨F3.m1, F3.m2, F3.m3, F3.m4⟩, fi3a, fi3b, PySem.W.mg_of X G mN3⟩, ⟨i4, fdi4, ⟨F4.m1, F4.m2, F4.m3, F4.m4⟩, fi4a, fi4b, PySem.W.mg_of X G mN4⟩, ⟨i5, fdi5, ⟨F5.m1, F5.m2, F5.m3, F5.m4⟩, fi5a, fi5b, PySem.W.mg_of X G mN5⟩⟩
  have U : Sup K mg CC BB := by
    refine ⟨fun j hj => ?_, fun k hk j hj => ?_, fun k hk => ?_, fun k hk => ?_⟩
    · exact five0 (P := fun j => mg (bnm j) = some (.ref (BB j))) hj (PySem.W.mg_of X G mB0) (PySem.W.mg_of X G mB1) (PySem.W.mg_of X G mB2) (PySem.W.mg_of X G mB3) (PySem.W.mg_of X G mB4)
    · revert hj; refine five (P := fun k => j < 5 → PySem.W.kitOne K (.ref (CC k)) (.ref (BB j)) = some (supT k j)) hk ?_ ?_ ?_ ?_ ?_
      · intro hj; exact five0 (P := fun j => PySem.W.kitOne K (.ref (CC 1)) (.ref (BB j)) = some (supT 1 j)) hj (kit_yes kB0 tB0 u10) (kit_yes kB1 tB1 u11) (kit_no kB2 tB2 u12 v12) (kit_yes kB3 tB3 u13) (kit_no kB4 tB4 u14 v14)
      · intro hj; exact five0 (P := fun j => PySem.W.kitOne K (.ref (CC 2)) (.ref (BB j)) = some (supT 2 j)) hj (kit_yes kB0 tB0 u20) (kit_yes kB1 tB1 u21) (kit_no kB2 tB2 u22 v22) (kit_yes kB3 tB3 u23) (kit_no kB4 tB4 u24 v24)
      · intro hj; exact five0 (P := fun j => PySem.W.kitOne K (.ref (CC 3)) (.ref (BB j)) = some (supT 3 j)) hj (kit_yes kB0 tB0 u30) (kit_yes kB1 tB1 u31) (kit_no kB2 tB2 u32 v32) (kit_no kB3 tB3 u33 v33) (kit_yes kB4 tB4 u34)
      · intro hj; exact five0 (P := fun j => PySem.W.kitOne K (.ref (CC 4)) (.ref (BB j)) = some (supT 4 j)) hj (kit_yes kB0 tB0 u40) (kit_no kB1 tB1 u41 v41) (kit_yes kB2 tB2 u42) (kit_yes kB3 tB3 u43) (kit_no kB4 tB4 u44 v44)
      · intro hj; exact five0 (P := fun j => PySem.W.kitOne K (.ref (CC 5)) (.ref (BB j)) = some (supT 5 j)) hj (kit_yes kB0 tB0 u50) (kit_no kB1 tB1 u51 v51) (kit_yes kB2 tB2 u52) (kit_no kB3 tB3 u53 v53) (kit_yes kB4 tB4 u54)
    · exact five (P := fun k => mg (cnm k) = some (.ref (CC k))) hk (PySem.W.mg_of X G mN1) (PySem.W.mg_of X G mN2) (PySem.W.mg_of X G mN3) (PySem.W.mg_of X G mN4) (PySem.W.mg_of X G mN5)
    · exact five (P := fun k => ∃ u, Con K (CC k) "SIDE" (.str (if atE k = true then "entry" else "exit")) u) hk (con_mk d1a d1b) (con_mk d2a d2b) (con_mk d3a d3b) (con_mk d4a d4b) (con_mk d5a d5b)
  have D : Drw K mg := ⟨⟨PySem.W.mg_none_of X G z_int, PySem.W.mg_none_of X G z_len⟩, d_well, d_draw, d_one⟩
  exact ⟨⟨CC, QQ, BB, i0, fdi0, T, MK, U, D, ⟨⟨F0.m1, F0.m2, F0.m3, F0.m4⟩, fi0a, fi0b, PySem.W.mg_of X G mN0⟩, PySem.W.mg_none_of X G z_range, PySem.W.mg_none_of X G z_int, fun k hk => five (P := fun k => NoNe K (CC k)) hk ⟨F1.mo, F1.ne⟩ ⟨F2.mo, F2.ne⟩ ⟨F3.mo, F3.ne⟩ ⟨F4.mo, F4.ne⟩ ⟨F5.mo, F5.ne⟩, d_parts, d_made, d_right, fe0, fe1, fe2, fe3, fe4, fe5, ⟨_, _, ⟨r3a, r3b⟩, ⟨r3c, ⟨_, rfl⟩⟩⟩, ⟨_, _, ⟨r4a, r4b⟩, ⟨r4c, ⟨_, rfl⟩⟩⟩⟩, ⟨oc, kV, doc, pm, cdv, ct, od, an0, osl, lL, cL⟩⟩
end Kx
open PySem PySem.W PyProof.Rows
set_option maxRecDepth 100000 in
set_option maxHeartbeats 0 in
theorem PySem.Challenge.cw_contractheirs_k20_checks_holds : PySem.Challenge.rw_contractheirs_k20_checks.Holds := by
  w_on; o_law; k_head; (case hw => w_witness2)
  k_fill
  refine Kx.walk (l := PySem.Challenge.rw_contractheirs_k20_checks) rfl rfl (fun w h Y => PySem.W.kIn_of Y) ?F
  case F =>
    intro w mg fa h KX G hmg
    refine' Kx.all_mk KX G ⟨?f0_c1, ?f0_c2, ?f0_c3, ?f0_c4, ?f0_m1, ?f0_m2, ?f0_m3, ?f0_m4, ?f0_e1, ?f0_e2, ?f0_ne, ?f0_mo, ?f0_y1, ?f0_kc, ?f0_kt, ?f0_se, ?f0_a0, ?f0_b0, ?f0_a1, ?f0_b1, ?f0_a2, ?f0_b2, ?f0_a3, ?f0_b3, ?f0_a4, ?f0_b4, ?f0_a5, ?f0_b5⟩ ⟨?f1_c1, ?f1_c2, ?f1_c3, ?f1_c4, ?f1_m1, ?f1_m2, ?f1_m3, ?f1_m4, ?f1_e1, ?f1_e2, ?f1_ne, ?f1_mo, ?f1_y1, ?f1_kc, ?f1_kt, ?f1_se, ?f1_a0, ?f1_b0, ?f1_a1, ?f1_b1, ?f1_a2, ?f1_b2, ?f1_a3, ?f1_b3, ?f1_a4, ?f1_b4, ?f1_a5, ?f1_b5⟩ ⟨?f2_c1, ?f2_c2, ?f2_c3, ?f2_c4, ?f2_m1, ?f2_m2, ?f2_m3, ?f2_m4, ?f2_e1, ?f2_e2, ?f2_ne, ?f2_mo, ?f2_y1, ?f2_kc, ?f2_kt, ?f2_se, ?f2_a0, ?f2_b0, ?f2_a1, ?f2_b1, ?f2_a2, ?f2_b2, ?f2_a3, ?f2_b3, ?f2_a4, ?f2_b4, ?f2_a5, ?f2_b5⟩ ⟨?f3_c1, ?f3_c2, ?f3_c3, ?f3_c4, ?f3_m1, ?f3_m2, ?f3_m3, ?f3_m4, ?f3_e1, ?f3_e2, ?f3_ne, ?f3_mo, ?f3_y1, ?f3_kc, ?f3_kt, ?f3_se, ?f3_a0, ?f3_b0, ?f3_a1, ?f3_b1, ?f3_a2, ?f3_b2, ?f3_a3, ?f3_b3, ?f3_a4, ?f3_b4, ?f3_a5, ?f3_b5⟩ ⟨?f4_c1, ?f4_c2, ?f4_c3, ?f4_c4, ?f4_m1, ?f4_m2, ?f4_m3, ?f4_m4, ?f4_e1, ?f4_e2, ?f4_ne, ?f4_mo, ?f4_y1, ?f4_kc, ?f4_kt, ?f4_se, ?f4_a0, ?f4_b0, ?f4_a1, ?f4_b1, ?f4_a2, ?f4_b2, ?f4_a3, ?f4_b3, ?f4_a4, ?f4_b4, ?f4_a5, ?f4_b5⟩ ⟨?f5_c1, ?f5_c2, ?f5_c3, ?f5_c4, ?f5_m1, ?f5_m2, ?f5_m3, ?f5_m4, ?f5_e1, ?f5_e2, ?f5_ne, ?f5_mo, ?f5_y1, ?f5_kc, ?f5_kt, ?f5_se, ?f5_a0, ?f5_b0, ?f5_a1, ?f5_b1, ?f5_a2, ?f5_b2, ?f5_a3, ?f5_b3, ?f5_a4, ?f5_b4, ?f5_a5, ?f5_b5⟩ ?h_mN0 ?h_mN1 ?h_mN2 ?h_mN3 ?h_mN4 ?h_mN5 ?h_mB0 ?h_mB1 ?h_mB2 ?h_mB3 ?h_mB4 ?h_z_isinstance ?h_z_int ?h_z_len ?h_z_range ?h_n0_word ?h_n0_owner ?h_n0_method ?h_n1_site ?h_n2_site ?h_n3_site ?h_n4_heir ?h_n4_slot ?h_n5_heir ?h_n5_slot ?h_n5_above ?h_s01 ?h_s02 ?h_s03 ?h_s04 ?h_s05 ?h_s10 ?h_s12 ?h_s13 ?h_s14 ?h_s15 ?h_s20 ?h_s21 ?h_s23 ?h_s24 ?h_s25 ?h_s30 ?h_s31 ?h_s32 ?h_s34 ?h_s35 ?h_s40 ?h_s41 ?h_s42 ?h_s43 ?h_s45 ?h_s50 ?h_s51 ?h_s52 ?h_s53 ?h_s54 ?h_y2 ?h_y3 ?h_kB0 ?h_tB0 ?h_kB1 ?h_tB1 ?h_kB2 ?h_tB2 ?h_kB3 ?h_tB3 ?h_kB4 ?h_tB4 ?h_u10 ?h_u11 ?h_u12 ?h_v12 ?h_u13 ?h_u14 ?h_v14 ?h_u20 ?h_u21 ?h_u22 ?h_v22 ?h_u23 ?h_u24 ?h_v24 ?h_u30 ?h_u31 ?h_u32 ?h_v32 ?h_u33 ?h_v33 ?h_u34 ?h_u40 ?h_u41 ?h_v41 ?h_u42 ?h_u43 ?h_u44 ?h_v44 ?h_u50 ?h_u51 ?h_v51 ?h_u52 ?h_u53 ?h_v53 ?h_u54 ?h_d1a ?h_d1b ?h_d2a ?h_d2b ?h_d3a ?h_d3b ?h_d4a ?h_d4b ?h_d5a ?h_d5b ?h_r3a ?h_r3b ?h_r3c ?h_r4a ?h_r4b ?h_r4c ?h_r1a ?h_r1b ?h_r1c ?h_r1d ?h_r2a ?h_r2b ?h_r2c ?h_r2d (Kx.fun_bind ?gfi0a ?gfi0b ?gfi0c (fun _ _ _ _ _ _ us hl => match us, hl with | [_, _, _, _], _ => rfl)) (Kx.fun_bind ?gfi1a ?gfi1b ?gfi1c (fun _ _ _ _ _ _ us hl => match us, hl with | [_, _], _ => rfl)) (Kx.fun_bind ?gfi2a ?gfi2b ?gfi2c (fun _ _ _ _ _ _ us hl => match us, hl with | [_, _], _ => rfl)) (Kx.fun_bind ?gfi3a ?gfi3b ?gfi3c (fun _ _ _ _ _ _ us hl => match us, hl with | [_, _], _ => rfl)) (Kx.fun_bind ?gfi4a ?gfi4b ?gfi4c (fun _ _ _ _ _ _ us hl => match us, hl with | [_, _, _], _ => rfl)) (Kx.fun_bind ?gfi5a ?gfi5b ?gfi5c (fun _ _ _ _ _ _ us hl => match us, hl with | [_, _, _, _], _ => rfl)) (Kx.fun_bind ?gfe0a ?gfe0b ?gfe0c (fun _ _ _ _ _ _ us hl => match us, hl with | [_, _], _ => rfl)) (Kx.fun_bind ?gfe1a ?gfe1b ?gfe1c (fun _ _ _ _ _ _ us hl => match us, hl with | [_, _], _ => rfl)) (Kx.fun_bind ?gfe2a ?gfe2b ?gfe2c (fun _ _ _ _ _ _ us hl => match us, hl with | [_, _], _ => rfl)) (Kx.fun_bind ?gfe3a ?gfe3b ?gfe3c (fun _ _ _ _ _ _ us hl => match us, hl with | [_, _], _ => rfl)) (Kx.fun_bind ?gfe4a ?gfe4b ?gfe4c (fun _ _ _ _ _ _ us hl => match us, hl with | [_, _], _ => rfl)) (Kx.fun_bind ?gfe5a ?gfe5b ?gfe5c (fun _ _ _ _ _ _ us hl => match us, hl with | [_, _], _ => rfl)) (Kx.fun_bind ?gfSa ?gfSb ?gfSc (fun _ _ _ _ _ _ us hl => match us, hl with | [_, _], _ => rfl)) (Kx.fun_bind ?gfLa ?gfLb ?gfLc (fun _ _ _ _ _ _ us hl => match us, hl with | [_, _, _], _ => rfl)) (Kx.def_mk KX G ?uda0 ?udb0 ?udc0 ?udd0 (fun _ _ _ _ _ _ us hl => match us, hl with | [_], _ => rfl)) (Kx.def_mk KX G ?uda1 ?udb1 ?udc1 ?udd1 (fun _ _ _ _ _ _ us hl => match us, hl with | [_, _], _ => rfl)) (Kx.def_mk KX G ?uda2 ?udb2 ?udc2 ?udd2 (fun _ _ _ _ _ _ us hl => match us, hl with | [_, _], _ => rfl)) (Kx.def_mk KX G ?uda3 ?udb3 ?udc3 ?udd3 (fun _ _ _ _ _ _ us hl => match us, hl with | [_], _ => rfl)) (Kx.def_mk KX G ?uda4 ?udb4 ?udc4 ?udd4 (fun _ _ _ _ _ _ us hl => match us, hl with | [_, _], _ => rfl)) (Kx.def_mk KX G ?uda5 ?udb5 ?udc5 ?udd5 (fun _ _ _ _ _ _ us hl => match us, hl with | [_, _], _ => rfl)) hmg ?umL ?ulL ?ucL
    (case h_mN0 => k_is)
    (case h_mN1 => k_is)
    (case h_mN2 => k_is)
    (case h_mN3 => k_is)
    (case h_mN4 => k_is)
    (case h_mN5 => k_is)
    (case h_mB0 => k_is)
    (case h_mB1 => k_is)
    (case h_mB2 => k_is)
    (case h_mB3 => k_is)
    (case h_mB4 => k_is)
    (case f0_c1 => k_is)
    (case f0_c2 => k_is)
    (case f0_c3 => k_is)
    (case f0_c4 => k_is)
    (case f0_m1 => k_is)
    (case f0_m2 => k_is)
    (case f0_m3 => k_is)
    (case f0_m4 => k_is)
    (case f0_e1 => k_is)
    (case f0_e2 => k_is)
    (case f0_ne => k_is)
    (case f0_mo => k_is)
    (case f0_y1 => k_is)
    (case f0_kc => k_is)
    (case f0_kt => k_is)
    (case f0_se => k_is)
    (case f0_a0 => k_is)
    (case f0_b0 => k_is)
    (case f0_a1 => k_is)
    (case f0_b1 => k_is)
    (case f0_a2 => k_is)
    (case f0_b2 => k_is)
    (case f0_a3 => k_is)
    (case f0_b3 => k_is)
    (case f0_a4 => k_is)
    (case f0_b4 => k_is)
    (case f0_a5 => k_is)
    (case f0_b5 => k_is)
    (case f1_c1 => k_is)
    (case f1_c2 => k_is)
    (case f1_c3 => k_is)
    (case f1_c4 => k_is)
    (case f1_m1 => k_is)
    (case f1_m2 => k_is)
    (case f1_m3 => k_is)
    (case f1_m4 => k_is)
    (case f1_e1 => k_is)
    (case f1_e2 => k_is)
    (case f1_ne => k_is)
    (case f1_mo => k_is)
    (case f1_y1 => k_is)
    (case f1_kc => k_is)
    (case f1_kt => k_is)
    (case f1_se => k_is)
    (case f1_a0 => k_is)
    (case f1_b0 => k_is)
    (case f1_a1 => k_is)
    (case f1_b1 => k_is)
    (case f1_a2 => k_is)
    (case f1_b2 => k_is)
    (case f1_a3 => k_is)
    (case f1_b3 => k_is)
    (case f1_a4 => k_is)
    (case f1_b4 => k_is)
    (case f1_a5 => k_is)
    (case f1_b5 => k_is)
    (case f2_c1 => k_is)
    (case f2_c2 => k_is)
    (case f2_c3 => k_is)
    (case f2_c4 => k_is)
    (case f2_m1 => k_is)
    (case f2_m2 => k_is)
    (case f2_m3 => k_is)
    (case f2_m4 => k_is)
    (case f2_e1 => k_is)
    (case f2_e2 => k_is)
    (case f2_ne => k_is)
    (case f2_mo => k_is)
    (case f2_y1 => k_is)
    (case f2_kc => k_is)
    (case f2_kt => k_is)
    (case f2_se => k_is)
    (case f2_a0 => k_is)
    (case f2_b0 => k_is)
    (case f2_a1 => k_is)
    (case f2_b1 => k_is)
    (case f2_a2 => k_is)
    (case f2_b2 => k_is)
    (case f2_a3 => k_is)
    (case f2_b3 => k_is)
    (case f2_a4 => k_is)
    (case f2_b4 => k_is)
    (case f2_a5 => k_is)
    (case f2_b5 => k_is)
    (case f3_c1 => k_is)
    (case f3_c2 => k_is)
    (case f3_c3 => k_is)
    (case f3_c4 => k_is)
    (case f3_m1 => k_is)
    (case f3_m2 => k_is)
    (case f3_m3 => k_is)
    (case f3_m4 => k_is)
    (case f3_e1 => k_is)
    (case f3_e2 => k_is)
    (case f3_ne => k_is)
    (case f3_mo => k_is)
    (case f3_y1 => k_is)
    (case f3_kc => k_is)
    (case f3_kt => k_is)
    (case f3_se => k_is)
    (case f3_a0 => k_is)
    (case f3_b0 => k_is)
    (case f3_a1 => k_is)
    (case f3_b1 => k_is)
    (case f3_a2 => k_is)
    (case f3_b2 => k_is)
    (case f3_a3 => k_is)
    (case f3_b3 => k_is)
    (case f3_a4 => k_is)
    (case f3_b4 => k_is)
    (case f3_a5 => k_is)
    (case f3_b5 => k_is)
    (case f4_c1 => k_is)
    (case f4_c2 => k_is)
    (case f4_c3 => k_is)
    (case f4_c4 => k_is)
    (case f4_m1 => k_is)
    (case f4_m2 => k_is)
    (case f4_m3 => k_is)
    (case f4_m4 => k_is)
    (case f4_e1 => k_is)
    (case f4_e2 => k_is)
    (case f4_ne => k_is)
    (case f4_mo => k_is)
    (case f4_y1 => k_is)
    (case f4_kc => k_is)
    (case f4_kt => k_is)
    (case f4_se => k_is)
    (case f4_a0 => k_is)
    (case f4_b0 => k_is)
    (case f4_a1 => k_is)
    (case f4_b1 => k_is)
    (case f4_a2 => k_is)
    (case f4_b2 => k_is)
    (case f4_a3 => k_is)
    (case f4_b3 => k_is)
    (case f4_a4 => k_is)
    (case f4_b4 => k_is)
    (case f4_a5 => k_is)
    (case f4_b5 => k_is)
    (case f5_c1 => k_is)
    (case f5_c2 => k_is)
    (case f5_c3 => k_is)
    (case f5_c4 => k_is)
    (case f5_m1 => k_is)
    (case f5_m2 => k_is)
    (case f5_m3 => k_is)
    (case f5_m4 => k_is)
    (case f5_e1 => k_is)
    (case f5_e2 => k_is)
    (case f5_ne => k_is)
    (case f5_mo => k_is)
    (case f5_y1 => k_is)
    (case f5_kc => k_is)
    (case f5_kt => k_is)
    (case f5_se => k_is)
    (case f5_a0 => k_is)
    (case f5_b0 => k_is)
    (case f5_a1 => k_is)
    (case f5_b1 => k_is)
    (case f5_a2 => k_is)
    (case f5_b2 => k_is)
    (case f5_a3 => k_is)
    (case f5_b3 => k_is)
    (case f5_a4 => k_is)
    (case f5_b4 => k_is)
    (case f5_a5 => k_is)
    (case f5_b5 => k_is)
    (case h_z_isinstance => k_is)
    (case h_z_int => k_is)
    (case h_z_len => k_is)
    (case h_z_range => k_is)
    (case h_n0_word => k_is)
    (case h_n0_owner => k_is)
    (case h_n0_method => k_is)
    (case h_n1_site => k_is)
    (case h_n2_site => k_is)
    (case h_n3_site => k_is)
    (case h_n4_heir => k_is)
    (case h_n4_slot => k_is)
    (case h_n5_heir => k_is)
    (case h_n5_slot => k_is)
    (case h_n5_above => k_is)
    (case h_s01 => k_is)
    (case h_s02 => k_is)
    (case h_s03 => k_is)
    (case h_s04 => k_is)
    (case h_s05 => k_is)
    (case h_s10 => k_is)
    (case h_s12 => k_is)
    (case h_s13 => k_is)
    (case h_s14 => k_is)
    (case h_s15 => k_is)
    (case h_s20 => k_is)
    (case h_s21 => k_is)
    (case h_s23 => k_is)
    (case h_s24 => k_is)
    (case h_s25 => k_is)
    (case h_s30 => k_is)
    (case h_s31 => k_is)
    (case h_s32 => k_is)
    (case h_s34 => k_is)
    (case h_s35 => k_is)
    (case h_s40 => k_is)
    (case h_s41 => k_is)
    (case h_s42 => k_is)
    (case h_s43 => k_is)
    (case h_s45 => k_is)
    (case h_s50 => k_is)
    (case h_s51 => k_is)
    (case h_s52 => k_is)
    (case h_s53 => k_is)
    (case h_s54 => k_is)
    (case h_y2 => k_is)
    (case h_y3 => k_is)
    (case h_kB0 => k_is)
    (case h_tB0 => k_is)
    (case h_kB1 => k_is)
    (case h_tB1 => k_is)
    (case h_kB2 => k_is)
    (case h_tB2 => k_is)
    (case h_kB3 => k_is)
    (case h_tB3 => k_is)
    (case h_kB4 => k_is)
    (case h_tB4 => k_is)
    (case h_u10 => k_is)
    (case h_u11 => k_is)
    (case h_u12 => k_is)
    (case h_v12 => decide)
    (case h_u13 => k_is)
    (case h_u14 => k_is)
    (case h_v14 => decide)
    (case h_u20 => k_is)
    (case h_u21 => k_is)
    (case h_u22 => k_is)
    (case h_v22 => decide)
    (case h_u23 => k_is)
    (case h_u24 => k_is)
    (case h_v24 => decide)
    (case h_u30 => k_is)
    (case h_u31 => k_is)
    (case h_u32 => k_is)
    (case h_v32 => decide)
    (case h_u33 => k_is)
    (case h_v33 => decide)
    (case h_u34 => k_is)
    (case h_u40 => k_is)
    (case h_u41 => k_is)
    (case h_v41 => decide)
    (case h_u42 => k_is)
    (case h_u43 => k_is)
    (case h_u44 => k_is)
    (case h_v44 => decide)
    (case h_u50 => k_is)
    (case h_u51 => k_is)
    (case h_v51 => decide)
    (case h_u52 => k_is)
    (case h_u53 => k_is)
    (case h_v53 => decide)
    (case h_u54 => k_is)
    (case h_d1a => k_is)
    (case h_d1b => k_is)
    (case h_d2a => k_is)
    (case h_d2b => k_is)
    (case h_d3a => k_is)
    (case h_d3b => k_is)
    (case h_d4a => k_is)
    (case h_d4b => k_is)
    (case h_d5a => k_is)
    (case h_d5b => k_is)
    (case h_r3a => k_is)
    (case h_r3b => k_is)
    (case h_r3c => k_is)
    (case h_r4a => k_is)
    (case h_r4b => k_is)
    (case h_r4c => k_is)
    (case h_r1a => k_is)
    (case h_r1b => k_is)
    (case h_r1c => k_is)
    (case h_r1d => k_is)
    (case h_r2a => k_is)
    (case h_r2b => k_is)
    (case h_r2c => k_is)
    (case h_r2d => k_is)
    (case gfi0a => k_is)
    (case gfi0b => k_is)
    (case gfi0c => k_is)
    (case gfi1a => k_is)
    (case gfi1b => k_is)
    (case gfi1c => k_is)
    (case gfi2a => k_is)
    (case gfi2b => k_is)
    (case gfi2c => k_is)
    (case gfi3a => k_is)
    (case gfi3b => k_is)
    (case gfi3c => k_is)
    (case gfi4a => k_is)
    (case gfi4b => k_is)
    (case gfi4c => k_is)
    (case gfi5a => k_is)
    (case gfi5b => k_is)
    (case gfi5c => k_is)
    (case gfe0a => k_is)
    (case gfe0b => k_is)
    (case gfe0c => k_is)
    (case gfe1a => k_is)
    (case gfe1b => k_is)
    (case gfe1c => k_is)
    (case gfe2a => k_is)
    (case gfe2b => k_is)
    (case gfe2c => k_is)
    (case gfe3a => k_is)
    (case gfe3b => k_is)
    (case gfe3c => k_is)
    (case gfe4a => k_is)
    (case gfe4b => k_is)
    (case gfe4c => k_is)
    (case gfe5a => k_is)
    (case gfe5b => k_is)
    (case gfe5c => k_is)
    (case gfSa => k_is)
    (case gfSb => k_is)
    (case gfSc => k_is)
    (case gfLa => k_is)
    (case gfLb => k_is)
    (case gfLc => k_is)
    (case uda0 => k_is)
    (case udb0 => k_is)
    (case udc0 => k_is)
    (case udd0 => k_is)
    (case uda1 => k_is)
    (case udb1 => k_is)
    (case udc1 => k_is)
    (case udd1 => k_is)
    (case uda2 => k_is)
    (case udb2 => k_is)
    (case udc2 => k_is)
    (case udd2 => k_is)
    (case uda3 => k_is)
    (case udb3 => k_is)
    (case udc3 => k_is)
    (case udd3 => k_is)
    (case uda4 => k_is)
    (case udb4 => k_is)
    (case udc4 => k_is)
    (case udd4 => k_is)
    (case uda5 => k_is)
    (case udb5 => k_is)
    (case udc5 => k_is)
    (case udd5 => k_is)
    (case umL => k_is)
    (case ulL => k_is)
    (case ucL => k_is)
