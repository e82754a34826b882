import PyProof.Rows.All
import Wide.All
import OpenK.AllK
import Wide.FinOn
import HandS.ForMost
import HandS.SetBool
import HandS.SetTxt0
import HandS.Strs
import KE.GoesMore
import HandS.Iter
import HandS.ForExc
import HandS.Wide
import HandS.IsInst
import HandS.Flow
import HandS.Walk
import HandS.Text
import HandS.Conv
import HandS.Star
import HandS.TupAny
import HandS.SetFor
import HandS.ExcInit
import HandS.ExcValue
import HandS.ExcCtx
import HandS.HotCalls
import HandS.ExcIs
import HandS.ExcField
import KE.KExcIs
import OpenK.KMeth
import HandS.Deep
import HandS.OwnEq
import OpenK.KOwn
import OpenK.KOps
import OpenK.KMake
import PyProof.EqKinds
import PyProof.InstNe
import HandS.ClsMeth
import HandS.Defaults
import HandS.MakeKw
import HandS.MakeKwOnly
import HandS.Style
import HandS.DictComp
import HandS.Small
import HandS.Dict
import HandS.Comp
import HandS.List
import HandS.CallLocal
import KE.DataMinMax
import HandS.SortKw
import PySem.Challenge.RW_contractheirs_k81_answers_on_a_grid
set_option Elab.async false
set_option linter.all false
set_option maxRecDepth 100000
set_option maxHeartbeats 8000000
section
open PySem PySem.W PyProof.Rows
def PySem.W.Fast.tw8117978685944534155 : Nat := 0
def PySem.W.Fast.tw14724249309107492611 : Nat := 0
def PySem.W.Fast.tw12144594938898634350 : Nat := 0
def PySem.W.Fast.tw7513721256375787428 : Nat := 0
def PySem.W.Fast.tw9192076382355695938 : Nat := 0
def PySem.W.Fast.tw2823118049874573146 : Nat := 0
def PySem.W.Fast.tw4871023551779116047 : Nat := 0
def PySem.W.Fast.tw13471087186995400110 : Nat := 0
def PySem.W.Fast.tw12913585747446191368 : Nat := 0
def PySem.W.Fast.tw13264466142152643106 : Nat := 0
def PySem.W.Fast.tw14362069688795783785 : Nat := 0
def PySem.W.Fast.tw18037061099472878649 : Nat := 0
def PySem.W.Fast.tw16445476306884958882 : Nat := 0
def PySem.W.Fast.tw14158234503568742430 : Nat := 0
def PySem.W.Fast.tw1993488712376296795 : Nat := 0
def PySem.W.Fast.tw8693594601805203075 : Nat := 0
def PySem.W.Fast.tw9619684205737103106 : Nat := 0
def PySem.W.Fast.tw17445230354243012706 : Nat := 0
def PySem.W.Fast.tw14331802194908316120 : Nat := 0
def PySem.W.Fast.tw17002589090817721664 : Nat := 0
def PySem.W.Fast.tw1842830805866862143 : Nat := 0
def PySem.W.Fast.tw9488722967624064851 : Nat := 0
def PySem.W.Fast.tw17742797537027396663 : Nat := 0
set_option maxRecDepth 100000 in
set_option maxHeartbeats 0 in
open_top kTop for PySem.Challenge.rw_contractheirs_k81_answers_on_a_grid
end
namespace Kx
open PySem L2 PySem.Spec PyProof.Rows PySem.Froz
/-! sets of texts that can be walked and sorted -/
structure GoodX (P : Program) (w : World) (D : SD) (l : List Str) : Prop where
  tx : TxOk P w D l
  nd : l.Nodup
  ris : Ris D.2.2.place.toList
  led : w.params.followText "set-order" = true ∨ D.2.2.led = true
theorem tailTx_ris {ep : Nat} {es : Array (Int × Value)} {t : SetTable} {b : Bool} (r : Ris t.place.toList) : Ris (tailTx ep es t b).2.2.place.toList := by
  unfold tailTx
  by_cases c : (!b && t.tooFull) = true
  · rw [if_pos c]; exact relayAll_ris _ _ _
  · rw [if_neg c]; exact r
theorem tailTx_led {ep : Nat} {es : Array (Int × Value)} {t : SetTable} {b : Bool} : (tailTx ep es t b).2.2.led = t.led := by
  unfold tailTx
  by_cases c : (!b && t.tooFull) = true
  · rw [if_pos c]; exact relayAll_led _ _ _
  · rw [if_neg c]
theorem off_ris {t : SetTable} (r : Ris t.place.toList) : Ris (if t.plain = true then { t with plain := false } else t).place.toList := by
  by_cases c : t.plain = true
  · rw [if_pos c]; exact r
  · rw [if_neg c]; exact r
theorem off_led {t : SetTable} : (if t.plain = true then { t with plain := false } else t).led = t.led := by
  by_cases c : t.plain = true
  · rw [if_pos c]
  · rw [if_neg c]
theorem addTx_ris {hh : Int} {v : Value} {D : SD} (r : Ris D.2.2.place.toList) : Ris (addTx hh v D).2.2.place.toList := by
  unfold addTx
  exact tailTx_ris (off_ris (layNew_ris _ _ _ _ r))
theorem addTx_led {hh : Int} {v : Value} {D : SD} : (addTx hh v D).2.2.led = D.2.2.led := by
  unfold addTx
  rw [tailTx_led, off_led, layNew_led]
theorem GoodX.add {P : Program} {w : World} {D : SD} {l : List Str} {k : Str} (u : Tok) (G : GoodX P w D l) (hk : k ∉ l) : GoodX P w (addTx (hashStr w k) (.str k u) D) (k :: l) :=
  ⟨add_ok u G.tx, List.nodup_cons.mpr ⟨hk, G.nd⟩, addTx_ris G.ris, G.led.imp id fun z => by rw [addTx_led]; exact z⟩
section
variable {P : Program} {w : World} {A : Around} {E : Value → Shared → Prop} {s : Shared}
theorem add_old {a : Addr} {D : SD} {l : List Str} {k : Str} {u : Tok} {Q : Bool → Shared → Prop} (ho : s.heap.get? a = some (sObj "set" D)) (F : TxOk P w D l) (hk : k ∈ l) (hb : l.length < scanBound)
    (h : Q false s) : wpAny (model P w) A (setAddHashed a (.str k u) (hashStr w k)) Q E s := by
  obtain ⟨es, ep, t⟩ := D
  have hd : (sObj "set" (es, ep, t)).data = .set es ep t := rfl
  have hf : t.fits es.size = true := F.fit
  have he : ElemsOf (strKind P w) es.toList := F.el
  have hz : es.size < scanBound := by rw [show es.size = l.length from F.sz]; exact hb
  unfold setAddHashed setAddHashedIn
  refine wpAny_holding (wpAny_bind (wpAny_setState_of ho hd hf ?_))
  dsimp only
  rw [byScan_of rfl hz he]
  simp only [↓reduceIte]
  unfold setAddByScan
  refine wpAny_bind (wpAny_bind (wpAny_rule (wpAny_bind (wpAny_setScan_of (knd := strKind P w) (k := k) (is_str k u) ho hd hf he ?_))))
  cases hr : List.findIdx? (fun e => (strKind P w).is k e.2) es.toList with
  | some j => exact wpAny_pure (wpAny_pure h)
  | none =>
    obtain ⟨e, hm, q⟩ := (F.mem k).mp hk
    have c := List.findIdx?_eq_none_iff.mp hr e hm
    rw [q] at c
    cases c
end
/-- the set of texts at a: its members, each once -/
def TxAt (P : Program) (w : World) (h : Heap) (a : Addr) (l : List Str) : Prop := ∃ D, h.get? a = some (sObj "set" D) ∧ GoodX P w D l
/-- a text put into a list of texts -/
def put (l : List Str) (k : Str) : List Str := if k ∈ l then l else k :: l
theorem mem_put {l : List Str} {k x : Str} : x ∈ put l k ↔ x ∈ l ∨ x = k := by
  unfold put
  by_cases h : k ∈ l
  · rw [if_pos h]
    exact ⟨.inl, fun z => z.elim id fun e => e ▸ h⟩
  · rw [if_neg h, List.mem_cons]
    exact Or.comm
theorem put_len {l : List Str} {k : Str} : (put l k).length ≤ l.length + 1 := by
  unfold put
  by_cases h : k ∈ l
  · rw [if_pos h]; exact Nat.le_succ _
  · rw [if_neg h]; exact Nat.le_refl _
section
variable {P : Program} {w : World} {A : Around} {E : Value → Shared → Prop} {s : Shared}
theorem txAt_new {h : Heap} : TxAt P w (h.push { cls := .type "set", dict := none, data := .set #[] 0 (.fresh 0 0 (!w.params.followText "set-order")) }) h.objs.size [] :=
  ⟨(#[], 0, .fresh 0 0 (!w.params.followText "set-order")), Heap.get?_push_size _ rfl, TxOk.nil rfl, List.nodup_nil, List.Pairwise.nil, by
    show _ ∨ (!w.params.followText "set-order") = true
    cases w.params.followText "set-order"
    · exact .inr rfl
    · exact .inl rfl⟩
/-- found.add(k) -/
theorem tx_add {a : Addr} {l : List Str} {k : Str} {u : Tok} {Q : Value → Shared → Prop} (R : TxAt P w s.heap a l) (room : l.length + 1 < scanBound)
    (hQ : ∀ h' : Heap, Heap.SameBut a s.heap h' → TxAt P w h' a (put l k) → Q .none { s with heap := h', toks := s.toks + 1 }) :
    wpAny (model P w) A (call (.builtin "set.add") [.ref a, .str k u]) Q E s := by
  obtain ⟨D, ho, G⟩ := R
  have hT : s.TypeIs (.ref a) "set" := ⟨_, ho, rfl⟩
  refine wpAny_call_entry F.slot_set_add hT F.entry_set_add ?_ (F.args_set_add_2 _ _)
  unfold Builtin.«set.add» Builtin.Frozenset.oneOther
  simp only [List.isEmpty_nil, bind_assoc]
  unfold Builtin.Frozenset.addrOf setAdd
  refine wpAny_bind (wpAny_pure ?_)
  try dsimp only
  refine wpAny_bind (wpAny_pure ?_)
  try dsimp only
  refine wpAny_bind (wpAny_holding (wpAny_bind ((strKind P w).pyHash (is_str k u) ?_)))
  by_cases hk : k ∈ l
  · refine add_old (s := { s with toks := s.toks + 1 }) ho G.tx hk (by omega) ?_
    have q := hQ s.heap (Heap.SameBut.refl a s.heap) ⟨D, ho, by unfold put; rw [if_pos hk]; exact G⟩
    show wpAny _ _ (ret Value.none) _ _ _
    exact wpAny_pure ⟨_, rfl, q⟩
  · refine add_x (s := { s with toks := s.toks + 1 }) ho G.tx hk room ?_
    have q := hQ _ (Heap.SameBut.update s.heap a (fun _ => sObj "set" (addTx (hashStr w k) (.str k u) D))) ⟨_, get_upd _ ho rfl, by unfold put; rw [if_neg hk]; exact G.add u hk⟩
    show wpAny _ _ (ret Value.none) _ _ _
    exact wpAny_pure ⟨_, rfl, q⟩
theorem strs_of_kind {l : List Str} {D : SD} (F : TxOk P w D l) : ∀ v ∈ D.1.toList.map (·.2), ∃ x t, v = Value.str x t := fun v hv => by
  obtain ⟨e, he, rfl⟩ := List.mem_map.mp hv
  obtain ⟨⟨k, h1, _⟩, _⟩ := F.el e he
  obtain ⟨t, z⟩ := Value.isStrOf_shape (x := k) (v := e.2) h1
  exact ⟨k, t, z⟩
def txt : Value → Str
  | .str x _ => x
  | _ => ⟨#[]⟩
theorem strsAre_txt : ∀ {vs : List Value}, (∀ v ∈ vs, ∃ x t, v = Value.str x t) → StrsAre vs (vs.map txt)
  | [], _ => .nil
  | v :: vs, h => by
    obtain ⟨x, t, rfl⟩ := h v List.mem_cons_self
    exact .cons x t (strsAre_txt fun u hu => h u (List.mem_cons_of_mem _ hu))
theorem perm_of_sub : ∀ {l m : List Str}, l.Nodup → (∀ x ∈ l, x ∈ m) → m.length = l.length → m.Perm l
  | [], m, _, _, h => by
    rw [List.eq_nil_of_length_eq_zero h]
  | x :: l, m, nd, sub, h => by
    obtain ⟨n1, n2⟩ := List.nodup_cons.mp nd
    have hx : x ∈ m := sub x List.mem_cons_self
    have p := List.perm_cons_erase hx
    have hl : (m.erase x).length = l.length := by
      have q := p.length_eq
      rw [List.length_cons] at q h
      omega
    refine p.trans (List.Perm.cons x (perm_of_sub n2 (fun y hy => ?_) hl))
    have ne : y ≠ x := fun e => n1 (e ▸ hy)
    exact (List.mem_erase_of_ne ne).mpr (sub y (List.mem_cons_of_mem _ hy))
/-- sorted(found), fewer than 64 members -/
theorem tx_sorted {a : Addr} {l : List Str} {Q : Value → Shared → Prop} (R : TxAt P w s.heap a l) (hh : A.handled = none) (h64 : l.length < 64)
    (hQ : ∀ (s' : Shared) (p : Addr) (out : Array Value) (c : Nat) (ys : List Str), (∀ b o, s.heap.get? b = some o → s'.heap.get? b = some o) → s'.gens = s.gens → s'.os = s.os → s.heap.objs.size ≤ p →
      s'.heap.get? p = some (seqObj "list" out c) → StrsAre out.toList ys → sortedS ys = true → ys.Perm l → Q (.ref p) s') :
    wpAny (model P w) A (call (.builtin "sorted") [.ref a]) Q E s := by
  obtain ⟨⟨es, ep, t⟩, ho, G⟩ := R
  have hz : es.size = l.length := G.tx.sz
  have lim : scanBound > 64 := by decide
  refine Calls.call_function_entry kind_sorted plain_sorted entry_sorted (args_sorted1 _) ?_
  unfold Builtin.«sorted»
  refine wpAny_bind (m := checkCount "sorted" 1 1 _) (wpAny_pure ?_)
  refine wpAny_bind (collect_set (A := A.in1) hh ⟨_, ho, rfl, rfl⟩ G.tx.fit (by show es.size < _; omega) G.ris G.led fun s1 vs k1 z1 g1 o1 pm => ?_)
  have pm' : vs.Perm (es.toList.map (·.2)) := pm
  have hvl : vs.length = l.length := by rw [pm'.length_eq, List.length_map, Array.length_toList]; exact hz
  have hstr : ∀ v ∈ vs, ∃ x t, v = Value.str x t := fun v hv => strs_of_kind G.tx v (pm'.mem_iff.mp hv)
  have hS := strsAre_txt hstr
  have hperm : (vs.map txt).Perm l := (pm'.map txt).trans <| perm_of_sub G.nd (fun x hx => by
      obtain ⟨e, he, q⟩ := (G.tx.mem x).mp hx
      obtain ⟨t', z⟩ := Value.isStrOf_shape (x := x) (v := e.2) q
      exact List.mem_map.mpr ⟨e.2, List.mem_map.mpr ⟨e, he, rfl⟩, by rw [z]; rfl⟩) (by rw [List.length_map, List.length_map, Array.length_toList]; exact hz)
  refine wpAny_bind (wpAny_newList ?_ (by rw [hvl, sizeLine_eq]; omega))
  have hoL : (s1.heap.push (seqObj "list" vs.toArray 0)).get? s1.heap.objs.size = some (seqObj "list" vs.toArray 0) := Heap.get?_push_size _ rfl
  refine wpAny_bind (wpAny_holding (wpAny_call_entry slot_list_sort ⟨_, hoL, rfl⟩ entry_list_sort
    (list_sort_treeK strKind_oneLt hoL hS.keysOf (fun v₁ v₂ rest e => keyKind_strs (by rw [← e]; exact hS)) (by rw [hvl]; exact h64) fun st' a1 a2 => ⟨_, rfl, ?_⟩) (args_list_sort _)))
  obtain ⟨ys, b1, b2, b3⟩ := sorted_out_str hS a1 a2
  obtain ⟨c, hc⟩ := sortedHeap_at (vs := vs) (out := (arrOf st').map (·.2)) hoL
  refine wpAny_pure ⟨_, rfl, hQ _ s1.heap.objs.size _ c ys (fun b u e => ?_) g1 o1 z1 hc b1 b3 (b2.trans hperm)⟩
  have q := k1 b u e
  have hlt := Heap.lt_size q
  show (sortedHeap (s1.heap.push (seqObj "list" vs.toArray 0)) s1.heap.objs.size vs _).get? b = some u
  rw [sortedHeap_old (Nat.ne_of_lt hlt) (by rw [size_push']; exact Nat.lt_succ_of_lt hlt)]
  exact Heap.get?_push_of_some _ q
end
/-! ### as tracked things -/
def SetX (P : Program) (w : World) (a : Addr) (l : List Str) : HO := .ext fun h => TxAt P w h a l
theorem setX_new {w : World} {P : Program} {H : Hp} {h : Heap} {a : Addr} {l : List Str} (R : TxAt P w h a l) : ObjOk P w H h a (SetX P w a l) := by
  obtain ⟨D, ho, G⟩ := R
  exact ⟨⟨D, ho, G⟩, ⟨_, ho⟩, fun h1 h2 p k => let ⟨D', ho', G'⟩ := p; ⟨D', k _ ho', G'⟩⟩
section
variable {X : Cx}
theorem setX_get {pins : List (Addr × Obj)} {σ : L2.St} {H : Hp} {s : Shared} {a : Addr} {l : List Str} (I : Inv X pins σ H s) (ha : H a = some (SetX X.prog X.w a l)) : TxAt X.prog X.w s.heap a l := (I.hok a _ ha).1
theorem addX_ok {pins : List (Addr × Obj)} {σ : L2.St} {H : Hp} {s : Shared} {E : Value → Shared → Prop} {D : Addr} {l : List Str} {k : Str} {u : Tok} {Q : Value → Shared → Prop} (I : Inv X pins σ H s) (hD : H D = some (SetX X.prog X.w D l)) (room : l.length + 1 < scanBound)
    (h : ∀ s', Inv X pins σ (upd H D (SetX X.prog X.w D (put l k))) s' → Q .none s') : wpAny (model X.prog X.w) X.A (call (.builtin "set.add") [.ref D, .str k u]) Q E s := by
  refine tx_add (setX_get I hD) room fun h' sb new => ?_
  have he : ∃ u, h'.get? D = some u := let ⟨_, ho, _⟩ := new; ⟨_, ho⟩
  exact h _ (I.write (e := D) (t' := s.toks + 1) (by rw [hD]; trivial) (.inl rfl) (fun b u hb hu => (sb.2 b hb).trans hu) he (setX_new new))
def rSortedX (P : Program) (w : World) : List V → Hp → VK → Prop := fun vs H Q => ∃ (a : Addr) (l : List Str), vs = [V.ref a] ∧ H a = some (SetX P w a l) ∧ l.length < 64 ∧
  ∀ (ys : List Str) (p : Addr), sortedS ys = true → ys.Perm l → H p = none → Q (.ref p) (upd H p (.lst (ys.map V.str)))
theorem cr_sortedX (hc : X.calm = true) : CallR X (.builtin "sorted") (rSortedX X.prog X.w) := by
  intro pins s σ H vs us Q I r h
  obtain ⟨a, l, rfl, ha, h64, q⟩ := h
  rw [Vals.ref1 r]
  refine tx_sorted (setX_get I ha) (I.ok.hd hc) h64 fun s' p out c ys k g o hp hg hi hs hl => ?_
  have hlen : (ys.map V.str).length ≤ sizeLine := by rw [List.length_map, hl.length_eq, sizeLine_eq]; omega
  have hn : H p = none := I.hok.fresh hp
  have J : Inv X pins σ (upd H p (.lst (ys.map V.str))) { s with heap := s'.heap, gens := s'.gens, drawn := s'.drawn, toks := s'.toks } :=
    I.call (ch := []) (Un.laid k hp hn) (I.hok.laid k hp ⟨hlen, out.toList, c, vals_of_strs hi, hg⟩) (by rw [g]; exact I.bare) (fun _ z => nomatch z)
  have e : s' = { s with heap := s'.heap, gens := s'.gens, drawn := s'.drawn, toks := s'.toks } := by
    cases s'; cases s; cases o; rfl
  rw [e]
  exact ⟨.ref p, _, J, rfl, q ys p hs hl hn⟩
end
end Kx
namespace Kx
open PySem L2 PySem.Spec PyProof.Rows PpSet
/-! set comprehensions of texts, with several clauses -/
/-- one turn of a clause, whatever is done with an element that passes -/
def turnOf (tg : Expr) (pos : Pos) (ifs : List Expr) (body : Sem Unit) (c : Expr) (j : Nat) (it acc : Value) (env : Env) : Sem Fin := do
  standAt pos
  match ← pyNext it with
  | none => pure (.done .next)
  | some v =>
    letOwnedTupleGo tg it v
    assign tg env v
    let mut ok := true
    for c in ifs do
      if ok then ok ← isTrue c env (eval c env)
    if ok then body
    again (.compLoop c j it acc env)
abbrev testsOf (ifs : List Expr) (env : Env) : Sem Bool := forIn ifs true fun c r => if r = true then do let ok ← isTrue c env (eval c env); pure (ForInStep.yield ok) else pure (ForInStep.yield r)
section
variable {P : Program} {w : World} {A : Around} {R : Result → Shared → Prop} {s : Shared} {elt tg : Expr} {gs : List Comprehension} {scope : Scope} {cp : Pos} {j : Nat} {ifs : List Expr} {pos : Pos} {it acc : Value} {env : Env} {body : Sem Unit}
abbrev NoE : Value → Shared → Prop := fun _ _ => False
theorem loop_gen (hturn : compTurn (.SetComp elt gs scope cp) j it acc env = turnOf tg pos ifs body (.SetComp elt gs scope cp) j it acc env) (I : Nat → Shared → Prop)
    (turn : ∀ n s, I n s → wpAny (model P w) A (pyNext it) (fun r s1 => match r with
      | none => R (.ok .next) s1
      | some v => wpAny (model P w) A (letOwnedTupleGo tg it v) (fun _ s2 => wpAny (model P w) A (assign tg env v) (fun _ s3 => wpAny (model P w) A (testsOf ifs env) (fun ok s4 =>
          if ok = true then wpAny (model P w) A body (fun _ s5 => ∃ m, m < n ∧ I m s5) NoE s4 else ∃ m, m < n ∧ I m s4) NoE s3) NoE s2) NoE s1) NoE s)
    (n : Nat) (h : I n s) : codeAny (model P w) A (.compLoop (.SetComp elt gs scope cp) j it acc env) R s := by
  refine codeAny_loop rfl I (fun n s hI => ?_) n h
  show wpAny _ A ((compTurn (.SetComp elt gs scope cp) j it acc env).onRaise (fun x => do noteFrame x env; theTreesLotGoes x)) _ _ s
  refine wpAny_noted ?_
  rw [hturn]
  unfold turnOf
  refine wpAny_bind (wpAny_standAt (wpAny_bind (thnF (turn n s hI) fun r s1 h1 => ?_)))
  cases r with
  | none => exact wpAny_pure h1
  | some v =>
    refine wpAny_bind (thnF h1 fun _ s2 h2 => ?_)
    refine wpAny_bind (thnF h2 fun _ s3 h3 => wpAny_bind (thnF h3 fun ok s4 h4 => ?_))
    cases ok with
    | false => exact wpAny_pure ⟨rfl, h4⟩
    | true => exact wpAny_bind (thnF h4 fun _ s5 h5 => wpAny_pure ⟨rfl, h5⟩)
end
abbrev TB := L2.St → Hp → (Hp → Prop) → Prop
/-- what is done with an element, in a block -/
structure PB (Y : Cx) (body : Sem Unit) (vs : List Nat) (tb : TB) : Prop where
  run : ∀ (pins : List (Addr × Obj)) (s : Shared) (σ : L2.St) (H : Hp) (Q : Hp → Prop), Inv Y pins σ H s → tb σ H Q → wpAny (model Y.prog Y.w) Y.A body (fun _ s' => ∃ H', Inv Y pins (wipe σ vs) H' s' ∧ Q H') NoE s
def tElt (P : Program) (w : World) (te : TE) (D : Addr) : TB := fun σ H Q => te σ H fun y H1 => ∃ (l : List Str) (k : Str), y = .str k ∧ H1 D = some (SetX P w D l) ∧ l.length + 1 < scanBound ∧ Q (upd H1 D (SetX P w D (put l k)))
def tNest (wi : TI) (g : TG) (tt : TT) (tb : TB) (vs : List Nat) : TB := fun σ H Q => wi σ H fun J H1 => ∃ W : Nat → Nat → Hp → Prop, (∃ m, W 0 m H1) ∧ ∀ i m H, W i m H →
  (J.stop i H ∧ Q H) ∨ (J.go i H ∧ ∃ Nx : Hp → Prop, (∀ H', Nx H' → ∃ m', m' < m ∧ W (i + 1) m' H') ∧ ∀ x H', J.yld i H x H' → g x (wipe σ vs) H' fun σ2 H2 => wipe σ2 vs = wipe σ vs ∧ tt σ2 H2 fun b H3 => if b = true then tb σ2 H3 Nx else Nx H3)
section
variable {Y : Cx} {elt tg iter ee : Expr} {gs : List Comprehension} {scope : Scope} {cp : Pos} {ifs : List Expr} {te : TE} {D : Addr} {wi : TI} {g : TG} {tt : TT} {tb : TB} {vs vs' : List Nat} {j : Nat} {acc : Value} {body : Sem Unit}
theorem pb_elt (hx : Y.xe = NoE) (he : PE Y elt te) : PB Y (do let v ← eval elt Y.env; standAt elt.pos; let _ ← call (.builtin "set.add") [.ref D, v]) [] (tElt Y.prog Y.w te D) := by
  refine ⟨fun pins s σ H Q I h => ?_⟩
  have z := he.run pins s σ H _ I h
  rw [hx] at z
  refine wpAny_bind (thnF z fun u s1 ⟨y, H1, I1, r, l, k, e, hD, room, q⟩ => wpAny_bind (wpAny_standAt ?_))
  subst e
  obtain ⟨t, rfl⟩ := r
  exact wpAny_bind (addX_ok I1 hD room fun s2 I2 => wpAny_pure ⟨_, I2, q⟩)
/-- a further clause's start -/
def StartOk (c : Expr) (j : Nat) (acc : Value) (env : Env) : Prop := ∀ (P : Program) (w : World) (A : Around) (R : Result → Shared → Prop) (s : Shared) (it : Value), codeAny (model P w) A (.compLoop c j it acc env) R s →
  (∀ E, wpAny (model P w) A (pyIter it) (fun it' s' => codeAny (model P w) A (.compLoop c j it' acc env) R s') E s) → codeAny (model P w) A (.compStart c j it acc env) R s
theorem pb_nest (sub : ∀ i ∈ vs', i ∈ vs) (hc : Y.calm = true) (hx : Y.xe = NoE) (hi : PI Y tg iter wi) (hg : PG Y tg g) (ht : PTs Y ifs tt) (hb : PB Y body vs' tb) (hs : ∀ x, foldedSetIterable iter Y.env x = pure x)
    (hturn : ∀ it, compTurn (.SetComp ee gs scope cp) j (.ref it) acc Y.env = turnOf tg iter.pos ifs body (.SetComp ee gs scope cp) j (.ref it) acc Y.env) (hst : StartOk (.SetComp ee gs scope cp) j acc Y.env) :
    PB Y (do let x ← eval iter Y.env; standAt iter.pos; let x ← foldedSetIterable iter Y.env x; let _ ← runOwn (.compStart (.SetComp ee gs scope cp) j (← holding [x] (pyIter x)) acc Y.env) Y.env) vs (tNest wi g tt tb vs) := by
  refine ⟨fun pins s σ H Q I h => ?_⟩
  have z := hi.run pins s σ H _ I h
  rw [hx] at z
  refine wpAny_bind (thnF z fun xv s1 hv => ?_)
  refine wpAny_bind (wpAny_standAt (wpAny_bind (wpAny_of_eq (hs xv) (wpAny_bind (wpAny_holding (thnF hv fun itv s2 h2 => ?_))))))
  obtain ⟨it, fp, tn, J, H1, e, I1, T, st, fo, W, ⟨m0, w0⟩, turn⟩ := h2
  subst e
  refine wpAny_bind (wpAny_runOwn ?_)
  rw [Around.mark_none]
  have stat : ∀ {H' : Hp}, (∀ b ∈ fp, H' b = none) → ∀ b ∈ fp, FpOk Y pins H' b := fun hn b hb => ⟨hn b hb, (fo b hb).2⟩
  have loop : codeAny (model Y.prog Y.w) Y.A (.compLoop (.SetComp ee gs scope cp) j (.ref it) acc Y.env) (fun r s' => match r with
      | .ok _ => ∃ H', Inv Y pins (wipe σ vs) H' s' ∧ Q H'
      | .error _ => False) s2 := by
    refine loop_gen (hturn it) (fun k s' => ∃ i H', Inv Y pins (wipe σ vs) H' s' ∧ tn i s'.heap ∧ (∀ b ∈ fp, H' b = none) ∧ W i k H') ?_ m0 ⟨0, H1, I1.weak (wipe_length _ _) (fun j v e => (wipe_some e).1), st, fun b hb => (fo b hb).1, w0⟩
    rintro k s3 ⟨i, H3, I3, st3, n3, w3⟩
    rcases turn i k H3 w3 with ⟨stop, q⟩ | ⟨go, Nx, hNx, step⟩
    · refine thnF (T.done Y rfl rfl rfl hc i _ s3 (wipe σ vs) H3 NoE I3 (stat n3) st3 stop) fun r s4 ⟨hr, I4⟩ => ?_
      subst hr
      exact ⟨H3, I4, q⟩
    · refine thnF (T.item Y rfl rfl rfl hc i _ s3 (wipe σ vs) H3 NoE I3 (stat n3) st3 go) fun r s4 ⟨u, hr, h4⟩ => ?_
      subst hr
      refine thnF h4 fun _ s5 ⟨x, H5, I5, r5, y5, st5, n5⟩ => ?_
      have I5' := I5.pinned (stat n5) (T.obj _ _ st5)
      have z6 := hg.run _ s5 (wipe σ vs) H5 x u _ I5' r5 (step x H5 y5)
      rw [hx] at z6
      refine thnF z6 fun _ s6 ⟨σ6, H6, I6, hw, q6⟩ => ?_
      have z7 := ht.run _ s6 σ6 H6 _ I6 q6
      rw [hx] at z7
      refine thnF z7 fun b s7 ⟨H7, I7, q7⟩ => ?_
      have fin : ∀ {vs1 : List Nat} {s' : Shared} {H' : Hp}, (∀ i ∈ vs1, i ∈ vs) → Inv Y (pins ++ pinsAt fp s5.heap) (wipe σ6 vs1) H' s' → Nx H' → ∃ m, m < k ∧ ∃ i H', Inv Y pins (wipe σ vs) H' s' ∧ tn i s'.heap ∧ (∀ b ∈ fp, H' b = none) ∧ W i m H' := fun {vs1 s' H'} hv I' nx => by
        obtain ⟨m', hm, w'⟩ := hNx H' nx
        have pin' : ∀ b ∈ fp, ∀ o, s5.heap.get? b = some o → s'.heap.get? b = some o ∧ H' b = none := fun b hb o e =>
          let z := I'.pin (b, o) (List.mem_append_right _ (List.mem_append_right _ (mem_pinsAt hb e)))
          ⟨z.1, z.2.1⟩
        refine ⟨m', hm, i + 1, H', I'.unpinned.weak (by rw [← hw, wipe_length, wipe_length]) (fun j v e => ?_), T.keep _ _ _ st5 fun b hb o e => (pin' b hb o e).1, fun b hb => ?_, w'⟩
        · rw [← hw] at e
          obtain ⟨e1, e2⟩ := wipe_some e
          rw [wipe_out fun z => e2 (hv j z)]
          exact e1
        · obtain ⟨o, e, _⟩ := T.obj _ _ st5 b hb
          exact (pin' b hb o e).2
      cases b with
      | false =>
        simp only [Bool.false_eq_true, if_false] at q7 ⊢
        exact fin (vs1 := []) (fun i z => nomatch z) I7 q7
      | true =>
        simp only [if_true] at q7 ⊢
        exact thnF (hb.run _ s7 σ6 H7 _ I7 q7) fun _ s8 ⟨H8, I8, q8⟩ => fin sub I8 q8
  refine codeAny_mono (hst _ _ _ _ _ _ loop fun E => T.self Y.A 0 _ _ _ st loop) fun r s' hr => ?_
  cases r with
  | ok f =>
    first
      | exact wpAny_pure hr
      | exact wpAny_bind (wpAny_pure (wpAny_pure hr))
  | error e => exact hr.elim
end
end Kx
namespace Kx
open PySem L2 PySem.Spec PyProof.Rows PpSet
def tScN (P : Program) (w : World) (wi : TI) (g : TG) (tt : TT) (tb : Addr → TB) (vs : List Nat) : TE := fun σ H Q => wi σ H fun J H1 => ∀ D, H1 D = none → ∃ W : Nat → Nat → Hp → Prop, (∃ m, W 0 m (upd H1 D (SetX P w D []))) ∧ ∀ i m H, W i m H →
  (J.stop i H ∧ Q (.ref D) H) ∨ (J.go i H ∧ ∃ Nx : Hp → Prop, (∀ H', Nx H' → ∃ m', m' < m ∧ W (i + 1) m' H') ∧ ∀ x H', J.yld i H x H' → g x (wipe σ vs) H' fun σ2 H2 => wipe σ2 vs = wipe σ vs ∧ tt σ2 H2 fun b H3 => if b = true then tb D σ2 H3 Nx else Nx H3)
section
variable {X : Cx} {elt tg iter : Expr} {ifs : List Expr} {gs : List Comprehension} {scope : Scope} {own : List (PySem.Str × Nat)} {cp : Pos} {wi : TI} {g : TG} {tt : TT} {tb : Addr → TB} {body : Addr → Env → Sem Unit} {vs' : List Nat}
theorem pe_scN (hc : X.calm = true) (hN : X.N.Nodup) (hi : PI X tg iter wi) (ok : BlkOk X.N X.env.scope scope own) (sub : ∀ i ∈ vs', i ∈ own.map (·.2))
    (hg : ∀ (s : Shared) (H : Hp) (C : Addr) (cl : List (PySem.Str × Addr)) (fp : List Addr), PG (X.blk s H scope (compEnvC scope cl C X.env) fp) tg g)
    (ht : ∀ (s : Shared) (H : Hp) (C : Addr) (cl : List (PySem.Str × Addr)) (fp : List Addr), PTs (X.blk s H scope (compEnvC scope cl C X.env) fp) ifs tt)
    (hb : ∀ (s : Shared) (H : Hp) (C : Addr) (cl : List (PySem.Str × Addr)) (fp : List Addr) (D : Addr), PB (X.blk s H scope (compEnvC scope cl C X.env) fp) (body D (compEnvC scope cl C X.env)) vs' (tb D))
    (hturn : ∀ it D env, compTurn (.SetComp elt (⟨tg, iter, ifs, 0⟩ :: gs) scope cp) 0 (.ref it) (.ref D) env = turnOf tg iter.pos ifs (body D env) (.SetComp elt (⟨tg, iter, ifs, 0⟩ :: gs) scope cp) 0 (.ref it) (.ref D) env)
    (hs : ∀ x, foldedSetIterable iter X.env x = pure x := by intro _; rfl) : PE X (.SetComp elt (⟨tg, iter, ifs, 0⟩ :: gs) scope cp) (tScN X.prog X.w wi g tt tb (own.map (·.2))) := by
  refine ⟨fun pins s σ H Q I h => ?_⟩
  rw [eval_SetComp]
  have fr : ∀ y ∈ scope.names, y.2 = .free → ∃ c, X.env.cells.lookup y.1 = some c := fun y hy e => I.ok.has _ (ok.free y hy e)
  refine wpAny_comprehension_free (use := none) rfl hs (closure_ok fr) ok.kind (fun y hy e => by rw [ok.uniq y hy, e]) (thn (hi.run pins s σ H _ I h) fun xv sa hx => thn hx fun itv sb hb' => ?_)
  obtain ⟨it, fp, tn, J, Hb, e, Ib, T, stb, fb, q⟩ := hb'
  subst e
  refine newSet_ok (newEnv_comp ?_)
  obtain ⟨D, hD⟩ : ∃ D, sb.heap.objs.size = D := ⟨_, rfl⟩
  have hDn : Hb D = none := Ib.hok.fresh (Nat.le_of_eq hD)
  obtain ⟨W, ⟨m0, w0⟩, turn⟩ := q D hDn
  obtain ⟨sc, hsc⟩ : ∃ sc : Shared, ({ sb with heap := sb.heap.push { cls := .type "set", dict := none, data := .set #[] 0 (.fresh 0 0 (!X.w.params.followText "set-order")) } } : Shared) = sc := ⟨_, rfl⟩
  have hch : sc.heap = sb.heap.push { cls := .type "set", dict := none, data := .set #[] 0 (.fresh 0 0 (!X.w.params.followText "set-order")) } := by rw [← hsc]
  have Ic : Inv X pins σ (upd Hb D (SetX X.prog X.w D [])) sc := by
    rw [← hsc]
    refine Ib.laid (t' := sb.toks) (fun b o z => Heap.get?_push_of_some _ z) (Nat.le_of_eq hD) ?_
    rw [← hD]
    exact setX_new txAt_new
  have lt : ∀ b ∈ fp, b < sb.heap.objs.size := fun b hb => let ⟨o, z, _⟩ := T.obj _ _ stb b hb; Heap.lt_size z
  have fc : ∀ b ∈ fp, FpOk X pins (upd Hb D (SetX X.prog X.w D [])) b ∧ b < sc.heap.objs.size := fun b hb =>
    ⟨⟨by rw [upd_ne (by rw [← hD]; exact Nat.ne_of_lt (lt b hb))]; exact (fb b hb).1, (fb b hb).2⟩, by rw [hch, Heap.size_push]; exact Nat.lt_succ_of_lt (lt b hb)⟩
  have stc : tn 0 sc.heap := T.keep _ _ _ stb fun b _ o z => by rw [hch]; exact Heap.get?_push_of_some _ z
  have Id0 := block_start Ic ok hN fc
  rw [hD]
  have pg := hg sc (upd Hb D (SetX X.prog X.w D [])) sc.heap.objs.size (cellsFrom (sc.heap.objs.size + 1) scope.names (cloFrom X.env.cells scope.names [])) fp
  have pt := ht sc (upd Hb D (SetX X.prog X.w D [])) sc.heap.objs.size (cellsFrom (sc.heap.objs.size + 1) scope.names (cloFrom X.env.cells scope.names [])) fp
  have pb := hb sc (upd Hb D (SetX X.prog X.w D [])) sc.heap.objs.size (cellsFrom (sc.heap.objs.size + 1) scope.names (cloFrom X.env.cells scope.names [])) fp D
  rw [show ({ sb with heap := sb.heap.push { cls := .type "set", dict := none, data := .set #[] 0 (.fresh 0 0 (!X.w.params.followText "set-order")) } } : Shared) = sc from hsc]
  obtain ⟨ce, hce⟩ : ∃ ce, compEnvC scope (cellsFrom (sc.heap.objs.size + 1) scope.names (cloFrom X.env.cells scope.names [])) sc.heap.objs.size X.env = ce := ⟨_, rfl⟩
  have cL : ce.locals = sc.heap.objs.size := by rw [← hce] <;> rfl
  obtain ⟨Hc, hHc⟩ : ∃ Hc, upd Hb D (SetX X.prog X.w D []) = Hc := ⟨_, rfl⟩
  obtain ⟨sd, hsd⟩ : ∃ sd : Shared, ({ sc with heap := pushCells (sc.heap.push { cls := .type "dict", data := .dict #[] }) scope.names } : Shared) = sd := ⟨_, rfl⟩
  have kd : ∀ b o, sc.heap.get? b = some o → sd.heap.get? b = some o := fun b o z => by rw [← hsd]; exact pushCells_keeps _ _ _ _ (Heap.get?_push_of_some _ z)
  rw [hce] at Id0 pg pt pb
  rw [hHc] at Id0 pg pt pb w0 Ic fc
  rw [hsd] at Id0
  have std : tn 0 sd.heap := T.keep _ _ _ stc fun b _ o z => kd b o z
  have stat : ∀ {σ' : L2.St} {H' : Hp} {s' : Shared}, Inv (X.blk sc Hc scope ce fp) [] σ' H' s' → (∀ b ∈ fp, H' b = none) → ∀ b ∈ fp, FpOk (X.blk sc Hc scope ce fp) [] H' b := fun {σ' H' s'} I' hn b hb =>
    ⟨hn b hb, (I'.ok.exf b hb).1, I'.ok.exfs b hb, .inl hb, fun x c z => (I'.ok.exf b hb).2 x c z, fun p hp => absurd (show p ∈ ([] : List (Addr × Obj)) ++ [] from hp) (by simp)⟩
  have loop : codeAny (model X.prog X.w) X.A (.compLoop (.SetComp elt (⟨tg, iter, ifs, 0⟩ :: gs) scope cp) 0 (.ref it) (.ref D) ce) (compPost (model X.prog X.w) X.A X.xe none (EP X pins σ Q) (.ref D) sc.heap.objs.size) sd := by
    refine loop_gen (hturn it D ce) (fun n s' => ∃ i H', Inv (X.blk sc Hc scope ce fp) [] (wipe σ (own.map (·.2))) H' s' ∧ tn i s'.heap ∧ (∀ b ∈ fp, H' b = none) ∧ W i n H') ?_ m0 ⟨0, Hc, Id0, std, fun b hb => (fc b hb).1.1, w0⟩
    rintro n s5 ⟨i, H5, I5, st5, n5, w5⟩
    rcases turn i n H5 w5 with ⟨stop, qq⟩ | ⟨go, Nx, hNx, step⟩
    · refine thnF (T.done (X.blk sc Hc scope ce fp) rfl rfl rfl hc i [] s5 _ H5 NoE I5 (stat I5 n5) st5 stop) fun r s6 ⟨hr, I6⟩ => ?_
      subst hr
      have I7 : Inv X pins σ H5 s6 := Ic.call' (ch := fp) I6.os I6.base I6.hok I6.bare fun b hb => ⟨(fc b hb).1.2.2.2.1, (fc b hb).1.2.1, (fc b hb).1.2.2.2.2.1, (fc b hb).1.2.2.2.2.2⟩
      have nC : H5 sc.heap.objs.size = none := by
        have z : H5 ce.locals = none := I6.free
        rw [cL] at z
        exact z
      obtain ⟨m, hn, _⟩ := I6.loc
      have hn : s6.heap.Ns ce.locals m := hn
      rw [cL] at hn
      obtain ⟨f0, f1, f2, f3, f4, f5⟩ := Ic.fpOk (Nat.le_refl _) nC
      exact ⟨m, hn, fun h'' sb' => ⟨.ref D, H5, I7.turned (t' := s6.toks) (fun b o hb z => (sb'.2 b hb).trans z) f0 f1 f3 f4 f5, rfl, qq⟩⟩
    · refine thnF (T.item (X.blk sc Hc scope ce fp) rfl rfl rfl hc i [] s5 _ H5 NoE I5 (stat I5 n5) st5 go) fun r s6 ⟨u, hr, h6⟩ => ?_
      subst hr
      refine thnF h6 fun _ s7 ⟨x, H7, I7, r7, y7, st7, n7⟩ => ?_
      have J7 := I7.pinned (stat I7 n7) (T.obj _ _ st7)
      refine thnF (pg.run _ s7 _ H7 x u _ J7 r7 (step x H7 y7)) fun _ s8 ⟨σ8, H8, I8, hw8, q8⟩ => ?_
      refine thnF (pt.run _ s8 σ8 H8 _ I8 q8) fun b s9 ⟨H9, I9, q9⟩ => ?_
      have fin : ∀ {vs1 : List Nat} {s' : Shared} {H' : Hp}, (∀ i ∈ vs1, i ∈ own.map (·.2)) → Inv (X.blk sc Hc scope ce fp) ([] ++ pinsAt fp s7.heap) (wipe σ8 vs1) H' s' → Nx H' → ∃ m, m < n ∧ ∃ i H', Inv (X.blk sc Hc scope ce fp) [] (wipe σ (own.map (·.2))) H' s' ∧ tn i s'.heap ∧ (∀ b ∈ fp, H' b = none) ∧ W i m H' := fun {vs1 s' H'} hv I' nx => by
        obtain ⟨m', hm, w'⟩ := hNx H' nx
        have pin' : ∀ b ∈ fp, ∀ o, s7.heap.get? b = some o → s'.heap.get? b = some o ∧ H' b = none := fun b hb o z =>
          let k := I'.pin (b, o) (List.mem_append_right _ (List.mem_append_right _ (mem_pinsAt hb z)))
          ⟨k.1, k.2.1⟩
        refine ⟨m', hm, i + 1, H', (I'.unpinned (pins := [])).weak (by rw [← hw8, wipe_length, wipe_length]) (fun j v z => ?_), T.keep _ _ _ st7 fun b hb o z => (pin' b hb o z).1, fun b hb => ?_, w'⟩
        · rw [← hw8] at z
          obtain ⟨e1, e2⟩ := wipe_some z
          rw [wipe_out fun k => e2 (hv j k)]
          exact e1
        · obtain ⟨o, z, _⟩ := T.obj _ _ st7 b hb
          exact (pin' b hb o z).2
      cases b with
      | false =>
        simp only [Bool.false_eq_true, if_false] at q9 ⊢
        exact fin (vs1 := []) (fun i z => nomatch z) I9 q9
      | true =>
        simp only [if_true] at q9 ⊢
        exact thnF (pb.run _ s9 σ8 H9 _ I9 q9) fun _ s10 ⟨H10, I10, q10⟩ => fin sub I10 q10
  rw [← hce] at loop
  rw [← hsd] at loop
  exact codeAny_compStart_set loop (T.self X.A 0 _ _ _ (by rw [hsd]; exact std) loop)
end
/-! three clauses -/
section
variable {elt t0 i0 t1 i1 t2 i2 : Expr} {f0 f1 f2 : List Expr} {scope : Scope} {cp : Pos}
theorem start1 (acc : Value) (env : Env) : StartOk (.SetComp elt [⟨t0, i0, f0, 0⟩, ⟨t1, i1, f1, 0⟩, ⟨t2, i2, f2, 0⟩] scope cp) 1 acc env := by
  intro P w A R s it h0 h
  refine codeAny_of_tree ?_
  show wpAny _ _ ((compStart (.SetComp elt [⟨t0, i0, f0, 0⟩, ⟨t1, i1, f1, 0⟩, ⟨t2, i2, f2, 0⟩] scope cp) 1 it acc env).onRaise (fun x => do noteFrame x env; standAt theWindowsPlace)) _ _ s
  refine wpAny_notedAt ?_
  unfold compStart
  show wpAny _ _ (ask >>= _) _ _ s
  refine wpAny_bind (wpAny_askSetting (wpAny_ite ?_))
  split
  · first
      | exact wpAny_bind (wpAny_pure (wpAny_pure (And.intro rfl h0)))
      | exact wpAny_pure (And.intro rfl h0)
  · refine wpAny_bind (wpAny_rule ?_)
    show wpAny _ _ (standAt i1.pos >>= _) _ _ s
    exact wpAny_bind (wpAny_standAt (wpAny_bind (thn (h _) fun it' s' h' => wpAny_pure (And.intro rfl h'))))
theorem start2 (acc : Value) (env : Env) : StartOk (.SetComp elt [⟨t0, i0, f0, 0⟩, ⟨t1, i1, f1, 0⟩, ⟨t2, i2, f2, 0⟩] scope cp) 2 acc env := by
  intro P w A R s it h0 h
  refine codeAny_of_tree ?_
  show wpAny _ _ ((compStart (.SetComp elt [⟨t0, i0, f0, 0⟩, ⟨t1, i1, f1, 0⟩, ⟨t2, i2, f2, 0⟩] scope cp) 2 it acc env).onRaise (fun x => do noteFrame x env; standAt theWindowsPlace)) _ _ s
  refine wpAny_notedAt ?_
  unfold compStart
  show wpAny _ _ (ask >>= _) _ _ s
  refine wpAny_bind (wpAny_askSetting (wpAny_ite ?_))
  split
  · first
      | exact wpAny_bind (wpAny_pure (wpAny_pure (And.intro rfl h0)))
      | exact wpAny_pure (And.intro rfl h0)
  · refine wpAny_bind (wpAny_rule ?_)
    show wpAny _ _ (standAt i2.pos >>= _) _ _ s
    exact wpAny_bind (wpAny_standAt (wpAny_bind (thn (h _) fun it' s' h' => wpAny_pure (And.intro rfl h'))))
abbrev c3 (elt t0 i0 t1 i1 t2 i2 : Expr) (f0 f1 f2 : List Expr) (scope : Scope) (cp : Pos) : Expr := .SetComp elt [⟨t0, i0, f0, 0⟩, ⟨t1, i1, f1, 0⟩, ⟨t2, i2, f2, 0⟩] scope cp
abbrev bElt (elt : Expr) (D : Addr) (env : Env) : Sem Unit := do let v ← eval elt env; standAt elt.pos; let _ ← call (.builtin "set.add") [.ref D, v]
abbrev bNest (c : Expr) (j : Nat) (iter : Expr) (D : Addr) (env : Env) : Sem Unit := do let x ← eval iter env; standAt iter.pos; let x ← foldedSetIterable iter env x; let _ ← runOwn (.compStart c j (← holding [x] (pyIter x)) (.ref D) env) env
theorem turn3_0 (it D : Addr) (env : Env) : compTurn (c3 elt t0 i0 t1 i1 t2 i2 f0 f1 f2 scope cp) 0 (.ref it) (.ref D) env = turnOf t0 i0.pos f0 (bNest (c3 elt t0 i0 t1 i1 t2 i2 f0 f1 f2 scope cp) 1 i1 D env) (c3 elt t0 i0 t1 i1 t2 i2 f0 f1 f2 scope cp) 0 (.ref it) (.ref D) env := by
  have e : compTurn (c3 elt t0 i0 t1 i1 t2 i2 f0 f1 f2 scope cp) 0 (.ref it) (.ref D) env = (do
      standAt i0.pos
      match ← pyNext (.ref it) with
      | none => pure (.done .next)
      | some v =>
        letOwnedTupleGo t0 (.ref it) v
        assign t0 env v
        let mut ok := true
        for c in f0 do
          if ok then ok ← isTrue c env (eval c env)
        if ok then
          let x ← eval i1 env
          standAt i1.pos
          let x ← foldedSetIterable i1 env x
          let _ ← runOwn (.compStart (c3 elt t0 i0 t1 i1 t2 i2 f0 f1 f2 scope cp) 1 (← holding [x] (pyIter x)) (.ref D) env) env
        again (.compLoop (c3 elt t0 i0 t1 i1 t2 i2 f0 f1 f2 scope cp) 0 (.ref it) (.ref D) env)) := by rfl
  rw [e]
  unfold turnOf
  simp only [bind_assoc, pure_bind]
  all_goals rfl
theorem turn3_1 (it D : Addr) (env : Env) : compTurn (c3 elt t0 i0 t1 i1 t2 i2 f0 f1 f2 scope cp) 1 (.ref it) (.ref D) env = turnOf t1 i1.pos f1 (bNest (c3 elt t0 i0 t1 i1 t2 i2 f0 f1 f2 scope cp) 2 i2 D env) (c3 elt t0 i0 t1 i1 t2 i2 f0 f1 f2 scope cp) 1 (.ref it) (.ref D) env := by
  have e : compTurn (c3 elt t0 i0 t1 i1 t2 i2 f0 f1 f2 scope cp) 1 (.ref it) (.ref D) env = (do
      standAt i1.pos
      match ← pyNext (.ref it) with
      | none => pure (.done .next)
      | some v =>
        letOwnedTupleGo t1 (.ref it) v
        assign t1 env v
        let mut ok := true
        for c in f1 do
          if ok then ok ← isTrue c env (eval c env)
        if ok then
          let x ← eval i2 env
          standAt i2.pos
          let x ← foldedSetIterable i2 env x
          let _ ← runOwn (.compStart (c3 elt t0 i0 t1 i1 t2 i2 f0 f1 f2 scope cp) 2 (← holding [x] (pyIter x)) (.ref D) env) env
        again (.compLoop (c3 elt t0 i0 t1 i1 t2 i2 f0 f1 f2 scope cp) 1 (.ref it) (.ref D) env)) := by rfl
  rw [e]
  unfold turnOf
  simp only [bind_assoc, pure_bind]
  all_goals rfl
theorem turn3_2 (it D : Addr) (env : Env) : compTurn (c3 elt t0 i0 t1 i1 t2 i2 f0 f1 f2 scope cp) 2 (.ref it) (.ref D) env = turnOf t2 i2.pos f2 (bElt elt D env) (c3 elt t0 i0 t1 i1 t2 i2 f0 f1 f2 scope cp) 2 (.ref it) (.ref D) env := by rfl
end
section
variable {X : Cx} {elt t0 i0 t1 i1 t2 i2 : Expr} {f0 f1 f2 : List Expr} {scope : Scope} {own : List (PySem.Str × Nat)} {cp : Pos} {w0 w1 w2 : TI} {g0 g1 g2 : TG} {tt0 tt1 tt2 : TT} {te : TE} {vs1 vs2 : List Nat}
theorem pe_sc3 (hc : X.calm = true) (hN : X.N.Nodup) (hi : PI X t0 i0 w0) (ok : BlkOk X.N X.env.scope scope own) (h1 : ∀ i ∈ vs1, i ∈ own.map (·.2)) (h2 : ∀ i ∈ vs2, i ∈ vs1)
    (hg0 : ∀ (s : Shared) (H : Hp) (C : Addr) (cl : List (PySem.Str × Addr)) (fp : List Addr), PG (X.blk s H scope (compEnvC scope cl C X.env) fp) t0 g0)
    (ht0 : ∀ (s : Shared) (H : Hp) (C : Addr) (cl : List (PySem.Str × Addr)) (fp : List Addr), PTs (X.blk s H scope (compEnvC scope cl C X.env) fp) f0 tt0)
    (hi1 : ∀ (s : Shared) (H : Hp) (C : Addr) (cl : List (PySem.Str × Addr)) (fp : List Addr), PI (X.blk s H scope (compEnvC scope cl C X.env) fp) t1 i1 w1)
    (hg1 : ∀ (s : Shared) (H : Hp) (C : Addr) (cl : List (PySem.Str × Addr)) (fp : List Addr), PG (X.blk s H scope (compEnvC scope cl C X.env) fp) t1 g1)
    (ht1 : ∀ (s : Shared) (H : Hp) (C : Addr) (cl : List (PySem.Str × Addr)) (fp : List Addr), PTs (X.blk s H scope (compEnvC scope cl C X.env) fp) f1 tt1)
    (hi2 : ∀ (s : Shared) (H : Hp) (C : Addr) (cl : List (PySem.Str × Addr)) (fp : List Addr), PI (X.blk s H scope (compEnvC scope cl C X.env) fp) t2 i2 w2)
    (hg2 : ∀ (s : Shared) (H : Hp) (C : Addr) (cl : List (PySem.Str × Addr)) (fp : List Addr), PG (X.blk s H scope (compEnvC scope cl C X.env) fp) t2 g2)
    (ht2 : ∀ (s : Shared) (H : Hp) (C : Addr) (cl : List (PySem.Str × Addr)) (fp : List Addr), PTs (X.blk s H scope (compEnvC scope cl C X.env) fp) f2 tt2)
    (he : ∀ (s : Shared) (H : Hp) (C : Addr) (cl : List (PySem.Str × Addr)) (fp : List Addr), PE (X.blk s H scope (compEnvC scope cl C X.env) fp) elt te)
    (hs : ∀ x, foldedSetIterable i0 X.env x = pure x := by intro _; rfl) (hs1 : ∀ env x, foldedSetIterable i1 env x = pure x := by intro _ _; rfl) (hs2 : ∀ env x, foldedSetIterable i2 env x = pure x := by intro _ _; rfl) :
    PE X (c3 elt t0 i0 t1 i1 t2 i2 f0 f1 f2 scope cp) (tScN X.prog X.w w0 g0 tt0 (fun D => tNest w1 g1 tt1 (tNest w2 g2 tt2 (tElt X.prog X.w te D) vs2) vs1) (own.map (·.2))) :=
  pe_scN (gs := [⟨t1, i1, f1, 0⟩, ⟨t2, i2, f2, 0⟩]) (body := fun D env => bNest (c3 elt t0 i0 t1 i1 t2 i2 f0 f1 f2 scope cp) 1 i1 D env) hc hN hi ok h1 hg0 ht0
    (fun s H C cl fp D => pb_nest (ee := elt) (gs := [⟨t0, i0, f0, 0⟩, ⟨t1, i1, f1, 0⟩, ⟨t2, i2, f2, 0⟩]) (scope := scope) (cp := cp) (Y := X.blk s H scope (compEnvC scope cl C X.env) fp) h2 hc rfl (hi1 s H C cl fp) (hg1 s H C cl fp) (ht1 s H C cl fp)
      (pb_nest (ee := elt) (gs := [⟨t0, i0, f0, 0⟩, ⟨t1, i1, f1, 0⟩, ⟨t2, i2, f2, 0⟩]) (scope := scope) (cp := cp) (Y := X.blk s H scope (compEnvC scope cl C X.env) fp) (vs' := []) (fun i z => nomatch z) hc rfl (hi2 s H C cl fp) (hg2 s H C cl fp) (ht2 s H C cl fp)
        (pb_elt (Y := X.blk s H scope (compEnvC scope cl C X.env) fp) rfl (he s H C cl fp)) (hs2 _) (fun it => turn3_2 it D _) (start2 _ _))
      (hs1 _) (fun it => turn3_1 it D _) (start1 _ _))
    (fun it D env => turn3_0 it D env) hs
end
end Kx
/-! enumerate over a tuple -/
namespace PySem
open Sem (wp)
open AutoSeq1 (wpAny_loadPart')
theorem new_enumT (t : Addr) (its : Array Value) (n : Nat) (dd : Option Addr) (sl : Array (Option Value)) : Meets (Builtin.«enumerate.__new__» ⟨[.type "enumerate", .ref t], []⟩)
    (fun _ R s => s.heap.get? t = some { cls := .type "tuple", dict := dd, data := .seq its n, slots := sl } ∧ R (.ok (.ret (.ref (s.heap.push { cls := .type "tuple_iterator", data := .fields #[.ref t, .int 0 0] }).objs.size)))
      { s with heap := (s.heap.push { cls := .type "tuple_iterator", data := .fields #[.ref t, .int 0 0] }).push { cls := .type "enumerate", data := .fields #[.none, .bool false, .ref s.heap.objs.size, rawInt 0, .none, .none] } }) :=
  .of_wp fun P w A R s h => by
    obtain ⟨hp, g, d, k, os⟩ := s
    obtain ⟨ht, h⟩ := h
    have hs := sub_enumerate
    have hT : Heap.IsTuple (Shared.heap ⟨hp, g, d, k, os⟩) t its := ⟨_, ht, rfl, n, rfl⟩
    wp_walk using wpAny_loadPart' ht
    refine wpAny_stack_any fun st => wpAny_pure ?_
    split
    · rename_i c _ _ _ _ _
      cases (c == Value.type "enumerate") <;>
        (wp_walk using wpAny_loadPart' ht, wpAny_pyIter_tuple hT; exact ⟨_, rfl, h⟩)
    · wp_walk using wpAny_loadPart' ht, wpAny_pyIter_tuple hT
      exact ⟨_, rfl, h⟩
section
variable {P : Program} {w : World} {A : Around} {E : Value → Shared → Prop} {s : Shared}
theorem call_enumT {t : Addr} {its : Array Value} {Q : Value → Shared → Prop} (hT : s.heap.IsTuple t its)
    (h : ∀ h' : Heap, IsEnum h' (s.heap.objs.size + 1) s.heap.objs.size 0 .none → h'.IsTupleIter s.heap.objs.size t 0 → h'.objs.size = s.heap.objs.size + 2 → (∀ b o, s.heap.get? b = some o → h'.get? b = some o) → Q (.ref (s.heap.objs.size + 1)) { s with heap := h' }) :
    wpAny (model P w) A (call (.type "enumerate") [.ref t]) Q E s := by
  obtain ⟨⟨c, dd, dt, sl⟩, ht, hc, n, hd⟩ := hT
  have hc' : c = .type "tuple" := hc
  have hd' : dt = .seq its n := hd
  subst hc' hd'
  refine callType_new F.called_enumerate (by decide) (F.typeCall_enumerate_1 _) (F.newCall_enumerate_1 _) (fun obj => F.args_object_init_2 obj _) F.entry_enumerate_new (new_enumT t its n dd sl) ⟨ht, ?_⟩
  obtain ⟨h1, e1⟩ : ∃ h1, s.heap.push { cls := .type "tuple_iterator", data := .fields #[.ref t, .int 0 0] } = h1 := ⟨_, rfl⟩
  have z1 : h1.objs.size = s.heap.objs.size + 1 := by rw [← e1]; exact Heap.size_push ..
  have i1 : h1.get? s.heap.objs.size = some { cls := .type "tuple_iterator", data := .fields #[.ref t, .int 0 0] } := by rw [← e1]; exact Heap.get?_push_size _ rfl
  have k1 : ∀ b o, s.heap.get? b = some o → h1.get? b = some o := fun b o z => by rw [← e1]; exact Heap.get?_push_of_some _ z
  rw [e1]
  have g2 := Heap.get?_push_size h1 (o := { cls := .type "enumerate", data := .fields #[.none, .bool false, .ref s.heap.objs.size, rawInt 0, .none, .none] }) rfl
  rw [z1] at g2
  show _ ∧ _
  rw [z1]
  exact ⟨⟨_, g2, rfl⟩, h _ g2 ⟨_, Heap.get?_push_of_some _ i1, rfl, rfl⟩ (by rw [Heap.size_push, z1]) fun b o z => Heap.get?_push_of_some _ (k1 b o z)⟩
end
end PySem
namespace Kx
open PySem L2 PySem.Spec PyProof.Rows
/-- the tuple at a, each item in a new pair with its number -/
def IteT (K : PySem.W.Frag) (a : Addr) : It :=
  ⟨fun i H => ∃ (xs : List V) (x : V), SqT K H a xs ∧ xs[i]? = some x, fun i H v H' => ∃ T x, v = .ref T ∧ H T = none ∧ H' = upd H T (.tup [.int (i : Nat), x]) ∧ ∀ xs, SqT K H a xs → xs[i]? = some x, fun i H => ∃ xs : List V, SqT K H a xs ∧ xs.length ≤ i⟩
theorem turn_enumT {P : Program} {w : World} {K : PySem.W.Frag} {elts : List Expr} {kk : Nat} {tpos : Pos} (a e it : Addr) :
    Turn P w K (.Tuple elts kk tpos) (IteT K a) [e, it] e (fun i h => (∃ old, IsEnum h e it ((i : Nat) : Int) old) ∧ h.IsTupleIter it a i ∧ e ≠ it ∧ a ≠ it ∧ a ≠ e) where
  mem := by simp
  obj := fun i h st b hb => by
    obtain ⟨⟨old, he⟩, ⟨o, ho, hc, hd⟩, _⟩ := st
    rcases (show b = e ∨ b = it by simpa using hb) with z | z
    · rw [z]; exact ⟨_, he, fun v q => nomatch q⟩
    · rw [z]; exact ⟨o, ho, fun v q => by rw [hd] at q; cases q⟩
  keep := fun i h h' st k => let ⟨⟨old, he⟩, hi, hn⟩ := st; ⟨⟨old, k e (by simp) _ he⟩, hi.at fun o q => k it (by simp) o q, hn⟩
  item := by
    intro X hP hw hK hc i pins s σ H E I hf st hg
    subst hP hw hK
    obtain ⟨⟨old, he⟩, hit, hne, n1, n2⟩ := st
    obtain ⟨xs, x, hq, hx⟩ := hg
    obtain ⟨its, rv, p, hz⟩ := I.tuple hq
    obtain ⟨u, hu, ru⟩ := rv.get hx
    have hT : s.heap.IsTuple a its.toArray := p
    have hu' : its.toArray[i]? = some u := by simpa using hu
    have hlt : i < its.toArray.size := (Array.getElem?_eq_some_iff.mp hu').1
    have hel : e < s.heap.objs.size := Heap.lt_size he
    have hil : it < s.heap.objs.size := by obtain ⟨_, q, _⟩ := hit; exact Heap.lt_size q
    have ni : it ≠ a := fun z => n1 z.symm
    refine wpAny_pyNext_enum_itemD (Draws.tuple (A := X.A.in1) (I.ok.hd hc) it a n1 its.toArray) he ⟨hit, hT⟩ hlt hne (by simp [hne, Ne.symm n2]) fun y h' tk hy ho hit' hTn hsz hk => ?_
    have ey : y = u := Option.some.inj ((show its.toArray[i]? = some y from hy).symm.trans hu')
    subst ey
    refine ⟨_, rfl, wpAny_letOwnedTupleGo_enum (s := { s with heap := h', toks := tk + 1 }) ho fun h2 he2 sb => ?_⟩
    have hT2 : h2.get? s.heap.objs.size = some { cls := .type "tuple", data := .seq #[.int i tk, y] } := (sb.2 _ (Nat.ne_of_gt hel)).trans hTn
    have new : ObjOk X.prog X.w (upd H s.heap.objs.size (.tup [.int (i : Nat), x])) h2 s.heap.objs.size (.tup [.int (i : Nat), x]) :=
      ⟨by show 2 ≤ sizeLine; decide, [.int i tk, y], .cons ⟨_, rfl⟩ (.cons ru .nil), ⟨_, hT2, rfl, _, rfl⟩⟩
    have I1 : Inv X pins σ (upd H s.heap.objs.size (.tup [.int (i : Nat), x])) { s with heap := h2, toks := tk + 1 } :=
      I.turnedNew (ch := [e, it]) (fun b ob hb q => (sb.2 b (fun z => hb (by simp [z]))).trans (hk b ob (fun z => hb (by simp [z])) (fun z => hb (by simp [z])) q)) hf (Nat.le_refl _) new
    have lt2 : ∀ b ∈ [e, it], b < s.heap.objs.size := fun b hb => by
      rcases (show b = e ∨ b = it by simpa using hb) with z | z
      · rw [z]; exact hel
      · rw [z]; exact hil
    refine ⟨.ref s.heap.objs.size, _, I1, rfl, ⟨_, x, rfl, I.hok.fresh (Nat.le_refl _), rfl, fun ys hy' => by rw [I.tuple_inj hy' hq]; exact hx⟩, ⟨⟨y, ?_⟩, hit'.1.at fun o q => (sb.2 it (Ne.symm hne)).trans q, hne, n1, n2⟩, fun b hb => ?_⟩
    · rw [show ((i + 1 : Nat) : Int) = (i : Int) + 1 from by omega]
      exact he2
    · rw [upd_ne (Nat.ne_of_lt (lt2 b hb))]
      exact (hf b hb).1
  done := by
    intro X hP hw hK hc i pins s σ H E I hf st hg
    subst hP hw hK
    obtain ⟨⟨old, he⟩, hit, hne, n1, n2⟩ := st
    obtain ⟨xs, hq, hx⟩ := hg
    obtain ⟨its, rv, p, hz⟩ := I.tuple hq
    obtain ⟨f0, f1, f2, f3, f4, f5⟩ := hf it (by simp)
    have hl := rv.length
    have hT : s.heap.IsTuple a its.toArray := p
    unfold pyNext
    have hTy : s.TypeIs (.ref e) "enumerate" := ⟨_, he, rfl⟩
    refine wpAny_bind (wpAny_attempt (wpAny_callSpecial?_slot (name := Str.ofString "__next__") hTy F.slot_enumerate_next
      (wpAny_call_entry F.slot_enumerate_next hTy F.entry_enumerate_next ?_ (F.args_enumerate_next_1 _))))
    show wpAny _ _ (field (.ref e) 2 >>= fun r => Builtin.SmallTypes.nextOf r >>= _) _ _ _
    refine wpAny_bind (wpAny_field he rfl (x := .ref it) rfl ?_)
    refine wpAny_bind (wpAny_nextOf_tuple_end (I.ok.hd hc) hit hT (Array.getElem?_eq_none (by simp; omega)) fun h' x e1 e2 => ?_)
    obtain ⟨o, ho, hco⟩ := e2
    refine wpAny_bind (wpAny_isInstance (T := "StopIteration") (b := true) ⟨o, ho, hco⟩ isSubtype_stop ?_)
    exact wpAny_pure ⟨rfl, I.turned (t' := s.toks) (fun b o hb q => e1 b o hb q) f0 f1 f3 f4 f5⟩
  self := fun A i s Q E st h => let ⟨⟨_, he⟩, _⟩ := st; wpAny_pyIter_enum he h
def iEnumT (K : PySem.W.Frag) (ta : TA) : TI := fun σ H R => ta σ H fun vs H1 => ∃ a xs, vs = [.ref a] ∧ SqT K H1 a xs ∧ R (IteT K a) H1
theorem pi_enumT {X : Cx} {e : Expr} {ta : TA} {p pos tpos : Pos} {elts : List Expr} {kk : Nat} (hg : Gl X "enumerate") (hm : X.mg "enumerate" = none) (ha : PA X [e] ta) (hs : starEach [e] X.env = [(false, eval e X.env)] := by rfl) :
    PI X (.Tuple elts kk tpos) (.Call (.Name "enumerate" p) [e] [] pos) (iEnumT X.K ta) := by
  refine ⟨fun pins s σ H R I h => ?_⟩
  refine Call_ (ld_blt I hg hm boot_enumerate (PyProof.Rows.callWith_type1 (thn (ha.run pos pins s σ H _ I h) fun us s1 ⟨vs, H1, I1, r1, a, xs, ex, hq, q⟩ => ?_) hs rfl))
  subst ex
  cases r1 with
  | cons r rr =>
    cases rr
    cases r
    obtain ⟨its, rv, p', hz⟩ := I1.tuple hq
    have hT : s1.heap.IsTuple a its.toArray := p'
    have hlt : a < s1.heap.objs.size := by obtain ⟨_, z, _⟩ := hT; exact Heap.lt_size z
    refine call_enumT hT fun h' he hit hsz hk => wpAny_pyIter_enum he ?_
    have I2 : Inv X pins σ H1 { s1 with heap := h' } := I1.kept (t' := s1.toks) hk
    refine ⟨s1.heap.objs.size + 1, [s1.heap.objs.size + 1, s1.heap.objs.size], _, _, H1, rfl, I2, turn_enumT a (s1.heap.objs.size + 1) s1.heap.objs.size, ⟨⟨.none, he⟩, hit, Nat.succ_ne_self _, Nat.ne_of_lt hlt, Nat.ne_of_lt (Nat.lt_succ_of_lt hlt)⟩, fun b hb => ?_, q⟩
    have hle : s1.heap.objs.size ≤ b := by
      rcases (show b = s1.heap.objs.size + 1 ∨ b = s1.heap.objs.size by simpa using hb) with z | z
      · rw [z]; exact Nat.le_add_right _ _
      · rw [z]; exact Nat.le_refl _
    exact I1.fpOk hle (I1.hok.fresh hle)
/-- over a tuple that the body leaves as it is -/
theorem for_enumT {K : PySem.W.Frag} {a : Addr} {xs : List V} {g : TG} {tb : TS} {D : Ends} {σ : L2.St} {H : Hp} (Pv : Nat → L2.St → Hp → Prop) (h0 : Pv 0 σ H) (hl : ∀ i σ H, i ≤ xs.length → Pv i σ H → SqT K H a xs)
    (hs : ∀ i x σ H T, xs[i]? = some x → Pv i σ H → H T = none → g (.ref T) σ (upd H T (.tup [.int (i : Nat), x])) fun σ2 H2 => tb { D with nx := Pv (i + 1), ct := Pv (i + 1), bk := D.nx } σ2 H2) (hd : ∀ σ H, Pv xs.length σ H → D.nx σ H) :
    ∃ W : Nat → Nat → L2.St → Hp → Prop, (∃ m, W 0 m σ H) ∧ ∀ i m σ H, W i m σ H →
      ((IteT K a).stop i H ∧ D.nx σ H) ∨ ((IteT K a).go i H ∧ ∃ N : L2.St → Hp → Prop, (∀ σ' H', N σ' H' → ∃ m', m' < m ∧ W (i + 1) m' σ' H') ∧ ∀ x H', (IteT K a).yld i H x H' → g x σ H' fun σ2 H2 => tb { D with nx := N, ct := N, bk := D.nx } σ2 H2) := by
  refine ⟨fun i m σ H => m = xs.length - i ∧ i ≤ xs.length ∧ Pv i σ H, ⟨xs.length, by simp, Nat.zero_le _, h0⟩, ?_⟩
  rintro i m σ H ⟨rfl, hi, p⟩
  have q := hl i σ H hi p
  rcases Nat.lt_or_eq_of_le hi with hlt | e
  · refine .inr ⟨⟨xs, xs[i], q, by simp [hlt]⟩, Pv (i + 1), fun σ' H' p' => ⟨xs.length - (i + 1), by omega, rfl, hlt, p'⟩, fun v H' ⟨T, x, ev, hT, eH, hx⟩ => ?_⟩
    subst ev eH
    exact hs i x σ H T (hx xs q) p hT
  · subst e
    exact .inl ⟨⟨xs, q, Nat.le_refl _⟩, hd σ H p⟩
end Kx
namespace Kx
open PySem L2 PySem.Spec PyProof.Rows
def top (i : Nat) : Stmt := PySem.Challenge.pw_contractheirs_k81_answers_on_a_grid.main.body.getD i (.Pass ⟨0, 0, 0, 0⟩)
abbrev sIsInt : Stmt := top 13
abbrev sIsWord : Stmt := top 14
abbrev sIsTerm : Stmt := top 17
abbrev sIsLit : Stmt := top 18
abbrev sLitT : Stmt := top 19
abbrev sIsCl : Stmt := top 20
abbrev sStand : Stmt := top 24
abbrev sFirst : Stmt := top 25
/-! words, terms, literals, clauses -/
def lets : Str := "abcdefghijklmnopqrstuvwxyz"
def isWord (t : Str) : Bool := decide (1 ≤ t.length ∧ t.length ≤ 8) && t.cps.toList.all fun c => decide (c ∈ lets.cps.toList)
def isTerm (t : Str) : Bool := decide (t = "") || (decide ((Txt.split t ".").length ≤ 2) && (Txt.split t ".").all isWord)
structure Short (t : Str) : Prop where
  l : t.length ≤ 1000
  n : (Txt.split t ".").length ≤ 1000
  e : ∀ x ∈ Txt.split t ".", x.length ≤ 1000
structure Bx (mg : Str → Option Value) : Prop where
  isi : mg "isinstance" = none
  int : mg "int" = none
  bool : mg "bool" = none
  str : mg "str" = none
  tuple : mg "tuple" = none
  len : mg "len" = none
  all : mg "all" = none
  sorted : mg "sorted" = none
  enum : mg "enumerate" = none
  lets : ∃ t, mg "LETTERS" = some (.str lets t)
  longest : ∃ t, mg "LONGEST_WORD" = some (.int 8 t)
structure Fa (K : PySem.W.Frag) (mg : Str → Option Value) (g x : Str) (st : Stmt) (ps : List Str) (f : Addr) (fd : FuncData) : Prop where
  F : Fun K x x st f fd
  b : Binds K fd ps []
  m : mg g = some (.ref f)
structure Fs (K : PySem.W.Frag) (mg : Str → Option Value) (x : Str) (st : Stmt) (ps : List Str) (f : Addr) (fd : FuncData) : Prop where
  F : Fun K x x st f fd
  b : Binds K fd ps []
  m : mg x = some (.ref f)
theorem yes_of {σ : L2.St} {H : Hp} {A B : Hp → Prop} (h : A H) : tYes σ H fun b H3 => if b = true then A H3 else B H3 := by
  show (if true = true then A H else B H)
  rw [if_pos rfl]
  exact h
theorem new_same {H : Hp} {D : Addr} {o : HO} (hD : H D = none) : Same H (upd H D o) := fun b u e => by
  have hb : b ≠ D := fun z => by
    rw [z, hD] at e
    cases e
  rw [upd_ne hb]
  exact e
/-- what is told at a new address stays told of what was there -/
theorem same_upd {H H2 : Hp} {D : Addr} {o : HO} (hD : H D = none) (s2 : Same H H2) : Same H (upd H2 D o) := fun b u e => by
  have hb : b ≠ D := fun z => by
    rw [z, hD] at e
    cases e
  rw [upd_ne hb]
  exact s2 b u e
theorem tyT {K : PySem.W.Frag} {H : Hp} {a : Addr} {xs : List V} (h : SqT K H a xs) : TyX K H (.ref a) (.type "tuple") := by
  rcases h with (h | ⟨o, h⟩) | ⟨o, its, n, hk, hc, _⟩
  · exact .base (.tup h)
  · exact .fTuple h
  · exact .kTuple hk hc
theorem SqT.same {K : PySem.W.Frag} {H H' : Hp} {a : Addr} {xs : List V} (s : Same H H') (h : SqT K H a xs) : SqT K H' a xs := by
  rcases h with (h | ⟨o, h⟩) | h
  · exact .inl (.inl (s _ _ h))
  · exact .inl (.inr ⟨o, s _ _ h⟩)
  · exact .inr h
def spIsInt : Sp := fun vs H Q _ => ∃ n : Int, vs = [.int n] ∧ Q (.bl true) H
def spIsWord : Sp := fun vs H Q _ => ∃ t : Str, vs = [.str t] ∧ t.length ≤ 1000 ∧ ∀ H', Same H H' → Q (.bl (isWord t)) H'
def spIsTerm : Sp := fun vs H Q _ => ∃ t : Str, vs = [.str t] ∧ Short t ∧ ∀ H', Same H H' → Q (.bl (isTerm t)) H'
abbrev Lit := Str × Str × Int
def IsLit (K : PySem.W.Frag) (H : Hp) (x : V) (l : Lit) : Prop := ∃ a, x = .ref a ∧ SqT K H a [.str l.1, .str l.2.1, .int l.2.2]
def spIsLit (K : PySem.W.Frag) : Sp := fun vs H Q _ => ∃ (x : V) (l : Lit), vs = [x] ∧ IsLit K H x l ∧ Q (.bl true) H
theorem IsLit.same {K : PySem.W.Frag} {H H' : Hp} {x : V} {l : Lit} (s : Same H H') (h : IsLit K H x l) : IsLit K H' x l := let ⟨a, e, q⟩ := h; ⟨a, e, SqT.same s q⟩
section
variable {P : Program} {w : World} {K : PySem.W.Frag} {mg : Str → Option Value} {base : Heap}
theorem scInt : FnScope ["thing"] ["thing"] (defScope sIsInt) := ⟨rfl, rfl, rfl, by decide +kernel, rfl, by decide +kernel, by decide +kernel⟩
theorem ok_isint {f : Addr} {fd : FuncData} (F : Fs K mg "is_integer" sIsInt ["thing"] f fd) (T : Bx mg) : FnOk P w K mg base CX0 1 f fd ["thing"] spIsInt := by
  refine F.F.ok scInt (fun vs H Q E h => ?_) (fun cdv A outer s H vs Q E hr h => ?_)
  · obtain ⟨n, rfl, _⟩ := h
    rfl
  · obtain ⟨n, rfl, q⟩ := h
    refine ⟨_, pss_one (ps_ret (pe_and (pe_callB call_isi (by rfl) T.isi boot_isinstance (pa_cons (pv 0) (pa_cons (pe_bltn (v := .ty "int") (by rfl) T.int (by decide +kernel) rfl) pa_nil)))
      (pe_one (pe_not (pe_callB call_isi (by rfl) T.isi boot_isinstance (pa_cons (pv 0) (pa_cons (pe_bltn (v := .ty "bool") (by rfl) T.bool (by decide +kernel) rfl) pa_nil))))))), ?_⟩
    refine ⟨_, rfl, .int n, .ty "int", _, _, true, rfl, .ty _, .base (.int n), kit_ty (by decide +kernel), true, rfl, iteT ?_⟩
    exact ⟨_, rfl, .int n, .ty "bool", _, _, false, rfl, .ty _, .base (.int n), kit_ty (by decide +kernel), false, rfl, q⟩
theorem scWord : FnScope ["thing", "letter"] ["thing"] (defScope sIsWord) := ⟨rfl, rfl, rfl, by decide +kernel, rfl, by decide +kernel, by decide +kernel⟩
theorem ok_isword {f : Addr} {fd : FuncData} (F : Fs K mg "is_word" sIsWord ["thing"] f fd) (T : Bx mg) : FnOk P w K mg base CX0 1 f fd ["thing"] spIsWord := by
  obtain ⟨tl, hL⟩ := T.lets
  obtain ⟨tw, hW⟩ := T.longest
  refine F.F.ok scWord (fun vs H Q E h => ?_) (fun cdv A outer s H vs Q E hr h => ?_)
  · obtain ⟨t, rfl, _⟩ := h
    rfl
  · obtain ⟨t, rfl, hs, q⟩ := h
    refine ⟨_, pss_cons (ps_if (PW.pt (pw_or (pt_not (pt_val (pe_callB call_isi (by rfl) T.isi boot_isinstance (pa_cons (pv 0) (pa_cons (pe_bltn (v := .ty "str") (by rfl) T.str (by decide +kernel) rfl) pa_nil)))))
        (pw_or1 (pt_not (pt_chain op_le op_le pe_int (pe_callB call_len_str (by rfl) T.len PySem.boot_len (pa_cons (pv 0) pa_nil)) (pe_glob (v := .int 8) (by rfl) hW ⟨_, rfl⟩)))))) (pss_one (ps_ret pe_bl)) pss_nil)
      (pss_one (ps_ret (pe_callB (cr_all rfl) (by rfl) T.all (by decide +kernel) (pa_cons
        (pe_lc (own := [("letter", 1)]) (g := gName 1) (tt := tYes) rfl scWord.nd (pi_str (pv 0)) (blkOk_by (N := ["thing", "letter"]) (sc := defScope sIsWord) (by decide +kernel))
          (fun _ _ _ _ _ => pg_name (i := 1) scWord.nd rfl (Or.inl rfl)) (fun _ _ _ _ _ => pts_nil) (fun _ _ _ _ _ => pe_cmpR op_in_sign (pv 1) (pe_glob (v := .str lets) (by rfl) hL ⟨_, rfl⟩) (by with_unfolding_all rfl))) pa_nil)))), ?_⟩
    have hz : t.length ≤ sizeLine := Nat.le_of_lt (small1000 hs)
    refine ⟨_, rfl, .str t, .ty "str", _, _, true, rfl, .ty _, .base (.str t), kit_ty (by decide +kernel), true, rfl, iteF ?_⟩
    refine ⟨_, rfl, t, rfl, hz, _, _, rfl, rfl, _, rfl, ?_⟩
    by_cases h1 : (1 : Int) ≤ (t.length : Int)
    case neg =>
      rw [decide_eq_false h1]
      have e : isWord t = false := by
        unfold isWord
        rw [decide_eq_false (by omega), Bool.false_and]
      refine iteF ⟨_, rfl, iteT ?_⟩
      have q' := q H fun _ _ z => z
      rw [e] at q'
      exact q'
    case pos =>
    rw [decide_eq_true h1]
    refine iteT ⟨_, _, rfl, rfl, _, rfl, ?_⟩
    by_cases h2 : (t.length : Int) ≤ 8
    case neg =>
      rw [decide_eq_false h2]
      have e : isWord t = false := by
        unfold isWord
        rw [decide_eq_false (by omega), Bool.false_and]
      refine iteT ?_
      have q' := q H fun _ _ z => z
      rw [e] at q'
      exact q'
    case pos =>
    rw [decide_eq_true h2]
    refine iteF ?_
    refine ⟨_, rfl, t, rfl, fun D hD => ?_⟩
    refine lc_it walk_str (fun i H2 => Same H H2 ∧ H2 D = some (.lst ((t.cps.toList.take i).map fun c => .bl (decide (c ∈ lets.cps.toList))))) ⟨new_same hD, upd_same⟩ (fun _ _ _ _ => trivial) ?_ ?_
    · rintro i x H2 H3 hi ⟨s2, g⟩ ⟨rfl, c, hc, rfl⟩
      refine ⟨rfl, yes_of ?_⟩
      have hc' : t.cps.toList[i]? = some c := by rw [Array.getElem?_toList]; exact hc
      refine ⟨_, rfl, c, lets, rfl, rfl, _, g, small1000 (by rw [List.length_map, List.length_take]; have e : t.length = t.cps.toList.length := Array.length_toList.symm; omega), same_upd hD s2, ?_⟩
      · rw [upd_same, List.take_add_one, hc', List.map_append]
        rfl
    · rintro H2 ⟨s2, g⟩
      refine ⟨D, t.cps.toList.map fun c => decide (c ∈ lets.cps.toList), rfl, SqL.of ?_, ?_⟩
      · rw [g, List.take_of_length_le (by rw [Array.length_toList]; exact Nat.le_refl _), List.map_map]
        rfl
      · have e : isWord t = (t.cps.toList.map fun c => decide (c ∈ lets.cps.toList)).all id := by
          unfold isWord
          rw [decide_eq_true (by omega), Bool.true_and, List.all_map]
          rfl
        rw [← e]
        exact q H2 s2
theorem scTerm : FnScope ["thing", "words", "word"] ["thing"] (defScope sIsTerm) := ⟨rfl, rfl, rfl, by decide +kernel, rfl, by decide +kernel, by decide +kernel⟩
theorem ok_isterm {f g : Addr} {fd fdW : FuncData} (F : Fs K mg "is_term" sIsTerm ["thing"] f fd) (W : Fs K mg "is_word" sIsWord ["thing"] g fdW) (T : Bx mg) : FnOk P w K mg base CX0 2 f fd ["thing"] spIsTerm := by
  have GW : FnOk P w K mg base CX0 1 g fdW ["thing"] spIsWord := ok_isword W T
  refine F.F.ok scTerm (fun vs H Q E h => ?_) (fun cdv A outer s H vs Q E hr h => ?_)
  · obtain ⟨t, rfl, _⟩ := h
    rfl
  · obtain ⟨t, rfl, hs, q⟩ := h
    refine ⟨_, pss_cons (ps_if (pt_not (pt_val (pe_callB call_isi (by rfl) T.isi boot_isinstance (pa_cons (pv 0) (pa_cons (pe_bltn (v := .ty "str") (by rfl) T.str (by decide +kernel) rfl) pa_nil))))) (pss_one (ps_ret pe_bl)) pss_nil)
      (pss_cons (ps_if (pt_cmpR op_eq (pv 0) pe_str (nomark _)) (pss_one (ps_ret pe_bl)) pss_nil)
      (pss_cons (ps_set (i := 1) scTerm.nd rfl (Or.inl rfl) (pe_split (pv 0) pe_str))
      (pss_one (ps_ret (pe_and (pe_cmpR op_le (pe_callB call_len_seq (by rfl) T.len PySem.boot_len (pa_cons (pv 1) pa_nil)) pe_int (nomark _))
        (pe_one (pe_callB (cr_all rfl) (by rfl) T.all (by decide +kernel) (pa_cons
          (pe_lc (own := [("word", 2)]) (g := gName 2) (tt := tYes) rfl scTerm.nd (pi_list (pv 1)) (blkOk_by (N := ["thing", "words", "word"]) (sc := defScope sIsTerm) (by decide +kernel))
            (fun _ _ _ _ _ => pg_name (i := 2) scTerm.nd rfl (Or.inl rfl)) (fun _ _ _ _ _ => pts_nil)
            (fun _ _ _ _ _ => pe_call GW hr rfl W.m W.F.kp W.b .nil pass0 (pa_cons (pv 2) pa_nil))) pa_nil)))))))), ?_⟩
    refine ⟨_, rfl, .str t, .ty "str", _, _, true, rfl, .ty _, .base (.str t), kit_ty (by decide +kernel), true, rfl, iteF ?_⟩
    refine ⟨_, rfl, rfl, _, rfl, ?_⟩
    by_cases ht : t = ""
    case pos =>
      have e : decide (V.str t = V.str "") = true := by rw [ht]; exact decide_eq_true rfl
      rw [e]
      refine iteT ?_
      have e : isTerm t = true := by
        unfold isTerm
        rw [decide_eq_true ht, Bool.true_or]
      have q' := q H fun _ _ z => z
      rw [e] at q'
      exact q'
    case neg =>
    have e : decide (V.str t = V.str "") = false := decide_eq_false fun z => ht (V.str.inj z)
    rw [e]
    refine iteF ?_
    have e0 : isTerm t = (decide ((Txt.split t ".").length ≤ 2) && (Txt.split t ".").all isWord) := by
      unfold isTerm
      rw [decide_eq_false ht, Bool.false_or]
    rw [e0] at q
    refine ⟨_, rfl, ⟨t, rfl⟩, t, ".", rfl, rfl, (by decide), (by have := hs.l; rw [sizeLine_eq]; omega), fun p hp => ?_⟩
    have gp : (upd H p (.lst ((Txt.split t ".").map V.str))) p = some (.lst ((Txt.split t ".").map V.str)) := upd_same
    refine ⟨_, rfl, p, _, rfl, .inl (SqL.of gp), _, _, rfl, rfl, _, rfl, ?_⟩
    rw [List.length_map]
    by_cases h2 : ((Txt.split t ".").length : Int) ≤ 2
    case neg =>
      rw [decide_eq_false (by omega), Bool.false_and] at q
      rw [decide_eq_false h2]
      exact iteF (q _ (new_same hp))
    case pos =>
    rw [decide_eq_true (by omega), Bool.true_and] at q
    rw [decide_eq_true h2]
    refine iteT ⟨_, rfl, p, rfl, ⟨_, SqL.of gp⟩, fun D hD => ?_⟩
    have nD : p ≠ D := fun z => by
      rw [← z, gp] at hD
      cases hD
    refine lc_it (walk_list (xs := (Txt.split t ".").map V.str)) (fun i H2 => Same (upd H p (.lst ((Txt.split t ".").map V.str))) H2 ∧ H2 D = some (.lst (((Txt.split t ".").take i).map fun x => .bl (isWord x)))) ⟨new_same hD, upd_same⟩ (fun i H2 _ h => SqL.of (h.1 _ _ gp)) ?_ ?_
    · rintro i x H2 H3 hi ⟨s2, gD⟩ ⟨rfl, hx⟩
      rw [List.getElem?_map] at hx
      obtain ⟨z, hz, rfl⟩ := Option.map_eq_some_iff.mp hx
      refine ⟨rfl, yes_of ⟨_, rfl, z, rfl, hs.e z (List.mem_of_getElem? hz), fun H4 s4 => ⟨_, s4 _ _ gD, small1000 (by rw [List.length_map, List.length_take]; have := hs.n; omega), same_upd hD (fun b u e => s4 _ _ (s2 _ _ e)), ?_⟩⟩⟩
      rw [upd_same, List.take_add_one, hz, List.map_append]
      rfl
    · rintro H2 ⟨s2, gD⟩
      refine ⟨D, (Txt.split t ".").map isWord, rfl, SqL.of ?_, ?_⟩
      · rw [gD, List.take_of_length_le (by rw [List.length_map]; exact Nat.le_refl _), List.map_map]
        rfl
      · have e : (Txt.split t ".").all isWord = ((Txt.split t ".").map isWord).all id := by
          rw [List.all_map]
          rfl
        rw [← e]
        exact q H2 fun b u z => s2 _ _ (new_same hp b u z)
theorem scLit : FnScope ["thing", "left", "right", "number"] ["thing"] (defScope sIsLit) := ⟨rfl, rfl, rfl, by decide +kernel, rfl, by decide +kernel, by decide +kernel⟩
theorem ok_islit {f g : Addr} {fd fdI : FuncData} (F : Fs K mg "is_literal" sIsLit ["thing"] f fd) (W : Fs K mg "is_integer" sIsInt ["thing"] g fdI) (T : Bx mg) : FnOk P w K mg base CX0 2 f fd ["thing"] (spIsLit K) := by
  have GI : FnOk P w K mg base CX0 1 g fdI ["thing"] spIsInt := ok_isint W T
  refine F.F.ok scLit (fun vs H Q E h => ?_) (fun cdv A outer s H vs Q E hr h => ?_)
  · obtain ⟨x, l, rfl, _⟩ := h
    rfl
  · obtain ⟨x, ⟨l1, l2, n⟩, rfl, ⟨a, rfl, ha⟩, q⟩ := h
    refine ⟨_, pss_cons (ps_if (PW.pt (pw_or (pt_not (pt_val (pe_callB call_isi (by rfl) T.isi boot_isinstance (pa_cons (pv 0) (pa_cons (pe_bltn (v := .ty "tuple") (by rfl) T.tuple (by decide +kernel) rfl) pa_nil)))))
        (pw_or1 (pt_cmpR op_ne (pe_callB call_len_seq (by rfl) T.len PySem.boot_len (pa_cons (pv 0) pa_nil)) pe_int (nomark _))))) (pss_one (ps_ret pe_bl)) pss_nil)
      (pss_cons (ps_asg (pv 0) (pg_tup rfl (pgs_cons (pg_name (i := 1) scLit.nd rfl (Or.inl rfl)) (pgs_cons (pg_name (i := 2) scLit.nd rfl (Or.inl rfl)) (pgs_cons (pg_name (i := 3) scLit.nd rfl (Or.inl rfl)) pgs_nil)))))
      (pss_one (ps_ret (pe_and (pe_callB call_isi (by rfl) T.isi boot_isinstance (pa_cons (pv 1) (pa_cons (pe_bltn (v := .ty "str") (by rfl) T.str (by decide +kernel) rfl) pa_nil)))
        (pe_and (pe_callB call_isi (by rfl) T.isi boot_isinstance (pa_cons (pv 2) (pa_cons (pe_bltn (v := .ty "str") (by rfl) T.str (by decide +kernel) rfl) pa_nil)))
        (pe_one (pe_call GI hr rfl W.m W.F.kp W.b .nil pass0 (pa_cons (pv 3) pa_nil)))))))), ?_⟩
    refine ⟨_, rfl, .ref a, .ty "tuple", _, _, true, rfl, .ty _, tyT ha, kit_ty (by decide +kernel), true, rfl, iteF ?_⟩
    refine ⟨_, rfl, a, _, rfl, .inr ha, rfl, _, rfl, ?_⟩
    refine iteF ?_
    refine ⟨_, rfl, a, _, rfl, ha, rfl, _, _, rfl, _, _, rfl, _, _, rfl, rfl, ?_⟩
    refine ⟨_, rfl, .str l1, .ty "str", _, _, true, rfl, .ty _, .base (.str l1), kit_ty (by decide +kernel), true, rfl, iteT ?_⟩
    refine ⟨_, rfl, .str l2, .ty "str", _, _, true, rfl, .ty _, .base (.str l2), kit_ty (by decide +kernel), true, rfl, iteT ?_⟩
    exact ⟨_, rfl, n, rfl, q⟩
def spLitT (K : PySem.W.Frag) : Sp := fun vs H Q _ => ∃ (x : V) (l : Lit), vs = [x] ∧ IsLit K H x l ∧ Short l.1 ∧ Short l.2.1 ∧ ∀ H', Same H H' → Q (.bl (isTerm l.1 && isTerm l.2.1)) H'
theorem scLitT : FnScope ["thing"] ["thing"] (defScope sLitT) := ⟨rfl, rfl, rfl, by decide +kernel, rfl, by decide +kernel, by decide +kernel⟩
theorem ok_litT {f g i t wd : Addr} {fd fdL fdI fdT fdW : FuncData} (F : Fs K mg "is_literal_over_terms" sLitT ["thing"] f fd) (L : Fs K mg "is_literal" sIsLit ["thing"] g fdL) (I : Fs K mg "is_integer" sIsInt ["thing"] i fdI)
    (Tm : Fs K mg "is_term" sIsTerm ["thing"] t fdT) (W : Fs K mg "is_word" sIsWord ["thing"] wd fdW) (T : Bx mg) : FnOk P w K mg base CX0 3 f fd ["thing"] (spLitT K) := by
  have GL : FnOk P w K mg base CX0 2 g fdL ["thing"] (spIsLit K) := ok_islit L I T
  have GT : FnOk P w K mg base CX0 2 t fdT ["thing"] spIsTerm := ok_isterm Tm W T
  refine F.F.ok scLitT (fun vs H Q E h => ?_) (fun cdv A outer s H vs Q E hr h => ?_)
  · obtain ⟨x, l, rfl, _⟩ := h
    rfl
  · obtain ⟨x, ⟨l1, l2, n⟩, rfl, ⟨a, rfl, ha⟩, sh1, sh2, q⟩ := h
    refine ⟨_, pss_one (ps_ret (pe_and (pe_call GL hr (by rfl) L.m L.F.kp L.b .nil pass0 (pa_cons (pv 0) pa_nil))
      (pe_and (pe_call GT hr (by rfl) Tm.m Tm.F.kp Tm.b .nil pass0 (pa_cons (pe_ix ix_tup (pv 0) pe_int (fun _ _ => rfl)) pa_nil))
      (pe_one (pe_call GT hr (by rfl) Tm.m Tm.F.kp Tm.b .nil pass0 (pa_cons (pe_ix ix_tup (pv 0) pe_int (fun _ _ => rfl)) pa_nil)))))), ?_⟩
    refine ⟨_, rfl, .ref a, (l1, l2, n), rfl, ⟨a, rfl, ha⟩, _, rfl, iteT ?_⟩
    refine ⟨_, rfl, a, _, _, .str l1, rfl, rfl, ha, rfl, l1, rfl, sh1, fun H4 s4 => ⟨_, rfl, ?_⟩⟩
    cases h3 : isTerm l1 with
    | false =>
      have q' := q H4 s4
      rw [show isTerm (l1, l2, n).1 = false from h3, Bool.false_and] at q'
      exact iteF q'
    | true =>
      refine iteT ⟨_, rfl, a, _, _, .str l2, rfl, rfl, SqT.same s4 ha, rfl, l2, rfl, sh2, fun H5 s5 => ?_⟩
      have q' := q H5 fun b u z => s5 _ _ (s4 _ _ z)
      rw [show isTerm (l1, l2, n).1 = true from h3, Bool.true_and] at q'
      exact q'
end
end Kx
namespace Kx
open PySem L2 PySem.Spec PyProof.Rows
structure Cl (K : PySem.W.Frag) (H : Hp) (a : Addr) (xs : List V) (c : List Lit) : Prop where
  sq : SqT K H a xs
  p : Paired (IsLit K H) xs c
  l1 : 1 ≤ c.length
  l2 : c.length ≤ 1000
theorem paired_same {K : PySem.W.Frag} {H H' : Hp} (s : Same H H') {xs : List V} {c : List Lit} (h : Paired (IsLit K H) xs c) : Paired (IsLit K H') xs c := L2.Paired.mapP h fun _ _ z => IsLit.same s z
theorem Cl.same {K : PySem.W.Frag} {H H' : Hp} {a : Addr} {xs : List V} {c : List Lit} (s : Same H H') (h : Cl K H a xs c) : Cl K H' a xs c := ⟨SqT.same s h.sq, paired_same s h.p, h.l1, h.l2⟩
theorem Cl.len {K : PySem.W.Frag} {H : Hp} {a : Addr} {xs : List V} {c : List Lit} (h : Cl K H a xs c) : xs.length = c.length := Paired.length h.p
def spIsCl (K : PySem.W.Frag) : Sp := fun vs H Q _ => ∃ (a : Addr) (xs : List V) (c : List Lit) (m : Int), vs = [.ref a, .int m] ∧ Cl K H a xs c ∧ ∀ H', Same H H' → Q (.bl (decide ((c.length : Int) ≤ m))) H'
def stands (c : List Lit) : Bool := decide ((c.length : Int) ≤ 2) && c.all fun l => isTerm l.1 && isTerm l.2.1
def spStand (K : PySem.W.Frag) : Sp := fun vs H Q _ => ∃ (a : Addr) (xs : List V) (c : List Lit), vs = [.ref a] ∧ Cl K H a xs c ∧ (∀ l ∈ c, Short l.1 ∧ Short l.2.1) ∧ ∀ H', Same H H' → Q (.bl (stands c)) H'
section
variable {P : Program} {w : World} {K : PySem.W.Frag} {mg : Str → Option Value} {base : Heap}
theorem scCl : FnScope ["thing", "most", "literal"] ["thing", "most"] (defScope sIsCl) := ⟨rfl, rfl, rfl, by decide +kernel, rfl, by decide +kernel, by decide +kernel⟩
theorem ok_iscl {f g i : Addr} {fd fdL fdI : FuncData} (F : Fs K mg "is_clause" sIsCl ["thing", "most"] f fd) (L : Fs K mg "is_literal" sIsLit ["thing"] g fdL) (I : Fs K mg "is_integer" sIsInt ["thing"] i fdI) (T : Bx mg) :
    FnOk P w K mg base CX0 3 f fd ["thing", "most"] (spIsCl K) := by
  have GL : FnOk P w K mg base CX0 2 g fdL ["thing"] (spIsLit K) := ok_islit L I T
  refine F.F.ok scCl (fun vs H Q E h => ?_) (fun cdv A outer s H vs Q E hr h => ?_)
  · obtain ⟨a, xs, c, m, rfl, _⟩ := h
    rfl
  · obtain ⟨a, xs, c, m, rfl, hc, q⟩ := h
    have hl := hc.len
    have h1 := hc.l1
    refine ⟨_, pss_cons (ps_if (PW.pt (pw_or (pt_not (pt_val (pe_callB call_isi (by rfl) T.isi boot_isinstance (pa_cons (pv 0) (pa_cons (pe_bltn (v := .ty "tuple") (by rfl) T.tuple (by decide +kernel) rfl) pa_nil)))))
        (pw_or1 (pt_not (pt_chain op_le op_le pe_int (pe_callB call_len_seq (by rfl) T.len PySem.boot_len (pa_cons (pv 0) pa_nil)) (pv 1)))))) (pss_one (ps_ret pe_bl)) pss_nil)
      (pss_one (ps_ret (pe_callB (cr_all rfl) (by rfl) T.all (by decide +kernel) (pa_cons
        (pe_lc (own := [("literal", 2)]) (g := gName 2) (tt := tYes) rfl scCl.nd (pi_tup (pv 0)) (blkOk_by (N := ["thing", "most", "literal"]) (sc := defScope sIsCl) (by decide +kernel))
          (fun _ _ _ _ _ => pg_name (i := 2) scCl.nd rfl (Or.inl rfl)) (fun _ _ _ _ _ => pts_nil)
          (fun _ _ _ _ _ => pe_call GL hr rfl L.m L.F.kp L.b .nil pass0 (pa_cons (pv 2) pa_nil))) pa_nil)))), ?_⟩
    refine ⟨_, rfl, .ref a, .ty "tuple", _, _, true, rfl, .ty _, tyT hc.sq, kit_ty (by decide +kernel), true, rfl, iteF ?_⟩
    refine ⟨_, rfl, a, xs, rfl, .inr hc.sq, _, _, rfl, rfl, _, rfl, ?_⟩
    rw [decide_eq_true (by rw [hl]; omega)]
    refine iteT ⟨_, rfl, _, _, rfl, rfl, _, rfl, ?_⟩
    rw [hl]
    by_cases h2 : (c.length : Int) ≤ m
    case neg =>
      rw [decide_eq_false h2] at q ⊢
      exact iteT (q H fun _ _ z => z)
    case pos =>
    rw [decide_eq_true h2] at q ⊢
    refine iteF ⟨_, rfl, a, rfl, ⟨_, hc.sq⟩, fun D hD => ?_⟩
    refine lc_it (walk_tup (xs := xs)) (fun i H2 => Same H H2 ∧ H2 D = some (.lst ((List.replicate i true).map V.bl))) ⟨new_same hD, upd_same⟩ (fun i H2 _ h => SqT.same h.1 hc.sq) ?_ ?_
    · rintro i x H2 H3 hi ⟨s2, gD⟩ ⟨rfl, hx⟩
      obtain ⟨l, hcl, hx'⟩ := paired_get hc.p hx
      refine ⟨rfl, yes_of ⟨_, rfl, x, l, rfl, IsLit.same s2 hx', _, gD, small1000 (by rw [List.length_map, List.length_replicate]; have := hc.l2; omega), same_upd hD s2, ?_⟩⟩
      rw [upd_same, List.replicate_succ', List.map_append]
      rfl
    · rintro H2 ⟨s2, gD⟩
      refine ⟨D, List.replicate xs.length true, rfl, SqL.of gD, ?_⟩
      have e : (List.replicate xs.length true).all id = true := List.all_eq_true.mpr fun b hb => by rw [(List.mem_replicate.mp hb).2]; rfl
      rw [e]
      exact q H2 s2
theorem scStand : FnScope ["thing", "literal"] ["thing"] (defScope sStand) := ⟨rfl, rfl, rfl, by decide +kernel, rfl, by decide +kernel, by decide +kernel⟩
theorem ok_stand {f g i c' t wd lt : Addr} {fd fdL fdI fdC fdT fdW fdLT : FuncData} (F : Fs K mg "_can_stand" sStand ["thing"] f fd) (C : Fs K mg "is_clause" sIsCl ["thing", "most"] c' fdC) (L : Fs K mg "is_literal" sIsLit ["thing"] g fdL) (I : Fs K mg "is_integer" sIsInt ["thing"] i fdI)
    (Tm : Fs K mg "is_term" sIsTerm ["thing"] t fdT) (W : Fs K mg "is_word" sIsWord ["thing"] wd fdW) (LT : Fs K mg "is_literal_over_terms" sLitT ["thing"] lt fdLT) (T : Bx mg) (hM : ∃ k, mg "MOST_LITERALS" = some (.int 2 k)) :
    FnOk P w K mg base CX0 4 f fd ["thing"] (spStand K) := by
  obtain ⟨tk, hM⟩ := hM
  have GC : FnOk P w K mg base CX0 3 c' fdC ["thing", "most"] (spIsCl K) := ok_iscl C L I T
  have GT : FnOk P w K mg base CX0 3 lt fdLT ["thing"] (spLitT K) := ok_litT LT L I Tm W T
  refine F.F.ok scStand (fun vs H Q E h => ?_) (fun cdv A outer s H vs Q E hr h => ?_)
  · obtain ⟨a, xs, c, rfl, _⟩ := h
    rfl
  · obtain ⟨a, xs, c, rfl, hc, hs, q⟩ := h
    have hl := hc.len
    refine ⟨_, pss_one (ps_ret (pe_and (pe_call GC hr (by rfl) C.m C.F.kp C.b .nil pass0 (pa_cons (pv 0) (pa_cons (pe_glob (v := .int 2) (by rfl) hM ⟨_, rfl⟩) pa_nil)))
      (pe_one (pe_callB (cr_all rfl) (by rfl) T.all (by decide +kernel) (pa_cons
        (pe_lc (own := [("literal", 1)]) (g := gName 1) (tt := tYes) rfl scStand.nd (pi_tup (pv 0)) (blkOk_by (N := ["thing", "literal"]) (sc := defScope sStand) (by decide +kernel))
          (fun _ _ _ _ _ => pg_name (i := 1) scStand.nd rfl (Or.inl rfl)) (fun _ _ _ _ _ => pts_nil)
          (fun _ _ _ _ _ => pe_call GT hr (by rfl) LT.m LT.F.kp LT.b .nil pass0 (pa_cons (pv 1) pa_nil))) pa_nil))))), ?_⟩
    refine ⟨_, rfl, a, xs, c, 2, rfl, hc, fun H1 s1 => ⟨_, rfl, ?_⟩⟩
    by_cases h2 : (c.length : Int) ≤ 2
    case neg =>
      rw [decide_eq_false h2]
      have e : stands c = false := by
        unfold stands
        rw [decide_eq_false h2, Bool.false_and]
      rw [e] at q
      exact iteF (q H1 s1)
    case pos =>
    rw [decide_eq_true h2]
    have e : stands c = c.all fun l => isTerm l.1 && isTerm l.2.1 := by
      unfold stands
      rw [decide_eq_true h2, Bool.true_and]
    rw [e] at q
    have hc1 := Cl.same s1 hc
    refine iteT ⟨_, rfl, a, rfl, ⟨_, hc1.sq⟩, fun D hD => ?_⟩
    refine lc_it (walk_tup (xs := xs)) (fun i H2 => Same H1 H2 ∧ H2 D = some (.lst ((c.take i).map fun l => .bl (isTerm l.1 && isTerm l.2.1)))) ⟨new_same hD, upd_same⟩ (fun i H2 _ h => SqT.same h.1 hc1.sq) ?_ ?_
    · rintro i x H2 H3 hi ⟨s2, gD⟩ ⟨rfl, hx⟩
      obtain ⟨l, hcl, hx'⟩ := paired_get hc1.p hx
      obtain ⟨sh1, sh2⟩ := hs l (List.mem_of_getElem? hcl)
      refine ⟨rfl, yes_of ⟨_, rfl, x, l, rfl, IsLit.same s2 hx', sh1, sh2, fun H4 s4 => ?_⟩⟩
      refine ⟨_, s4 _ _ gD, small1000 (by rw [List.length_map, List.length_take]; have := hc.l2; omega), same_upd hD (fun b u z => s4 _ _ (s2 _ _ z)), ?_⟩
      rw [upd_same, List.take_add_one, hcl, List.map_append]
      rfl
    · rintro H2 ⟨s2, gD⟩
      refine ⟨D, c.map fun l => isTerm l.1 && isTerm l.2.1, rfl, SqL.of ?_, ?_⟩
      · rw [gD, hl, List.take_of_length_le (Nat.le_refl _), List.map_map]
        rfl
      · have e : (c.all fun l => isTerm l.1 && isTerm l.2.1) = (c.map fun l => isTerm l.1 && isTerm l.2.1).all id := by
          rw [List.all_map]
          rfl
        rw [← e]
        exact q H2 fun b u z => s2 _ _ (s1 _ _ z)
end
end Kx
namespace Kx
open PySem L2 PySem.Spec PyProof.Rows
def IsC (K : PySem.W.Frag) (H : Hp) (x : V) (c : List Lit) : Prop := ∃ a ys, x = .ref a ∧ Cl K H a ys c
theorem IsC.same {K : PySem.W.Frag} {H H' : Hp} {x : V} {c : List Lit} (s : Same H H') (h : IsC K H x c) : IsC K H' x c := let ⟨a, ys, e, q⟩ := h; ⟨a, ys, e, Cl.same s q⟩
/-- a tuple of clauses -/
structure Cs (K : PySem.W.Frag) (H : Hp) (a : Addr) (xs : List V) (cs : List (List Lit)) : Prop where
  sq : SqT K H a xs
  p : Paired (IsC K H) xs cs
  l : cs.length ≤ 1000
theorem pairedC_same {K : PySem.W.Frag} {H H' : Hp} (s : Same H H') {xs : List V} {cs : List (List Lit)} (h : Paired (IsC K H) xs cs) : Paired (IsC K H') xs cs := L2.Paired.mapP h fun _ _ z => IsC.same s z
theorem Cs.same {K : PySem.W.Frag} {H H' : Hp} {a : Addr} {xs : List V} {cs : List (List Lit)} (s : Same H H') (h : Cs K H a xs cs) : Cs K H' a xs cs := ⟨SqT.same s h.sq, pairedC_same s h.p, h.l⟩
def shortC (cs : List (List Lit)) : Prop := ∀ c ∈ cs, ∀ l ∈ c, Short l.1 ∧ Short l.2.1
/-- where clauses are refused, from the i-th on, d of two literals before -/
def wrongAt : Nat → Nat → List (List Lit) → Option Int
  | _, _, [] => none
  | i, d, c :: r => if stands c = true then if (if c.length = 2 then d + 1 else d) = 2 then some (i : Int) else wrongAt (i + 1) (if c.length = 2 then d + 1 else d) r else some (i : Int)
def firstWrong (cs : List (List Lit)) : Option Int := if 4 < cs.length then some (-1) else wrongAt 0 0 cs
def optV : Option Int → V
  | none => .non
  | some i => .int i
def spFirst (K : PySem.W.Frag) : Sp := fun vs H Q _ => ∃ (a : Addr) (xs : List V) (cs : List (List Lit)), vs = [.ref a] ∧ Cs K H a xs cs ∧ shortC cs ∧ ∀ H', Same H H' → Q (optV (firstWrong cs)) H'
/-- the package's own defs, as they are bound -/
structure Forms (K : PySem.W.Frag) (mg : Str → Option Value) : Prop where
  T : Bx mg
  mL : ∃ k, mg "MOST_LITERALS" = some (.int 2 k)
  mC : ∃ k, mg "MOST_CLAUSES" = some (.int 4 k)
  int : ∃ f fd, Fs K mg "is_integer" sIsInt ["thing"] f fd
  word : ∃ f fd, Fs K mg "is_word" sIsWord ["thing"] f fd
  term : ∃ f fd, Fs K mg "is_term" sIsTerm ["thing"] f fd
  lit : ∃ f fd, Fs K mg "is_literal" sIsLit ["thing"] f fd
  cl : ∃ f fd, Fs K mg "is_clause" sIsCl ["thing", "most"] f fd
  stand : ∃ f fd, Fs K mg "_can_stand" sStand ["thing"] f fd
  litT : ∃ f fd, Fs K mg "is_literal_over_terms" sLitT ["thing"] f fd
section
variable {P : Program} {w : World} {K : PySem.W.Frag} {mg : Str → Option Value} {base : Heap}
theorem scFirst : FnScope ["clauses", "doubles", "at", "clause"] ["clauses"] (defScope sFirst) := ⟨rfl, rfl, rfl, by decide +kernel, rfl, by decide +kernel, by decide +kernel⟩
theorem ok_first {f : Addr} {fd : FuncData} (F : Fa K mg "first_wrong_conditions" "_first_wrong" sFirst ["clauses"] f fd) (M : Forms K mg) : FnOk P w K mg base CX0 5 f fd ["clauses"] (spFirst K) := by
  obtain ⟨tk, hM⟩ := M.mC
  obtain ⟨_, _, dI⟩ := M.int
  obtain ⟨_, _, dW⟩ := M.word
  obtain ⟨_, _, dT⟩ := M.term
  obtain ⟨_, _, dL⟩ := M.lit
  obtain ⟨_, _, dC⟩ := M.cl
  obtain ⟨_, _, dS⟩ := M.stand
  obtain ⟨_, _, dLT⟩ := M.litT
  have T := M.T
  have GS : FnOk P w K mg base CX0 4 _ _ ["thing"] (spStand K) := ok_stand dS dC dL dI dT dW dLT T M.mL
  refine F.F.ok scFirst (fun vs H Q E h => ?_) (fun cdv A outer s H vs Q E hr h => ?_)
  · obtain ⟨a, xs, cs, rfl, _⟩ := h
    rfl
  · obtain ⟨a, xs, cs, rfl, hc, hs, q⟩ := h
    have hl : xs.length = cs.length := Paired.length hc.p
    refine ⟨_, pss_cons (ps_if (pt_cmpR op_gt (pe_callB call_len_seq (by rfl) T.len PySem.boot_len (pa_cons (pv 0) pa_nil)) (pe_glob (v := .int 4) (by rfl) hM ⟨_, rfl⟩) (nomark _)) (pss_one (ps_ret (pe_un un_neg pe_int))) pss_nil)
      (pss_cons (ps_set (i := 1) scFirst.nd rfl (Or.inl rfl) pe_int)
      (pss_cons (ps_for PassesOwn.never rfl (pi_enumT (by rfl) T.enum (pa_cons (pv 0) pa_nil)) (pg_tup rfl (pgs_cons (pg_name (i := 2) scFirst.nd rfl (Or.inl rfl)) (pgs_cons (pg_name (i := 3) scFirst.nd rfl (Or.inl rfl)) pgs_nil)))
        (pss_cons (ps_if (pt_not (pt_val (pe_call GS hr (by rfl) dS.m dS.F.kp dS.b .nil pass0 (pa_cons (pv 3) pa_nil)))) (pss_one (ps_ret (pv 2))) pss_nil)
        (pss_cons (ps_if (pt_cmpR op_eq (pe_callB call_len_seq (by rfl) T.len PySem.boot_len (pa_cons (pv 3) pa_nil)) pe_int (nomark _)) (pss_one (ps_aug (i := 1) scFirst.nd rfl (Or.inl rfl) pe_int ip_add)) pss_nil)
        (pss_one (ps_if (pt_cmpR op_eq (pv 1) pe_int (nomark _)) (pss_one (ps_ret (pv 2))) pss_nil)))))
      (pss_one (ps_ret pe_non)))), ?_⟩
    refine ⟨_, rfl, a, xs, rfl, .inr hc.sq, _, _, rfl, rfl, _, rfl, ?_⟩
    rw [hl]
    by_cases h4 : (4 : Int) < (cs.length : Int)
    case pos =>
      rw [decide_eq_true h4]
      have e : firstWrong cs = some (-1) := by
        unfold firstWrong
        rw [if_pos (by omega)]
      rw [e] at q
      exact iteT ⟨_, rfl, q H fun _ _ z => z⟩
    case neg =>
    rw [decide_eq_false h4]
    have e : firstWrong cs = wrongAt 0 0 cs := by
      unfold firstWrong
      rw [if_neg (by omega)]
    rw [e] at q
    obtain ⟨R, hR⟩ : ∃ R, wrongAt 0 0 cs = R := ⟨_, rfl⟩
    rw [hR] at q
    refine iteF ?_
    refine ⟨_, rfl, a, xs, rfl, hc.sq, ?_⟩
    refine for_enumT (xs := xs) (fun i σ H2 => Same H H2 ∧ ∃ (d : Nat) (v2 v3 : Option V), σ = [some (.ref a), some (.int d), v2, v3] ∧ d < 2 ∧ wrongAt i d (cs.drop i) = R) ⟨fun _ _ z => z, 0, none, none, rfl, by decide, hR⟩
      (fun i σ H2 _ h => SqT.same h.1 hc.sq) ?_ ?_
    · rintro i x σ H2 t hx ⟨s2, d, v2, v3, rfl, hd, hw⟩ ht
      obtain ⟨c, hcl, y, ys, rfl, hy⟩ := paired_get hc.p hx
      have hdrop : cs.drop i = c :: cs.drop (i + 1) := (List.drop_eq_getElem?_toList_append).trans (by rw [hcl]; rfl)
      rw [hdrop] at hw
      have s3 : Same H (upd H2 t (.tup [.int (i : Nat), .ref y])) := fun b u z => new_same ht b u (s2 b u z)
      have hy3 := Cl.same s3 hy
      refine ⟨t, _, rfl, SqT.of upd_same, rfl, _, _, rfl, _, _, rfl, rfl, ?_⟩
      refine ⟨_, rfl, y, ys, c, rfl, hy3, fun l hm => hs c (List.mem_of_getElem? hcl) l hm, fun H4 s4 => ⟨_, rfl, ?_⟩⟩
      have s14 : Same H H4 := fun b u z => s4 b u (s3 b u z)
      have hy4 := Cl.same s14 hy
      unfold wrongAt at hw
      cases hst : stands c with
      | false =>
        rw [hst, if_neg Bool.false_ne_true] at hw
        rw [← hw] at q
        exact iteT ⟨_, rfl, q H4 s14⟩
      | true =>
        rw [hst, if_pos rfl] at hw
        refine iteF ?_
        refine ⟨_, rfl, y, ys, rfl, .inr hy4.sq, rfl, _, rfl, ?_⟩
        rw [hy4.len]
        by_cases h2 : c.length = 2
        case pos =>
          rw [if_pos h2] at hw
          have e2 : decide (V.int (c.length : Int) = V.int 2) = true := by rw [h2]; exact decide_eq_true rfl
          rw [e2]
          refine iteT ⟨_, rfl, _, _, rfl, rfl, ?_⟩
          refine ⟨_, rfl, rfl, _, rfl, ?_⟩
          by_cases h5 : d + 1 = 2
          case pos =>
            rw [if_pos h5] at hw
            have e5 : decide (V.int ((d : Int) + 1) = V.int 2) = true := by
              have : d = 1 := by omega
              rw [this]
              exact decide_eq_true rfl
            rw [e5]
            rw [← hw] at q
            exact iteT ⟨_, rfl, q H4 s14⟩
          case neg =>
            rw [if_neg h5] at hw
            have e5 : decide (V.int ((d : Int) + 1) = V.int 2) = false := decide_eq_false fun z => h5 (by have := V.int.inj z; omega)
            rw [e5]
            exact iteF ⟨s14, d + 1, _, _, rfl, by omega, hw⟩
        case neg =>
          rw [if_neg h2] at hw
          have e2 : decide (V.int (c.length : Int) = V.int 2) = false := decide_eq_false fun z => h2 (by have := V.int.inj z; omega)
          rw [e2]
          refine iteF ?_
          refine ⟨_, rfl, rfl, _, rfl, ?_⟩
          have h5 : ¬ d = 2 := by omega
          rw [if_neg h5] at hw
          have e5 : decide (V.int (d : Int) = V.int 2) = false := decide_eq_false fun z => h5 (by have := V.int.inj z; omega)
          rw [e5]
          exact iteF ⟨s14, d, _, _, rfl, hd, hw⟩
    · rintro σ H2 ⟨s2, d, v2, v3, rfl, hd, hw⟩
      rw [List.drop_of_length_le (by rw [hl]; exact Nat.le_refl _)] at hw
      rw [← hw] at q
      exact q H2 s2
end
end Kx
namespace Kx
open PySem L2 PySem.Spec PyProof.Rows
/-! the terms of clauses, gathered -/
abbrev noE (t : Str) : Bool := !decide (t = "")
def termsL (l : Lit) : List Str := [l.1, l.2.1].filter noE
def termsC (c : List Lit) : List Str := c.flatMap termsL
def termsOf (cs : List (List Lit)) : List Str := cs.flatMap termsC
structure Col (l ts : List Str) (n : Nat) : Prop where
  nd : l.Nodup
  mem : ∀ t, t ∈ l ↔ t ∈ ts
  len : l.length ≤ n
theorem Col.nil : Col [] [] 0 := ⟨List.nodup_nil, fun _ => Iff.rfl, Nat.le_refl _⟩
theorem put_nodup {l : List Str} {k : Str} (h : l.Nodup) : (put l k).Nodup := by
  unfold put
  by_cases hk : k ∈ l
  · rw [if_pos hk]; exact h
  · rw [if_neg hk]; exact List.nodup_cons.mpr ⟨hk, h⟩
theorem Col.put {l ts : List Str} {n : Nat} {k : Str} (C : Col l ts n) : Col (Kx.put l k) (ts ++ [k]) (n + 1) :=
  ⟨put_nodup C.nd, fun t => by rw [mem_put, List.mem_append, C.mem t, List.mem_singleton], Nat.le_trans put_len (Nat.succ_le_succ C.len)⟩
theorem Col.more {l ts : List Str} {n m : Nat} (C : Col l ts n) (h : n ≤ m) : Col l ts m := ⟨C.nd, C.mem, Nat.le_trans C.len h⟩
theorem walk_it {J : It} {n : Nat} {G : Hp → Prop} {Y : Nat → Hp → V → Hp → Prop} (w : Walk J n G Y) {g : TG} {tt : TT} {tb : TB} {vs : List Nat} {σ : L2.St} {H0 : Hp} {Qd : Hp → Prop} (Pv : Nat → Hp → Prop) (h0 : Pv 0 H0) (hG : ∀ i H, i ≤ n → Pv i H → G H)
    (hs : ∀ i x H H', i < n → Pv i H → Y i H x H' → g x (wipe σ vs) H' fun σ2 H2 => wipe σ2 vs = wipe σ vs ∧ tt σ2 H2 fun b H3 => if b = true then tb σ2 H3 (Pv (i + 1)) else Pv (i + 1) H3) (hd : ∀ H, Pv n H → Qd H) :
    ∃ W : Nat → Nat → Hp → Prop, (∃ m, W 0 m H0) ∧ ∀ i m H, W i m H → (J.stop i H ∧ Qd H) ∨ (J.go i H ∧ ∃ Nx : Hp → Prop, (∀ H', Nx H' → ∃ m', m' < m ∧ W (i + 1) m' H') ∧
      ∀ x H', J.yld i H x H' → g x (wipe σ vs) H' fun σ2 H2 => wipe σ2 vs = wipe σ vs ∧ tt σ2 H2 fun b H3 => if b = true then tb σ2 H3 Nx else Nx H3) := by
  refine ⟨fun i m H => m = n - i ∧ i ≤ n ∧ Pv i H, ⟨n, (Nat.sub_zero n).symm, Nat.zero_le _, h0⟩, ?_⟩
  rintro i m H ⟨rfl, hi, p⟩
  have q := hG i H hi p
  rcases Nat.lt_or_eq_of_le hi with hlt | e
  · exact .inr ⟨w.goes i H hlt q, Pv (i + 1), fun H' p' => ⟨n - (i + 1), by omega, rfl, hlt, p'⟩, fun x H' y => hs i x H H' hlt p (w.yields i H x H' hlt q y)⟩
  · subst e
    exact .inl ⟨w.stops H q, hd H p⟩
theorem SqT.ins {K : PySem.W.Frag} {H : Hp} {a b C dx : Addr} {fs : List (Str × V)} {u : HO} {xs : List V} (ha : H a = some (.ins C dx fs)) (h : SqT K H b xs) : SqT K (upd H a u) b xs := by
  rcases h with (h | ⟨o, h⟩) | h
  · exact .inl (.inl (by rw [upd_ne (fun e => by rw [e, ha] at h; cases h)]; exact h))
  · exact .inl (.inr ⟨o, by rw [upd_ne (fun e => by rw [e, ha] at h; cases h)]; exact h⟩)
  · exact .inr h
theorem Cl.ins {K : PySem.W.Frag} {H : Hp} {a b C dx : Addr} {fs : List (Str × V)} {u : HO} {xs : List V} {c : List Lit} (ha : H a = some (.ins C dx fs)) (h : Cl K H b xs c) : Cl K (upd H a u) b xs c :=
  ⟨SqT.ins ha h.sq, L2.Paired.mapP h.p fun _ _ ⟨e, z, q⟩ => ⟨e, z, SqT.ins ha q⟩, h.l1, h.l2⟩
theorem Cs.ins {K : PySem.W.Frag} {H : Hp} {a b C dx : Addr} {fs : List (Str × V)} {u : HO} {xs : List V} {cs : List (List Lit)} (ha : H a = some (.ins C dx fs)) (h : Cs K H b xs cs) : Cs K (upd H a u) b xs cs :=
  ⟨SqT.ins ha h.sq, L2.Paired.mapP h.p fun _ _ ⟨e, ys, z, q⟩ => ⟨e, ys, z, Cl.ins ha q⟩, h.l⟩
theorem stands_len {c : List Lit} (h : stands c = true) : c.length ≤ 2 := by
  unfold stands at h
  rw [Bool.and_eq_true, decide_eq_true_eq] at h
  omega
theorem wrong_none : ∀ {cs : List (List Lit)} {i d : Nat}, wrongAt i d cs = none → ∀ c ∈ cs, stands c = true
  | [], _, _, _, c, hc => nomatch hc
  | c0 :: r, i, d, h, c, hc => by
    unfold wrongAt at h
    by_cases hs : stands c0 = true
    · rw [if_pos hs] at h
      generalize hd : (if c0.length = 2 then d + 1 else d) = d2 at h
      by_cases h2 : d2 = 2
      · rw [if_pos h2] at h
        cases h
      · rw [if_neg h2] at h
        rcases List.mem_cons.mp hc with e | e
        · rw [e]; exact hs
        · exact wrong_none h c e
    · rw [if_neg hs] at h
      cases h
theorem first_none {cs : List (List Lit)} (h : firstWrong cs = none) : cs.length ≤ 4 ∧ ∀ c ∈ cs, stands c = true := by
  unfold firstWrong at h
  by_cases h4 : 4 < cs.length
  · rw [if_pos h4] at h
    cases h
  · rw [if_neg h4] at h
    exact ⟨by omega, wrong_none h⟩
theorem Col.same {l ts ts' : List Str} {n : Nat} (C : Col l ts n) (e : ts = ts') : Col l ts' n := e ▸ C
theorem filt (r : List Str) (t : Str) : (r ++ [t]).filter noE = r.filter noE ++ (if t = "" then [] else [t]) := by
  rw [List.filter_append]
  by_cases h : t = ""
  · rw [if_pos h, List.filter_cons_of_neg (by simp [h])]
    rfl
  · rw [if_neg h, List.filter_cons_of_pos (by simp [h])]
    rfl
abbrev mth (i : Nat) : Stmt := inClass (top 31) i
abbrev sInit : Stmt := mth 0
abbrev nI : List Str := ["self", "clauses", "wrong", "clause", "one", "term"]
structure Cnd (K : PySem.W.Frag) (mg : Str → Option Value) (C : Addr) : Prop where
  cls : Cls K C
  nc : NoAttr K C "clauses"
  nt : NoAttr K C "terms"
  gC : mg "Cond" = some (.ref C)
  first : ∃ f fd, Fa K mg "first_wrong_conditions" "_first_wrong" sFirst ["clauses"] f fd
  M : Forms K mg
/-- what Cond's own attributes tell -/
structure CondF (K : PySem.W.Frag) (H : Hp) (a C dx p q : Addr) (cs : List (List Lit)) (ys : List Str) : Prop where
  ins : H a = some (.ins C dx (putF "terms" (.ref q) (putF "clauses" (.ref p) [])))
  cl : ∃ xs, Cs K H p xs cs
  tm : SqT K H q (ys.map V.str)
  so : sortedS ys = true
  nd : ys.Nodup
  mem : ∀ t, t ∈ ys ↔ t ∈ termsOf cs
def raiseI : Stmt := match defBody sInit with
  | _ :: .If _ [r] _ _ :: _ => r
  | _ => .Pass ⟨0, 0, 0, 0⟩
def spInitB (K : PySem.W.Frag) (C : Addr) (F : Hp → Int → Prop) : Sp := fun vs H Q _ => ∃ (a dx p : Addr) (xs : List V) (cs : List (List Lit)), vs = [.ref a, .ref p] ∧ H a = some (.ins C dx []) ∧ Cs K H p xs cs ∧ shortC cs ∧
  (firstWrong cs = none → ∀ H' q ys, CondF K H' a C dx p q cs ys → (∀ b u, b ≠ a → H b = some u → H' b = some u) → Q .non H') ∧ ∀ i, firstWrong cs = some i → ∀ H1, Same H H1 → F H1 i
section
variable {P : Program} {w : World} {K : PySem.W.Frag} {mg : Str → Option Value} {base : Heap}
theorem scI : FnScope nI (([("self" : PySem.Str)] : List PySem.Str) ++ [("clauses" : PySem.Str)]) (defScope sInit) := ⟨rfl, rfl, rfl, by decide +kernel, rfl, by decide +kernel, by decide +kernel⟩
theorem body_init {f C : Addr} (D : Cnd K mg C) {CX : CXT} (cdv : Value) (A : Around) (outer : List Env) (s : Shared) (H : Hp) (vs : List V) (Q : VK) (E : XK) (F : Hp → Int → Prop) (hr : Room 5 (A.deeper (envOfC "Cond.__init__" (defScope sInit) s.heap.objs.size f cdv))) {tR : TS}
    (hR : PS (cxOf CX P w K mg base nI "Cond.__init__" (defScope sInit) f cdv A outer s H E) raiseI tR) (hF : ∀ (D' : Ends) v0 v1 i v3 v4 v5 H1, Same H H1 → F H1 i → tR D' [v0, v1, some (.int i), v3, v4, v5] H1) (h : spInitB K C F vs H Q E) :
    ∃ t, PSs (cxOf CX P w K mg base nI "Cond.__init__" (defScope sInit) f cdv A outer s H E) (defBody sInit) t ∧ t { nx := fun _ H' => Q .non H', rt := Q } (start nI vs) H := by
  obtain ⟨_, _, dF⟩ := D.first
  have GF : FnOk P w K mg base CX0 5 _ _ ["clauses"] (spFirst K) := ok_first dF D.M
  have T := D.M.T
  obtain ⟨a, dx, p, xs, cs, rfl, ha, hc, hsh, qn, qf⟩ := h
  refine ⟨_, pss_cons (ps_set (i := 2) scI.nd rfl (Or.inl rfl) (pe_call GF hr (by rfl) dF.m dF.F.kp dF.b .nil pass0 (pa_cons (pv 1) pa_nil)))
    (pss_cons (ps_if (pt_cmpR op_notN (pv 2) pe_non (nomark _)) (pss_one hR) pss_nil)
    (pss_cons (ps_fld (pv 0) (pv 1) (by rfl))
    (pss_one (ps_fld (pv 0) (pe_tupleOf (by rfl) T.tuple (pe_callB (cr_sortedX rfl) (by rfl) T.sorted (by decide +kernel) (pa_cons
      (pe_sc3 (own := [("clause", 3), ("one", 4), ("term", 5)]) (vs1 := [4, 5]) (vs2 := [5]) (g0 := gName 3) (g1 := gName 4) (g2 := gName 5) (tt0 := tYes) (tt1 := tYes) (w1 := iTup K (tVar 3)) (w2 := iTup K (tSl (rSlA K) (tVar 4) tNoPart (tPart (tC (.int 2))))) (tt2 := tTest (tOp rNe (tVar 5) (tC (.str "")))) (te := tVar 5) rfl scI.nd (pi_tup (pv 1)) (blkOk_by (N := nI) (sc := defScope sInit) (by decide +kernel)) (by decide) (by decide)
        (fun _ _ _ _ _ => pg_name (i := 3) scI.nd rfl (Or.inl rfl)) (fun _ _ _ _ _ => pts_nil)
        (fun _ _ _ _ _ => pi_tup (pv 3)) (fun _ _ _ _ _ => pg_name (i := 4) scI.nd rfl (Or.inl rfl)) (fun _ _ _ _ _ => pts_nil)
        (fun _ _ _ _ _ => pi_tup (pe_slice sl_tupA (pv 4) po_none (po_some pe_int))) (fun _ _ _ _ _ => pg_name (i := 5) scI.nd rfl (Or.inl rfl)) (fun _ _ _ _ _ => pts_one (pt_cmpR op_ne (pv 5) pe_str (nomark _)))
        (fun _ _ _ _ _ => pv 5)) pa_nil))) (by rfl))))), ?_⟩
  have bound : (64 : Nat) < scanBound := by decide
  have hl : xs.length = cs.length := Paired.length hc.p
  refine ⟨_, rfl, p, xs, cs, rfl, hc, hsh, fun H1 s1 => ?_⟩
  cases hw : firstWrong cs with
  | some i => exact ⟨_, rfl, rfl, _, rfl, iteT (hF _ _ _ _ _ _ _ _ s1 (qf i hw H1 s1))⟩
  | none =>
  have q := qn hw
  obtain ⟨n4, hst⟩ := first_none hw
  refine ⟨_, rfl, rfl, _, rfl, iteF ?_⟩
  refine ⟨_, rfl, _, rfl, a, C, dx, [], rfl, s1 _ _ ha, D.cls, D.nc, by decide, ?_⟩
  obtain ⟨H2, e2⟩ : ∃ H2, upd H1 a (.ins C dx (putF "clauses" (.ref p) [])) = H2 := ⟨_, rfl⟩
  have ha2 : H2 a = some (.ins C dx (putF "clauses" (.ref p) [])) := by rw [← e2]; exact upd_same
  have hc2 : Cs K H2 p xs cs := by rw [← e2]; exact Cs.ins (s1 _ _ ha) (Cs.same s1 hc)
  have k2 : ∀ b u, b ≠ a → H b = some u → H2 b = some u := fun b u nb z => by rw [← e2, upd_ne nb]; exact s1 _ _ z
  rw [e2]
  refine ⟨_, rfl, p, rfl, ⟨_, hc2.sq⟩, fun Ds hD => ?_⟩
  refine walk_it (walk_tup (xs := xs)) (fun i H3 => Same H2 H3 ∧ ∃ l, H3 Ds = some (SetX P w Ds l) ∧ Col l (termsOf (cs.take i)) (4 * i)) ⟨new_same hD, [], upd_same, Col.nil⟩ (fun i H3 _ h => SqT.same h.1 hc2.sq) ?_ ?_
  · rintro i x H3 H4 hi ⟨s3, l, gD, hC⟩ ⟨rfl, hx⟩
    obtain ⟨c, hcl, b, ys, rfl, hb⟩ := paired_get hc2.p hx
    have hcm : c ∈ cs := List.mem_of_getElem? hcl
    have c2 := stands_len (hst c hcm)
    have hi4 : i < 4 := by omega
    have hyl : ys.length = c.length := hb.len
    refine ⟨rfl, yes_of ⟨_, rfl, b, rfl, ⟨_, SqT.same s3 hb.sq⟩, ?_⟩⟩
    refine walk_it (walk_tup (xs := ys)) (fun j H5 => Same H2 H5 ∧ ∃ l, H5 Ds = some (SetX P w Ds l) ∧ Col l (termsOf (cs.take i) ++ termsC (c.take j)) (4 * i + 2 * j)) ⟨s3, l, gD, hC.same (List.append_nil _).symm⟩ (fun j H5 _ h => SqT.same h.1 hb.sq) ?_ ?_
    · rintro j x H5 H6 hj ⟨s5, l5, g5, hC5⟩ ⟨rfl, hx5⟩
      obtain ⟨lt, hlt, e, rfl, he⟩ := paired_get hb.p hx5
      obtain ⟨t1, t2, n⟩ := lt
      have he5 := SqT.same s5 he
      refine ⟨rfl, yes_of ?_⟩
      refine ⟨_, rfl, _, rfl, e, _, rfl, he5, fun z => absurd z.2 (by show ¬ HT.sIx 3 3 (some 2) = 3; decide), fun _ q5 hq5 => ?_⟩
      have s6 := same_upd hq5 (fun b u z => z : Same H6 H6) (o := .tup [.str t1, .str t2])
      have nq : q5 ≠ Ds := fun z => by
        rw [z, g5] at hq5
        cases hq5
      refine ⟨q5, rfl, ⟨_, SqT.of upd_same⟩, ?_⟩
      refine walk_it (walk_tup (xs := [V.str t1, V.str t2])) (fun k H7 => Same H2 H7 ∧ H7 q5 = some (.tup [.str t1, .str t2]) ∧ ∃ l, H7 Ds = some (SetX P w Ds l) ∧ Col l (termsOf (cs.take i) ++ termsC (c.take j) ++ ([t1, t2].take k).filter noE) (4 * i + 2 * j + k))
        ⟨fun b u z => s6 _ _ (s5 _ _ z), upd_same, l5, (by rw [upd_ne (Ne.symm nq)]; exact g5), hC5.same (List.append_nil _).symm⟩ (fun k H7 _ h => SqT.of h.2.1) ?_ ?_
      · rintro k x H7 H8 hk ⟨s7, g7, l7, gD7, hC7⟩ ⟨rfl, hx7⟩
        obtain ⟨t, ht, rfl⟩ : ∃ t, [t1, t2][k]? = some t ∧ x = .str t := by
          have e : [V.str t1, V.str t2] = [t1, t2].map V.str := rfl
          rw [e, List.getElem?_map] at hx7
          obtain ⟨t, h1, h2⟩ := Option.map_eq_some_iff.mp hx7
          exact ⟨t, h1, h2.symm⟩
        have hk2 : k < 2 := hk
        have et : ([t1, t2].take (k + 1)).filter noE = ([t1, t2].take k).filter noE ++ (if t = "" then [] else [t]) := by
          rw [List.take_add_one, ht]
          exact filt _ t
        refine ⟨rfl, _, rfl, rfl, _, rfl, ?_⟩
        by_cases hz : t = ""
        · have e : (!decide (V.str t = V.str "")) = false := by rw [hz]; decide
          rw [e, et, if_pos hz]
          exact iteF ⟨s7, g7, l7, gD7, (hC7.same (by rw [List.append_nil])).more (Nat.le_succ _)⟩
        · have e : (!decide (V.str t = V.str "")) = true := by
            rw [decide_eq_false fun z => hz (V.str.inj z)]
            rfl
          rw [e, et, if_neg hz]
          refine iteT ⟨_, rfl, l7, t, rfl, gD7, by have := hC7.len; omega, same_upd hD s7, by rw [upd_ne nq]; exact g7, _, upd_same, ?_⟩
          exact (hC7.put (k := t)).same (List.append_assoc _ _ _)
      · rintro H7 ⟨s7, g7, l7, gD7, hC7⟩
        refine ⟨s7, l7, gD7, (hC7.same ?_).more (by show 4 * i + 2 * j + 2 ≤ _; omega)⟩
        rw [List.take_add_one, hlt]
        unfold termsC
        rw [List.flatMap_append, List.append_assoc]
        simp [termsL]
    · rintro H5 ⟨s5, l5, g5, hC5⟩
      refine ⟨s5, l5, g5, (hC5.same ?_).more (by omega)⟩
      rw [hyl, List.take_of_length_le (Nat.le_refl _), List.take_add_one, hcl]
      unfold termsOf
      rw [List.flatMap_append]
      simp
  · rintro H3 ⟨s3, l, gD, hC⟩
    rw [hl, List.take_of_length_le (Nat.le_refl _)] at hC
    refine ⟨Ds, l, rfl, gD, by have := hC.len; omega, fun zs p3 hso hpm hp3 => .inl ⟨p3, _, rfl, SqL.of upd_same, fun q4 hq4 => ?_⟩⟩
    have s5 : Same H2 (upd (upd H3 p3 (.lst (zs.map V.str))) q4 (.tup (zs.map V.str))) := fun b u z => new_same hq4 _ _ (new_same hp3 _ _ (s3 _ _ z))
    have ha5 := s5 _ _ ha2
    have hc5 := Cs.same s5 hc2
    refine ⟨_, rfl, a, C, dx, _, rfl, ha5, D.cls, D.nt, (by show 1 < 1000; decide), ?_⟩
    refine q _ q4 zs ⟨upd_same, ⟨xs, Cs.ins ha5 hc5⟩, SqT.ins ha5 (SqT.of upd_same), hso, hpm.nodup_iff.mpr hC.nd, fun t => hpm.mem_iff.trans (hC.mem t)⟩ fun b u nb z => ?_
    rw [upd_ne nb]
    exact s5 _ _ (k2 b u nb z)
end
end Kx
set_option linter.all false
namespace Kx
open PySem L2 PySem.Spec PyProof.Rows PySem.Froz
/-! set(a list of texts) -/
section
variable {P : Program} {w : World} {A : Around} {E : Value → Shared → Prop} {s : Shared}
theorem tx_put {a : Addr} {l : List Str} {k : Str} {u : Tok} {Q : Bool → Shared → Prop} (R : TxAt P w s.heap a l) (room : l.length + 1 < scanBound)
    (hQ : ∀ (b : Bool) (h' : Heap), Heap.SameBut a s.heap h' → TxAt P w h' a (put l k) → Q b { s with heap := h', toks := s.toks + 1 }) :
    wpAny (model P w) A (setAdd a (.str k u)) Q E s := by
  obtain ⟨D, ho, G⟩ := R
  unfold setAdd
  refine wpAny_holding (wpAny_bind ((strKind P w).pyHash (is_str k u) ?_))
  by_cases hk : k ∈ l
  · exact add_old (s := { s with toks := s.toks + 1 }) ho G.tx hk (by omega) (hQ _ s.heap (Heap.SameBut.refl a s.heap) ⟨D, ho, by unfold put; rw [if_pos hk]; exact G⟩)
  · exact add_x (s := { s with toks := s.toks + 1 }) ho G.tx hk room (hQ _ _ (Heap.SameBut.update s.heap a (fun _ => sObj "set" (addTx (hashStr w k) (.str k u) D))) ⟨_, get_upd _ ho rfl, by unfold put; rw [if_neg hk]; exact G.add u hk⟩)
theorem strsAre_get : ∀ {vs : List Value} {ts : List Str} {i : Nat} {v : Value}, StrsAre vs ts → vs[i]? = some v → ∃ x t, ts[i]? = some x ∧ v = Value.str x t
  | _, _, _, _, .nil, h => by simp at h
  | _, _, 0, _, .cons x t _, h => ⟨x, t, rfl, by simp at h; exact h.symm⟩
  | _, _, i + 1, _, .cons _ _ r, h => by
    obtain ⟨x, t, e1, e2⟩ := strsAre_get (i := i) r (by simpa using h)
    exact ⟨x, t, by simpa using e1, e2⟩
theorem TxAt.at {h h' : Heap} {a : Addr} {l : List Str} (R : TxAt P w h a l) (e : ∀ o, h.get? a = some o → h'.get? a = some o) : TxAt P w h' a l := let ⟨D, ho, G⟩ := R; ⟨D, e _ ho, G⟩
theorem up_loop {R : Result → Shared → Prop} {It : Addr} {fp wr : List Addr} {G : Array GenState → Array GenState → Prop} {n : Nat} {Pp : Nat → Value → Prop} {St : Nat → Shared → Prop} (W : WalksS P w A.in1 It fp wr G n Pp St) {S : Addr} (hS : S ∉ fp) {ts : List Str}
    (hv : ∀ i v, Pp i v → ∃ x t, ts[i]? = some x ∧ v = Value.str x t) (hl : ts.length = n) (hn : n + 1 < scanBound) :
    ∀ (k i : Nat) (s : Shared) (l : List Str), i + k = n → St i s → TxAt P w s.heap S l → l.length ≤ i → l.Nodup → (∀ x, x ∈ l ↔ x ∈ ts.take i) →
      (∀ s' l', Moved (S :: wr) G s s' → TxAt P w s'.heap S l' → l'.length ≤ n → l'.Nodup → (∀ x, x ∈ l' ↔ x ∈ ts) → R (.ok (.ret .none)) s') →
      codeAny (model P w) A (.builtin "set.update.loop" ⟨[.ref S, .ref It], []⟩) R s := by
  have off : S ∉ wr := fun z => hS (W.sub _ z)
  have more : ∀ {a b : Shared}, Moved wr G a b → Moved (S :: wr) G a b := fun m => m.mono fun _ z => List.mem_cons_of_mem _ z
  intro k
  induction k with
  | zero =>
    intro i s l hi st T le nd mem fin
    obtain rfl : i = n := hi
    refine codeAny_builtin PyProof.Rows.F.entry_set_update_loop ?_
    rw [Around.under_plainId PyProof.Rows.F.plain_set_update_loop _]
    show wpAny (model P w) A.in1 (pyNext (.ref It) >>= fun r => _) _ _ s
    refine wpAny_bind (W.done s _ _ st fun s1 m => ?_)
    have e : ts.take i = ts := List.take_of_length_le (by omega)
    rw [e] at mem
    exact wpAny_pure (fin s1 l (more m) (T.at fun o z => m.heap S o off z) le nd mem)
  | succ k ih =>
    intro i s l hi st T le nd mem fin
    have lt : i < n := by omega
    refine codeAny_builtin PyProof.Rows.F.entry_set_update_loop ?_
    rw [Around.under_plainId PyProof.Rows.F.plain_set_update_loop _]
    show wpAny (model P w) A.in1 (pyNext (.ref It) >>= fun r => _) _ _ s
    refine wpAny_bind (W.item i s _ _ lt st fun v s1 pv st1 m => ?_)
    obtain ⟨x, t, hx, rfl⟩ := hv i v pv
    have T1 := T.at fun o z => m.heap S o off z
    show wpAny (model P w) A.in1 (holding [Value.str x t] (setAdd S (.str x t)) >>= fun r => _) _ _ s1
    refine wpAny_bind (wpAny_holding (tx_put T1 (by omega) fun b h' sb T2 => ?_))
    refine wpAny_pure ⟨plainId_quiet PyProof.Rows.F.plain_set_update_loop _, ih (i + 1) _ (put l x) (by omega) (W.frame _ s1 _ _ st1 (Nat.le_succ _) fun c hc o z => (sb.2 c fun y => hS (y ▸ hc)).trans z) T2 (Nat.le_trans put_len (Nat.succ_le_succ le)) (put_nodup nd) (fun y => ?_) fun s2 l' m2 T3 le3 nd3 mem3 => ?_⟩
    · rw [mem_put, mem y, List.take_add_one, hx]
      show _ ↔ y ∈ ts.take i ++ [x]
      rw [List.mem_append, List.mem_singleton]
    · exact fin s2 l' (Moved.trans W.gtrans ((more m).then_heap (Nat.le_succ _) fun c o nc z => (sb.2 c fun y => nc (y ▸ List.mem_cons_self)).trans z) m2) T3 le3 nd3 mem3
theorem call_setTx {a : Addr} {items : Array Value} {ts : List Str} {Q : Value → Shared → Prop} (hh : A.handled = none) (hl : s.heap.IsList a items) (hi : StrsAre items.toList ts) (hn : ts.length + 1 < scanBound)
    (h : ∀ (h' : Heap) (tk : Nat) (l : List Str), TxAt P w h' s.heap.objs.size l → l.Nodup → l.length ≤ ts.length → (∀ x, x ∈ l ↔ x ∈ ts) → (∀ b o, s.heap.get? b = some o → h'.get? b = some o) → Q (.ref s.heap.objs.size) { s with heap := h', toks := tk }) :
    wpAny (model P w) A (call (.type "set") [.ref a]) Q E s := by
  have hz : items.size = ts.length := by
    have e := StrsAre.len_eq hi
    rw [Array.length_toList] at e
    exact e
  obtain ⟨_, _, mro⟩ := PySem.F.called_set.mro
  have made := PySem.F.called_set.made
  have self := PySem.F.called_set.sub
  refine wpAny_call (codeAny_of_tree (show wpAny _ _ (callAny (.type "set") _) _ _ _ from wpAny_pure ⟨Code.quiet_builtin _ (by decide +kernel), codeAny_builtin PySem.F.entry_type_call ?_⟩))
  rw [Around.under_plain (weight_type_call_type "set" [.ref a] []) rfl]
  have noT := PySem.F.called_set.notType
  have can := PySem.F.called_set.canCreate
  have chk := PySem.F.typeCall_set_1 (.ref a)
  repeat' (first | assumption | wp_step)
  refine codeAny_mono (code_set_led1 (P := P) (w := w) (.ref a) (E := E) (Q₁ := fun obj s1 => obj = .ref s.heap.objs.size ∧ s1 = { s with heap := s.heap.push { cls := .type "set", dict := none, data := .set #[] 0 (.fresh 0 0 (!w.params.followText "set-order")) } }) ⟨rfl, rfl⟩) fun r s1 h1 => ?_
  rcases r with e | fl
  · exact h1
  cases fl with
  | next => exact h1.elim
  | brk => exact h1.elim
  | cont => exact h1.elim
  | ret obj =>
  obtain ⟨rfl, rfl⟩ := h1
  obtain ⟨ol, hol, hcl, nl, hdl⟩ := hl
  have hS : (s.heap.push { cls := .type "set", dict := none, data := .set #[] 0 (.fresh 0 0 (!w.params.followText "set-order")) }).get? s.heap.objs.size = some { cls := .type "set", dict := none, data := .set #[] 0 (.fresh 0 0 (!w.params.followText "set-order")) } := Heap.get?_push_size _ rfl
  have hlt : a < s.heap.objs.size := Heap.lt_size hol
  generalize hH : s.heap.push { cls := .type "set", dict := none, data := .set #[] 0 (.fresh 0 0 (!w.params.followText "set-order")) } = hp at hS ⊢
  have hsz : hp.objs.size = s.heap.objs.size + 1 := by rw [← hH]; exact Heap.size_push ..
  have keep : ∀ b o, s.heap.get? b = some o → hp.get? b = some o := fun b o e => by rw [← hH]; exact Heap.get?_push_of_some _ e
  have T0 : TxAt P w hp s.heap.objs.size [] := by rw [← hH]; exact txAt_new
  have hol1 := keep a ol hol
  have hl1 : hp.IsList a items := ⟨ol, hol1, hcl, nl, hdl⟩
  have f4 : Shared.TypeIs { s with heap := hp } (.ref s.heap.objs.size) "set" := ⟨_, hS, rfl⟩
  have look := PySem.F.called_set.init.lookup
  have bnd := PySem.F.called_set.init.bind (.ref s.heap.objs.size)
  repeat' (first | assumption | wp_step)
  refine codeAny_mono (codeAny_call_builtin (R := wants (fun r s2 => r = .none ∧ ∃ h' tk l, s2 = { s with heap := h', toks := tk } ∧ TxAt P w h' s.heap.objs.size l ∧ l.Nodup ∧ l.length ≤ ts.length ∧ (∀ x, x ∈ l ↔ x ∈ ts) ∧
    ∀ b o, s.heap.get? b = some o → h'.get? b = some o) E) PySem.F.called_set.init.plain PySem.F.entry_set_init (check_set_init_1 f4 ?_)) fun r2 s2 h2 => ?_
  · obtain ⟨ocls, odict, odata, oslots⟩ := ol
    dsimp only at hcl hdl
    subst hcl hdl
    have f1 := PySem.F.sub_list_set
    have f2 := PySem.F.sub_list_frozenset
    have f3 : (Value.type "list" == Value.type "dict") = false := by decide
    unfold Builtin.«set.__init__»
    unfold noKeywords Builtin.Frozenset.updateFrom
    generalize hI : pyIter = It
    wp_walk
    subst hI
    refine wpAny_pyIter_list hl1 ?_
    refine wpAny_bind (wpAny_runValue ?_)
    have ne1 : a ≠ hp.objs.size := Nat.ne_of_lt (Nat.lt_of_lt_of_eq (Nat.lt_succ_of_lt hlt) hsz.symm)
    have off : s.heap.objs.size ∉ [hp.objs.size, a] := by
      rw [List.mem_cons, List.mem_singleton]
      exact fun z => z.elim (Nat.ne_of_lt (Nat.lt_of_lt_of_eq (Nat.lt_succ_self _) hsz.symm)) (Nat.ne_of_gt hlt)
    have hv : ∀ (i : Nat) (v : Value), items[i]? = some v → ∃ x t, ts[i]? = some x ∧ v = Value.str x t := fun i v e => by
      exact strsAre_get hi (by rw [Array.getElem?_toList]; exact e)
    refine up_loop ((Walks.list (by simp [hh]) _ a ne1 items).toS) off (ts := ts) hv hz.symm (by omega) items.size 0 _ [] (Nat.zero_add _) ⟨⟨_, Heap.get?_push_size _ rfl, rfl, rfl⟩, hl1.push _⟩
      (T0.at fun o e => Heap.get?_push_of_some _ e) (Nat.le_refl _) List.nodup_nil (fun x => by simp) fun s3 l m T le nd mem => ?_
    refine wpAny_pure ?_
    show wpAny _ _ (ret Value.none) _ _ _
    obtain ⟨h3, g3, d3, t3, o3⟩ := s3
    obtain rfl : g3 = s.gens := m.gens
    obtain rfl : d3 = s.drawn := m.drawn
    obtain rfl : o3 = s.os := m.os
    refine wpAny_pure ⟨rfl, h3, t3, l, rfl, T, nd, by omega, mem, fun b o e => ?_⟩
    have lt := Heap.lt_size e
    refine m.heap b o ?_ (Heap.get?_push_of_some _ (keep b o e))
    rw [List.mem_cons, List.mem_singleton]
    exact fun z => z.elim (Nat.ne_of_lt lt) (Nat.ne_of_lt (Nat.lt_of_lt_of_eq (Nat.lt_succ_of_lt lt) hsz.symm))
  · rcases r2 with e | fl
    · exact h2
    cases fl with
    | next => exact h2.elim
    | brk => exact h2.elim
    | cont => exact h2.elim
    | ret r =>
    obtain ⟨rfl, h', tk, l, rfl, T, nd, le, mem, kp⟩ := h2
    repeat' (first | assumption | wp_step)
    exact h h' tk l T nd le mem kp
end
section
variable {P : Program} {w : World} {A : Around} {E : Value → Shared → Prop} {s : Shared}
theorem call_setTt {a : Addr} {items : Array Value} {ts : List Str} {Q : Value → Shared → Prop} (hh : A.handled = none) (hl : s.heap.IsTuple a items) (hi : StrsAre items.toList ts) (hn : ts.length + 1 < scanBound)
    (h : ∀ (h' : Heap) (tk : Nat) (l : List Str), TxAt P w h' s.heap.objs.size l → l.Nodup → l.length ≤ ts.length → (∀ x, x ∈ l ↔ x ∈ ts) → (∀ b o, s.heap.get? b = some o → h'.get? b = some o) → Q (.ref s.heap.objs.size) { s with heap := h', toks := tk }) :
    wpAny (model P w) A (call (.type "set") [.ref a]) Q E s := by
  have hz : items.size = ts.length := by
    have e := StrsAre.len_eq hi
    rw [Array.length_toList] at e
    exact e
  obtain ⟨_, _, mro⟩ := PySem.F.called_set.mro
  have made := PySem.F.called_set.made
  have self := PySem.F.called_set.sub
  refine wpAny_call (codeAny_of_tree (show wpAny _ _ (callAny (.type "set") _) _ _ _ from wpAny_pure ⟨Code.quiet_builtin _ (by decide +kernel), codeAny_builtin PySem.F.entry_type_call ?_⟩))
  rw [Around.under_plain (weight_type_call_type "set" [.ref a] []) rfl]
  have noT := PySem.F.called_set.notType
  have can := PySem.F.called_set.canCreate
  have chk := PySem.F.typeCall_set_1 (.ref a)
  repeat' (first | assumption | wp_step)
  refine codeAny_mono (code_set_led1 (P := P) (w := w) (.ref a) (E := E) (Q₁ := fun obj s1 => obj = .ref s.heap.objs.size ∧ s1 = { s with heap := s.heap.push { cls := .type "set", dict := none, data := .set #[] 0 (.fresh 0 0 (!w.params.followText "set-order")) } }) ⟨rfl, rfl⟩) fun r s1 h1 => ?_
  rcases r with e | fl
  · exact h1
  cases fl with
  | next => exact h1.elim
  | brk => exact h1.elim
  | cont => exact h1.elim
  | ret obj =>
  obtain ⟨rfl, rfl⟩ := h1
  obtain ⟨ol, hol, hcl, nl, hdl⟩ := hl
  have hS : (s.heap.push { cls := .type "set", dict := none, data := .set #[] 0 (.fresh 0 0 (!w.params.followText "set-order")) }).get? s.heap.objs.size = some { cls := .type "set", dict := none, data := .set #[] 0 (.fresh 0 0 (!w.params.followText "set-order")) } := Heap.get?_push_size _ rfl
  have hlt : a < s.heap.objs.size := Heap.lt_size hol
  generalize hH : s.heap.push { cls := .type "set", dict := none, data := .set #[] 0 (.fresh 0 0 (!w.params.followText "set-order")) } = hp at hS ⊢
  have hsz : hp.objs.size = s.heap.objs.size + 1 := by rw [← hH]; exact Heap.size_push ..
  have keep : ∀ b o, s.heap.get? b = some o → hp.get? b = some o := fun b o e => by rw [← hH]; exact Heap.get?_push_of_some _ e
  have T0 : TxAt P w hp s.heap.objs.size [] := by rw [← hH]; exact txAt_new
  have hol1 := keep a ol hol
  have hl1 : hp.IsTuple a items := ⟨ol, hol1, hcl, nl, hdl⟩
  have f4 : Shared.TypeIs { s with heap := hp } (.ref s.heap.objs.size) "set" := ⟨_, hS, rfl⟩
  have look := PySem.F.called_set.init.lookup
  have bnd := PySem.F.called_set.init.bind (.ref s.heap.objs.size)
  repeat' (first | assumption | wp_step)
  refine codeAny_mono (codeAny_call_builtin (R := wants (fun r s2 => r = .none ∧ ∃ h' tk l, s2 = { s with heap := h', toks := tk } ∧ TxAt P w h' s.heap.objs.size l ∧ l.Nodup ∧ l.length ≤ ts.length ∧ (∀ x, x ∈ l ↔ x ∈ ts) ∧
    ∀ b o, s.heap.get? b = some o → h'.get? b = some o) E) PySem.F.called_set.init.plain PySem.F.entry_set_init (check_set_init_1 f4 ?_)) fun r2 s2 h2 => ?_
  · obtain ⟨ocls, odict, odata, oslots⟩ := ol
    dsimp only at hcl hdl
    subst hcl hdl
    have f1 := PySem.F.sub_tuple_set
    have f2 := PySem.F.sub_tuple_frozenset
    have f3 : (Value.type "tuple" == Value.type "dict") = false := by decide
    unfold Builtin.«set.__init__»
    unfold noKeywords Builtin.Frozenset.updateFrom
    generalize hI : pyIter = It
    wp_walk
    subst hI
    refine wpAny_pyIter_tuple hl1 ?_
    refine wpAny_bind (wpAny_runValue ?_)
    have ne1 : a ≠ hp.objs.size := Nat.ne_of_lt (Nat.lt_of_lt_of_eq (Nat.lt_succ_of_lt hlt) hsz.symm)
    have off : s.heap.objs.size ∉ [hp.objs.size, a] := by
      rw [List.mem_cons, List.mem_singleton]
      exact fun z => z.elim (Nat.ne_of_lt (Nat.lt_of_lt_of_eq (Nat.lt_succ_self _) hsz.symm)) (Nat.ne_of_gt hlt)
    have hv : ∀ (i : Nat) (v : Value), items[i]? = some v → ∃ x t, ts[i]? = some x ∧ v = Value.str x t := fun i v e => by
      exact strsAre_get hi (by rw [Array.getElem?_toList]; exact e)
    refine up_loop ((Walks.tuple (by simp [hh]) _ a ne1 items).toS) off (ts := ts) hv hz.symm (by omega) items.size 0 _ [] (Nat.zero_add _) ⟨⟨_, Heap.get?_push_size _ rfl, rfl, rfl⟩, hl1.push _⟩
      (T0.at fun o e => Heap.get?_push_of_some _ e) (Nat.le_refl _) List.nodup_nil (fun x => by simp) fun s3 l m T le nd mem => ?_
    refine wpAny_pure ?_
    show wpAny _ _ (ret Value.none) _ _ _
    obtain ⟨h3, g3, d3, t3, o3⟩ := s3
    obtain rfl : g3 = s.gens := m.gens
    obtain rfl : d3 = s.drawn := m.drawn
    obtain rfl : o3 = s.os := m.os
    refine wpAny_pure ⟨rfl, h3, t3, l, rfl, T, nd, by omega, mem, fun b o e => ?_⟩
    have lt := Heap.lt_size e
    refine m.heap b o ?_ (Heap.get?_push_of_some _ (keep b o e))
    rw [List.mem_cons, List.mem_singleton]
    exact fun z => z.elim (Nat.ne_of_lt lt) (Nat.ne_of_lt (Nat.lt_of_lt_of_eq (Nat.lt_succ_of_lt lt) hsz.symm))
  · rcases r2 with e | fl
    · exact h2
    cases fl with
    | next => exact h2.elim
    | brk => exact h2.elim
    | cont => exact h2.elim
    | ret r =>
    obtain ⟨rfl, h', tk, l, rfl, T, nd, le, mem, kp⟩ := h2
    repeat' (first | assumption | wp_step)
    exact h h' tk l T nd le mem kp
end
/-- set(xs), xs a list of texts -/
def rSetTx (K : PySem.W.Frag) (P : Program) (w : World) : List V → Hp → VK → Prop := fun vs H Q => ∃ (a : Addr) (ts : List Str), vs = [.ref a] ∧ SqL K H a (ts.map V.str) ∧ ts.length ≤ 60 ∧
  ∀ (p : Addr) (l : List Str), H p = none → l.Nodup → l.length ≤ ts.length → (∀ x, x ∈ l ↔ x ∈ ts) → Q (.ref p) (upd H p (SetX P w p l))
section
variable {X : Cx}
theorem strsAre_of : ∀ {ts : List Str} {us : List Value}, Vals (ts.map V.str) us → StrsAre us ts
  | [], _, .nil => .nil
  | t :: ts, _, .cons h r => by
    obtain ⟨k, e⟩ := h
    subst e
    exact .cons t k (strsAre_of r)
theorem cr_setTx (hc : X.calm = true) : CallR X (.type "set") (rSetTx X.K X.prog X.w) := by
  intro pins s σ H xs us Q I r h
  obtain ⟨a, ts, rfl, ha, hn, q⟩ := h
  rw [Vals.ref1 r]
  obtain ⟨its, rv, pl, _⟩ := I.list ha
  have lim : scanBound > 64 := by decide
  refine call_setTx (P := X.prog) (w := X.w) (I.ok.hd hc) pl.isList (strsAre_of rv) (by omega) fun h' tk l T nd le mem kp => ?_
  exact ⟨.ref s.heap.objs.size, _, I.laid (t' := tk) (o := SetX X.prog X.w s.heap.objs.size l) kp (Nat.le_refl _) (setX_new T), rfl, q _ l (I.hok.fresh (Nat.le_refl _)) nd le mem⟩
end
end Kx
namespace Kx
open PySem L2 PySem.Spec PyProof.Rows

/-! the classes of errors: what the walk asks of each -/
abbrev veL : List Value := [.type "ValueError", .type "Exception", .type "BaseException", .type "object"]
theorem ve_ok (B : Addr) : PySem.HandSPX.refsVE (.ref B :: veL) = true := by
  show PySem.HandSPX.refsVE veL = true
  decide +kernel
structure Ct (K : PySem.W.Frag) (B C : Addr) : Prop where
  cls : ∃ nm q N bs sn sub ab col dd k0 k1 k2 k3 k5, K.lookup C = some (excClassObj nm q C N bs (.ref B :: veL) true sn sub ab col dd k0 k1 k2 k3 k5 "ValueError.__new__")
  sa : PySem.W.findIn K (.ref C) "__setattr__" = some (some (.builtin "object.__setattr__"))
  ga : PySem.W.findIn K (.ref C) "__getattribute__" = some (some (.builtin "BaseException.__getattribute__"))
  gg : PySem.W.findIn K (.ref C) "__getattr__" = some none
  tyC : PySem.W.typeIn K (.ref C) = some (.type "type")
  kC : PySem.W.keepIn K (.ref C) = true
  hdC : PySem.W.hasDictIn K C = true
  ha : PySem.W.findIn K (.ref C) "__class__" = some (some (.builtin "object.__class__"))
structure Gt (K : PySem.W.Frag) (B : Addr) : Prop where
  hn : PySem.W.specialIn K (.builtin "object.__class__") "__get__" = some (some (.builtin "getset_descriptor.__get__"))
  ht : PySem.W.takesIn K (.builtin "object.__class__") = some true
  isB : (PySem.W.clsIn K B).isSome = true
  tyB : PySem.W.typeIn K (.ref B) = some (.type "type")
  bsB : PySem.W.subIn K (.ref B) (.type "BaseException") = some true
  hdB : PySem.W.hasDictIn K B = true
section
variable {K : PySem.W.Frag} {B C D : Addr}
theorem Ct.cd (T : Ct K B C) : ∃ cd, PySem.W.clsIn K C = some cd ∧ cd.mro = .ref C :: .ref B :: veL := by
  obtain ⟨nm, q, N, bs, sn, sub, ab, col, dd, k0, k1, k2, k3, k5, h⟩ := T.cls
  exact ⟨_, by unfold PySem.W.clsIn; rw [h] <;> rfl, rfl⟩
theorem Ct.mro (T : Ct K B C) (v : Value) : PySem.W.mroIn K C v = some ((.ref C :: .ref B :: veL : List Value).contains v) := by
  obtain ⟨cd, h, e⟩ := T.cd
  unfold PySem.W.mroIn
  rw [h, Option.bind_some, e] <;> rfl
theorem Ct.base (T : Ct K B C) : PySem.W.subIn K (.ref C) (.type "BaseException") = some true := by
  show PySem.W.mroIn K C _ = _
  rw [T.mro]
  rfl
theorem Ct.isC (T : Ct K B C) : (PySem.W.clsIn K C).isSome = true := by
  obtain ⟨cd, h, _⟩ := T.cd
  rw [h]; rfl
theorem Ct.oex (T : Ct K B C) : OexC K C := by
  obtain ⟨nm, q, N, bs, sn, sub, ab, col, dd, k0, k1, k2, k3, k5, h⟩ := T.cls
  exact ⟨⟨nm, q, N, bs, _, sn, sub, ab, col, dd, k0, k1, k2, k3, k5, h, ve_ok B⟩, T.sa, T.base, T.tyC, T.kC⟩
theorem Ct.xf (T : Ct K B C) : XfC K C := ⟨T.ga, T.gg, T.base, T.hdC⟩
theorem kit_ref (T : Ct K B C) {b : Bool} (hD : (PySem.W.clsIn K D).isSome = true) (tD : PySem.W.typeIn K (.ref D) = some (.type "type")) (hb : (.ref C :: .ref B :: veL : List Value).contains (.ref D) = b) : PySem.W.kitOne K (.ref C) (.ref D) = some b := by
  unfold PySem.W.kitOne
  by_cases h : ((Value.ref C == Value.ref D) = true)
  · rw [if_pos h]
    have e : Value.ref C = Value.ref D := beq_iff_eq.mp h
    rw [← hb, ← e]
    simp
  · rw [if_neg h]
    show (if ((PySem.W.clsIn K D).isSome && PySem.W.typeIn K (.ref D) == some (.type "type")) = true then PySem.W.subIn K (.ref C) (.ref D) else none) = _
    rw [hD, tD, if_pos (by rfl)]
    show PySem.W.mroIn K C _ = _
    rw [T.mro, hb]
theorem kit_yes (T : Ct K B C) : PySem.W.kitOne K (.ref C) (.ref C) = some true := kit_ref T T.isC T.tyC (by simp)
theorem kit_no (T : Ct K B C) (S : Ct K B D) (h1 : D ≠ C) (h2 : D ≠ B) : PySem.W.kitOne K (.ref C) (.ref D) = some false := kit_ref T S.isC S.tyC (by simp [h1, h2])
theorem kit_b (T : Ct K B C) (G : Gt K B) : PySem.W.kitOne K (.ref C) (.ref B) = some true := kit_ref T G.isB G.tyB (by simp)
theorem kit_ve (T : Ct K B C) : PySem.W.kitOne K (.ref C) (.type "ValueError") = some true := by
  unfold PySem.W.kitOne
  rw [if_neg (by simp)]
  show (if PySem.W.kitMeta "ValueError" = true then PySem.W.subIn K (.ref C) (.type "ValueError") else none) = _
  rw [if_pos (by decide +kernel)]
  show PySem.W.mroIn K C _ = _
  rw [T.mro]
  rfl
end

/-! an error of a class as it stands: with its fields, or without any -/
def HasF (H : Hp) (a C : Addr) (fs : List (Str × V)) : Prop := ∃ d, d ≠ a ∧ H a = some (exo a C (some d)) ∧ H d = some (exd d fs)
def Bare (H : Hp) (a C : Addr) : Prop := H a = some (ExO (.ref C) a)
def ErrAt (H : Hp) (a C : Addr) : Prop := (∃ fs, HasF H a C fs) ∨ Bare H a C

section
variable {X : Cx} {pins : List (Addr × Obj)} {σ : L2.St} {H : Hp} {s : Shared} {a B C : Addr}
theorem err_inst (I : Inv X pins σ H s) (h : ErrAt H a C) : ∃ ox od, PySem.W.InstAt s.heap a ox C od := by
  rcases h with ⟨fs, d, _, h1, h2⟩ | h
  · obtain ⟨t1, e1⟩ := exo_at I.hok h1
    obtain ⟨mA, hn, _⟩ := exd_at I.hok h2
    obtain ⟨od, e2, _⟩ := lookIn_ns hn
    exact ⟨_, some od, ⟨e1, rfl, rfl, e2⟩⟩
  · obtain ⟨⟨oe, vs, e1, hz, hd, _⟩, _, _⟩ := I.hok a _ h
    obtain ⟨oc, odd, oda, osl⟩ := oe
    obtain ⟨z1, z2⟩ := hz
    dsimp only at z1 z2 hd
    subst z1 z2 hd
    exact ⟨_, none, ⟨e1, rfl, rfl, trivial⟩⟩
/-- isinstance(e, c), e an error that stands -/
def rIsErr (K : PySem.W.Frag) (B : Addr) : List V → Hp → VK → Prop := fun xs H Q => ∃ (a C : Addr) (c : V) (u : Value) (b : Bool), xs = [.ref a, c] ∧ ErrAt H a C ∧ Ct K B C ∧ ClsV c u ∧ PySem.W.kitOne K (.ref C) u = some b ∧ Q (.bl b) H
theorem call_isErr (G : Gt X.K B) : CallR X (.builtin "isinstance") (rIsErr X.K B) := by
  intro pins s σ H xs us Q I r h
  obtain ⟨a, C, c, u, b, rfl, he, T, k, e, q⟩ := h
  obtain ⟨u1, u2, rfl, r1, r2⟩ := vals2 r
  have z1 : u1 = Value.ref a := r1
  subst z1
  have e2 := k.eq r2
  subst e2
  obtain ⟨ox, od, J⟩ := err_inst I he
  exact PySem.W.kia_one (PySem.W.kitx_exc T.isC T.ga T.gg T.base T.ha G.hn G.ht (by rw [T.mro]; rfl)) I.kIn J e (fun z => nomatch z) fun tk => ⟨.bl b, H, I.tok tk, rfl, q⟩
/-- e.f, e an error that stands -/
theorem pe_errF {e : Expr} {te : TE} {pos : Pos} {n : Str} (he : PE X e te) (hb : attributeBase e n X.env (eval e X.env) = eval e X.env := by rfl) :
    PE X (.Attribute e n pos) (fun σ H Q => te σ H fun x H1 => ∃ (a B C : Addr) (fs : List (Str × V)) (v : V), x = .ref a ∧ Ct X.K B C ∧ PySem.W.findIn X.K (.ref C) n = some none ∧ HasF H1 a C fs ∧ fs.lookup n = some v ∧ Q v H1) := by
  refine ⟨fun pins s σ H Q I h => ?_⟩
  refine attr_of hb (thn (he.run pins s σ H _ I h) fun u s1 hh => ?_)
  obtain ⟨x, H1, I1, rx, a, B, C, fs, v, ex, T, hno, ⟨d, _, h1, h2⟩, l, q⟩ := hh
  subst ex
  obtain rfl : u = Value.ref a := rx
  obtain ⟨t1, e1⟩ := exo_at I1.hok h1
  obtain ⟨mA, hns, hr⟩ := exd_at I1.hok h2
  obtain ⟨od, ho, hl⟩ := lookIn_ns hns
  obtain ⟨u, hu, ru⟩ := RelO.some_of (v := v) (o := mA n) (by rw [← l]; exact hr n)
  have J : PySem.W.InstAt s1.heap a _ C (some od) := ⟨e1, rfl, rfl, ho⟩
  exact HandSPX.exc_get I1.kIn J T.ga T.gg T.base (PySem.W.findObj_own T.hdC hno rfl (by rw [hl, hu])) (handed_of ru) ⟨v, H1, I1.tok _, ru, q⟩
end

/-! how an error is made: its __init__ stores each argument under its own name -/
def spI (K : PySem.W.Frag) (ns : List Str) : Sp := fun vs H Q _ => ∃ (a B C : Addr) (ws : List V), vs = .ref a :: ws ∧ ws.length = ns.length ∧ Ct K B C ∧ (∀ f ∈ ns, PySem.W.findIn K (.ref C) f = some none) ∧ H a = some (exo a C none) ∧
  ∀ dx H', H dx = none → dx ≠ a → H' a = some (exo a C (some dx)) → H' dx = some (exd dx (ns.zip ws).reverse) → (∀ b, b ≠ a → b ≠ dx → H' b = H b) → Q .non H'
section
variable {X : Cx} {e : Expr} {es : List Expr} {ta : TA} {p pos : Pos}
/-- C(e, ..) as a value: a new error with its fields -/
theorem pe_err {CX : CXT} {x : Str} {B C fI : Addr} {k : Nat} {fd : FuncData} {ps : List Str} {ns : List Str} (T : Ct X.K B C) (hno : ∀ f ∈ ns, PySem.W.findIn X.K (.ref C) f = some none) (iC : PySem.W.findIn X.K (.ref C) "__init__" = some (some (.ref fI))) (tI : PySem.W.typeIn X.K (.ref fI) = some (.type "function"))
    (F1 : FnOk X.prog X.w X.K X.mg X.base CX k fI fd ps (spI X.K ns)) (hr : Room (k + 1) X.A) (hb : Binds X.K fd ps []) (hx : Passes CX X (fun _ _ _ => False)) (hm : X.mg x = some (.ref C)) (ha : PA X (e :: es) ta) (hg : Gl X x := by rfl)
    (hdb : (x == ("__debug__" : Str)) = false := by decide) (he : starEach (e :: es) X.env = (false, eval e X.env) :: starEach es X.env := by rfl) (hpl : (backTo pos (starEach es X.env)).any (·.1) = false := by rfl) :
    PE X (.Call (.Name x p) (e :: es) [] pos) (fun σ H Q => ta σ H fun vs H1 => vs.length = ns.length ∧ ns.length ≤ 100 ∧ ∀ a H2, H1 a = none → HasF H2 a C (ns.zip vs).reverse → Same H1 H2 → Q (.ref a) H2) := by
  refine ⟨fun pins s σ H Q I h => ?_⟩
  obtain ⟨nm, q, N, bs, sn, sub, ab, col, dd, k0, k1, k2, k3, k5, hC⟩ := T.cls
  refine wpAny_Call_Name_kw (ld_glob I hg hm ?_ hdb)
  refine PySem.W.callWith_K (h₀ := X.base) I.ok.mod.kin T.kC (thn (ha.run pos pins s σ H _ I h) fun us s1 ⟨vs, H1, I1, r1, hz, hz2, q1⟩ => ⟨I1.kIn, ?_⟩) he hpl
  show wpAny _ _ (call (.ref C) us) _ _ _
  obtain ⟨hp, g, dr, tk, os⟩ := s1
  have hsz : hp.objs.size ≤ hp.objs.size + 1 := Nat.le_succ _
  have hn : H1 (hp.objs.size + 1) = none := I1.hok.fresh hsz
  have kk : ∀ b o, hp.get? b = some o → ((hp.push (PySem.W.kdv_tup us)).push (PySem.HandSPX.excO C hp.objs.size)).get? b = some o := fun b o z => Heap.get?_push_of_some _ (Heap.get?_push_of_some _ z)
  have hget : ((hp.push (PySem.W.kdv_tup us)).push (PySem.HandSPX.excO C hp.objs.size)).get? (hp.objs.size + 1) = some (PySem.HandSPX.excO C hp.objs.size) := by heap_get
  have I2 := I1.laid (t' := tk) (a := hp.objs.size + 1) (o := exo (hp.objs.size + 1) C none) (h' := (hp.push (PySem.W.kdv_tup us)).push (PySem.HandSPX.excO C hp.objs.size)) kk hsz (exo_ok hget)
  have r2 : Vals (V.ref (hp.objs.size + 1) :: vs) (Value.ref (hp.objs.size + 1) :: us) := .cons rfl r1
  have hq : spI X.K ns (V.ref (hp.objs.size + 1) :: vs) (upd H1 (hp.objs.size + 1) (exo (hp.objs.size + 1) C none)) (fun v H2 => v = .non ∧ Q (.ref (hp.objs.size + 1)) H2) (fun _ _ _ => False) := by
    refine ⟨_, B, C, vs, rfl, hz, T, hno, upd_same, fun dx H' n1 n2 e1 e2 e3 => ⟨rfl, q1 _ H' hn ⟨dx, n2, e1, e2⟩ fun b o z => ?_⟩⟩
    have nb : b ≠ hp.objs.size + 1 := ne_of_none z hn
    have n3 : H1 dx = none := by rw [← upd_ne (H := H1) (o := exo (hp.objs.size + 1) C none) n2]; exact n1
    rw [e3 b nb (ne_of_none z n3), upd_ne nb]
    exact z
  have hl : (Value.ref (hp.objs.size + 1) :: us).length = ps.length := by
    have z := r2.length
    rw [F1.len _ _ _ _ hq] at z
    exact z.symm
  have hus : us.length ≤ sizeLine := by
    rw [← Paired.length r1, sizeLine_eq]
    omega
  have hbs := hb ⟨(hp.push (PySem.W.kdv_tup us)).push (PySem.HandSPX.excO C hp.objs.size), g, dr, tk, os⟩ (Value.ref (hp.objs.size + 1) :: us) I2.kIn (by rw [List.append_nil]; exact hl)
  rw [List.append_nil] at hbs
  refine wpAny_call (PySem.HandSPX.call_own F.excBase_ValueError (fun Y => PySem.HandSPX.refsVE_contains Y _ (ve_ok B)) (I1.kIn _ _ hC) (PySem.W.looks_findIn I1.kIn iC) (fun self => PySem.W.bind_fn I1.kIn self tI) hus
    (codeAny_mono (F1.run _ X.stack _ _ ⟨Value.ref (hp.objs.size + 1) :: us, []⟩ (Value.ref (hp.objs.size + 1) :: us) _ _ (fun _ _ _ => False) (hr.make C us []) (I2.env0.make C us []) hbs r2 hq) fun r s' hq' => ?_))
  cases r with
  | error er => exact hx pins σ _ _ er s' I2 hq'
  | ok fl =>
    cases fl with
    | ret u =>
      obtain ⟨v, H2, os2, bare2, un2, hok2, rv, ev, q2⟩ := hq'
      subst ev
      exact ⟨rv, .ref (hp.objs.size + 1), H2, I2.call' (ch := []) os2 un2 hok2 bare2 (fun b z => absurd z (by simp)), rfl, q2⟩
    | next => exact False.elim hq'
    | brk => exact False.elim hq'
    | cont => exact False.elim hq'
end
end Kx
namespace Kx
open PySem L2 PySem.Spec PyProof.Rows
open StX (fn_star cxUp_none bind_star1 pe_makeR tMakeR run_makeR star_any pa_star CXUp)
theorem takesN0 {X : Cx} : L2N.Takes X (fun _ _ _ _ => False) := fun _ _ x => by
  obtain ⟨_, _, _, _, _, _, _, _, _, _, _, _, _, _, _, _, z⟩ := x
  exact z.elim
section
variable {X : Cx} {e : Expr} {te : TE}
theorem pmkN_err {K : PySem.W.Frag} {H0 : Hp} (hK : X.K = K) (hH : X.H_0 = H0) (hx : X.ex = []) (he : PE X e te) : L2N.PMk X e (fun σ H Q => te σ H fun x H1 => ∃ a B C d : Addr, x = .ref a ∧ Ct K B C ∧ H1 a = some (exo a C (some d)) ∧ Fr0 H0 a ∧ Q (.ref C) (some d) (delH H1 a)) := by
  subst hK hH
  intro pins s σ H Q I h
  refine thn (he.run pins s σ H _ I h) fun u s1 ⟨v, H1, I1, r1, a, B, C, d, ev, T, ha, h0, q⟩ => ?_
  subst ev
  obtain rfl : u = Value.ref a := r1
  obtain ⟨t1, ho⟩ := exo_at I1.hok ha
  obtain ⟨G, gs, ga, J⟩ := I1.untrack (show H1 a = some (.ext _) from ha) h0 hx
  exact ⟨a, _, _, { s1 with heap := G }, delH H1 a, .ref C, some d, rfl, J, gs, ga, ho, ⟨rfl, rfl, fun vs z => by cases z; rfl⟩, rfl, rfl, delH_same, rfl, I1.bare, raises_own T.base T.tyC, q⟩
end
section
variable {P : Program} {w : World} {K : PySem.W.Frag} {mg : Str → Option Value} {base : Heap}
theorem sc_BadCond : FnScope ["self", "clause"] ["self", "clause"] (defScope (inClass (top 3) 0)) := ⟨rfl, rfl, rfl, by decide +kernel, rfl, by decide +kernel, by decide +kernel⟩
theorem ok_BadCond {f : Addr} {fd : FuncData} (F : Fun K "__init__" "BadCond.__init__" (inClass (top 3) 0) f fd) : FnOk P w K mg base CX0 1 f fd ["self", "clause"] (spI K ["clause"]) := by
  refine F.ok sc_BadCond (fun vs H Q E h => ?_) (fun cdv A outer s H vs Q E hr h => ?_)
  · obtain ⟨a, B, C, ws, rfl, hl, _⟩ := h
    show ws.length + 1 = 2
    rw [hl] <;> rfl
  · obtain ⟨a, B, C, ws, rfl, hl, T, hno, ha, k⟩ := h
    obtain ⟨v0, rfl⟩ : ∃ v0, ws = [v0] := match ws, hl with | [v0], _ => ⟨v0, rfl⟩
    refine ⟨_, pss_one (ps_ost (pv 0) (pv 1)), ?_⟩
    refine ⟨_, rfl, _, rfl, a, C, rfl, T.oex, hno _ (by simp), .inl ⟨ha, fun dx n1 n2 => ?_⟩⟩
    exact k dx _ n1 n2 upd_same (by rw [upd_ne n2, upd_same]; rfl) (fun b h1 h2 => by rw [upd_ne h1, upd_ne h2])
end
theorem del_keep {H H1 : Hp} {a : Addr} (s : Same H H1) (n : H a = none) : Same H (delH H1 a) := fun b o e => by
  rw [delH_ne (ne_of_none e n)]
  exact s b o e
theorem cxUpN {P : Program} {w : World} : CXUp (L2N.CX P w) := by
  rintro outer s H s2 H2 E e s' un kp ho ⟨a, B, H', cls, d, ea, fl, hok, ub, na, os, ag, he⟩
  refine ⟨a, B, H', cls, d, ea, fl, hok, ⟨fun b o q n hb => ub.keep b o (kp b o q) (un.free b o q n (by simp)) hb, fun b o q hb => ub.slot b o (kp b o q) hb, fun b o q n => ub.free b o (kp b o q) (un.free b o q n (by simp)), fun b o q hb => ub.there b o (kp b o q) hb,
    fun b xs q => ub.tups b xs (un.tups b xs q), fun b o xs q => ub.frzs b o xs (un.frzs b o xs q), fun b ps q => ?_⟩, na, os.trans ho, ag, he⟩
  obtain ⟨m1, z1⟩ := un.tbls b ps q
  obtain ⟨m2, z2⟩ := ub.tbls b _ z1
  exact ⟨m1 ++ m2, by rw [z2, Array.append_assoc]⟩
/-- what is told of a refusal: its class and where -/
def refusal (CB : Addr) (E : XK) : Hp → Int → Prop := fun H1 i => ∀ d H', Same H1 H' → H' d = some (exd d [("clause", .int i)]) → E (.ref CB) (some d) H'
def spInit (K : PySem.W.Frag) (C : Addr) (F : XK → Hp → Int → Prop) : Sp := fun vs H Q E => ∃ ws rest, vs = ws ++ rest ∧ ws.length = ([("self" : PySem.Str)] : List PySem.Str).length ∧ rest.length ≤ sizeLine ∧ ∀ p, H p = Option.none → spInitB K C (F E) (ws ++ [V.ref p]) (upd H p (.tup rest)) Q E
structure Bad (K : PySem.W.Frag) (mg : Str → Option Value) (B CB fB : Addr) (fdB : FuncData) : Prop where
  T : Ct K B CB
  no : ∀ x ∈ ([("clause" : PySem.Str)] : List PySem.Str), PySem.W.findIn K (.ref CB) x = some none
  iC : PySem.W.findIn K (.ref CB) "__init__" = some (some (.ref fB))
  tI : PySem.W.typeIn K (.ref fB) = some (.type "function")
  F : Fun K "__init__" "BadCond.__init__" (inClass (top 3) 0) fB fdB
  b : Binds K fdB ["self", "clause"] []
  gm : mg "BadCond" = some (.ref CB)
section
variable {P : Program} {w : World} {K : PySem.W.Frag} {mg : Str → Option Value} {base : Heap}
theorem fnR_init0 {f C : Addr} {fd : FuncData} (F : Fun K "__init__" "Cond.__init__" sInit f fd) (D : Cnd K mg C) : FnR P w K mg base CX0 6 f (spInit K C fun _ _ _ => False) := by
  obtain ⟨oc, od, kV, doc, pm, an, cdv, ct, osl, rfl, lk, hcd⟩ := F.ex
  refine fn_star (sp := fun vs H Q E => spInitB K C (fun _ _ => False) vs H Q E) lk hcd scI cxUp_none (bind_star1 (B := fun xs => bindArgs (PySem.W.fnOf "__init__" "Cond.__init__" (defArgs sInit) (defBody sInit) (defScope sInit) .none kV doc pm an cdv ct) ⟨xs, []⟩) (p1 := "self") (pv := "clauses") (fun a => by rfl) (fun a r rs => by rfl)) (fun A outer s H vs Q E hr h => ?_)
  exact body_init (f := f) (tR := tNever) D cdv A outer s H vs Q E _ hr ps_never (fun _ _ _ _ _ _ _ _ _ z => z) h
theorem fnR_init {f C B CB fB : Addr} {fd fdB : FuncData} (F : Fun K "__init__" "Cond.__init__" sInit f fd) (D : Cnd K mg C) (W : Bad K mg B CB fB fdB) : FnR P w K mg base (L2N.CX P w) 6 f (spInit K C (refusal CB)) := by
  obtain ⟨oc, od, kV, doc, pm, an, cdv, ct, osl, rfl, lk, hcd⟩ := F.ex
  refine fn_star (sp := fun vs H Q E => spInitB K C (refusal CB E) vs H Q E) lk hcd scI cxUpN (bind_star1 (B := fun xs => bindArgs (PySem.W.fnOf "__init__" "Cond.__init__" (defArgs sInit) (defBody sInit) (defScope sInit) .none kV doc pm an cdv ct) ⟨xs, []⟩) (p1 := "self") (pv := "clauses") (fun a => by rfl) (fun a r rs => by rfl)) (fun A outer s H vs Q E hr h => ?_)
  have tk : L2N.Takes (cxOf (L2N.CX P w) P w K mg base nI "Cond.__init__" (defScope sInit) f cdv A outer s H E) (fun cls d _ H => E cls d H) := L2N.takes_of rfl rfl rfl rfl
  refine body_init (f := f) D cdv A outer s H vs Q E _ hr (L2N.ps_raise rfl tk (by exact (pmkN_err (X := cxOf (L2N.CX P w) P w K mg base nI "Cond.__init__" (defScope sInit) f cdv A outer s H E) (K := K) (H0 := H) rfl rfl rfl
    (pe_err (ns := ["clause"]) (X := cxOf (L2N.CX P w) P w K mg base nI "Cond.__init__" (defScope sInit) f cdv A outer s H E) W.T W.no W.iC W.tI (ok_BadCond W.F) (hr.mono (by decide)) W.b pass0 W.gm (pa_cons (pv 2) pa_nil))))) (fun D' v0 v1 i v3 v4 v5 H1 s1 z => ?_) h
  refine ⟨_, rfl, rfl, (by show 1 ≤ 100; decide), fun e H2 n2 h2 s2 => ?_⟩
  obtain ⟨d, hne, h2a, h2d⟩ := h2
  exact ⟨e, B, CB, d, rfl, W.T, h2a, fr0_none (s1.free n2), z d _ (del_keep s2 n2) ((delH_ne hne).trans h2d)⟩
end
end Kx
namespace Kx
open PySem L2 PySem.Spec PyProof.Rows
open StX (fn_star cxUp_none bind_star1 pe_makeR tMakeR run_makeR star_any pa_star CXUp)
section
variable {X : Cx} {CX : CXT} {k : Nat} {f C : Addr} {sp : Sp} {E : XK} {x : Str} {e : Expr} {te : TE} {p pos sp_ : Pos}
/-- C(*y) -/
theorem pe_makeS (M : Mk X.K C f) (F : FnR X.prog X.w X.K X.mg X.base CX k f sp) (hr : Room (k + 1) X.A) (hg : Gl X x) (hm : X.mg x = some (.ref C)) (hx : Passes CX X E) (he : PE X e te) (hd : (x == ("__debug__" : Str)) = false := by decide)
    (hst : starEach [.Starred e sp_] X.env = [(true, eval e X.env)] := by rfl) :
    PE X (.Call (.Name x p) [.Starred e sp_] [] pos) (fun σ H Q => te σ H fun y H1 => ∃ a xs, y = V.ref a ∧ (SqT X.K H1 a xs ∨ SqL X.K H1 a xs) ∧ ∀ x dx, H1 x = none → H1 dx = none → dx ≠ x →
      sp (V.ref x :: xs) (upd (upd H1 dx (.own x)) x (.ins C dx [])) (fun v H2 => v = .non ∧ Q (.ref x) H2) E) := by
  refine ⟨fun pins s σ H Q I h => ?_⟩
  refine wpAny_Call_Name_kw (ld_glob I hg hm ?_ hd)
  refine PySem.W.callWith_S (h₀ := X.base) I.ok.mod.kin M.kp (thn (he.run pins s σ H _ I h) fun v s1 ⟨y, H1, I1, ry, a, xs, ey, hxs, q⟩ => ?_) hst
  subst ey
  obtain rfl : v = Value.ref a := ry
  exact star_any I1 hxs fun us s2 I2 rv => ⟨I2.kIn, run_makeR M F hr hx I2 rv q⟩
/-- C() -/
theorem pe_makeZ (M : Mk X.K C f) (F : FnR X.prog X.w X.K X.mg X.base CX k f sp) (hr : Room (k + 1) X.A) (hg : Gl X x) (hm : X.mg x = some (.ref C)) (hx : Passes CX X E) (hd : (x == ("__debug__" : Str)) = false := by decide) :
    PE X (.Call (.Name x p) [] [] pos) (tMakeR C sp E tNil) := by
  refine ⟨fun pins s σ H Q I h => ?_⟩
  refine wpAny_Call_Name_kw (ld_glob I hg hm ?_ hd)
  exact PySem.W.callWith_K0 I.kIn M.kp (run_makeR (us := []) (vs := []) M F hr hx I .nil h)
/-- one op other, both of the class C, by its own method -/
def rOwn (C : Addr) (sp : Sp) (E : XK) : R2 := fun x y H Q => ∃ (a b dx dy : Addr) (fs gs : List (Str × V)), x = .ref a ∧ y = .ref b ∧ H a = some (.ins C dx fs) ∧ H b = some (.ins C dy gs) ∧ sp [.ref a, .ref b] H Q E
theorem op_own {op : Operator} {fd : FuncData} {ps : List Str} (hc : PySem.W.selfFirst X.K C = true) (hs : PySem.W.findIn X.K (.ref C) (PySem.dunder op.info.2) = some (some (.ref f))) (hf : PySem.W.isFn X.K (.ref f) = true)
    (F : FnOk X.prog X.w X.K X.mg X.base CX k f fd ps sp) (hr : Room k X.A) (hb : Binds X.K fd ps []) (hx : Passes CX X E) : OpR X (binaryOp op) (rOwn C sp E) := by
  intro pins s σ H x y v u Q I rx ry h
  obtain ⟨a, b, dx, dy, fs, gs, rfl, rfl, ha, hb', q⟩ := h
  obtain rfl : v = Value.ref a := rx
  obtain rfl : u = Value.ref b := ry
  obtain ⟨m, fr⟩ := I.fr
  obtain ⟨_, O1, _⟩ := ins_get I.hok ha
  obtain ⟨o1, J1, _⟩ := O1.look
  obtain ⟨_, O2, _⟩ := ins_get I.hok hb'
  obtain ⟨o2, J2, _⟩ := O2.look
  refine PySem.W.binop_K fr I.ok.mod.kin J1 J2.type hc hs hf ?_
  refine thn (run_fn (us := [.ref a, .ref b]) (vs := [.ref a, .ref b]) F hr hb .nil hx I (.cons rfl (.cons rfl .nil)) q) fun z s' ⟨zv, H', I', rz, q'⟩ => ?_
  cases z <;> first | exact ⟨zv, H', I', rz, q'⟩ | (cases zv <;> first | (obtain ⟨_, z⟩ := rz; cases z) | cases rz)
end
end Kx
namespace Kx
open PySem L2 PySem.Spec PyProof.Rows
/-! clauses as data -/
def litD (l : Lit) : PyData := .tuple [.str l.1, .str l.2.1, .int l.2.2]
def clD (c : List Lit) : PyData := .tuple (c.map litD)
theorem dp_lit {K : PySem.W.Frag} {H : Hp} {x : V} {l : Lit} (h : IsLit K H x l) : Dp K H x (litD l) := by
  obtain ⟨a, rfl, q⟩ := h
  exact .tup q (.cons (.str _) (.cons (.str _) (.cons (.int _) .nil)))
theorem dp_all {K : PySem.W.Frag} {H : Hp} {α : Type} {R : V → α → Prop} {f : α → PyData} (hf : ∀ x y, R x y → Dp K H x (f y)) : ∀ {xs : List V} {ys : List α}, Paired R xs ys → DpAll K H xs (ys.map f)
  | _, _, .nil => .nil
  | _, _, .cons h t => .cons (hf _ _ h) (dp_all hf t)
theorem dp_cl {K : PySem.W.Frag} {H : Hp} {x : V} {c : List Lit} (h : IsC K H x c) : Dp K H x (clD c) := by
  obtain ⟨a, ys, rfl, q⟩ := h
  exact .tup q.sq (dp_all (fun _ _ z => dp_lit z) q.p)
theorem eqv_lit (l m : Lit) : PyData.eqv (litD l) (litD m) = decide (l = m) := by
  obtain ⟨a, b, c⟩ := l
  obtain ⟨a', b', c'⟩ := m
  simp only [litD, PyData.eqv, PyData.eqvAll, Bool.and_true]
  rw [Bool.eq_iff_iff]
  simp [Prod.ext_iff]
theorem eqv_lits : ∀ (c d : List Lit), PyData.eqvAll (c.map litD) (d.map litD) = decide (c = d)
  | [], [] => by simp [PyData.eqvAll]
  | [], _ :: _ => by simp [PyData.eqvAll]
  | _ :: _, [] => by simp [PyData.eqvAll]
  | l :: c, m :: d => by
    simp only [List.map_cons, PyData.eqvAll]
    rw [eqv_lit, eqv_lits c d]
    rw [Bool.eq_iff_iff]
    simp
theorem eqv_cl (c d : List Lit) : PyData.eqv (clD c) (clD d) = decide (c = d) := by
  show PyData.eqvAll _ _ = _
  exact eqv_lits c d
def okC (cs : List (List Lit)) : Prop := ∀ c ∈ cs, ∀ l ∈ c, PyData.strOk l.1 = true ∧ PyData.strOk l.2.1 = true
theorem lay_lits : ∀ {c : List Lit}, (∀ l ∈ c, PyData.strOk l.1 = true ∧ PyData.strOk l.2.1 = true) → PyData.canLayAll0 (c.map litD) = true ∧ PyData.depthAll (c.map litD) ≤ 1
  | [], _ => ⟨rfl, Nat.zero_le _⟩
  | l :: c, h => by
    obtain ⟨h1, h2⟩ := h l List.mem_cons_self
    obtain ⟨r1, r2⟩ := lay_lits (c := c) fun m hm => h m (List.mem_cons_of_mem _ hm)
    refine ⟨?_, ?_⟩
    · simp only [List.map_cons, PyData.canLayAll0, litD, PyData.canLay0, h1, h2, r1, Bool.and_self]
    · simp only [List.map_cons, PyData.depthAll, litD, PyData.depth]
      omega
theorem lay_cls : ∀ {cs : List (List Lit)}, okC cs → PyData.canLayAll0 (cs.map clD) = true ∧ PyData.depthAll (cs.map clD) ≤ 2
  | [], _ => ⟨rfl, Nat.zero_le _⟩
  | c :: cs, h => by
    obtain ⟨h1, h2⟩ := lay_lits (h c List.mem_cons_self)
    obtain ⟨r1, r2⟩ := lay_cls (cs := cs) fun m hm => h m (List.mem_cons_of_mem _ hm)
    refine ⟨?_, ?_⟩
    · simp only [List.map_cons, PyData.canLayAll0, clD, PyData.canLay0, h1, r1, Bool.and_self]
    · simp only [List.map_cons, PyData.depthAll, clD, PyData.depth]
      omega
theorem shaped_list {cs : List (List Lit)} (h : okC cs) : SeqAt.shaped (.list (cs.map clD)) = true := by
  obtain ⟨h1, h2⟩ := lay_cls h
  unfold SeqAt.shaped
  rw [Bool.and_eq_true, decide_eq_true_eq]
  exact ⟨h1, by show PyData.depthAll _ + 1 ≤ 64; omega⟩
theorem shaped_tup {cs : List (List Lit)} (h : okC cs) : SeqAt.shaped (.tuple (cs.map clD)) = true := shaped_list h
theorem shaped_cl {c : List Lit} (h : ∀ l ∈ c, PyData.strOk l.1 = true ∧ PyData.strOk l.2.1 = true) : SeqAt.shaped (clD c) = true := by
  obtain ⟨h1, h2⟩ := lay_lits h
  unfold SeqAt.shaped
  rw [Bool.and_eq_true, decide_eq_true_eq]
  exact ⟨h1, by show PyData.depthAll _ + 1 ≤ 64; omega⟩
theorem eqv_cls : ∀ (c d : List (List Lit)), PyData.eqvAll (c.map clD) (d.map clD) = decide (c = d)
  | [], [] => by simp [PyData.eqvAll]
  | [], _ :: _ => by simp [PyData.eqvAll]
  | _ :: _, [] => by simp [PyData.eqvAll]
  | l :: c, m :: d => by
    simp only [List.map_cons, PyData.eqvAll]
    rw [eqv_cl, eqv_cls c d]
    rw [Bool.eq_iff_iff]
    simp
theorem any_cl (cs : List (List Lit)) (c : List Lit) : ((cs.map clD).any fun z => PyData.eqv z (clD c)) = decide (c ∈ cs) := by
  rw [List.any_map, Bool.eq_iff_iff, List.any_eq_true, decide_eq_true_eq]
  constructor
  · rintro ⟨d, hd, e⟩
    have e' : PyData.eqv (clD d) (clD c) = true := e
    rw [eqv_cl, decide_eq_true_eq] at e'
    exact e' ▸ hd
  · intro h
    exact ⟨c, h, by show PyData.eqv (clD c) (clD c) = true; rw [eqv_cl]; exact decide_eq_true rfl⟩
/-- clauses put together, each once -/
def merge : List (List Lit) → List (List Lit) → List (List Lit)
  | m, [] => m
  | m, c :: r => merge (if c ∈ m then m else m ++ [c]) r
end Kx
namespace Kx
open PySem L2 PySem.Spec PyProof.Rows
abbrev sAnd : Stmt := mth 2
abbrev nA : List Str := ["self", "other", "merged", "clause"]
structure CondAll (K : PySem.W.Frag) (mg : Str → Option Value) (B CB fB C fI : Addr) (fdB fdI : FuncData) : Prop where
  D : Cnd K mg C
  W : Bad K mg B CB fB fdB
  I : Fun K "__init__" "Cond.__init__" sInit fI fdI
  mkI : Mk K C fI
  ty : ∀ H a dx fs, H a = some (.ins C dx fs) → TyX K H (.ref a) (.ref C)
  kit : PySem.W.kitOne K (.ref C) (.ref C) = some true
def spAnd (K : PySem.W.Frag) (C CB : Addr) : Sp := fun vs H Q E => ∃ (a b dx dy p q p' q' : Addr) (cs cs' : List (List Lit)) (ys ys' : List Str), vs = [.ref a, .ref b] ∧ CondF K H a C dx p q cs ys ∧ CondF K H b C dy p' q' cs' ys' ∧ shortC (cs ++ cs') ∧ okC (cs ++ cs') ∧ (cs ++ cs').length ≤ 1000 ∧
  (firstWrong (merge [] (cs ++ cs')) = none → ∀ r dz p2 q2 zs H', CondF K H' r C dz p2 q2 (merge [] (cs ++ cs')) zs → Same H H' → H r = none → Q (.ref r) H') ∧ ∀ i, firstWrong (merge [] (cs ++ cs')) = some i → refusal CB E H i
theorem catA_of {K : PySem.W.Frag} {H : Hp} {a b : Addr} {xs ys : List V} {Q : VK} (h1 : SqT K H a xs) (h2 : SqT K H b ys) (hz : xs.length + ys.length ≤ sizeLine) (go : ∀ t H2, Same H H2 → SqT K H2 t (xs ++ ys) → Q (.ref t) H2) : rCatA K (.ref a) (.ref b) H Q := by
  refine ⟨a, b, xs, ys, rfl, rfl, h1, h2, hz, fun e => ?_, fun _ e => ?_, fun _ _ p hp => ?_⟩
  · exact go b H (fun _ _ z => z) (by rw [e]; exact h2)
  · exact go a H (fun _ _ z => z) (by rw [e, List.append_nil]; exact h1)
  · exact go p _ (new_same hp) (SqT.of upd_same)
theorem SqT.lst {K : PySem.W.Frag} {H : Hp} {a b : Addr} {ms : List V} {u : HO} {xs : List V} (ha : H a = some (.lst ms)) (h : SqT K H b xs) : SqT K (upd H a u) b xs := by
  rcases h with (h | ⟨o, h⟩) | h
  · exact .inl (.inl (by rw [upd_ne (fun e => by rw [e, ha] at h; cases h)]; exact h))
  · exact .inl (.inr ⟨o, by rw [upd_ne (fun e => by rw [e, ha] at h; cases h)]; exact h⟩)
  · exact .inr h
theorem IsC.lst {K : PySem.W.Frag} {H : Hp} {a : Addr} {ms : List V} {u : HO} {x : V} {c : List Lit} (ha : H a = some (.lst ms)) (h : IsC K H x c) : IsC K (upd H a u) x c := by
  obtain ⟨b, ys, e, q⟩ := h
  exact ⟨b, ys, e, SqT.lst ha q.sq, L2.Paired.mapP q.p fun _ _ ⟨d, z, r⟩ => ⟨d, z, SqT.lst ha r⟩, q.l1, q.l2⟩
theorem merge_snoc (c : List Lit) : ∀ (l m : List (List Lit)), merge m (l ++ [c]) = if c ∈ merge m l then merge m l else merge m l ++ [c]
  | [], m => rfl
  | d :: l, m => by
    show merge (if d ∈ m then m else m ++ [d]) (l ++ [c]) = _
    rw [merge_snoc c l]
    rfl
theorem merge_sub : ∀ (l m : List (List Lit)) (c : List Lit), c ∈ merge m l → c ∈ m ∨ c ∈ l
  | [], m, c, h => .inl h
  | d :: l, m, c, h => by
    have h' : c ∈ merge (if d ∈ m then m else m ++ [d]) l := h
    rcases merge_sub l _ c h' with z | z
    · by_cases hd : d ∈ m
      · rw [if_pos hd] at z
        exact .inl z
      · rw [if_neg hd] at z
        rcases List.mem_append.mp z with z | z
        · exact .inl z
        · exact .inr (by rw [List.mem_singleton.mp z]; exact List.mem_cons_self)
    · exact .inr (List.mem_cons_of_mem _ z)
theorem merge_len : ∀ (l m : List (List Lit)), (merge m l).length ≤ m.length + l.length
  | [], m => Nat.le_refl _
  | d :: l, m => by
    have h := merge_len l (if d ∈ m then m else m ++ [d])
    have e : (if d ∈ m then m else m ++ [d]).length ≤ m.length + 1 := by
      by_cases hd : d ∈ m
      · rw [if_pos hd]; exact Nat.le_succ _
      · rw [if_neg hd, List.length_append]; exact Nat.le_refl _
    show (merge (if d ∈ m then m else m ++ [d]) l).length ≤ m.length + (l.length + 1)
    omega
theorem paired_app {α β : Type} {R : α → β → Prop} : ∀ {xs : List α} {ys : List β} {xs' : List α} {ys' : List β}, Paired R xs ys → Paired R xs' ys' → Paired R (xs ++ xs') (ys ++ ys')
  | _, _, _, _, .nil, h => h
  | _, _, _, _, .cons a t, h => .cons a (paired_app t h)
section
variable {P : Program} {w : World} {K : PySem.W.Frag} {mg : Str → Option Value} {base : Heap} {B CB fB C fI : Addr} {fdB fdI : FuncData}
theorem scAnd : FnScope nA ["self", "other"] (defScope sAnd) := ⟨rfl, rfl, rfl, by decide +kernel, rfl, by decide +kernel, by decide +kernel⟩
theorem ok_and {f : Addr} {fd : FuncData} (F : Fun K "__and__" "Cond.__and__" sAnd f fd) (M : CondAll K mg B CB fB C fI fdB fdI) : FnOk P w K mg base (L2N.CX P w) 8 f fd ["self", "other"] (spAnd K C CB) := by
  obtain ⟨oc, od, kV, doc, pm, an, cdv, ct, osl, rfl, lk, hcd⟩ := F.ex
  have D := M.D
  have T := D.M.T
  have GI : FnR P w K mg base (L2N.CX P w) 6 fI (spInit K C (refusal CB)) := fnR_init M.I D M.W
  refine fn_of lk hcd scAnd (fun vs H Q E h => ?_) fun A outer s H vs Q E hr h => ?_
  · obtain ⟨a, b, dx, dy, p, q, p', q', cs, cs', ys, ys', rfl, _⟩ := h
    rfl
  · obtain ⟨a, b, dx, dy, p, q, p', q', cs, cs', ys, ys', rfl, ha, hb, hsh, hok, hlen, qn, qf⟩ := h
    have tk : L2N.Takes (cxOf (L2N.CX P w) P w K mg base nA "Cond.__and__" (defScope sAnd) f cdv A outer s H E) (fun cls d _ H => E cls d H) := L2N.takes_of rfl rfl rfl rfl
    have hx : Passes (L2N.CX P w) (cxOf (L2N.CX P w) P w K mg base nA "Cond.__and__" (defScope sAnd) f cdv A outer s H E) E := L2N.passes_call tk (fun _ _ _ _ z => z)
    have hu : (cxOf (L2N.CX P w) P w K mg base nA "Cond.__and__" (defScope sAnd) f cdv A outer s H E).A.units + 65 < cLine := by
      have := hr.un
      show (A.deeper (envOfC "Cond.__and__" (defScope sAnd) s.heap.objs.size f cdv)).units + 65 < cLine
      omega
    refine ⟨_, pss_cons (ps_if (pt_not (pt_val (pe_callB call_isi (by rfl) T.isi boot_isinstance (pa_cons (pv 1) (pa_cons (pe_glob (v := .ref C) (by rfl) D.gC rfl) pa_nil))))) (pss_one ps_never) pss_nil)
      (pss_cons (ps_set (i := 2) scAnd.nd rfl (Or.inl rfl) (pe_lst pa_nil))
      (pss_cons (ps_for (passes_of rfl) rfl (pi_tup (pe_op op_catA (pe_fld (pv 0) (by rfl)) (pe_fld (pv 1) (by rfl)))) (pg_name (i := 3) scAnd.nd rfl (Or.inl rfl))
        (pss_one (ps_if (pt_cmpR (op_notInD hu) (pv 3) (pv 2) (by with_unfolding_all rfl)) (pss_one (ps_expr (pe_bm PySem.F.plainAttrs_list PySem.F.slot_list_append PySem.F.type_list_append mt_append (pv 2) (pa_cons (pv 3) pa_nil)))) pss_nil)))
      (pss_one (ps_ret (pe_makeS (k := 6) M.mkI GI hr (by rfl) D.gC hx (pv 2)))))), ?_⟩
    obtain ⟨xs, hc⟩ := ha.cl
    obtain ⟨xs', hc'⟩ := hb.cl
    have hp := paired_app hc.p hc'.p
    have hpl : (xs ++ xs').length = (cs ++ cs').length := Paired.length hp
    refine ⟨_, rfl, .ref b, .ref C, _, _, true, rfl, .own C, M.ty _ b dy _ hb.ins, M.kit, true, rfl, iteF ?_⟩
    refine ⟨by show 0 ≤ sizeLine; decide, fun m hm => ?_⟩
    have s1 : Same H (upd H m (.lst [])) := new_same hm
    refine ⟨_, rfl, a, C, dx, _, .ref p, rfl, s1 _ _ ha.ins, D.cls, D.nc, rfl, _, rfl, b, C, dy, _, .ref p', rfl, s1 _ _ hb.ins, D.cls, D.nc, rfl, ?_⟩
    refine catA_of (SqT.same s1 hc.sq) (SqT.same s1 hc'.sq) (by rw [← List.length_append, hpl]; exact Nat.le_of_lt (small1000 hlen)) fun t H2 s2 ht => ?_
    refine ⟨t, rfl, ⟨_, ht⟩, ?_⟩
    refine for_tup (xs := xs ++ xs') (fun i σ H3 => (∃ v3, σ = [some (.ref a), some (.ref b), some (.ref m), v3]) ∧ Same H H3 ∧ SqT K H3 t (xs ++ xs') ∧ ∃ ms, H3 m = some (.lst ms) ∧ Paired (IsC K H3) ms (merge [] ((cs ++ cs').take i)))
      ⟨⟨none, rfl⟩, fun b u z => s2 _ _ (s1 _ _ z), ht, [], s2 _ _ upd_same, .nil⟩ (fun i σ H3 _ h => h.2.2.1) ?_ ?_
    · rintro i x σ H3 hx ⟨⟨v3, rfl⟩, s3, ht3, ms, gm, hms⟩
      obtain ⟨c, hcl, hxc⟩ := paired_get hp hx
      have hcm : c ∈ cs ++ cs' := List.mem_of_getElem? hcl
      have hx3 := IsC.same s3 hxc
      have hlm : ms.length ≤ 1000 := by
        have e1 : ms.length = (merge [] ((cs ++ cs').take i)).length := Paired.length hms
        have e2 := merge_len ((cs ++ cs').take i) []
        rw [List.length_take] at e2
        have e3 : ([] : List (List Lit)).length = 0 := rfl
        omega
      have okm : okC (merge [] ((cs ++ cs').take i)) := fun d hd => by
        rcases merge_sub _ _ _ hd with z | z
        · cases z
        · exact hok d (List.mem_of_mem_take z)
      have em : merge [] ((cs ++ cs').take (i + 1)) = if c ∈ merge [] ((cs ++ cs').take i) then merge [] ((cs ++ cs').take i) else merge [] ((cs ++ cs').take i) ++ [c] := by
        rw [List.take_add_one, hcl]
        exact merge_snoc c _ _
      refine ⟨_, rfl, _, rfl, clD c, _, dp_cl hx3, .lst (SqL.of gm) (dp_all (fun _ _ z => dp_cl z) hms), shaped_cl (hok c hcm), shaped_list okm, _, rfl, ?_⟩
      rw [any_cl]
      by_cases hin : c ∈ merge [] ((cs ++ cs').take i)
      case pos =>
        rw [decide_eq_true hin]
        rw [if_pos hin] at em
        exact iteF ⟨⟨_, rfl⟩, s3, ht3, ms, gm, by rw [em]; exact hms⟩
      case neg =>
        rw [decide_eq_false hin]
        rw [if_neg hin] at em
        refine iteT ?_
        refine ⟨_, rfl, .inl ⟨rfl, ms, SqL.of gm⟩, _, rfl, m, ms, x, rfl, rfl, gm, small1000 hlm, ?_⟩
        refine ⟨⟨_, rfl⟩, same_upd hm s3, SqT.lst gm ht3, _, upd_same, ?_⟩
        rw [em]
        exact paired_app (L2.Paired.mapP hms fun _ _ z => IsC.lst gm z) (.cons (IsC.lst gm hx3) .nil)
    · rintro σ H3 ⟨⟨v3, rfl⟩, s3, ht3, ms, gm, hms⟩
      rw [hpl, List.take_of_length_le (Nat.le_refl _)] at hms
      have hl : (merge [] (cs ++ cs')).length ≤ 1000 := Nat.le_trans (merge_len _ _) (by show 0 + (cs ++ cs').length ≤ 1000; omega)
      have hml : ms.length = (merge [] (cs ++ cs')).length := Paired.length hms
      refine ⟨_, rfl, m, ms, rfl, .inr (SqL.of gm), fun r dz hr0 hdz hne => ⟨[.ref r], ms, rfl, rfl, Nat.le_of_lt (small1000 (by omega)), fun p2 hp2 => ?_⟩⟩
      have s5 : Same H3 (upd (upd H3 dz (.own r)) r (.ins C dz [])) := same_upd hr0 (new_same hdz)
      have s6 : Same H3 (upd (upd (upd H3 dz (.own r)) r (.ins C dz [])) p2 (.tup ms)) := fun b u z => new_same hp2 _ _ (s5 _ _ z)
      have hrp : r ≠ p2 := fun z => by
        rw [← z, upd_same] at hp2
        cases hp2
      refine ⟨r, dz, p2, ms, merge [] (cs ++ cs'), rfl, (by rw [upd_ne hrp]; exact upd_same), ⟨SqT.of upd_same, pairedC_same s6 hms, hl⟩, fun c hcm l hlm => ?_, fun hw H' q2 zs hF hk => ⟨rfl, ?_⟩, fun i hw H1 s7 => ?_⟩
      · rcases merge_sub _ _ _ hcm with z | z
        · cases z
        · exact hsh c z l hlm
      · refine qn hw r dz p2 q2 zs H' hF (fun b u z => hk b u (fun e => ?_) (s6 _ _ (s3 _ _ z))) (Same.free s3 hr0)
        rw [e, Same.free s3 hr0] at z
        cases z
      · exact fun d H' s8 z => qf i hw d H' (fun b u y => s8 _ _ (s7 _ _ (s6 _ _ (s3 _ _ y)))) z
end
end Kx
namespace Kx
open PySem L2
abbrev sWell : Stmt := top 136
abbrev sDraw : Stmt := top 137
abbrev sOne : Stmt := top 138

/-- a source of draws as it stands: three whole numbers, the last one small -/
def WellAt (H : Hp) (p : Addr) (n : Int) : Prop := ∃ a b c : Int, H p = some (.lst [.int a, .int b, .int c]) ∧ 0 ≤ b ∧ b < 4294967296 ∧ 0 ≤ c ∧ c ≤ n
def spWell : Sp := fun vs H Q _ => ∃ c : Int, vs = [.int c] ∧ ∀ p H', H p = none → Same H H' → WellAt H' p 0 → Q (.ref p) H'
def spDraw : Sp := fun vs H Q _ => ∃ (p : Addr) (m n : Int), vs = [.ref p, .int m] ∧ WellAt H p n ∧ n ≤ 1000000 ∧ 0 < m ∧ m < 1099511627776 ∧
  ∀ (r : Int) (xs : List V), 0 ≤ r → r < m → WellAt (upd H p (.lst xs)) p (n + 1) → Q (.int r) (upd H p (.lst xs))
def spOne (K : PySem.W.Frag) : Sp := fun vs H Q _ => ∃ (p q : Addr) (n : Int) (ys : List V), vs = [.ref p, .ref q] ∧ WellAt H p n ∧ n ≤ 1000000 ∧ p ≠ q ∧ SqL K H q ys ∧ 0 < ys.length ∧ ys.length < 1000000 ∧
  ∀ (r : Nat) (v : V) (xs : List V), ys[r]? = some v → WellAt (upd H p (.lst xs)) p (n + 1) → Q v (upd H p (.lst xs))

structure Bl (mg : Str → Option Value) : Prop where
  int : mg "int" = none
  len : mg "len" = none

section
variable {P : Program} {w : World} {K : PySem.W.Frag} {mg : Str → Option Value} {base : Heap}
theorem scW : FnScope ["_law_cell"] ["_law_cell"] (defScope sWell) := ⟨rfl, rfl, rfl, by decide +kernel, rfl, by decide +kernel, by decide +kernel⟩
theorem ok_well {f : Addr} {fd : FuncData} (F : Fun K "_law_well" "_law_well" sWell f fd) (T : Bl mg) : FnOk P w K mg base CX0 1 f fd ["_law_cell"] spWell := by
  refine F.ok scW (fun vs H Q E h => ?_) (fun cdv A outer s H vs Q E hr h => ?_)
  · obtain ⟨c, rfl, _⟩ := h
    rfl
  · obtain ⟨c, rfl, k⟩ := h
    have hu := hu_of hr
    refine ⟨_, pss_one (ps_ret (pe_lst (pa_cons (pe_op op_mul (pv 0) (pe_callTy call_int1 (by rfl) T.int (by decide +kernel) (pa_cons (pe_cmpR op_ge (pv 0) (pe_op op_pow pe_int pe_int) (nomark _)) pa_nil)))
      (pa_cons (pe_op op_mod (pe_callTy call_int1 (by rfl) T.int (by decide +kernel) (pa_cons (pv 0) pa_nil)) pe_int) (pa_cons pe_int pa_nil))))), ?_⟩
    refine ⟨_, rfl, _, rfl, _, _, rfl, rfl, ⟨by decide, by decide, by decide⟩, _, _, rfl, rfl, .inr ⟨_, rfl, _, _, rfl, rfl, .inr ?_, _, rfl, .inl ⟨_, rfl, _, _, rfl, rfl, (by show (0 : Int) < 2147483629; decide), (by show 3 ≤ sizeLine; decide), fun p hp => ?_⟩⟩⟩
    · split <;> omega
    · refine k p _ hp (fun b o e => ?_) ⟨_, _, 0, upd_same, Int.emod_nonneg _ (by decide), ?_, Int.le_refl _, Int.le_refl _⟩
      · rw [upd_ne (ne_of_none e hp)]
        exact e
      · have := Int.emod_lt_of_pos c (show (0 : Int) < 2147483629 by decide)
        omega
theorem ml (x : Int) : -(2 ^ 64) < x % 2147483647 ∧ x % 2147483647 < 2 ^ 64 := by omega
theorem scD : FnScope ["_law_well_here", "_law_base", "_law_digit", "_law_number"] ["_law_well_here", "_law_base"] (defScope sDraw) := ⟨rfl, rfl, rfl, by decide +kernel, rfl, by decide +kernel, by decide +kernel⟩
theorem ok_draw {f : Addr} {fd : FuncData} (F : Fun K "_law_draw" "_law_draw" sDraw f fd) (T : Bl mg) : FnOk P w K mg base CX0 1 f fd ["_law_well_here", "_law_base"] spDraw := by
  refine F.ok scD (fun vs H Q E h => ?_) (fun cdv A outer s H vs Q E hr h => ?_)
  · obtain ⟨p, m, n, rfl, _⟩ := h
    rfl
  · obtain ⟨p, m, n, rfl, ⟨a, b, c, hp, hb0, hb1, hc0, hcn⟩, hn, hm0, hm1, k⟩ := h
    have hu := hu_of hr
    refine ⟨_, pss_cons (ps_if (pt_cmpR op_gt (pe_ix ix_list (pv 0) pe_int (fun _ _ => rfl)) pe_int (nomark _))
        (pss_cons (ps_set (i := 2) scD.nd rfl (Or.inl rfl) (pe_op op_mod (pe_callTy call_int1 (by rfl) T.int (by decide +kernel) (pa_cons (pe_ix ix_list (pv 0) pe_int (fun _ _ => rfl)) pa_nil)) (pv 1)))
        (pss_cons (ps_asg (pe_op op_fdivW (pe_ix ix_list (pv 0) pe_int (fun _ _ => rfl)) (pv 1)) (pg_sub (pv 0) pe_int set_list))
        (pss_one (ps_ret (pv 2))))) pss_nil)
      (pss_cons (ps_asg (pe_op op_add (pe_ix ix_list (pv 0) pe_int (fun _ _ => rfl)) pe_int) (pg_sub (pv 0) pe_int set_list))
      (pss_cons (ps_set (i := 3) scD.nd rfl (Or.inl rfl) (pe_op op_mod (pe_callTy call_int1 (by rfl) T.int (by decide +kernel) (pa_cons (pe_op op_mul (pe_callTy call_int1 (by rfl) T.int (by decide +kernel) (pa_cons
          (pe_op op_add (pe_op op_add (pe_ix ix_list (pv 0) pe_int (fun _ _ => rfl)) (pe_op op_mul pe_int (pe_ix ix_list (pv 0) pe_int (fun _ _ => rfl)))) pe_int) pa_nil)) pe_int) pa_nil)) pe_int))
      (pss_cons (ps_set (i := 3) scD.nd rfl (Or.inl rfl) (pe_op op_mod (pe_callTy call_int1 (by rfl) T.int (by decide +kernel) (pa_cons (pe_op op_mul (pv 3) (pe_op op_add (pe_op op_fdiv (pv 3) pe_int) pe_int)) pa_nil)) pe_int))
      (pss_one (ps_ret (pe_op op_mod (pe_callTy call_int1 (by rfl) T.int (by decide +kernel) (pa_cons (pe_op op_mod (pe_callTy call_int1 (by rfl) T.int (by decide +kernel) (pa_cons (pe_op op_mul (pv 3) (pe_op op_add (pe_op op_fdiv (pv 3) pe_int) pe_int)) pa_nil)) pe_int) pa_nil)) (pv 1))))))), ?_⟩
    have g0 : ∀ (x y z : V), atI [x, y, z] 0 = some x := fun _ _ _ => rfl
    have g1 : ∀ (x y z : V), atI [x, y, z] 1 = some y := fun _ _ _ => rfl
    have g2 : ∀ (x y z : V), atI [x, y, z] 2 = some z := fun _ _ _ => rfl
    have hc1 : c + 1 ≤ n + 1 := by omega
    refine ⟨_, rfl, p, _, _, _, rfl, rfl, SqL.of hp, g0 _ _ _, _, _, rfl, rfl, _, rfl, ?_⟩
    refine ite2 (fun _ => ?_) (fun _ => ?_)
    · refine ⟨_, rfl, p, _, _, _, rfl, rfl, SqL.of hp, g0 _ _ _, .inl ⟨_, rfl, _, rfl, _, _, rfl, rfl, hm0, ?_⟩⟩
      refine ⟨_, rfl, p, _, _, _, rfl, rfl, SqL.of hp, g0 _ _ _, _, rfl, _, _, rfl, rfl, wide_div (b := 40) hm0 (by omega) (by decide) (by decide), _, rfl, p, _, _, 0, rfl, rfl, hp, rfl, _, rfl, ?_⟩
      exact k _ _ (Int.emod_nonneg _ (by omega)) (Int.emod_lt_of_pos _ hm0) ⟨_, b, c, upd_same, hb0, hb1, hc0, by omega⟩
    · refine ⟨_, rfl, p, _, _, _, rfl, rfl, SqL.of hp, g2 _ _ _, _, _, rfl, rfl, _, rfl, p, _, _, 2, rfl, rfl, hp, rfl, ?_⟩
      have e2 : (upd H p (.lst [.int a, .int b, .int (c + 1)])) p = some (.lst [.int a, .int b, .int (c + 1)]) := upd_same
      refine ⟨_, rfl, p, _, _, _, rfl, rfl, SqL.of e2, g1 _ _ _, _, rfl, p, _, _, _, rfl, rfl, SqL.of e2, g2 _ _ _, _, _, rfl, rfl, .inl ⟨by decide, by decide⟩, _, _, rfl, rfl, _, _, rfl, rfl,
        .inl ⟨_, rfl, _, _, rfl, rfl, .inr ⟨by decide, by decide⟩, .inl ⟨_, rfl, _, _, rfl, rfl, (by show (0 : Int) < 2147483647; decide), ?_⟩⟩⟩
      refine ⟨_, rfl, _, rfl, _, _, rfl, rfl, ⟨by decide, by decide⟩, _, _, rfl, rfl, _, _, rfl, rfl, .inl (ml _), .inl ⟨_, rfl, _, _, rfl, rfl, (by show (0 : Int) < 2147483647; decide), ?_⟩⟩
      refine ⟨_, rfl, _, rfl, _, _, rfl, rfl, ⟨by decide, by decide⟩, _, _, rfl, rfl, _, _, rfl, rfl, .inl (ml _), .inl ⟨_, rfl, _, _, rfl, rfl, (by show (0 : Int) < 2147483399; decide), .inl ⟨_, rfl, _, rfl, _, _, rfl, rfl, hm0, ?_⟩⟩⟩
      exact k _ _ (Int.emod_nonneg _ (by omega)) (Int.emod_lt_of_pos _ hm0) ⟨a, b, c + 1, upd_same, hb0, hb1, by omega, by omega⟩
theorem scO : FnScope ["_law_well_here", "_law_some"] ["_law_well_here", "_law_some"] (defScope sOne) := ⟨rfl, rfl, rfl, by decide +kernel, rfl, by decide +kernel, by decide +kernel⟩
theorem ok_one {f g : Addr} {fd fdD : FuncData} (F : Fun K "_law_one" "_law_one" sOne f fd) (T : Bl mg) (FD : Fun K "_law_draw" "_law_draw" sDraw g fdD) (bD : Binds K fdD ["_law_well_here", "_law_base"] []) (mD : mg "_law_draw" = some (.ref g)) : FnOk P w K mg base CX0 2 f fd ["_law_well_here", "_law_some"] (spOne K) := by
  have GD : FnOk P w K mg base CX0 1 g fdD ["_law_well_here", "_law_base"] spDraw := ok_draw FD T
  refine F.ok scO (fun vs H Q E h => ?_) (fun cdv A outer s H vs Q E hr h => ?_)
  · obtain ⟨p, q, n, ys, rfl, _⟩ := h
    rfl
  · obtain ⟨p, q, n, ys, rfl, hW, hn, hne, hq, h0, h1, k⟩ := h
    refine ⟨_, pss_one (ps_ret (pe_ix ix_list (pv 1) (pe_call GD hr rfl mD FD.kp bD .nil pass0 (pa_cons (pv 0) (pa_cons (pe_callB call_len_seq (by rfl) T.len PySem.boot_len (pa_cons (pv 1) pa_nil)) pa_nil))) (fun _ _ => rfl))), ?_⟩
    refine ⟨_, rfl, _, rfl, _, rfl, q, ys, rfl, .inl hq, p, _, n, rfl, hW, hn, by omega, by omega, fun r xs r0 r1 hW' => ?_⟩
    have hr2 : r.toNat < ys.length := by omega
    have e1 : ys[r.toNat]? = some ys[r.toNat] := by simp [hr2]
    refine ⟨q, ys, r, _, rfl, rfl, ?_, at_of (j := r.toNat) (by omega) e1, k r.toNat _ xs e1 hW'⟩
    rcases hq with (z | ⟨o, z⟩) | z
    · exact .inl (.inl (by rw [upd_ne (fun e => hne e.symm)]; exact z))
    · exact .inl (.inr ⟨o, by rw [upd_ne (fun e => hne e.symm)]; exact z⟩)
    · exact .inr z
end
end Kx
set_option linter.all false
/-! == and != of tuples and lists, with any answer, whose items may be objects with an own == -/
namespace PySem.SeqAt
open AutoSeq1 (wpAny_loadPart')
open MeetsSeq MeetsSeq2 MeetsSeq3 SeqRoads2
theorem str_eq_declines_plain (b : Str) (u : Tok) (l : Addr) (c : Value) (dd : Option Addr) (sl : Array (Option Value)) :
    Meets (Builtin.«str.__eq__» ⟨[.str b u, .ref l], []⟩) (fun _ R s => s.heap.get? l = some { cls := c, dict := dd, data := .plain, slots := sl } ∧ R (.ok (.ret .notImplemented)) s) :=
  .of_wp fun prog w A R s h => by obtain ⟨hp, g, d, tk, os⟩ := s; obtain ⟨hl, h⟩ := h; wp_walk using wpAny_loadPart' hl, wpAny_load hl; exact ⟨_, rfl, h⟩
theorem bool_eq_declines_plain (b : Bool) (l : Addr) (c : Value) (dd : Option Addr) (sl : Array (Option Value)) :
    Meets (Builtin.«int.__eq__» ⟨[.bool b, .ref l], []⟩) (fun _ R s => s.heap.get? l = some { cls := c, dict := dd, data := .plain, slots := sl } ∧ R (.ok (.ret .notImplemented)) s) :=
  .of_wp fun prog w A R s h => by obtain ⟨hp, g, d, tk, os⟩ := s; obtain ⟨hl, h⟩ := h; wp_walk using wpAny_loadPart' hl, wpAny_load hl; exact ⟨_, rfl, h⟩
theorem int_eq_declines_plain (b : Int) (u : Tok) (l : Addr) (c : Value) (dd : Option Addr) (sl : Array (Option Value)) :
    Meets (Builtin.«int.__eq__» ⟨[.int b u, .ref l], []⟩) (fun _ R s => s.heap.get? l = some { cls := c, dict := dd, data := .plain, slots := sl } ∧ R (.ok (.ret .notImplemented)) s) :=
  .of_wp fun prog w A R s h => by obtain ⟨hp, g, d, tk, os⟩ := s; obtain ⟨hl, h⟩ := h; wp_walk using wpAny_loadPart' hl, wpAny_load hl; exact ⟨_, rfl, h⟩
end PySem.SeqAt
namespace GQ
open PySem PySem.SeqAt
open AutoSeq1 (wpAny_loadPart')
open MeetsSeq MeetsSeq2 MeetsSeq3 SeqRoads2
section
variable {prog : Program} {w : World} {A : Around} {R : Result → Shared → Prop}
/-- what two rows of things give, by what each pair gives -/
def allEq (m n : Nat) (e : Nat → Bool) : Bool := (List.range (min m n)).all e && m == n
theorem tuple_eqB (l b : Addr) (items items2 : Array Value) (n n2 : Nat) (dd dd2 : Option Addr) (sl sl2 : Array (Option Value)) (e : Nat → Bool) (I : Nat → Shared → Prop)
    (turn : ∀ i (h1 : i < items.size) (h2 : i < items2.size) s, I i s → wpAny (model prog w) A.in1 (eqBool items[i] items2[i]) (fun r s' => r = e i ∧ I (i + 1) s') (fun e s' => R (.error e) s') s)
    (fin : ∀ i s, I i s → R (.ok (.ret (.bool (allEq items.size items2.size e)))) s) {s : Shared} (hl1 : s.heap.get? l = some { cls := .type "tuple", dict := dd, data := .seq items n, slots := sl }) (hb1 : s.heap.get? b = some { cls := .type "tuple", dict := dd2, data := .seq items2 n2, slots := sl2 }) (h : I 0 s) :
    wpAny (model prog w) A.in1 (Builtin.«tuple.__eq__» ⟨[.ref l, .ref b], []⟩) (FinOf prog w A R) (fun e s' => R (.error e) s') s := by
  have f2 := AutoSeq1.sub_tuple_tuple
  have hZ : (items.toList.zip items2.toList).length = min items.size items2.size := by simp
  have h0 := h
  obtain ⟨hp, g, d, tk, os⟩ := s
  wp_walk using wpAny_loadPart' hl1, wpAny_loadPart' hb1, wpAny_forIn_list _ (fun rest b s' => b.1 = none ∧ ∃ i, rest = (items.toList.zip items2.toList).drop i ∧ I i s' ∧ (((List.range (min items.size items2.size)).drop i).all e && items.size == items2.size) = allEq items.size items2.size e) _
  case turn =>
    rintro ⟨y, x⟩ rest b s' ⟨hb', i, hz, hI, hR⟩
    have hlt : i < (items.toList.zip items2.toList).length := by
      rcases Nat.lt_or_ge i (items.toList.zip items2.toList).length with h' | h'
      · exact h'
      · rw [List.drop_of_length_le h'] at hz; cases hz
    have hm : i < min items.size items2.size := hZ ▸ hlt
    have h1 : i < items.size := Nat.lt_of_lt_of_le hm (Nat.min_le_left _ _)
    have h2 : i < items2.size := Nat.lt_of_lt_of_le hm (Nat.min_le_right _ _)
    rw [List.drop_eq_getElem_cons hlt] at hz
    injection hz with hyx hrest
    have hy : y = items[i] := by have := congrArg Prod.fst hyx; simpa using this
    have hx : x = items2[i] := by have := congrArg Prod.snd hyx; simpa using this
    subst hy hx
    have hd : (List.range (min items.size items2.size)).drop i = i :: (List.range (min items.size items2.size)).drop (i + 1) := by simp [List.drop_eq_getElem_cons, hm]
    rw [hd, List.all_cons] at hR
    refine wpAny_bind (wpAny_mono (turn i h1 h2 s' hI) (fun r s2 q2 => ?_) fun _ _ x => x)
    obtain ⟨hr, q2⟩ := q2
    subst hr
    cases hy : e i with
    | true =>
      rw [hy] at hR
      wp_walk
      exact ⟨rfl, i + 1, hrest, q2, by simpa using hR⟩
    | false =>
      rw [hy] at hR
      have hf := fin _ _ q2
      rw [← hR] at hf
      wp_walk
      simpa using hf
  case fin =>
    rintro ⟨b1, b2⟩ s' ⟨hb', i, hz, hI, hR⟩
    simp only at hb'
    subst hb'
    have hge : min items.size items2.size ≤ i := by
      rcases Nat.lt_or_ge i (items.toList.zip items2.toList).length with h' | h'
      · rw [List.drop_eq_getElem_cons h'] at hz; cases hz
      · exact hZ ▸ h'
    rw [List.drop_of_length_le (by simpa using hge)] at hR
    have hf := fin _ _ hI
    rw [← hR] at hf
    wp_walk
    simpa [Builtin.Tuple.tupleCompareSizes] using hf
  case h =>
    exact ⟨rfl, 0, rfl, h0, rfl⟩
theorem tuple_neB (l b : Addr) (items items2 : Array Value) (n n2 : Nat) (dd dd2 : Option Addr) (sl sl2 : Array (Option Value)) (e : Nat → Bool) (I : Nat → Shared → Prop)
    (turn : ∀ i (h1 : i < items.size) (h2 : i < items2.size) s, I i s → wpAny (model prog w) A.in1 (eqBool items[i] items2[i]) (fun r s' => r = e i ∧ I (i + 1) s') (fun e s' => R (.error e) s') s)
    (fin : ∀ i s, I i s → R (.ok (.ret (.bool (!allEq items.size items2.size e)))) s) {s : Shared} (hl1 : s.heap.get? l = some { cls := .type "tuple", dict := dd, data := .seq items n, slots := sl }) (hb1 : s.heap.get? b = some { cls := .type "tuple", dict := dd2, data := .seq items2 n2, slots := sl2 }) (h : I 0 s) :
    wpAny (model prog w) A.in1 (Builtin.«tuple.__ne__» ⟨[.ref l, .ref b], []⟩) (FinOf prog w A R) (fun e s' => R (.error e) s') s := by
  have f2 := AutoSeq1.sub_tuple_tuple
  have hZ : (items.toList.zip items2.toList).length = min items.size items2.size := by simp
  have h0 := h
  obtain ⟨hp, g, d, tk, os⟩ := s
  wp_walk using wpAny_loadPart' hl1, wpAny_loadPart' hb1, wpAny_forIn_list _ (fun rest b s' => b.1 = none ∧ ∃ i, rest = (items.toList.zip items2.toList).drop i ∧ I i s' ∧ (((List.range (min items.size items2.size)).drop i).all e && items.size == items2.size) = allEq items.size items2.size e) _
  case turn =>
    rintro ⟨y, x⟩ rest b s' ⟨hb', i, hz, hI, hR⟩
    have hlt : i < (items.toList.zip items2.toList).length := by
      rcases Nat.lt_or_ge i (items.toList.zip items2.toList).length with h' | h'
      · exact h'
      · rw [List.drop_of_length_le h'] at hz; cases hz
    have hm : i < min items.size items2.size := hZ ▸ hlt
    have h1 : i < items.size := Nat.lt_of_lt_of_le hm (Nat.min_le_left _ _)
    have h2 : i < items2.size := Nat.lt_of_lt_of_le hm (Nat.min_le_right _ _)
    rw [List.drop_eq_getElem_cons hlt] at hz
    injection hz with hyx hrest
    have hy : y = items[i] := by have := congrArg Prod.fst hyx; simpa using this
    have hx : x = items2[i] := by have := congrArg Prod.snd hyx; simpa using this
    subst hy hx
    have hd : (List.range (min items.size items2.size)).drop i = i :: (List.range (min items.size items2.size)).drop (i + 1) := by simp [List.drop_eq_getElem_cons, hm]
    rw [hd, List.all_cons] at hR
    refine wpAny_bind (wpAny_mono (turn i h1 h2 s' hI) (fun r s2 q2 => ?_) fun _ _ x => x)
    obtain ⟨hr, q2⟩ := q2
    subst hr
    cases hy : e i with
    | true =>
      rw [hy] at hR
      wp_walk
      exact ⟨rfl, i + 1, hrest, q2, by simpa using hR⟩
    | false =>
      rw [hy] at hR
      have hf := fin _ _ q2
      rw [← hR] at hf
      wp_walk
      simpa using hf
  case fin =>
    rintro ⟨b1, b2⟩ s' ⟨hb', i, hz, hI, hR⟩
    simp only at hb'
    subst hb'
    have hge : min items.size items2.size ≤ i := by
      rcases Nat.lt_or_ge i (items.toList.zip items2.toList).length with h' | h'
      · rw [List.drop_eq_getElem_cons h'] at hz; cases hz
      · exact hZ ▸ h'
    rw [List.drop_of_length_le (by simpa using hge)] at hR
    have hf := fin _ _ hI
    rw [← hR] at hf
    wp_walk
    simpa [Builtin.Tuple.tupleCompareSizes, bne] using hf
  case h =>
    exact ⟨rfl, 0, rfl, h0, rfl⟩
/-- at each turn the two lists are read anew -/
def ListB (prog : Program) (w : World) (A : Around) (E : Value → Shared → Prop) (l b : Addr) (N : Nat) (e : Nat → Bool) (I : Nat → Shared → Prop) : Prop :=
  ∀ i s, I i s → ∃ (items items2 : Array Value) (n n2 : Nat), s.heap.get? l = some { cls := .type "list", data := .seq items n } ∧ s.heap.get? b = some { cls := .type "list", data := .seq items2 n2 } ∧ items.size = N ∧ items2.size = N ∧
    ∀ (h1 : i < items.size) (h2 : i < items2.size), wpAny (model prog w) A.in1 (eqBool items[i] items2[i]) (fun r s' => r = e i ∧ I (i + 1) s') E s
theorem eq_loopB (l b : Addr) (N : Nat) (e : Nat → Bool) (I : Nat → Shared → Prop) (hl : ListB prog w A (fun e s' => R (.error e) s') l b N e I)
    (fin : ∀ i s, I i s → R (.ok (.ret (.bool ((List.range N).all e)))) s) (k : Nat) :
    ∀ i : Nat, N - i = k → i ≤ N → ((List.range N).drop i).all e = (List.range N).all e → ∀ s, I i s →
      wpAny (model prog w) A.in1 (Builtin.«list.__eq__.loop» ⟨[.ref l, .ref b, rawInt i, rawInt 2], []⟩) (FinOf prog w A R) (fun e s' => R (.error e) s') s := by
  induction k with
  | zero =>
    intro i hk hi hv s h
    obtain ⟨items, items2, n, n2, hl1, hb1, hs1, hs2, _⟩ := hl _ _ h
    have hi' : i = N := by omega
    have hR := fin _ s h
    rw [← hv, hi', List.drop_of_length_le (by simp)] at hR
    obtain ⟨hp, g, d, tk, os⟩ := s
    wp_walk using wpAny_loadPart' hl1, wpAny_loadPart' hb1
    have hi1 : items[((i : Nat) : Int).toNat]? = none := by simp; omega
    have hi2 : items2[((i : Nat) : Int).toNat]? = none := by simp; omega
    rw [hi1, hi2]
    wp_walk using wpAny_loadPart' hl1, wpAny_loadPart' hb1
    show R (.ok (.ret (.bool (items.size == items2.size)))) _
    rw [hs1, hs2]
    simpa using hR
  | succ k ih =>
    intro i hk hi hv s h
    obtain ⟨items, items2, n, n2, hl1, hb1, hs1, hs2, turn⟩ := hl _ _ h
    have hlt : i < items.size := by omega
    have hlt2 : i < items2.size := by omega
    have ht := turn hlt hlt2
    have hd : (List.range N).drop i = i :: (List.range N).drop (i + 1) := by
      have hN : i < (List.range N).length := by simp; omega
      rw [List.drop_eq_getElem_cons hN]; simp
    rw [hd, List.all_cons] at hv
    obtain ⟨hp, g, d, tk, os⟩ := s
    wp_walk using wpAny_loadPart' hl1, wpAny_loadPart' hb1
    have hi1 : items[((i : Nat) : Int).toNat]? = some items[i] := by simp [hlt]
    have hi2 : items2[((i : Nat) : Int).toNat]? = some items2[i] := by simp [hlt2]
    have hc : ((i : Int) + 1) = ((i + 1 : Nat) : Int) := by omega
    rw [hi1, hi2]
    refine wpAny_bind (wpAny_mono ht (fun r s2 h2 => ?_) fun _ _ x => x)
    obtain ⟨hr, h2⟩ := h2
    subst hr
    cases hy : e i with
    | true =>
      rw [hy, Bool.true_and] at hv
      have hrec := ih (i + 1) (by omega) (by omega) hv s2 h2
      obtain ⟨hp2, g2, d2, tk2, os2⟩ := s2
      wp_walk
      rw [hc]
      exact ⟨plainId_quiet plain_eq_loop _, codeAny_builtin entry_eq_loop (by
        rw [Around.under_plainId plain_eq_loop _]
        exact hrec)⟩
    | false =>
      rw [hy, Bool.false_and] at hv
      have hf := fin _ _ h2
      rw [← hv] at hf
      obtain ⟨itemsA, itemsB, nA, nB, hA, hB, hsA, hsB, _⟩ := hl _ _ h2
      obtain ⟨hp2, g2, d2, tk2, os2⟩ := s2
      wp_walk using wpAny_loadPart' hA, wpAny_loadPart' hB
      have hiA : itemsA[((i : Nat) : Int).toNat]? = some (itemsA[i]'(by omega)) := by simp
      have hiB : itemsB[((i : Nat) : Int).toNat]? = some (itemsB[i]'(by omega)) := by simp
      rw [hiA, hiB]
      wp_walk
      simpa using hf
theorem list_eqB (l b : Addr) (N : Nat) (e : Nat → Bool) (I : Nat → Shared → Prop) (hl : ListB prog w A (fun e s' => R (.error e) s') l b N e I)
    (fin : ∀ i s, I i s → R (.ok (.ret (.bool ((List.range N).all e)))) s) {s : Shared} (h : I 0 s) :
    wpAny (model prog w) A.in1 (Builtin.«list.__eq__» ⟨[.ref l, .ref b], []⟩) (FinOf prog w A R) (fun e s' => R (.error e) s') s := by
  obtain ⟨items, items2, n, n2, hl1, hb1, hs1, hs2, _⟩ := hl _ _ h
  have hrec := eq_loopB (A := A) (R := R) l b N e I hl fin _ 0 rfl (Nat.zero_le _) rfl s h
  obtain ⟨hp, g, d, tk, os⟩ := s
  have f3 := AutoSeq1.sub_list_list
  have hne : ¬ (items.size != items2.size) = true := by simp [hs1, hs2]
  wp_walk using wpAny_loadPart' hl1, wpAny_loadPart' hb1
  exact ⟨plainId_quiet plain_eq_loop _, codeAny_builtin entry_eq_loop (by
    rw [Around.under_plainId plain_eq_loop _]
    exact hrec)⟩
end
section
variable {prog : Program} {w : World} {A : Around} {E : Value → Shared → Prop} {s : Shared}
theorem rc_listB {l b : Addr} {N : Nat} {e : Nat → Bool} {Q : Value → Shared → Prop} (hu : A.units < cLine) (I : Nat → Shared → Prop) (hl : ListB prog w A E l b N e I)
    (fin : ∀ i s, I i s → Q (.bool ((List.range N).all e)) s) (h : I 0 s) : wpAny (model prog w) A (richCompare .Eq (.ref l) (.ref b)) Q E s := by
  obtain ⟨items, items2, n, n2, hl1, hb1, _, _, _⟩ := hl _ _ h
  refine wpAny_richCompare_same_room (op := .Eq) ⟨_, hl1, rfl⟩ ⟨_, hb1, rfl⟩ F.slot_list_eq (call_here F.slot_list_eq ⟨_, hl1, rfl⟩ F.entry_list_eq (F.args_list_eq_2 _ _) ?_) hu
  exact list_eqB (R := wants (fun v s' => v ≠ .notImplemented ∧ Q v s') E) l b N e I hl (fun i s' q => ⟨(fun x => nomatch x), fin i s' q⟩) h
theorem rc_tupB {l b : Addr} {items items2 : Array Value} {e : Nat → Bool} {Q : Value → Shared → Prop} (hu : A.units < cLine) (I : Nat → Shared → Prop)
    (hl : s.heap.IsTuple l items) (hb : s.heap.IsTuple b items2)
    (turn : ∀ i (h1 : i < items.size) (h2 : i < items2.size) s, I i s → wpAny (model prog w) A.in1 (eqBool items[i] items2[i]) (fun r s' => r = e i ∧ I (i + 1) s') E s)
    (fin : ∀ i s, I i s → Q (.bool (allEq items.size items2.size e)) s) (h : I 0 s) : wpAny (model prog w) A (richCompare .Eq (.ref l) (.ref b)) Q E s := by
  obtain ⟨⟨cls, dd, data, sl⟩, ho, hc, n, hd⟩ := id hl
  obtain ⟨⟨cls2, dd2, data2, sl2⟩, ho2, hc2, n2, hd2⟩ := id hb
  simp only at hc hd hc2 hd2
  subst hc hd hc2 hd2
  refine wpAny_richCompare_same_room (op := .Eq) ⟨_, ho, rfl⟩ ⟨_, ho2, rfl⟩ F.slot_tuple_eq (call_here F.slot_tuple_eq ⟨_, ho, rfl⟩ F.entry_tuple_eq (F.args_tuple_eq_2 _ _) ?_) hu
  exact tuple_eqB (R := wants (fun v s' => v ≠ .notImplemented ∧ Q v s') E) l b items items2 n n2 dd dd2 sl sl2 e I turn (fun i s' q => ⟨(fun x => nomatch x), fin i s' q⟩) ho ho2 h
theorem rc_tupNeB {l b : Addr} {items items2 : Array Value} {e : Nat → Bool} {Q : Value → Shared → Prop} (hu : A.units < cLine) (I : Nat → Shared → Prop)
    (hl : s.heap.IsTuple l items) (hb : s.heap.IsTuple b items2)
    (turn : ∀ i (h1 : i < items.size) (h2 : i < items2.size) s, I i s → wpAny (model prog w) A.in1 (eqBool items[i] items2[i]) (fun r s' => r = e i ∧ I (i + 1) s') E s)
    (fin : ∀ i s, I i s → Q (.bool (!allEq items.size items2.size e)) s) (h : I 0 s) : wpAny (model prog w) A (richCompare .NotEq (.ref l) (.ref b)) Q E s := by
  obtain ⟨⟨cls, dd, data, sl⟩, ho, hc, n, hd⟩ := id hl
  obtain ⟨⟨cls2, dd2, data2, sl2⟩, ho2, hc2, n2, hd2⟩ := id hb
  simp only at hc hd hc2 hd2
  subst hc hd hc2 hd2
  refine wpAny_richCompare_same_room (op := .NotEq) ⟨_, ho, rfl⟩ ⟨_, ho2, rfl⟩ F.slot_tuple_ne (call_here F.slot_tuple_ne ⟨_, ho, rfl⟩ F.entry_tuple_ne (F.args_tuple_ne_2 _ _) ?_) hu
  exact tuple_neB (R := wants (fun v s' => v ≠ .notImplemented ∧ Q v s') E) l b items items2 n n2 dd dd2 sl sl2 e I turn (fun i s' q => ⟨(fun x => nomatch x), fin i s' q⟩) ho ho2 h
end
end GQ
namespace PySem.W
open PyProof.Rows
section
variable {prog : Program} {w : World} {A : Around} {E : Value → Shared → Prop} {s : Shared} {K : Frag} {x C L f : Addr} {h₀ : Heap} {m : Str → Option Value} {ox : Obj} {od : Option Obj}
/-- a builtin thing == an object with an own ==, which is asked because the thing does not know -/
theorem cmpR_K {a : Value} {Ta ida : String} {Q : Value → Shared → Prop} (hu : A.units < cLine) (F : Fr h₀ L s.heap m) (X₀ : K.In h₀) (I : InstAt s.heap x ox C od) (ha : s.TypeIs a Ta)
    (hsub : subIn K (.ref C) (.type Ta) = some false) (h1 : Slot Ta (cmpInfo .Eq).2.1 ida)
    (hc1 : ∀ Q' : Value → Shared → Prop, Q' .notImplemented s → wpAny (model prog w) A (call (.builtin ida) [a, .ref x]) Q' E s)
    (hs : findIn K (.ref C) (cmpInfo .Eq).2.2 = some (some (.ref f))) (hf : isFn K (.ref f) = true)
    (h : wpAny (model prog w) A (call (.ref f) [.ref x, a]) (CmpBack Q) E s) : wpAny (model prog w) A (richCompare .Eq a (.ref x)) Q E s := by
  have X := X₀.keeps F.keep
  have one : wpAny (model prog w) A (tryCompare (.ref x) (cmpInfo .Eq).2.2 a) (fun r s' => ∃ v, r = some v ∧ Q v s') E s := by
    unfold tryCompare
    refine wpAny_bind (ifBound_K X I hs hf (wpAny_mono h (fun v s' hv => ?_) fun _ _ e => e))
    cases v <;> first | exact hv.elim | exact wpAny_pure ⟨_, rfl, hv⟩
  rcases hi : cmpInfo CmpOp.Eq with ⟨sym, fn, r⟩
  rw [hi] at h1 one
  simp only [richCompare, hi, ha.oneThing_none]
  try with_reducible refine wpAny_holding ?_
  refine wpAny_bind (wpAny_cRoomFor_or (.inr hu) ?_)
  refine wpAny_bind (wpAny_typeOf ha (wpAny_bind (I.type.here ?_)))
  have hne : (Value.type Ta != Value.ref C) = true := by simp
  simp only [hne, if_true]
  refine wpAny_bind ((looks_subIn X hsub).here ?_)
  simp only [Bool.false_eq_true, if_false, Bool.not_false, if_true]
  refine wpAny_bind (m := tryCompare a _ (.ref x)) (wpAny_tryCompare_declines ha h1 (hc1 _ ⟨rfl, ?_⟩))
  refine wpAny_bind (m := tryCompare (.ref x) _ a) (wpAny_mono one (fun r s' z => ?_) fun _ _ e => e)
  obtain ⟨v, rfl, hq⟩ := z
  exact wpAny_pure hq
end
end PySem.W
set_option linter.all false
/-! data with objects that have an own ==: what == says of two of them -/
namespace PySem.SeqAt
open AutoSeq1 (wpAny_loadPart')
open MeetsSeq MeetsSeq2 MeetsSeq3 SeqRoads2
section
variable {prog : Program} {w : World} {A : Around} {R : Result → Shared → Prop}
theorem tuple_eq_declines_own (l x : Addr) (items : Array Value) (n : Nat) (dd : Option Addr) (sl : Array (Option Value)) {s : Shared} (hI : PySem.W.Looks (model prog w) s.heap (isInstance (.ref x) (.type "tuple")) false)
    (hl : s.heap.get? l = some { cls := .type "tuple", dict := dd, data := .seq items n, slots := sl }) (hR : R (.ok (.ret .notImplemented)) s) :
    wpAny (model prog w) A.in1 (Builtin.«tuple.__eq__» ⟨[.ref l, .ref x], []⟩) (GQ.FinOf prog w A R) (fun e s' => R (.error e) s') s := by
  obtain ⟨hp, g, d, tk, os⟩ := s
  wp_walk using wpAny_loadPart' hl, hI.here
  exact hR
theorem list_eq_declines_own (l x : Addr) (items : Array Value) (n : Nat) {s : Shared} (hI : PySem.W.Looks (model prog w) s.heap (isInstance (.ref x) (.type "list")) false)
    (hl : s.heap.get? l = some { cls := .type "list", data := .seq items n }) (hR : R (.ok (.ret .notImplemented)) s) :
    wpAny (model prog w) A.in1 (Builtin.«list.__eq__» ⟨[.ref l, .ref x], []⟩) (GQ.FinOf prog w A R) (fun e s' => R (.error e) s') s := by
  obtain ⟨hp, g, d, tk, os⟩ := s
  wp_walk using wpAny_loadPart' hl, hI.here
  exact hR
end
end PySem.SeqAt
namespace L2
open PySem PySem.Spec PyProof.Rows
inductive OD where
  | fl (v : V)
  | tup (xs : List OD)
  | lst (xs : List OD)
  | obj (k : Nat) (xs : List OD)
structure OCls where
  C : Addr
  f : Addr
  names : List Str
  lv : Nat
section
variable (K : PySem.W.Frag) (cl : Nat → OCls) (H : Hp)
mutual
def Oh : OD → V → Prop
  | .fl v, x => x = v ∧ flatV v = true
  | .tup ds, x => ∃ a xs, x = .ref a ∧ SqT K H a xs ∧ OhAll ds xs
  | .lst ds, x => ∃ a xs, x = .ref a ∧ H a = some (.lst xs) ∧ OhAll ds xs
  | .obj k ds, x => ∃ a dx fs xs, x = .ref a ∧ H a = some (.ins (cl k).C dx fs) ∧ (cl k).names.map (fun n => fs.lookup n) = xs.map some ∧ OhAll ds xs
def OhAll : List OD → List V → Prop
  | [], xs => xs = []
  | d :: ds, xs => ∃ x ys, xs = x :: ys ∧ Oh d x ∧ OhAll ds ys
end
mutual
def eqo : OD → OD → Bool
  | .fl v, .fl w => eqV v w
  | .tup xs, .tup ys => eqoAll xs ys
  | .lst xs, .lst ys => eqoAll xs ys
  | .obj k xs, .obj l ys => k == l && eqoAll xs ys
  | _, _ => false
def eqoAll : List OD → List OD → Bool
  | [], [] => true
  | x :: xs, y :: ys => eqo x y && eqoAll xs ys
  | _, _ => false
end
mutual
def need : OD → Nat
  | .fl _ => 0
  | .tup xs => needAll xs + 1
  | .lst xs => needAll xs + 1
  | .obj k _ => (cl k).lv
def needAll : List OD → Nat
  | [] => 0
  | x :: xs => max (need x) (needAll xs)
end
variable (S : Nat → List OD → Prop)
mutual
def okO : OD → Prop
  | .fl _ => True
  | .tup xs => okAll xs
  | .lst xs => okAll xs
  | .obj k xs => S k xs ∧ okAll xs
def okAll : List OD → Prop
  | [] => True
  | x :: xs => okO x ∧ okAll xs
end
end
def flTy : V → String
  | .non => "NoneType"
  | .bl _ => "bool"
  | .int _ => "int"
  | _ => "str"
/-- the classes that are spoken of -/
def Dm (S : Nat → List OD → Prop) (k : Nat) : Prop := ∃ ds, S k ds
/-- what the text must have of the classes with an own == -/
structure OwnCls (K : PySem.W.Frag) (cl : Nat → OCls) (S : Nat → List OD → Prop) : Prop where
  eqf : ∀ k, Dm S k → PySem.W.findIn K (.ref (cl k).C) "__eq__" = some (some (.ref (cl k).f))
  isf : ∀ k, Dm S k → PySem.W.isFn K (.ref (cl k).f) = true
  inj : ∀ k l, Dm S k → Dm S l → (cl k).C = (cl l).C → k = l
  sub : ∀ k l, Dm S k → Dm S l → k ≠ l → PySem.W.subIn K (.ref (cl l).C) (.ref (cl k).C) = some false
  sT : ∀ k, Dm S k → ∀ T, T ∈ ["NoneType", "bool", "int", "str", "tuple", "list"] → PySem.W.subIn K (.type T) (.ref (cl k).C) = some false ∧ PySem.W.subIn K (.ref (cl k).C) (.type T) = some false
/-- what the own == of these classes promise -/
def OwnGives (X : Cx) (cl : Nat → OCls) (S : Nat → List OD → Prop) : Prop :=
  ∀ k ds, S k ds → ∀ (A : Around) (pins : List (Addr × Obj)) (s : Shared) (σ : St) (H : Hp) (a : Addr) (e : OD) (y : V) (v : Value), Sub X (cl k).lv A → Inv X pins σ H s → RelV y v → Oh X.K cl H (.obj k ds) (.ref a) → Oh X.K cl H e y → okAll S ds → okO S e →
    wpAny (model X.prog X.w) A (call (.ref (cl k).f) [.ref a, v]) (fun r s' => r = .bool (eqo (.obj k ds) e) ∧ ∃ H', Inv X pins σ H' s' ∧ Ext H H') X.xe s
section
variable {K : PySem.W.Frag} {cl : Nat → OCls} {S : Nat → List OD → Prop}
mutual
theorem Oh.ext {H H' : Hp} (x : Ext H H') : ∀ (d : OD) (v : V), Oh K cl H d v → Oh K cl H' d v
  | .fl _, _, h => h
  | .tup ds, _, ⟨a, xs, e, h, q⟩ => ⟨a, xs, e, h.ext x, OhAll.ext x ds xs q⟩
  | .lst ds, _, ⟨a, xs, e, h, q⟩ => ⟨a, xs, e, x _ _ h, OhAll.ext x ds xs q⟩
  | .obj _ ds, _, ⟨a, dx, fs, xs, e, h, l, q⟩ => ⟨a, dx, fs, xs, e, x _ _ h, l, OhAll.ext x ds xs q⟩
theorem OhAll.ext {H H' : Hp} (x : Ext H H') : ∀ (ds : List OD) (xs : List V), OhAll K cl H ds xs → OhAll K cl H' ds xs
  | [], _, h => h
  | d :: ds, _, ⟨v, ys, e, h, q⟩ => ⟨v, ys, e, Oh.ext x d v h, OhAll.ext x ds ys q⟩
end
theorem OhAll.length {H : Hp} : ∀ (ds : List OD) (xs : List V), OhAll K cl H ds xs → ds.length = xs.length
  | [], _, h => by cases h; rfl
  | d :: ds, _, ⟨v, ys, e, _, q⟩ => by rw [e, List.length_cons, List.length_cons, OhAll.length ds ys q]
theorem eqV_refl {v : V} (h : flatV v = true) : eqV v v = true := by
  cases v with
  | non => rfl
  | bl b => show (b == b) = true; exact beq_self_eq_true b
  | int b => show (b == b) = true; exact beq_self_eq_true b
  | str b => show (b == b) = true; exact beq_self_eq_true b
  | _ => cases h
theorem relV_inj {x y : V} {u : Value} (h : RelV x u) (h' : RelV y u) : x = y := by
  cases x <;> cases y <;> simp_all [RelV]
  all_goals (obtain ⟨t, rfl⟩ := h; obtain ⟨t', e⟩ := h'; cases e; try rfl)
theorem map_some_inj : ∀ {xs ys : List V}, xs.map some = ys.map some → xs = ys
  | [], [], _ => rfl
  | [], _ :: _, h => by cases h
  | _ :: _, [], h => by cases h
  | x :: xs, y :: ys, h => by
    rw [List.map_cons, List.map_cons] at h
    injection h with h1 h2
    rw [Option.some.inj h1, map_some_inj h2]
theorem vals_inj : ∀ {xs ys : List V} {us : List Value}, Vals xs us → Vals ys us → xs = ys
  | _, _, _, .nil, .nil => rfl
  | _, _, _, .cons a r, .cons b t => by rw [relV_inj a b, vals_inj r t]
section
variable {X : Cx} {pins : List (Addr × Obj)} {s : Shared} {σ : St} {H : Hp}
theorem tup_obj {a C dx : Addr} {xs : List V} {fs : List (Str × V)} (I : Inv X pins σ H s) (h : SqT X.K H a xs) (h' : H a = some (.ins C dx fs)) : False := by
  obtain ⟨its, r, t, z⟩ := I.tuple h
  obtain ⟨o, ho, hc, _⟩ := t
  obtain ⟨_, O, _⟩ := ins_get I.hok h'
  rw [O.obj] at ho
  cases ho
  cases hc
mutual
theorem eqo_same (W : OwnCls X.K cl S) (I : Inv X pins σ H s) : ∀ (d e : OD) (x : V), Oh X.K cl H d x → Oh X.K cl H e x → okO S d → okO S e → eqo d e = true
  | .fl v, .fl w, x, hd, he, _, _ => by
    obtain ⟨rfl, h⟩ := hd
    obtain ⟨rfl, h'⟩ := he
    exact eqV_refl h
  | .tup ds, .tup es, x, hd, he, oD, oE => by
    obtain ⟨a, xs, rfl, h, q⟩ := hd
    obtain ⟨b, ys, e, h', q'⟩ := he
    cases e
    obtain ⟨its, r, t, z⟩ := I.tuple h
    obtain ⟨its', r', t', z'⟩ := I.tuple h'
    obtain ⟨o, ho, _, n, hn⟩ := t
    obtain ⟨o', ho', _, n', hn'⟩ := t'
    rw [ho] at ho'
    cases ho'
    rw [hn] at hn'
    have e1 : its = its' := by injection hn' with e1 _; exact congrArg Array.toList e1
    subst e1
    rw [← vals_inj r r'] at q'
    exact eqoAll_same W I ds es xs q q' oD oE
  | .lst ds, .lst es, x, hd, he, oD, oE => by
    obtain ⟨a, xs, rfl, h, q⟩ := hd
    obtain ⟨b, ys, e, h', q'⟩ := he
    cases e
    rw [h] at h'
    cases h'
    exact eqoAll_same W I ds es xs q q' oD oE
  | .obj k ds, .obj l es, x, hd, he, oD, oE => by
    obtain ⟨a, dx, fs, xs, rfl, h, n, q⟩ := hd
    obtain ⟨b, dy, gs, ys, e, h', n', q'⟩ := he
    cases e
    rw [h] at h'
    have e1 : (cl k).C = (cl l).C := by injection h' with h'; injection h' with h'
    have e2 : fs = gs := by injection h' with h'; injection h' with _ _ h'
    have e3 := W.inj k l ⟨_, oD.1⟩ ⟨_, oE.1⟩ e1
    subst e3 e2
    rw [n] at n'
    have e4 : xs = ys := map_some_inj n'
    subst e4
    show (k == k && eqoAll ds es) = true
    rw [beq_self_eq_true, eqoAll_same W I ds es xs q q' oD.2 oE.2]
    rfl
  | .fl v, .tup _, x, hd, he, _, _ => by obtain ⟨rfl, h⟩ := hd; obtain ⟨a, xs, rfl, _⟩ := he; cases h
  | .fl v, .lst _, x, hd, he, _, _ => by obtain ⟨rfl, h⟩ := hd; obtain ⟨a, xs, rfl, _⟩ := he; cases h
  | .fl v, .obj _ _, x, hd, he, _, _ => by obtain ⟨rfl, h⟩ := hd; obtain ⟨a, dx, fs, xs, rfl, _⟩ := he; cases h
  | .tup _, .fl v, x, hd, he, _, _ => by obtain ⟨rfl, h⟩ := he; obtain ⟨a, xs, rfl, _⟩ := hd; cases h
  | .lst _, .fl v, x, hd, he, _, _ => by obtain ⟨rfl, h⟩ := he; obtain ⟨a, xs, rfl, _⟩ := hd; cases h
  | .obj _ _, .fl v, x, hd, he, _, _ => by obtain ⟨rfl, h⟩ := he; obtain ⟨a, dx, fs, xs, rfl, _⟩ := hd; cases h
  | .tup _, .lst _, x, hd, he, _, _ => by
    obtain ⟨a, xs, rfl, h, _⟩ := hd
    obtain ⟨b, ys, e, h', _⟩ := he
    cases e
    obtain ⟨its, r, t, z⟩ := I.tuple h
    obtain ⟨z2, its2, k2, r2, e2⟩ := I.hok _ _ h'
    exact absurd rfl (SeqAt.ne_of_list_tuple ⟨_, e2, rfl, _, rfl⟩ t)
  | .lst _, .tup _, x, hd, he, _, _ => by
    obtain ⟨a, xs, rfl, h, _⟩ := he
    obtain ⟨b, ys, e, h', _⟩ := hd
    cases e
    obtain ⟨its, r, t, z⟩ := I.tuple h
    obtain ⟨z2, its2, k2, r2, e2⟩ := I.hok _ _ h'
    exact absurd rfl (SeqAt.ne_of_list_tuple ⟨_, e2, rfl, _, rfl⟩ t)
  | .tup _, .obj _ _, x, hd, he, _, _ => by
    obtain ⟨a, xs, rfl, h, _⟩ := hd
    obtain ⟨b, dx, fs, ys, e, h', _⟩ := he
    cases e
    exact (tup_obj I h h').elim
  | .obj _ _, .tup _, x, hd, he, _, _ => by
    obtain ⟨a, xs, rfl, h, _⟩ := he
    obtain ⟨b, dx, fs, ys, e, h', _⟩ := hd
    cases e
    exact (tup_obj I h h').elim
  | .lst _, .obj _ _, x, hd, he, _, _ => by
    obtain ⟨a, xs, rfl, h, _⟩ := hd
    obtain ⟨b, dx, fs, ys, e, h', _⟩ := he
    cases e
    rw [h] at h'
    cases h'
  | .obj _ _, .lst _, x, hd, he, _, _ => by
    obtain ⟨a, xs, rfl, h, _⟩ := he
    obtain ⟨b, dx, fs, ys, e, h', _⟩ := hd
    cases e
    rw [h] at h'
    cases h'
theorem eqoAll_same (W : OwnCls X.K cl S) (I : Inv X pins σ H s) : ∀ (ds es : List OD) (xs : List V), OhAll X.K cl H ds xs → OhAll X.K cl H es xs → okAll S ds → okAll S es → eqoAll ds es = true
  | [], [], _, _, _, _, _ => rfl
  | d :: ds, e :: es, _, ⟨x, xs, rfl, h, q⟩, ⟨y, ys, e1, h', q'⟩, oD, oE => by
    cases e1
    show (eqo d e && eqoAll ds es) = true
    rw [eqo_same W I d e x h h' oD.1 oE.1, eqoAll_same W I ds es xs q q' oD.2 oE.2]
    rfl
  | [], e :: es, _, h, ⟨y, ys, e1, h', q'⟩, _, _ => by
    have h : _ = [] := h
    rw [e1] at h
    cases h
  | d :: ds, [], _, ⟨y, ys, e1, h', q'⟩, h, _, _ => by
    have h : _ = [] := h
    rw [e1] at h
    cases h
end
end
end
end L2
set_option linter.all false
namespace L2
open PySem PySem.Spec PyProof.Rows
section
variable {cl : Nat → OCls} {S : Nat → List OD → Prop} {X : Cx}
/-- what is asked where == is asked -/
abbrev After (X : Cx) (pins : List (Addr × Obj)) (σ : St) (H : Hp) (b : Bool) : Value → Shared → Prop := fun r s' => r = .bool b ∧ ∃ H', Inv X pins σ H' s' ∧ Ext H H'
theorem own_back (G : OwnGives X cl S) {k : Nat} {ds : List OD} (hk : S k ds) {A : Around} {pins : List (Addr × Obj)} {s : Shared} {σ : St} {H : Hp} {a : Addr} {e : OD} {y : V} {v : Value} (sb : Sub X (cl k).lv A) (I : Inv X pins σ H s) (ry : RelV y v) (h : Oh X.K cl H (.obj k ds) (.ref a)) (he : Oh X.K cl H e y) (oD : okAll S ds) (oE : okO S e) :
    wpAny (model X.prog X.w) A (call (.ref (cl k).f) [.ref a, v]) (PySem.W.CmpBack (After X pins σ H (eqo (.obj k ds) e))) X.xe s :=
  wpAny_mono (G k ds hk A pins s σ H a e y v sb I ry h he oD oE) (fun r s' q => by
    obtain ⟨rfl, q⟩ := q
    exact ⟨rfl, q⟩) fun _ _ e => e
theorem flTy_looks {x : V} {u : Value} (h : flatV x = true) (r : RelV x u) {M : Model} {hp : Heap} : PySem.W.Looks M hp (typeOf u) (.type (flTy x)) := by
  cases x with
  | non => cases r; exact PySem.W.Looks.of_pure rfl
  | bl b => cases r; exact PySem.W.Looks.of_pure rfl
  | int b => obtain ⟨t, rfl⟩ := r; exact PySem.W.Looks.of_pure rfl
  | str b => obtain ⟨t, rfl⟩ := r; exact PySem.W.Looks.of_pure rfl
  | _ => cases h
theorem flTy_mem {x : V} (h : flatV x = true) : flTy x ∈ ["NoneType", "bool", "int", "str", "tuple", "list"] := by
  cases x with
  | non => decide
  | bl b => simp [flTy]
  | int b => simp [flTy]
  | str b => simp [flTy]
  | _ => cases h
theorem ty_looks (W : OwnCls X.K cl S) {pins : List (Addr × Obj)} {s : Shared} {σ : St} {H : Hp} (I : Inv X pins σ H s) {k : Nat} (hk : Dm S k) {e : OD} {y : V} {v : Value} (ry : RelV y v) (he : Oh X.K cl H e y) (oE : okO S e) :
    ∃ tb, PySem.W.Looks (model X.prog X.w) s.heap (typeOf v) tb ∧ PySem.W.notFirst X.K (cl k).C tb = true := by
  cases e with
  | fl w =>
    obtain ⟨rfl, h⟩ := he
    refine ⟨_, flTy_looks h ry, ?_⟩
    unfold PySem.W.notFirst
    rw [(W.sT k hk _ (flTy_mem h)).1]
    simp
  | tup es =>
    obtain ⟨b, xs, rfl, h, _⟩ := he
    obtain rfl : v = Value.ref b := ry
    obtain ⟨its, r, ht, hz⟩ := I.tuple h
    obtain ⟨o, ho, hc⟩ := ht.typeIs
    refine ⟨.type "tuple", hc ▸ (PySem.W.Looks.ld ho).andThen .now, ?_⟩
    unfold PySem.W.notFirst
    rw [(W.sT k hk "tuple" (by decide)).1]
    simp
  | lst es =>
    obtain ⟨b, xs, rfl, h, _⟩ := he
    obtain rfl : v = Value.ref b := ry
    obtain ⟨z2, its2, k2, r2, e2⟩ := I.hok _ _ h
    refine ⟨.type "list", (PySem.W.Looks.ld e2).andThen .now, ?_⟩
    unfold PySem.W.notFirst
    rw [(W.sT k hk "list" (by decide)).1]
    simp
  | obj l es =>
    obtain ⟨b, dx, fs, xs, rfl, h, _, _⟩ := he
    obtain rfl : v = Value.ref b := ry
    obtain ⟨_, O2, _⟩ := ins_get I.hok h
    obtain ⟨o2, J2, _⟩ := O2.look
    refine ⟨.ref (cl l).C, J2.type, ?_⟩
    unfold PySem.W.notFirst
    by_cases hl : k = l
    · subst hl; simp
    · rw [W.sub k l hk ⟨_, oE.1⟩ hl]; simp
/-- an object with an own == on the left -/
theorem rcB_objL (W : OwnCls X.K cl S) (G : OwnGives X cl S) {k : Nat} {A : Around} {pins : List (Addr × Obj)} {s : Shared} {σ : St} {H : Hp} {ds : List OD} {e : OD} {x y : V} {u v : Value} (sb : Sub X (cl k).lv A) (I : Inv X pins σ H s) (rx : RelV x u) (ry : RelV y v) (h : Oh X.K cl H (.obj k ds) x) (he : Oh X.K cl H e y) (oD : okO S (.obj k ds)) (oE : okO S e) :
    wpAny (model X.prog X.w) A (richCompare .Eq u v) (After X pins σ H (eqo (.obj k ds) e)) X.xe s := by
  obtain ⟨a, dx, fs, xs, rfl, hi, hn, hq⟩ := id h
  cases rx
  obtain ⟨_, O1, _⟩ := ins_get I.hok hi
  obtain ⟨o1, J1, _⟩ := O1.look
  obtain ⟨m, hF⟩ := I.fr
  obtain ⟨tb, L, hn⟩ := ty_looks W I ⟨_, oD.1⟩ ry he oE
  exact PySem.W.cmp_K (op := .Eq) (tb := tb) sb.room.units0 hF I.ok.mod.kin J1 L hn (W.eqf k ⟨_, oD.1⟩) (W.isf k ⟨_, oD.1⟩) (own_back G oD.1 sb I ry h he oD.2 oE)
theorem eqo_obj_fl {k : Nat} {ds : List OD} {w : V} : eqo (.obj k ds) (.fl w) = false := by rw [eqo]; all_goals simp
theorem eqo_fl_obj {k : Nat} {ds : List OD} {w : V} : eqo (.fl w) (.obj k ds) = false := by rw [eqo]; all_goals simp
theorem eqo_obj_tup {k : Nat} {ds es : List OD} : eqo (.obj k ds) (.tup es) = false := by rw [eqo]; all_goals simp
theorem eqo_tup_obj {k : Nat} {ds es : List OD} : eqo (.tup es) (.obj k ds) = false := by rw [eqo]; all_goals simp
theorem eqo_obj_lst {k : Nat} {ds es : List OD} : eqo (.obj k ds) (.lst es) = false := by rw [eqo]; all_goals simp
theorem eqo_lst_obj {k : Nat} {ds es : List OD} : eqo (.lst es) (.obj k ds) = false := by rw [eqo]; all_goals simp
theorem rcB_flObj (W : OwnCls X.K cl S) (G : OwnGives X cl S) {k : Nat} {A : Around} {pins : List (Addr × Obj)} {s : Shared} {σ : St} {H : Hp} {ds : List OD} {w : V} {x y : V} {u v : Value} (sb : Sub X (cl k).lv A) (I : Inv X pins σ H s) (rx : RelV x u) (ry : RelV y v) (h : Oh X.K cl H (.fl w) x) (he : Oh X.K cl H (.obj k ds) y) (oE : okO S (.obj k ds)) :
    wpAny (model X.prog X.w) A (richCompare .Eq u v) (After X pins σ H (eqo (.fl w) (.obj k ds))) X.xe s := by
  obtain ⟨a, dx, fs, xs, rfl, hi, hn, hq⟩ := id he
  cases ry
  obtain ⟨_, O1, _⟩ := ins_get I.hok hi
  obtain ⟨o1, J1, _⟩ := O1.look
  obtain ⟨m, hF⟩ := I.fr
  have hb := own_back G oE.1 sb I rx he h oE.2 trivial
  rw [eqo_obj_fl] at hb
  rw [eqo_fl_obj]
  obtain ⟨rfl, hf⟩ := h
  have sT := (W.sT k ⟨_, oE.1⟩ _ (flTy_mem hf)).2
  have ox := O1.obj
  cases x with
  | non =>
    cases rx
    exact PySem.W.cmpR_K sb.room.units0 hF I.ok.mod.kin J1 rfl sT F.slot_NoneType_eq (fun _ hq => call_gives F.slot_NoneType_eq rfl F.entry_NoneType_eq (F.args_NoneType_eq_2 _ _) (SeqAt.NoneType___eq___none_ref_0 _) hq) (W.eqf k ⟨_, oE.1⟩) (W.isf k ⟨_, oE.1⟩) hb
  | int b =>
    obtain ⟨t, rfl⟩ := rx
    exact PySem.W.cmpR_K sb.room.units0 hF I.ok.mod.kin J1 (typeIs_int s b t) sT F.slot_int_eq (fun _ hq => call_meets F.slot_int_eq (typeIs_int s b t) F.entry_int_eq (F.args_int_eq_2 _ _) (SeqAt.int_eq_declines_plain b t _ _ _ _) ⟨ox, hq⟩) (W.eqf k ⟨_, oE.1⟩) (W.isf k ⟨_, oE.1⟩) hb
  | str b =>
    obtain ⟨t, rfl⟩ := rx
    exact PySem.W.cmpR_K sb.room.units0 hF I.ok.mod.kin J1 (typeIs_str s b t) sT F.slot_str_eq (fun _ hq => call_meets F.slot_str_eq (typeIs_str s b t) F.entry_str_eq (F.args_str_eq_2 _ _) (SeqAt.str_eq_declines_plain b t _ _ _ _) ⟨ox, hq⟩) (W.eqf k ⟨_, oE.1⟩) (W.isf k ⟨_, oE.1⟩) hb
  | bl b =>
    cases rx
    exact PySem.W.cmpR_K sb.room.units0 hF I.ok.mod.kin J1 (PySem.typeIs_bool s b) sT F.slot_bool_eq (fun _ hq => call_meets F.slot_bool_eq (PySem.typeIs_bool s b) F.entry_int_eq (F.args_int_eq_2 _ _) (SeqAt.bool_eq_declines_plain b _ _ _ _) ⟨ox, hq⟩) (W.eqf k ⟨_, oE.1⟩) (W.isf k ⟨_, oE.1⟩) hb
  | _ => cases hf
theorem rcB_tupObj (W : OwnCls X.K cl S) (G : OwnGives X cl S) {k : Nat} {A : Around} {pins : List (Addr × Obj)} {s : Shared} {σ : St} {H : Hp} {ds es : List OD} {x y : V} {u v : Value} (sb : Sub X (cl k).lv A) (I : Inv X pins σ H s) (rx : RelV x u) (ry : RelV y v) (h : Oh X.K cl H (.tup es) x) (he : Oh X.K cl H (.obj k ds) y) (oD : okO S (.tup es)) (oE : okO S (.obj k ds)) :
    wpAny (model X.prog X.w) A (richCompare .Eq u v) (After X pins σ H (eqo (.tup es) (.obj k ds))) X.xe s := by
  obtain ⟨a, dx, fs, xs, rfl, hi, hn, hq⟩ := id he
  cases ry
  obtain ⟨_, O1, _⟩ := ins_get I.hok hi
  obtain ⟨o1, J1, _⟩ := O1.look
  obtain ⟨m, hF⟩ := I.fr
  have hb := own_back G oE.1 sb I rx he h oE.2 oD
  rw [eqo_obj_tup] at hb
  rw [eqo_tup_obj]
  obtain ⟨b, ys, rfl, hs, _⟩ := h
  cases rx
  obtain ⟨its, r, ht, hz⟩ := I.tuple hs
  have sT := (W.sT k ⟨_, oE.1⟩ "tuple" (by decide)).2
  have hI : PySem.W.Looks (model X.prog X.w) s.heap (isInstance (.ref a) (.type "tuple")) false := J1.type.andThen (PySem.W.looks_subIn (I.ok.mod.kin.keeps hF.keep) sT)
  obtain ⟨⟨cls, dd, data, sl⟩, ho, hc, n, hd⟩ := id ht
  simp only at hc hd
  subst hc hd
  exact PySem.W.cmpR_K sb.room.units0 hF I.ok.mod.kin J1 ⟨_, ho, rfl⟩ sT F.slot_tuple_eq (fun Q' hq => GQ.call_here F.slot_tuple_eq ⟨_, ho, rfl⟩ F.entry_tuple_eq (F.args_tuple_eq_2 _ _) (SeqAt.tuple_eq_declines_own (R := wants Q' X.xe) b a _ n dd sl hI ho hq)) (W.eqf k ⟨_, oE.1⟩) (W.isf k ⟨_, oE.1⟩) hb
theorem rcB_lstObj (W : OwnCls X.K cl S) (G : OwnGives X cl S) {k : Nat} {A : Around} {pins : List (Addr × Obj)} {s : Shared} {σ : St} {H : Hp} {ds es : List OD} {x y : V} {u v : Value} (sb : Sub X (cl k).lv A) (I : Inv X pins σ H s) (rx : RelV x u) (ry : RelV y v) (h : Oh X.K cl H (.lst es) x) (he : Oh X.K cl H (.obj k ds) y) (oD : okO S (.lst es)) (oE : okO S (.obj k ds)) :
    wpAny (model X.prog X.w) A (richCompare .Eq u v) (After X pins σ H (eqo (.lst es) (.obj k ds))) X.xe s := by
  obtain ⟨a, dx, fs, xs, rfl, hi, hn, hq⟩ := id he
  cases ry
  obtain ⟨_, O1, _⟩ := ins_get I.hok hi
  obtain ⟨o1, J1, _⟩ := O1.look
  obtain ⟨m, hF⟩ := I.fr
  have hb := own_back G oE.1 sb I rx he h oE.2 oD
  rw [eqo_obj_lst] at hb
  rw [eqo_lst_obj]
  obtain ⟨b, ys, rfl, hs, _⟩ := h
  cases rx
  obtain ⟨z, its, n, r, ho⟩ := I.hok _ _ hs
  have sT := (W.sT k ⟨_, oE.1⟩ "list" (by decide)).2
  have hI : PySem.W.Looks (model X.prog X.w) s.heap (isInstance (.ref a) (.type "list")) false := J1.type.andThen (PySem.W.looks_subIn (I.ok.mod.kin.keeps hF.keep) sT)
  exact PySem.W.cmpR_K sb.room.units0 hF I.ok.mod.kin J1 ⟨_, ho, rfl⟩ sT F.slot_list_eq (fun Q' hq => GQ.call_here F.slot_list_eq ⟨_, ho, rfl⟩ F.entry_list_eq (F.args_list_eq_2 _ _) (SeqAt.list_eq_declines_own (R := wants Q' X.xe) b a _ n hI ho hq)) (W.eqf k ⟨_, oE.1⟩) (W.isf k ⟨_, oE.1⟩) hb
theorem allEq_eqo : ∀ (ds es : List OD) (e : Nat → Bool), (∀ i d c, ds[i]? = some d → es[i]? = some c → e i = eqo d c) → GQ.allEq ds.length es.length e = eqoAll ds es
  | [], [], e, _ => rfl
  | [], _ :: _, e, _ => by simp [GQ.allEq, eqoAll]
  | _ :: _, [], e, _ => by simp [GQ.allEq, eqoAll]
  | d :: ds, c :: es, e, h => by
    have ih := allEq_eqo ds es (fun i => e (i + 1)) fun i d' c' h1 h2 => h (i + 1) d' c' (by simpa using h1) (by simpa using h2)
    have h0 : e 0 = eqo d c := h 0 d c rfl rfl
    unfold GQ.allEq at ih ⊢
    rw [eqoAll, ← ih, ← h0]
    have hm : min (d :: ds).length (c :: es).length = min ds.length es.length + 1 := by simp [Nat.succ_min_succ]
    rw [hm, List.range_succ_eq_map, List.all_cons, List.all_map]
    simp [Function.comp_def, Bool.and_assoc]
theorem need_get : ∀ (ds : List OD) (i : Nat) (d : OD), ds[i]? = some d → need cl d ≤ needAll cl ds
  | [], i, d, h => by simp at h
  | x :: xs, 0, d, h => by
    simp at h
    subst h
    show need cl x ≤ max (need cl x) (needAll cl xs)
    omega
  | x :: xs, i + 1, d, h => by
    have := need_get xs i d (by simpa using h)
    show need cl d ≤ max (need cl x) (needAll cl xs)
    omega
theorem okAll_get : ∀ (ds : List OD) (i : Nat) (d : OD), okAll S ds → ds[i]? = some d → okO S d
  | [], i, d, _, h => by simp at h
  | x :: xs, 0, d, o, h => by simp at h; subst h; exact o.1
  | x :: xs, i + 1, d, o, h => okAll_get xs i d o.2 (by simpa using h)
theorem ohAll_get {K : PySem.W.Frag} {H : Hp} : ∀ (ds : List OD) (xs : List V) (i : Nat) (x : V), OhAll K cl H ds xs → xs[i]? = some x → ∃ d, ds[i]? = some d ∧ Oh K cl H d x
  | [], xs, i, x, h, e => by cases h; simp at e
  | d :: ds, _, 0, x, ⟨y, ys, rfl, h, q⟩, e => by simp at e; subst e; exact ⟨d, rfl, h⟩
  | d :: ds, _, i + 1, x, ⟨y, ys, rfl, h, q⟩, e => by
    obtain ⟨d', h1, h2⟩ := ohAll_get ds ys i x q (by simpa using e)
    exact ⟨d', by simpa using h1, h2⟩
def EqOD (X : Cx) (cl : Nat → OCls) (S : Nat → List OD → Prop) (d e : OD) : Prop :=
  ∀ (A : Around) (pins : List (Addr × Obj)) (s : Shared) (σ : St) (H : Hp) (x y : V) (u v : Value), Sub X (max (need cl d) (need cl e)) A → Inv X pins σ H s → RelV x u → RelV y v → Oh X.K cl H d x → Oh X.K cl H e y → okO S d → okO S e →
    wpAny (model X.prog X.w) A (eqBool u v) (fun r s' => r = eqo d e ∧ ∃ H', Inv X pins σ H' s' ∧ Ext H H') X.xe s
def RcOD (X : Cx) (cl : Nat → OCls) (S : Nat → List OD → Prop) (d e : OD) : Prop :=
  ∀ (A : Around) (pins : List (Addr × Obj)) (s : Shared) (σ : St) (H : Hp) (x y : V) (u v : Value), Sub X (max (need cl d) (need cl e)) A → Inv X pins σ H s → RelV x u → RelV y v → Oh X.K cl H d x → Oh X.K cl H e y → okO S d → okO S e →
    wpAny (model X.prog X.w) A (richCompare .Eq u v) (After X pins σ H (eqo d e)) X.xe s
/-- what the items of two rows need -/
theorem turnOD {ds es : List OD} (h : ∀ (i : Nat) (d e : OD), ds[i]? = some d → es[i]? = some e → EqOD X cl S d e) {A : Around} (sb : Sub X (max (needAll cl ds) (needAll cl es) + 1) A) {pins : List (Addr × Obj)} {σ : St} {H : Hp} {xs ys : List V} {its its2 : List Value}
    (p : OhAll X.K cl H ds xs) (q : OhAll X.K cl H es ys) (oD : okAll S ds) (oE : okAll S es) (r : Vals xs its) (r2 : Vals ys its2) (c : Nat → Bool) (hc : ∀ (i : Nat) (d e : OD), ds[i]? = some d → es[i]? = some e → c i = eqo d e)
    (i : Nat) (h1 : i < its.toArray.size) (h2 : i < its2.toArray.size) (s' : Shared) (l : LoopI X pins σ H s') :
    wpAny (model X.prog X.w) A.in1 (eqBool its.toArray[i] its2.toArray[i]) (fun r s2 => r = c i ∧ LoopI X pins σ H s2) X.xe s' := by
  obtain ⟨H1, I1, e1⟩ := l
  have g1 : its[i]? = some its.toArray[i] := by
    have h1' : i < its.length := by simpa using h1
    rw [List.getElem?_eq_getElem h1'] <;> simp
  have g2 : its2[i]? = some its2.toArray[i] := by
    have h2' : i < its2.length := by simpa using h2
    rw [List.getElem?_eq_getElem h2'] <;> simp
  have k1 : i < xs.length := by rw [r.length]; simpa using h1
  have k2 : i < ys.length := by rw [r2.length]; simpa using h2
  obtain ⟨u, hu, ru⟩ := r.get (List.getElem?_eq_getElem k1)
  obtain ⟨v, hv, rv⟩ := r2.get (List.getElem?_eq_getElem k2)
  rw [g1] at hu
  rw [g2] at hv
  rw [Option.some.inj hu, Option.some.inj hv]
  obtain ⟨d, hd, od⟩ := ohAll_get ds xs i _ p (List.getElem?_eq_getElem k1)
  obtain ⟨e, he, oe⟩ := ohAll_get es ys i _ q (List.getElem?_eq_getElem k2)
  have n1 := need_get (cl := cl) ds i d hd
  have n2 := need_get (cl := cl) es i e he
  refine wpAny_mono (h i d e hd he A.in1 pins s' σ H1 _ _ u v (sb.in1.mono (by omega)) I1 ru rv (Oh.ext e1 _ _ od) (Oh.ext e1 _ _ oe) (okAll_get ds i d oD hd) (okAll_get es i e oE he)) (fun r s2 q => ?_) fun _ _ x => x
  obtain ⟨hr, H2, I2, e2⟩ := q
  exact ⟨hr.trans (hc i d e hd he).symm, H2, I2, e1.trans e2⟩
/-- the answers of the pairs -/
def pairs (ds es : List OD) (i : Nat) : Bool := match ds[i]?, es[i]? with
  | some d, some e => eqo d e
  | _, _ => false
theorem pairs_eq {ds es : List OD} {i : Nat} {d e : OD} (h1 : ds[i]? = some d) (h2 : es[i]? = some e) : pairs ds es i = eqo d e := by unfold pairs; rw [h1, h2]
theorem rcOD_tup {ds es : List OD} (h : ∀ (i : Nat) (d e : OD), ds[i]? = some d → es[i]? = some e → EqOD X cl S d e) : RcOD X cl S (.tup ds) (.tup es) := by
  intro A pins s σ H x y u v sb I rx ry hd he oD oE
  obtain ⟨a, xs, rfl, ha, p⟩ := hd
  obtain ⟨b, ys, rfl, hb, q⟩ := he
  cases rx
  cases ry
  obtain ⟨its, r, e, z⟩ := I.tuple ha
  obtain ⟨its2, r2, e2, z2⟩ := I.tuple hb
  have sb' : Sub X (max (needAll cl ds) (needAll cl es) + 1) A := sb.mono (by show _ ≤ max (needAll cl ds + 1) (needAll cl es + 1); omega)
  have z1 : GQ.allEq its.toArray.size its2.toArray.size (pairs ds es) = eqo (.tup ds) (.tup es) := by
    rw [List.size_toArray, List.size_toArray, ← r.length, ← r2.length, ← OhAll.length ds xs p, ← OhAll.length es ys q]
    exact allEq_eqo ds es _ fun i d c h1 h2 => pairs_eq h1 h2
  exact GQ.rc_tupB sb.room.units0 (fun _ s' => LoopI X pins σ H s') e e2 (fun i h1 h2 s' l => turnOD h sb' p q oD oE r r2 (pairs ds es) (fun i d c h1 h2 => pairs_eq h1 h2) i h1 h2 s' l) (fun i s' l => by rw [z1]; exact ⟨rfl, l⟩) ⟨H, I, Ext.rfl'⟩
theorem rcOD_lst {ds es : List OD} (h : ∀ (i : Nat) (d e : OD), ds[i]? = some d → es[i]? = some e → EqOD X cl S d e) : RcOD X cl S (.lst ds) (.lst es) := by
  intro A pins s σ H x y u v sb I rx ry hd he oD oE
  obtain ⟨a, xs, rfl, ha, p⟩ := hd
  obtain ⟨b, ys, rfl, hb, q⟩ := he
  cases rx
  cases ry
  have sb' : Sub X (max (needAll cl ds) (needAll cl es) + 1) A := sb.mono (by show _ ≤ max (needAll cl ds + 1) (needAll cl es + 1); omega)
  have l1 := OhAll.length ds xs p
  have l2 := OhAll.length es ys q
  by_cases hl : ds.length = es.length
  · have z1 : (List.range ds.length).all (pairs ds es) = eqo (.lst ds) (.lst es) := by
      have := allEq_eqo ds es (pairs ds es) fun i d c h1 h2 => pairs_eq h1 h2
      unfold GQ.allEq at this
      rw [show eqo (.lst ds) (.lst es) = eqoAll ds es from rfl, ← this, ← hl]
      simp
    refine GQ.rc_listB (N := ds.length) (e := pairs ds es) sb.room.units0 (fun _ s' => LoopI X pins σ H s') (fun i s' l => ?_) (fun i s' l => by rw [z1]; exact ⟨rfl, l⟩) ⟨H, I, Ext.rfl'⟩
    obtain ⟨H1, I1, e1⟩ := id l
    obtain ⟨z, its, k, r, e⟩ := I1.hok a _ (e1 _ _ ha)
    obtain ⟨z2, its2, k2, r2, e2⟩ := I1.hok b _ (e1 _ _ hb)
    refine ⟨its.toArray, its2.toArray, k, k2, e, e2, by rw [List.size_toArray, ← r.length, l1], by rw [List.size_toArray, ← r2.length, hl, l2], fun h1 h2 => ?_⟩
    exact turnOD h sb' p q oD oE r r2 (pairs ds es) (fun i d c h1 h2 => pairs_eq h1 h2) i h1 h2 s' l
  · obtain ⟨z, its, k, r, e⟩ := I.hok a _ ha
    obtain ⟨z2, its2, k2, r2, e2⟩ := I.hok b _ hb
    have z1 : eqo (.lst ds) (.lst es) = false := by
      have := allEq_eqo ds es (pairs ds es) fun i d c h1 h2 => pairs_eq h1 h2
      unfold GQ.allEq at this
      rw [show eqo (.lst ds) (.lst es) = eqoAll ds es from rfl, ← this]
      simp [hl]
    rw [z1]
    exact SeqAt.RcAt.lists_lengths ⟨_, e, rfl, _, rfl⟩ ⟨_, e2, rfl, _, rfl⟩ (by rw [List.size_toArray, List.size_toArray, ← r.length, ← r2.length, ← l1, ← l2]; simpa using hl) sb.room.units0 X.prog X.w X.xe _ ⟨rfl, H, I, Ext.rfl'⟩
theorem eqOD_ref (W : OwnCls X.K cl S) {d e : OD} (h : RcOD X cl S d e) (hd : ∀ H x, Oh X.K cl H d x → ∃ a, x = .ref a) (he : ∀ H x, Oh X.K cl H e x → ∃ a, x = .ref a) : EqOD X cl S d e := by
  intro A pins s σ H x y u v sb I rx ry od oe oD oE
  obtain ⟨a, rfl⟩ := hd _ _ od
  obtain ⟨b, rfl⟩ := he _ _ oe
  cases rx
  cases ry
  by_cases hab : a = b
  · subst hab
    have e1 := eqo_same W I d e _ od oe oD oE
    exact SeqAt.EqAt.same (A := A) (s := s) (.ref a) X.prog X.w X.xe _ ⟨e1.symm, H, I, Ext.rfl'⟩
  · refine GQ.eqBool_refG hab (wpAny_mono (h A pins s σ H (.ref a) (.ref b) _ _ sb I rfl rfl od oe oD oE) (fun r s' q => ?_) fun _ _ x => x)
    obtain ⟨hr', q⟩ := q
    exact ⟨_, hr', rfl, q⟩
theorem oh_tup_ref {K : PySem.W.Frag} {ds : List OD} (H : Hp) (x : V) (h : Oh K cl H (.tup ds) x) : ∃ a, x = .ref a := let ⟨a, _, e, _⟩ := h; ⟨a, e⟩
theorem oh_lst_ref {K : PySem.W.Frag} {ds : List OD} (H : Hp) (x : V) (h : Oh K cl H (.lst ds) x) : ∃ a, x = .ref a := let ⟨a, _, e, _⟩ := h; ⟨a, e⟩
theorem oh_obj_ref {K : PySem.W.Frag} {k : Nat} {ds : List OD} (H : Hp) (x : V) (h : Oh K cl H (.obj k ds) x) : ∃ a, x = .ref a := let ⟨a, _, _, _, e, _⟩ := h; ⟨a, e⟩
theorem eqo_fl_tup {w : V} {ds : List OD} : eqo (.fl w) (.tup ds) = false := by rw [eqo]; all_goals simp
theorem eqo_tup_fl {w : V} {ds : List OD} : eqo (.tup ds) (.fl w) = false := by rw [eqo]; all_goals simp
theorem eqo_fl_lst {w : V} {ds : List OD} : eqo (.fl w) (.lst ds) = false := by rw [eqo]; all_goals simp
theorem eqo_lst_fl {w : V} {ds : List OD} : eqo (.lst ds) (.fl w) = false := by rw [eqo]; all_goals simp
theorem eqo_tup_lst {es ds : List OD} : eqo (.tup ds) (.lst es) = false := by rw [eqo]; all_goals simp
theorem eqo_lst_tup {es ds : List OD} : eqo (.lst ds) (.tup es) = false := by rw [eqo]; all_goals simp
theorem eqBool_no {P : Program} {w : World} {A : Around} {E : Value → Shared → Prop} {s : Shared} {u v : Value} {Q : Bool → Shared → Prop} (hn : (u == v) = false) (hf : ∀ x t, u ≠ .float x t) (h : wpAny (model P w) A (richCompare .Eq u v) (fun v s' => ∃ r, v = .bool r ∧ Q r s') E s) : wpAny (model P w) A (eqBool u v) Q E s := by
  unfold eqBool
  refine wpAny_holding ?_
  refine wpAny_ite_split (fun hab => absurd hab (by rw [hn]; exact Bool.false_ne_true)) (fun _ => ?_)
  have fin : wpAny (model P w) A (richCompare .Eq u v >>= truthOfDropped) Q E s := by
    refine wpAny_bind (wpAny_mono h (fun v s' hv => ?_) fun _ _ x => x)
    obtain ⟨r, rfl, q⟩ := hv
    exact wpAny_truthy_bool q
  cases u with
  | float x t => exact absurd rfl (hf x t)
  | _ => exact fin
theorem flat_ne_ref {x : V} {u : Value} {a : Addr} (h : flatV x = true) (r : RelV x u) : (u == .ref a) = false ∧ (Value.ref a == u) = false ∧ ∀ x t, u ≠ .float x t := by
  cases x with
  | non => cases r; exact ⟨rfl, rfl, nofun⟩
  | bl b => cases r; exact ⟨rfl, rfl, nofun⟩
  | int b => obtain ⟨t, rfl⟩ := r; exact ⟨rfl, rfl, nofun⟩
  | str b => obtain ⟨t, rfl⟩ := r; exact ⟨rfl, rfl, nofun⟩
  | _ => cases h
theorem flat_tup {x : V} {u : Value} (h : flatV x = true) (r : RelV x u) {A : Around} {s : Shared} {b : Addr} {items : Array Value} (ht : s.heap.IsTuple b items) (hu : A.units < cLine) : SeqAt.EqAt A s u (.ref b) false ∧ SeqAt.EqAt A s (.ref b) u false := by
  cases x with
  | non => cases r; exact ⟨SeqAt.EqAt.none_tuple ht hu, SeqAt.EqAt.tuple_none ht hu⟩
  | bl b => cases r; exact ⟨SeqAt.EqAt.bool_tuple b ht hu, SeqAt.EqAt.tuple_bool b ht hu⟩
  | int b => obtain ⟨t, rfl⟩ := r; exact ⟨SeqAt.EqAt.int_tuple b t ht hu, SeqAt.EqAt.tuple_int b t ht hu⟩
  | str b => obtain ⟨t, rfl⟩ := r; exact ⟨SeqAt.EqAt.str_tuple b t ht hu, SeqAt.EqAt.tuple_str b t ht hu⟩
  | _ => cases h
theorem flat_lst {x : V} {u : Value} (h : flatV x = true) (r : RelV x u) {A : Around} {s : Shared} {b : Addr} {items : Array Value} (ht : s.heap.IsList b items) (hu : A.units < cLine) : SeqAt.EqAt A s u (.ref b) false ∧ SeqAt.EqAt A s (.ref b) u false := by
  cases x with
  | non => cases r; exact ⟨SeqAt.EqAt.none_list ht hu, SeqAt.EqAt.list_none ht hu⟩
  | bl b => cases r; exact ⟨SeqAt.EqAt.bool_list b ht hu, SeqAt.EqAt.list_bool b ht hu⟩
  | int b => obtain ⟨t, rfl⟩ := r; exact ⟨SeqAt.EqAt.int_list b t ht hu, SeqAt.EqAt.list_int b t ht hu⟩
  | str b => obtain ⟨t, rfl⟩ := r; exact ⟨SeqAt.EqAt.str_list b t ht hu, SeqAt.EqAt.list_str b t ht hu⟩
  | _ => cases h
theorem eq_fl_fl (v w : V) : EqOD X cl S (.fl v) (.fl w) := by
  intro A pins s σ H x y u u' sb I rx ry od oe oD oE
  obtain ⟨rfl, h⟩ := od
  obtain ⟨rfl, h'⟩ := oe
  exact eqAt_V (A := A) (s := s) rx ry h h' X.prog X.w X.xe _ ⟨rfl, H, I, Ext.rfl'⟩
theorem eq_fl_tup (v : V) (ds : List OD) : EqOD X cl S (.fl v) (.tup ds) ∧ EqOD X cl S (.tup ds) (.fl v) := by
  refine ⟨fun A pins s σ H x y u u' sb I rx ry od oe oD oE => ?_, fun A pins s σ H x y u u' sb I rx ry oe od oE oD => ?_⟩
  · obtain ⟨rfl, h⟩ := od
    obtain ⟨b, ys, rfl, hb, q⟩ := oe
    cases ry
    obtain ⟨its, r, e, z⟩ := I.tuple hb
    exact (flat_tup h rx e sb.room.units0).1 X.prog X.w X.xe _ ⟨eqo_fl_tup.symm, H, I, Ext.rfl'⟩
  · obtain ⟨rfl, h⟩ := od
    obtain ⟨b, ys, rfl, hb, q⟩ := oe
    cases rx
    obtain ⟨its, r, e, z⟩ := I.tuple hb
    exact (flat_tup h ry e sb.room.units0).2 X.prog X.w X.xe _ ⟨eqo_tup_fl.symm, H, I, Ext.rfl'⟩
theorem eq_fl_lst (v : V) (ds : List OD) : EqOD X cl S (.fl v) (.lst ds) ∧ EqOD X cl S (.lst ds) (.fl v) := by
  refine ⟨fun A pins s σ H x y u u' sb I rx ry od oe oD oE => ?_, fun A pins s σ H x y u u' sb I rx ry oe od oE oD => ?_⟩
  · obtain ⟨rfl, h⟩ := od
    obtain ⟨b, ys, rfl, hb, q⟩ := oe
    cases ry
    obtain ⟨z, its, n, r, e⟩ := I.hok _ _ hb
    exact (flat_lst h rx ⟨_, e, rfl, _, rfl⟩ sb.room.units0).1 X.prog X.w X.xe _ ⟨eqo_fl_lst.symm, H, I, Ext.rfl'⟩
  · obtain ⟨rfl, h⟩ := od
    obtain ⟨b, ys, rfl, hb, q⟩ := oe
    cases rx
    obtain ⟨z, its, n, r, e⟩ := I.hok _ _ hb
    exact (flat_lst h ry ⟨_, e, rfl, _, rfl⟩ sb.room.units0).2 X.prog X.w X.xe _ ⟨eqo_lst_fl.symm, H, I, Ext.rfl'⟩
theorem eq_tup_lst (ds es : List OD) : EqOD X cl S (.tup ds) (.lst es) ∧ EqOD X cl S (.lst es) (.tup ds) := by
  refine ⟨fun A pins s σ H x y u u' sb I rx ry od oe oD oE => ?_, fun A pins s σ H x y u u' sb I rx ry oe od oE oD => ?_⟩
  · obtain ⟨a, xs, rfl, ha, _⟩ := od
    obtain ⟨b, ys, rfl, hb, q⟩ := oe
    cases rx
    cases ry
    obtain ⟨its, r, t, z⟩ := I.tuple ha
    obtain ⟨z, its, n, r, e⟩ := I.hok _ _ hb
    exact SeqAt.EqAt.tuple_list t ⟨_, e, rfl, _, rfl⟩ sb.room.units0 X.prog X.w X.xe _ ⟨eqo_tup_lst.symm, H, I, Ext.rfl'⟩
  · obtain ⟨a, xs, rfl, ha, _⟩ := od
    obtain ⟨b, ys, rfl, hb, q⟩ := oe
    cases rx
    cases ry
    obtain ⟨its, r, t, z⟩ := I.tuple ha
    obtain ⟨z, its, n, r, e⟩ := I.hok _ _ hb
    exact SeqAt.EqAt.list_tuple ⟨_, e, rfl, _, rfl⟩ t sb.room.units0 X.prog X.w X.xe _ ⟨eqo_lst_tup.symm, H, I, Ext.rfl'⟩
theorem rc_obj (W : OwnCls X.K cl S) (G : OwnGives X cl S) (k : Nat) (ds : List OD) (e : OD) : RcOD X cl S (.obj k ds) e :=
  fun A pins s σ H x y u v sb I rx ry od oe oD oE => rcB_objL W G (sb.mono (Nat.le_max_left _ _)) I rx ry od oe oD oE
theorem rc_flObj (W : OwnCls X.K cl S) (G : OwnGives X cl S) (k : Nat) (ds : List OD) (w : V) : RcOD X cl S (.fl w) (.obj k ds) :=
  fun A pins s σ H x y u v sb I rx ry od oe oD oE => rcB_flObj W G (sb.mono (Nat.le_max_right _ _)) I rx ry od oe oE
theorem rc_tupObj (W : OwnCls X.K cl S) (G : OwnGives X cl S) (k : Nat) (ds es : List OD) : RcOD X cl S (.tup es) (.obj k ds) :=
  fun A pins s σ H x y u v sb I rx ry od oe oD oE => rcB_tupObj W G (sb.mono (Nat.le_max_right _ _)) I rx ry od oe oD oE
theorem rc_lstObj (W : OwnCls X.K cl S) (G : OwnGives X cl S) (k : Nat) (ds es : List OD) : RcOD X cl S (.lst es) (.obj k ds) :=
  fun A pins s σ H x y u v sb I rx ry od oe oD oE => rcB_lstObj W G (sb.mono (Nat.le_max_right _ _)) I rx ry od oe oD oE
theorem eq_of_rc_fl {k : Nat} {ds : List OD} {w : V} (h1 : RcOD X cl S (.fl w) (.obj k ds)) (h2 : RcOD X cl S (.obj k ds) (.fl w)) : EqOD X cl S (.fl w) (.obj k ds) ∧ EqOD X cl S (.obj k ds) (.fl w) := by
  refine ⟨fun A pins s σ H x y u u' sb I rx ry od oe oD oE => ?_, fun A pins s σ H x y u u' sb I rx ry od oe oD oE => ?_⟩
  · have q := h1 A pins s σ H x y u u' sb I rx ry od oe oD oE
    obtain ⟨rfl, h⟩ := od
    obtain ⟨a, rfl⟩ := oh_obj_ref _ _ oe
    cases ry
    obtain ⟨n1, n2, n3⟩ := flat_ne_ref (a := a) h rx
    exact eqBool_no n1 n3 (wpAny_mono q (fun r s' z => ⟨_, z.1, rfl, z.2⟩) fun _ _ x => x)
  · have q := h2 A pins s σ H x y u u' sb I rx ry od oe oD oE
    obtain ⟨rfl, h⟩ := oe
    obtain ⟨a, rfl⟩ := oh_obj_ref _ _ od
    cases rx
    obtain ⟨n1, n2, n3⟩ := flat_ne_ref (a := a) h ry
    exact eqBool_no n2 nofun (wpAny_mono q (fun r s' z => ⟨_, z.1, rfl, z.2⟩) fun _ _ x => x)
mutual
theorem eqOD (W : OwnCls X.K cl S) (G : OwnGives X cl S) : ∀ (d e : OD), EqOD X cl S d e
  | .fl v, .fl w => eq_fl_fl v w
  | .fl v, .tup ds => (eq_fl_tup v ds).1
  | .fl v, .lst ds => (eq_fl_lst v ds).1
  | .fl v, .obj k ds => (eq_of_rc_fl (rc_flObj W G k ds v) (rc_obj W G k ds (.fl v))).1
  | .tup ds, .fl v => (eq_fl_tup v ds).2
  | .lst ds, .fl v => (eq_fl_lst v ds).2
  | .obj k ds, .fl v => (eq_of_rc_fl (rc_flObj W G k ds v) (rc_obj W G k ds (.fl v))).2
  | .tup ds, .lst es => (eq_tup_lst ds es).1
  | .lst ds, .tup es => (eq_tup_lst es ds).2
  | .tup ds, .obj k es => eqOD_ref W (rc_tupObj W G k es ds) oh_tup_ref oh_obj_ref
  | .lst ds, .obj k es => eqOD_ref W (rc_lstObj W G k es ds) oh_lst_ref oh_obj_ref
  | .obj k es, .tup ds => eqOD_ref W (rc_obj W G k es (.tup ds)) oh_obj_ref oh_tup_ref
  | .obj k es, .lst ds => eqOD_ref W (rc_obj W G k es (.lst ds)) oh_obj_ref oh_lst_ref
  | .obj k es, .obj l ds => eqOD_ref W (rc_obj W G k es (.obj l ds)) oh_obj_ref oh_obj_ref
  | .tup ds, .tup es => eqOD_ref W (rcOD_tup (eqODs W G ds es)) oh_tup_ref oh_tup_ref
  | .lst ds, .lst es => eqOD_ref W (rcOD_lst (eqODs W G ds es)) oh_lst_ref oh_lst_ref
theorem eqODs (W : OwnCls X.K cl S) (G : OwnGives X cl S) : ∀ (ds es : List OD) (i : Nat) (d e : OD), ds[i]? = some d → es[i]? = some e → EqOD X cl S d e
  | x :: xs, y :: ys, 0, d, e, h1, h2 => by
    have q := eqOD W G x y
    simp at h1 h2
    subst h1 h2
    exact q
  | x :: xs, y :: ys, i + 1, d, e, h1, h2 => eqODs W G xs ys i d e (by simpa using h1) (by simpa using h2)
  | [], es, i, d, e, h1, h2 => by simp at h1
  | x :: xs, [], i, d, e, h1, h2 => by simp at h2
end
end
end L2
set_option linter.all false
namespace PySem.W
open PyProof.Rows Builtin
section
variable {prog : Program} {w : World} {A : Around} {E : Value → Shared → Prop} {s : Shared} {K : Frag} {x C L f : Addr} {h₀ : Heap} {m : Str → Option Value} {ox : Obj} {od : Option Obj} {b tb : Value}
theorem ifBound_objNe {M : Model} {args : List Value} {Q : Option Value → Shared → Prop} (X : K.In s.heap) (I : InstAt s.heap x ox C od) (hs : findIn K (.ref C) "__ne__" = some (some (.builtin "object.__ne__")))
    (h : wpAny M A (call (.builtin "object.__ne__") (.ref x :: args)) (fun v => Q (some v)) E s) : wpAny M A (callSpecialIfBound? (.ref x) "__ne__" args) Q E s := by
  simp only [callSpecialIfBound?, bindSpecialIfBound?]
  refine wpAny_holding (wpAny_bind (wpAny_bind (wpAny_bind (I.type.here ((looks_findIn X hs).here ?_)))))
  refine wpAny_bind (wpAny_askSetting (wpAny_ite ?_))
  have fin : wpAny M A (call (.builtin "object.__ne__") ([.ref x] ++ args) >>= fun v => pure (some v)) Q E s := wpAny_bind (wpAny_mono h (fun v s' h' => wpAny_pure h') fun _ _ h' => h')
  split
  · exact wpAny_bind (wpAny_of_eq (F.cmp_object.ne.bind _) (wpAny_pure (by exact fin)))
  · exact wpAny_tryCatch (wpAny_bind (wpAny_of_eq (F.cmp_object.ne.bind _) (wpAny_pure (by exact fin))))
theorem objNe_entry {Q : Fin → Shared → Prop} (X : K.In s.heap) (I : InstAt s.heap x ox C od) (he : findIn K (.ref C) "__eq__" = some (some (.ref f))) (hf : isFn K (.ref f) = true) (hu : A.units < cLine)
    (hcall : wpAny (model prog w) A (call (.ref f) [.ref x, b]) (fun v s' => ∃ b, v = .bool b ∧ Q (.done (.ret (.bool (!b)))) s') E s) :
    wpAny (model prog w) A (Builtin.«object.__ne__» ⟨[.ref x, b], []⟩) Q E s := by
  unfold Builtin.«object.__ne__»
  repeat (first
    | with_reducible refine wpAny_cRoomFor hu ?_
    | (refine wpAny_bind (m := callSpecialIfBound? (.ref x) (Str.ofString "__eq__") [b])
        (ifBound_K X I he hf (wpAny_mono hcall (fun v s' hr => by
          obtain ⟨b, rfl, hq⟩ := hr
          repeat (first | exact hq | exact wpAny_pure hq | exact wpAny_truthy_bool hq | (refine wpAny_bind (m := truthy (.bool _)) (wpAny_truthy_bool ?_)) | wp_step)) fun _ _ e => e)))
    | wp_step)
/-- x != b, x an object with an own == and no != -/
theorem ne_K {Q : Value → Shared → Prop} (hu : A.units + 1 < cLine) (F0 : Fr h₀ L s.heap m) (X₀ : K.In h₀) (I : InstAt s.heap x ox C od) (hb : Looks (model prog w) s.heap (typeOf b) tb) (hn : notFirst K C tb = true)
    (hm : mroIn K C (.type "object") = some true) (hs : findIn K (.ref C) "__ne__" = some (some (.builtin "object.__ne__"))) (he : findIn K (.ref C) "__eq__" = some (some (.ref f))) (hf : isFn K (.ref f) = true)
    (h : wpAny (model prog w) A.in1 (call (.ref f) [.ref x, b]) (fun v s' => ∃ k, v = .bool k ∧ Q (.bool (!k)) s') E s) : wpAny (model prog w) A (richCompare .NotEq (.ref x) b) Q E s := by
  have X := X₀.keeps F0.keep
  have one : wpAny (model prog w) A (tryCompare (.ref x) (cmpInfo .NotEq).2.1 b) (fun r s' => ∃ v, r = some v ∧ Q v s') E s := by
    unfold tryCompare
    refine wpAny_bind (ifBound_objNe X I hs ?_)
    refine wpAny_call (codeAny_call_builtin F.cmp_object.ne.plain F.cmpEntry_ne (check_slot F.cmpKind_ne F.cmpSplit_ne (I.type.andThen (looks_mroIn X hm)) (F.cmpArgs_ne _ _) ?_))
    refine objNe_entry (A := A.in1) X I he hf (by show A.units + 1 < cLine; exact hu) (wpAny_mono h (fun v s' hv => ?_) fun _ _ e => e)
    obtain ⟨k, rfl, hq⟩ := hv
    first | exact ⟨k, rfl, wpAny_pure ⟨_, rfl, hq⟩⟩ | exact ⟨k, rfl, ⟨_, rfl, hq⟩⟩
  unfold richCompare
  simp only [oneThing_ref]
  refine wpAny_holding (wpAny_bind (wpAny_cRoomFor (Nat.lt_of_succ_lt hu) ?_))
  refine wpAny_bind (I.type.here (wpAny_bind (hb.here ?_)))
  split
  · rename_i q
    have e : subIn K tb (.ref C) = some false := by
      rcases Bool.or_eq_true_iff.mp hn with e | e
      · rw [beq_iff_eq.mp e] at q; simp at q
      · exact beq_iff_eq.mp e
    refine wpAny_bind ((looks_subIn X e).here ?_)
    simp only [Bool.false_eq_true, if_false]
    refine wpAny_bind (wpAny_mono one (fun r s' z => ?_) fun _ _ e => e)
    obtain ⟨v, rfl, hq⟩ := z
    exact wpAny_pure hq
  · refine wpAny_bind (wpAny_pure ?_)
    simp only [Bool.false_eq_true, if_false]
    refine wpAny_bind (wpAny_mono one (fun r s' z => ?_) fun _ _ e => e)
    obtain ⟨v, rfl, hq⟩ := z
    exact wpAny_pure hq
end
end PySem.W
namespace L2
open PySem PySem.Spec PyProof.Rows
section
variable {cl : Nat → OCls} {S : Nat → List OD → Prop} {X : Cx}
theorem rc_flat {A : Around} {s : Shared} {y x : V} {u v : Value} (ry : RelV y u) (rx : RelV x v) (fy : flatV y = true) (fx : flatV x = true) : SeqAt.RcAt A s u v (eqV y x) := by
  cases y with
  | non =>
    cases ry
    cases x with
    | non => cases rx; exact SeqAt.RcAt.none_none
    | bl b => cases rx; exact SeqAt.RcAt.none_bool b
    | int b => obtain ⟨t, rfl⟩ := rx; exact SeqAt.RcAt.none_int b t
    | str b => obtain ⟨t, rfl⟩ := rx; exact SeqAt.RcAt.none_str b t
    | _ => cases fx
  | bl a =>
    cases ry
    cases x with
    | non => cases rx; exact SeqAt.RcAt.bool_none a
    | bl b => cases rx; exact SeqAt.RcAt.bool_bool a b
    | int b => obtain ⟨t, rfl⟩ := rx; exact SeqAt.RcAt.bool_int a b t
    | str b => obtain ⟨t, rfl⟩ := rx; exact SeqAt.RcAt.bool_str a b t
    | _ => cases fx
  | int a =>
    obtain ⟨ta, rfl⟩ := ry
    cases x with
    | non => cases rx; exact SeqAt.RcAt.int_none a ta
    | bl b => cases rx; exact SeqAt.RcAt.int_bool a ta b
    | int b => obtain ⟨t, rfl⟩ := rx; exact SeqAt.RcAt.int_int a ta b t
    | str b => obtain ⟨t, rfl⟩ := rx; exact SeqAt.RcAt.int_str a ta b t
    | _ => cases fx
  | str a =>
    obtain ⟨ta, rfl⟩ := ry
    cases x with
    | non => cases rx; exact SeqAt.RcAt.str_none a ta
    | bl b => cases rx; exact SeqAt.RcAt.str_bool a ta b
    | int b => obtain ⟨t, rfl⟩ := rx; exact SeqAt.RcAt.str_int a ta b t
    | str b => obtain ⟨t, rfl⟩ := rx; exact SeqAt.RcAt.str_str a ta b t
    | _ => cases fx
  | _ => cases fy
theorem rc_flTup {x : V} {u : Value} (h : flatV x = true) (r : RelV x u) {A : Around} {s : Shared} {b : Addr} {items : Array Value} (ht : s.heap.IsTuple b items) (hu : A.units < cLine) : SeqAt.RcAt A s u (.ref b) false ∧ SeqAt.RcAt A s (.ref b) u false := by
  cases x with
  | non => cases r; exact ⟨SeqAt.RcAt.none_tuple ht hu, SeqAt.RcAt.tuple_none ht hu⟩
  | bl b => cases r; exact ⟨SeqAt.RcAt.bool_tuple b ht hu, SeqAt.RcAt.tuple_bool b ht hu⟩
  | int b => obtain ⟨t, rfl⟩ := r; exact ⟨SeqAt.RcAt.int_tuple b t ht hu, SeqAt.RcAt.tuple_int b t ht hu⟩
  | str b => obtain ⟨t, rfl⟩ := r; exact ⟨SeqAt.RcAt.str_tuple b t ht hu, SeqAt.RcAt.tuple_str b t ht hu⟩
  | _ => cases h
/-- == of the two sides, where no list is -/
def noLst : OD → Prop
  | .lst _ => False
  | _ => True
theorem rcOD (W : OwnCls X.K cl S) (G : OwnGives X cl S) : ∀ (d e : OD), noLst d → noLst e → RcOD X cl S d e
  | .fl v, .fl w, _, _ => fun A pins s σ H x y u u' sb I rx ry od oe oD oE => by
    obtain ⟨rfl, h⟩ := od
    obtain ⟨rfl, h'⟩ := oe
    exact rc_flat (A := A) (s := s) rx ry h h' X.prog X.w X.xe _ ⟨rfl, H, I, Ext.rfl'⟩
  | .fl v, .tup ds, _, _ => fun A pins s σ H x y u u' sb I rx ry od oe oD oE => by
    obtain ⟨rfl, h⟩ := od
    obtain ⟨b, ys, rfl, hb, q⟩ := oe
    cases ry
    obtain ⟨its, r, e, z⟩ := I.tuple hb
    rw [eqo_fl_tup]
    exact (rc_flTup h rx e sb.room.units0).1 X.prog X.w X.xe _ ⟨rfl, H, I, Ext.rfl'⟩
  | .tup ds, .fl v, _, _ => fun A pins s σ H x y u u' sb I rx ry oe od oE oD => by
    obtain ⟨rfl, h⟩ := od
    obtain ⟨b, ys, rfl, hb, q⟩ := oe
    cases rx
    obtain ⟨its, r, e, z⟩ := I.tuple hb
    rw [eqo_tup_fl]
    exact (rc_flTup h ry e sb.room.units0).2 X.prog X.w X.xe _ ⟨rfl, H, I, Ext.rfl'⟩
  | .fl v, .obj k ds, _, _ => rc_flObj W G k ds v
  | .tup ds, .obj k es, _, _ => rc_tupObj W G k es ds
  | .obj k es, e, _, _ => rc_obj W G k es e
  | .tup ds, .tup es, _, _ => rcOD_tup (eqODs W G ds es)
  | .lst _, _, h, _ => h.elim
  | .fl _, .lst _, _, h => h.elim
  | .tup _, .lst _, _, h => h.elim
def rEqO (K : PySem.W.Frag) (cl : Nat → OCls) (S : Nat → List OD → Prop) (n : Nat) : R2 := fun x y H Q => ∃ d e, Oh K cl H d x ∧ Oh K cl H e y ∧ okO S d ∧ okO S e ∧ need cl d ≤ n ∧ need cl e ≤ n ∧ noLst d ∧ noLst e ∧ ∀ H', Ext H H' → Q (.bl (eqo d e)) H'
theorem op_eqO (W : OwnCls X.K cl S) (G : OwnGives X cl S) {n : Nat} (hr : Room n X.A) : OpR X (compareOp .Eq) (rEqO X.K cl S n) := by
  intro pins s σ H x y v u Q I rx ry h
  obtain ⟨d, e, hd, he, oD, oE, n1, n2, l1, l2, q⟩ := h
  show wpAny (model X.prog X.w) X.A (richCompare .Eq v u) (EP X pins σ Q) X.xe s
  refine wpAny_mono (rcOD W G d e l1 l2 X.A pins s σ H x y v u ⟨hr.mono (by omega), rfl⟩ I rx ry hd he oD oE) (fun r s' z => ?_) fun _ _ x => x
  obtain ⟨rfl, H', I', e'⟩ := z
  exact ⟨.bl _, H', I', rfl, q H' e'⟩
/-- two lists -/
def rEqOL (K : PySem.W.Frag) (cl : Nat → OCls) (S : Nat → List OD → Prop) (n : Nat) : R2 := fun x y H Q => ∃ ds es, Oh K cl H (.lst ds) x ∧ Oh K cl H (.lst es) y ∧ okAll S ds ∧ okAll S es ∧ needAll cl ds + 1 ≤ n ∧ needAll cl es + 1 ≤ n ∧ ∀ H', Ext H H' → Q (.bl (eqoAll ds es)) H'
theorem op_eqOL (W : OwnCls X.K cl S) (G : OwnGives X cl S) {n : Nat} (hr : Room n X.A) : OpR X (compareOp .Eq) (rEqOL X.K cl S n) := by
  intro pins s σ H x y v u Q I rx ry h
  obtain ⟨ds, es, hd, he, oD, oE, n1, n2, q⟩ := h
  show wpAny (model X.prog X.w) X.A (richCompare .Eq v u) (EP X pins σ Q) X.xe s
  refine wpAny_mono (rcOD_lst (eqODs W G ds es) X.A pins s σ H x y v u ⟨hr.mono (by show max (needAll cl ds + 1) (needAll cl es + 1) ≤ n; omega), rfl⟩ I rx ry hd he oD oE) (fun r s' z => ?_) fun _ _ x => x
  obtain ⟨rfl, H', I', e'⟩ := z
  exact ⟨.bl _, H', I', rfl, q H' e'⟩
/-- != of two tuples -/
def rNeOT (K : PySem.W.Frag) (cl : Nat → OCls) (S : Nat → List OD → Prop) (n : Nat) : R2 := fun x y H Q => ∃ ds es, Oh K cl H (.tup ds) x ∧ Oh K cl H (.tup es) y ∧ okAll S ds ∧ okAll S es ∧ needAll cl ds + 1 ≤ n ∧ needAll cl es + 1 ≤ n ∧ ∀ H', Ext H H' → Q (.bl (!eqoAll ds es)) H'
theorem op_neOT (W : OwnCls X.K cl S) (G : OwnGives X cl S) {n : Nat} (hr : Room n X.A) : OpR X (compareOp .NotEq) (rNeOT X.K cl S n) := by
  intro pins s σ H x y v u Q I rx ry h
  obtain ⟨ds, es, hd, he, oD, oE, n1, n2, q⟩ := h
  obtain ⟨a, xs, rfl, ha, p⟩ := hd
  obtain ⟨b, ys, rfl, hb, q'⟩ := he
  cases rx
  cases ry
  obtain ⟨its, r, e, z⟩ := I.tuple ha
  obtain ⟨its2, r2, e2, z2⟩ := I.tuple hb
  have sb' : Sub X (max (needAll cl ds) (needAll cl es) + 1) X.A := ⟨hr.mono (by omega), rfl⟩
  have z1 : GQ.allEq its.toArray.size its2.toArray.size (pairs ds es) = eqoAll ds es := by
    rw [List.size_toArray, List.size_toArray, ← r.length, ← r2.length, ← OhAll.length ds xs p, ← OhAll.length es ys q']
    exact allEq_eqo ds es _ fun i d c h1 h2 => pairs_eq h1 h2
  show wpAny (model X.prog X.w) X.A (richCompare .NotEq (.ref a) (.ref b)) (EP X pins σ Q) X.xe s
  exact GQ.rc_tupNeB sb'.room.units0 (fun _ s' => LoopI X pins σ H s') e e2 (fun i h1 h2 s' l => turnOD (eqODs W G ds es) sb' p q' oD oE r r2 (pairs ds es) (fun i d c h1 h2 => pairs_eq h1 h2) i h1 h2 s' l)
    (fun i s' l => by rw [z1]; obtain ⟨H', I', e'⟩ := l; exact ⟨.bl _, H', I', rfl, q H' e'⟩) ⟨H, I, Ext.rfl'⟩
/-- what != asks of the class -/
structure NoNe (K : PySem.W.Frag) (C : Addr) : Prop where
  mo : PySem.W.mroIn K C (.type "object") = some true
  ne : PySem.W.findIn K (.ref C) "__ne__" = some (some (.builtin "object.__ne__"))
/-- != of an object with an own == and anything -/
def rNeOO (K : PySem.W.Frag) (cl : Nat → OCls) (S : Nat → List OD → Prop) (n : Nat) : R2 := fun x y H Q => ∃ k ds e, Oh K cl H (.obj k ds) x ∧ Oh K cl H e y ∧ okO S (.obj k ds) ∧ okO S e ∧ (cl k).lv ≤ n ∧ NoNe K (cl k).C ∧ ∀ H', Ext H H' → Q (.bl (!eqo (.obj k ds) e)) H'
theorem op_neOO (W : OwnCls X.K cl S) (G : OwnGives X cl S) {n : Nat} (hr : Room (n + 1) X.A) : OpR X (compareOp .NotEq) (rNeOO X.K cl S n) := by
  intro pins s σ H x y v u Q I rx ry h
  obtain ⟨k, ds, e, hd, he, oD, oE, n1, nn, q⟩ := h
  obtain ⟨a, dx, fs, xs, rfl, hi, hn, hq⟩ := id hd
  cases rx
  obtain ⟨_, O1, _⟩ := ins_get I.hok hi
  obtain ⟨o1, J1, _⟩ := O1.look
  obtain ⟨m, hF⟩ := I.fr
  obtain ⟨tb, L, hn⟩ := ty_looks W I ⟨_, oD.1⟩ ry he oE
  show wpAny (model X.prog X.w) X.A (richCompare .NotEq (.ref a) u) (EP X pins σ Q) X.xe s
  refine PySem.W.ne_K (tb := tb) (by have := hr.un; omega) hF I.ok.mod.kin J1 L hn nn.mo nn.ne (W.eqf k ⟨_, oD.1⟩) (W.isf k ⟨_, oD.1⟩) ?_
  refine wpAny_mono (G k ds oD.1 X.A.in1 pins s σ H a e y u ⟨hr.in1.mono n1, rfl⟩ I ry hd he oD.2 oE) (fun r s' z => ?_) fun _ _ e => e
  obtain ⟨rfl, H', I', e'⟩ := z
  exact ⟨_, rfl, .bl _, H', I', rfl, q H' e'⟩
end
end L2
set_option linter.all false
namespace Kx
open PySem L2 PySem.Spec PyProof.Rows
/-! draws among things that are told by OD -/
def KeepB (p : Addr) (H H' : Hp) : Prop := ∀ b u, b ≠ p → H b = some u → H' b = some u
theorem KeepB.trans {p : Addr} {H1 H2 H3 : Hp} (a : KeepB p H1 H2) (b : KeepB p H2 H3) : KeepB p H1 H3 := fun x u n z => b x u n (a x u n z)
theorem KeepB.of {p : Addr} {H1 H2 : Hp} (a : Same H1 H2) : KeepB p H1 H2 := fun x u _ z => a x u z
theorem KeepB.at {p : Addr} {H : Hp} {o : HO} : KeepB p H (upd H p o) := fun x u n z => by rw [upd_ne n]; exact z
theorem WellAt.mono {H : Hp} {p : Addr} {n m : Int} (h : WellAt H p n) (l : n ≤ m) : WellAt H p m := let ⟨a, b, c, e, h0, h1, h2, h3⟩ := h; ⟨a, b, c, e, h0, h1, h2, by omega⟩
theorem WellAt.same {H H' : Hp} {p : Addr} {n : Int} (h : WellAt H p n) (s : Same H H') : WellAt H' p n := let ⟨a, b, c, e, r⟩ := h; ⟨a, b, c, s _ _ e, r⟩
theorem WellAt.lst {H : Hp} {p : Addr} {n : Int} (h : WellAt H p n) : ∃ ms, H p = some (.lst ms) := let ⟨_, _, _, e, _⟩ := h; ⟨_, e⟩
theorem WellAt.ne {H : Hp} {p q : Addr} {n : Int} (h : WellAt H p n) (e : H q = none) : q ≠ p := fun z => by
  obtain ⟨_, g⟩ := h.lst
  rw [z, g] at e
  cases e
theorem le_sz {n : Nat} (h : n ≤ 100) : n ≤ sizeLine := by rw [sizeLine_eq]; omega
structure Drw (K : PySem.W.Frag) (mg : PySem.Str → Option Value) : Prop where
  T : Bl mg
  well : ∃ f fd, Fs K mg "_law_well" sWell ["_law_cell"] f fd
  draw : ∃ f fd, Fs K mg "_law_draw" sDraw ["_law_well_here", "_law_base"] f fd
  one : ∃ f fd, Fs K mg "_law_one" sOne ["_law_well_here", "_law_some"] f fd
mutual
/-- no list within -/
def noL : OD → Prop
  | .fl _ => True
  | .tup xs => noLs xs
  | .lst _ => False
  | .obj _ xs => noLs xs
def noLs : List OD → Prop
  | [] => True
  | x :: xs => noL x ∧ noLs xs
end
theorem noL_lst : ∀ {d : OD}, noL d → noLst d
  | .fl _, _ => trivial
  | .tup _, _ => trivial
  | .obj _ _, _ => trivial
  | .lst _, h => h
theorem SqT.keepB {K : PySem.W.Frag} {H H' : Hp} {p a : Addr} {ms xs : List V} (hp : H p = some (.lst ms)) (k : KeepB p H H') (h : SqT K H a xs) : SqT K H' a xs := by
  rcases h with (h | ⟨o, h⟩) | h
  · exact .inl (.inl (k _ _ (fun z => by rw [z, hp] at h; cases h) h))
  · exact .inl (.inr ⟨o, k _ _ (fun z => by rw [z, hp] at h; cases h) h⟩)
  · exact .inr h
section
variable {K : PySem.W.Frag} {cl : Nat → OCls} {S : Nat → List OD → Prop}
mutual
theorem Oh.keepB {H H' : Hp} {p : Addr} {ms : List V} (hp : H p = some (.lst ms)) (k : KeepB p H H') : ∀ (d : OD) (v : V), noL d → Oh K cl H d v → Oh K cl H' d v
  | .fl _, _, _, h => h
  | .tup ds, _, n, ⟨a, xs, e, h, q⟩ => ⟨a, xs, e, SqT.keepB hp k h, OhAll.keepB hp k ds xs n q⟩
  | .lst ds, _, n, _ => n.elim
  | .obj _ ds, _, n, ⟨a, dx, fs, xs, e, h, l, q⟩ => ⟨a, dx, fs, xs, e, k _ _ (fun z => by rw [z, hp] at h; cases h) h, l, OhAll.keepB hp k ds xs n q⟩
theorem OhAll.keepB {H H' : Hp} {p : Addr} {ms : List V} (hp : H p = some (.lst ms)) (k : KeepB p H H') : ∀ (ds : List OD) (xs : List V), noLs ds → OhAll K cl H ds xs → OhAll K cl H' ds xs
  | [], _, _, h => h
  | d :: ds, _, n, ⟨v, ys, e, h, q⟩ => ⟨v, ys, e, Oh.keepB hp k d v n.1 h, OhAll.keepB hp k ds ys n.2 q⟩
end
theorem ext_of {H H' : Hp} (s : Same H H') : Ext H H' := fun a o h => s a o h
theorem Oh.same {H H' : Hp} (s : Same H H') {d : OD} {v : V} (h : Oh K cl H d v) : Oh K cl H' d v := Oh.ext (ext_of s) d v h
theorem OhAll.same {H H' : Hp} (s : Same H H') {d : List OD} {v : List V} (h : OhAll K cl H d v) : OhAll K cl H' d v := OhAll.ext (ext_of s) d v h
theorem noLs_get : ∀ {ds : List OD}, noLs ds → ∀ {i : Nat} {d : OD}, ds[i]? = some d → noL d
  | [], _, i, d, h => by simp at h
  | x :: xs, n, 0, d, h => by simp at h; subst h; exact n.1
  | x :: xs, n, i + 1, d, h => noLs_get n.2 (i := i) (by simpa using h)
theorem one_od {H : Hp} {p q : Addr} {n : Int} {ys : List V} {ds : List OD} {Q : VK} {E : XK}
    (W : WellAt H p n) (hn : n ≤ 1000000) (hq : H q = none) (ha : OhAll K cl H ds ys) (nl : noLs ds) (h0 : 0 < ys.length) (h1 : ys.length < 1000000) (k : ∀ d v H', d ∈ ds → noL d → Oh K cl H' d v → KeepB p H H' → WellAt H' p (n + 1) → Q v H') : spOne K [.ref p, .ref q] (upd H q (.lst ys)) Q E := by
  refine ⟨p, q, n, ys, rfl, W.same (new_same hq), hn, (W.ne hq).symm, SqL.of upd_same, h0, h1, fun r v xs hv W2 => ?_⟩
  have k2 : KeepB p H (upd (upd H q (.lst ys)) p (.lst xs)) := (KeepB.of (new_same hq)).trans KeepB.at
  obtain ⟨d, hd, od⟩ := ohAll_get ds ys r v ha hv
  obtain ⟨ms, hp⟩ := W.lst
  exact k d v _ (List.mem_of_getElem? hd) (noLs_get nl hd) (Oh.keepB hp k2 d v (noLs_get nl hd) od) k2 W2
theorem oh_str {H : Hp} (z : Str) : Oh K cl H (.fl (.str z)) (.str z) := ⟨rfl, rfl⟩
theorem oh_int {H : Hp} (z : Int) : Oh K cl H (.fl (.int z)) (.int z) := ⟨rfl, rfl⟩
theorem oh_non {H : Hp} : Oh K cl H (.fl .non) .non := ⟨rfl, rfl⟩
theorem oh_tup {H : Hp} {a : Addr} {xs : List V} {ds : List OD} (h : SqT K H a xs) (q : OhAll K cl H ds xs) : Oh K cl H (.tup ds) (.ref a) := ⟨a, xs, rfl, h, q⟩
theorem oh_nil {H : Hp} : OhAll K cl H [] [] := rfl
theorem oh_cons {H : Hp} {d : OD} {v : V} {ds : List OD} {vs : List V} (h : Oh K cl H d v) (q : OhAll K cl H ds vs) : OhAll K cl H (d :: ds) (v :: vs) := ⟨v, vs, rfl, h, q⟩
end
/-! what the own == of a class promises -/
def spOwn (K : PySem.W.Frag) (cl : Nat → OCls) (S : Nat → List OD → Prop) (k : Nat) : Sp := fun vs H Q _ => ∃ (a : Addr) (ds : List OD) (e : OD) (y : V), vs = [.ref a, y] ∧ Oh K cl H (.obj k ds) (.ref a) ∧ Oh K cl H e y ∧ S k ds ∧ okAll S ds ∧ okO S e ∧ ∀ H', Ext H H' → Q (.bl (eqo (.obj k ds) e)) H'
theorem own_run {X : Cx} {cl : Nat → OCls} {S : Nat → List OD → Prop} {CX : CXT} {E : XK} {fd : FuncData} {ps : List Str} {k : Nat} (F : FnOk X.prog X.w X.K X.mg X.base CX (cl k).lv (cl k).f fd ps (spOwn X.K cl S k)) (hb : L2.Binds X.K fd ps []) (hx : Passes CX X E)
    {ds : List OD} (hk : S k ds) {A : Around} {pins : List (Addr × Obj)} {s : Shared} {σ : L2.St} {H : Hp} {a : Addr} {e : OD} {y : V} {v : Value} (sb : Sub X (cl k).lv A) (I : L2.Inv X pins σ H s) (ry : RelV y v) (h : Oh X.K cl H (.obj k ds) (.ref a)) (he : Oh X.K cl H e y) (oD : okAll S ds) (oE : okO S e) :
    wpAny (model X.prog X.w) A (call (.ref (cl k).f) [.ref a, v]) (fun r s' => r = .bool (eqo (.obj k ds) e) ∧ ∃ H', L2.Inv X pins σ H' s' ∧ Ext H H') X.xe s := by
  have hsp : spOwn X.K cl S k [.ref a, y] H (fun v H' => v = .bl (eqo (.obj k ds) e) ∧ Ext H H') E := ⟨a, ds, e, y, rfl, h, he, hk, oD, oE, fun H' e => ⟨rfl, e⟩⟩
  have e0 : Env0 X.prog X.w X.K X.mg X.base A X.stack s H := by
    have e := I.env0
    exact ⟨by rw [sb.fr]; exact e.frames, e.mod, e.bs, e.bsz, e.funs, e.frf, e.hok, e.bare⟩
  have hl := F.len _ _ _ _ hsp
  have r2 : Vals [V.ref a, y] [Value.ref a, v] := .cons rfl (.cons ry .nil)
  refine wpAny_call (codeAny_mono (F.run A X.stack s H ⟨[.ref a, v], []⟩ [.ref a, v] [.ref a, y] _ E sb.room e0 (by
    have := hb s [.ref a, v] I.kIn (by simpa using hl)
    simpa using this) r2 hsp) fun r s' hq => ?_)
  cases r with
  | error e => exact hx pins σ H s e s' I hq
  | ok fl =>
    cases fl with
    | ret w =>
      obtain ⟨z, H', I', rz, ez, ex⟩ := I.after hq
      subst ez
      cases rz
      exact ⟨rfl, H', I', ex⟩
    | next => exact False.elim hq
    | brk => exact False.elim hq
    | cont => exact False.elim hq
/-! isinstance of what OD tells -/
structure Kits (K : PySem.W.Frag) (cl : Nat → OCls) (n : Nat) : Prop where
  kc : ∀ k, k < n → ∃ cd, PySem.W.clsIn K (cl k).C = some cd
  kt : ∀ k, k < n → PySem.W.typeIn K (.ref (cl k).C) = some (.type "type")
  ty : ∀ k, k < n → ∀ (H : Hp) (a dx : Addr) (fs : List (Str × V)), H a = some (.ins (cl k).C dx fs) → TyX K H (.ref a) (.ref (cl k).C)
theorem kitN {K : PySem.W.Frag} {C : Addr} {t : Value} {cd : ClassData} (kc : PySem.W.clsIn K C = some cd) (kt : PySem.W.typeIn K (.ref C) = some (.type "type")) (ks : PySem.W.subIn K t (.ref C) = some false) (hn : (t == .ref C) = false) : PySem.W.kitOne K t (.ref C) = some false := by
  unfold PySem.W.kitOne
  rw [if_neg (by rw [hn]; exact Bool.false_ne_true)]
  unfold PySem.W.kitCls
  dsimp only
  rw [kc, kt, ks]
  simp
theorem kitY {K : PySem.W.Frag} {C : Addr} {t : Value} {cd : ClassData} (kc : PySem.W.clsIn K C = some cd) (kt : PySem.W.typeIn K (.ref C) = some (.type "type")) (ks : PySem.W.subIn K t (.ref C) = some true) : PySem.W.kitOne K t (.ref C) = some true := by
  unfold PySem.W.kitOne
  split
  · rfl
  · unfold PySem.W.kitCls
    dsimp only
    rw [kc, kt, ks]
    simp
theorem kitS {K : PySem.W.Frag} {C : Addr} : PySem.W.kitOne K (.ref C) (.ref C) = some true := by
  unfold PySem.W.kitOne
  rw [if_pos (beq_self_eq_true _)]
end Kx
set_option linter.all false
namespace Kx
open PySem L2 PySem.Spec PyProof.Rows
/-! the three classes: Cond, Method, ClassDef -/
def nm : Nat → List Str
  | 0 => ["clauses", "terms"]
  | 1 => ["name", "params", "result", "pre", "post", "body"]
  | _ => ["name", "bases", "fields", "where", "methods"]
abbrev clk (C f : Nat → Addr) (k : Nat) : OCls := ⟨C k, f k, nm k, if k = 0 then 4 else if k = 1 then 5 else 7⟩
/-- m parts, each of S, with no list in it, and no deeper than n -/
def Shp (cl : Nat → OCls) (S : Nat → List OD → Prop) (n m : Nat) (ds : List OD) : Prop := ds.length = m ∧ ∀ d ∈ ds, okO S d ∧ noL d ∧ need cl d ≤ n
abbrev Sn : Nat → List OD → Prop := fun _ _ => False
def S0 (cl : Nat → OCls) (k : Nat) (ds : List OD) : Prop := k = 0 ∧ Shp cl Sn 3 2 ds
def S1 (cl : Nat → OCls) (k : Nat) (ds : List OD) : Prop := S0 cl k ds ∨ (k = 1 ∧ Shp cl (S0 cl) 4 6 ds)
def S2 (cl : Nat → OCls) (k : Nat) (ds : List OD) : Prop := S1 cl k ds ∨ (k = 2 ∧ Shp cl (S1 cl) 6 5 ds)
section
variable {cl : Nat → OCls} {k : Nat} {ds : List OD}
theorem s0_lt (h : S0 cl k ds) : k < 3 := by rw [h.1]; decide
theorem s1_lt (h : S1 cl k ds) : k < 3 := by
  rcases h with h | ⟨rfl, _⟩
  · exact s0_lt h
  · decide
theorem s2_lt (h : S2 cl k ds) : k < 3 := by
  rcases h with h | ⟨rfl, _⟩
  · exact s1_lt h
  · decide
theorem s1_0 (h : S1 cl 0 ds) : Shp cl Sn 3 2 ds := by
  rcases h with h | ⟨z, _⟩
  · exact h.2
  · cases z
theorem s2_0 (h : S2 cl 0 ds) : Shp cl Sn 3 2 ds := by
  rcases h with h | ⟨z, _⟩
  · exact s1_0 h
  · cases z
theorem s1_1 (h : S1 cl 1 ds) : Shp cl (S0 cl) 4 6 ds := by
  rcases h with ⟨z, _⟩ | ⟨_, h⟩
  · cases z
  · exact h
theorem s2_1 (h : S2 cl 1 ds) : Shp cl (S0 cl) 4 6 ds := by
  rcases h with h | ⟨z, _⟩
  · exact s1_1 h
  · cases z
theorem s2_2 (h : S2 cl 2 ds) : Shp cl (S1 cl) 6 5 ds := by
  rcases h with (⟨z, _⟩ | ⟨z, _⟩) | ⟨_, h⟩
  · cases z
  · cases z
  · exact h
end
theorem isi_no {K : PySem.W.Frag} {cl : Nat → OCls} {S : Nat → List OD → Prop} {k : Nat} {e : OD} {y : V} {H : Hp} (hS : ∀ l es, S l es → l < 3) (KT : Kits K cl 3) (W : OwnCls K cl S) (hk : Dm S k) (he : Oh K cl H e y) (oE : okO S e) (hne : ∀ es, e ≠ .obj k es) : ∃ t, TyX K H y t ∧ PySem.W.kitOne K t (.ref (cl k).C) = some false := by
  have k6 : k < 3 := let ⟨ds, h⟩ := hk; hS k ds h
  obtain ⟨cd, kc⟩ := KT.kc k k6
  have kt := KT.kt k k6
  have no : ∀ T, T ∈ ["NoneType", "bool", "int", "str", "tuple", "list"] → PySem.W.kitOne K (.type T) (.ref (cl k).C) = some false := fun T hT => kitN kc kt (W.sT k hk T hT).1 (by simp)
  cases e with
  | fl v =>
    obtain ⟨rfl, h⟩ := he
    cases y with
    | non => exact ⟨_, .base .non, no _ (by decide)⟩
    | bl b => exact ⟨_, .base (.bl b), no _ (by decide)⟩
    | int b => exact ⟨_, .base (.int b), no _ (by decide)⟩
    | str b => exact ⟨_, .base (.str b), no _ (by decide)⟩
    | _ => cases h
  | tup ds =>
    obtain ⟨a, xs, rfl, h, _⟩ := he
    exact ⟨_, tyT h, no _ (by decide)⟩
  | lst ds =>
    obtain ⟨a, xs, rfl, h, _⟩ := he
    exact ⟨_, .base (.lst h), no _ (by decide)⟩
  | obj l es =>
    obtain ⟨a, dx, fs, xs, rfl, h, _, _⟩ := he
    have hl : k ≠ l := fun z => hne es (by rw [z])
    refine ⟨_, KT.ty l (hS l es oE.1) H a dx fs h, kitN kc kt (W.sub k l hk ⟨_, oE.1⟩ hl) ?_⟩
    have : (cl l).C ≠ (cl k).C := fun z => hl (W.inj k l hk ⟨_, oE.1⟩ z.symm)
    simpa using this
theorem eqo_ne {k : Nat} {ds : List OD} {e : OD} (hne : ∀ es, e ≠ .obj k es) : eqo (.obj k ds) e = false := by
  cases e with
  | fl v => exact eqo_obj_fl
  | tup v => exact eqo_obj_tup
  | lst v => exact eqo_obj_lst
  | obj l es =>
    have hl : k ≠ l := fun z => hne es (by rw [z])
    show (k == l && eqoAll ds es) = false
    rw [beq_eq_false_iff_ne.mpr hl, Bool.false_and]
theorem ohx {K : PySem.W.Frag} {cl : Nat → OCls} {H : Hp} {ds : List OD} {xs : List V} {a : Option V} {as : List (Option V)} (h : a :: as = xs.map some) (q : OhAll K cl H ds xs) : ∃ d ds' v xs', ds = d :: ds' ∧ xs = v :: xs' ∧ a = some v ∧ Oh K cl H d v ∧ as = xs'.map some ∧ OhAll K cl H ds' xs' := by
  match xs, h with
  | v :: xs, h =>
    injection h with h1 h2
    match ds, q with
    | d :: ds, ⟨_, _, e, h, q⟩ =>
      cases e
      exact ⟨d, ds, v, xs, rfl, rfl, h1, h, h2, q⟩
    | [], q => cases q
theorem oh0 {K : PySem.W.Frag} {cl : Nat → OCls} {H : Hp} {ds : List OD} {xs : List V} (h : ([] : List (Option V)) = xs.map some) (q : OhAll K cl H ds xs) : ds = [] := by
  match xs, h with
  | [], _ =>
    match ds, q with
    | [], _ => rfl
    | _ :: _, ⟨_, _, e, _⟩ => cases e

theorem oh1 {K : PySem.W.Frag} {cl : Nat → OCls} {H : Hp} {ds : List OD} {xs : List V} {a0 : Option V} (h : [a0] = xs.map some) (q : OhAll K cl H ds xs) : ∃ d0 v0, ds = [d0] ∧ a0 = some v0 ∧ Oh K cl H d0 v0 := by
  obtain ⟨d0, r0, v0, x0, rfl, rfl, e0, o0, h0, q0⟩ := ohx h q
  have := oh0 h0 q0
  subst this
  exact ⟨d0, v0, rfl, e0, o0⟩
theorem oh5 {K : PySem.W.Frag} {cl : Nat → OCls} {H : Hp} {ds : List OD} {xs : List V} {a0 a1 a2 a3 a4 : Option V} (h : [a0, a1, a2, a3, a4] = xs.map some) (q : OhAll K cl H ds xs) : ∃ d0 d1 d2 d3 d4 v0 v1 v2 v3 v4, ds = [d0, d1, d2, d3, d4] ∧ a0 = some v0 ∧ a1 = some v1 ∧ a2 = some v2 ∧ a3 = some v3 ∧ a4 = some v4 ∧ Oh K cl H d0 v0 ∧ Oh K cl H d1 v1 ∧ Oh K cl H d2 v2 ∧ Oh K cl H d3 v3 ∧ Oh K cl H d4 v4 := by
  obtain ⟨d0, r0, v0, x0, rfl, rfl, e0, o0, h0, q0⟩ := ohx h q
  obtain ⟨d1, r1, v1, x1, rfl, rfl, e1, o1, h1, q1⟩ := ohx h0 q0
  obtain ⟨d2, r2, v2, x2, rfl, rfl, e2, o2, h2, q2⟩ := ohx h1 q1
  obtain ⟨d3, r3, v3, x3, rfl, rfl, e3, o3, h3, q3⟩ := ohx h2 q2
  obtain ⟨d4, r4, v4, x4, rfl, rfl, e4, o4, h4, q4⟩ := ohx h3 q3
  have := oh0 h4 q4
  subst this
  exact ⟨d0, d1, d2, d3, d4, v0, v1, v2, v3, v4, rfl, e0, e1, e2, e3, e4, o0, o1, o2, o3, o4⟩
theorem oh6 {K : PySem.W.Frag} {cl : Nat → OCls} {H : Hp} {ds : List OD} {xs : List V} {a0 a1 a2 a3 a4 a5 : Option V} (h : [a0, a1, a2, a3, a4, a5] = xs.map some) (q : OhAll K cl H ds xs) : ∃ d0 d1 d2 d3 d4 d5 v0 v1 v2 v3 v4 v5, ds = [d0, d1, d2, d3, d4, d5] ∧ a0 = some v0 ∧ a1 = some v1 ∧ a2 = some v2 ∧ a3 = some v3 ∧ a4 = some v4 ∧ a5 = some v5 ∧ Oh K cl H d0 v0 ∧ Oh K cl H d1 v1 ∧ Oh K cl H d2 v2 ∧ Oh K cl H d3 v3 ∧ Oh K cl H d4 v4 ∧ Oh K cl H d5 v5 := by
  obtain ⟨d0, r0, v0, x0, rfl, rfl, e0, o0, h0, q0⟩ := ohx h q
  obtain ⟨d1, r1, v1, x1, rfl, rfl, e1, o1, h1, q1⟩ := ohx h0 q0
  obtain ⟨d2, r2, v2, x2, rfl, rfl, e2, o2, h2, q2⟩ := ohx h1 q1
  obtain ⟨d3, r3, v3, x3, rfl, rfl, e3, o3, h3, q3⟩ := ohx h2 q2
  obtain ⟨d4, r4, v4, x4, rfl, rfl, e4, o4, h4, q4⟩ := ohx h3 q3
  obtain ⟨d5, r5, v5, x5, rfl, rfl, e5, o5, h5, q5⟩ := ohx h4 q4
  have := oh0 h5 q5
  subst this
  exact ⟨d0, d1, d2, d3, d4, d5, v0, v1, v2, v3, v4, v5, rfl, e0, e1, e2, e3, e4, e5, o0, o1, o2, o3, o4, o5⟩
/-- what the text has of these classes -/
structure Txt (K : PySem.W.Frag) (mg : Str → Option Value) (C f : Nat → Addr) : Prop where
  W : OwnCls K (clk C f) (S2 (clk C f))
  KT : Kits K (clk C f) 3
  cls : ∀ k, k < 3 → Cls K (C k)
  no : ∀ k, k < 3 → ∀ x ∈ nm k, NoAttr K (C k) x
  isi : mg "isinstance" = none
theorem own_up {K : PySem.W.Frag} {cl : Nat → OCls} {S S' : Nat → List OD → Prop} (W : OwnCls K cl S) (h : ∀ k ds, S' k ds → S k ds) : OwnCls K cl S' := by
  have up : ∀ k, Dm S' k → Dm S k := fun k ⟨ds, z⟩ => ⟨ds, h k ds z⟩
  exact ⟨fun k h => W.eqf k (up k h), fun k h => W.isf k (up k h), fun k l h h' => W.inj k l (up k h) (up l h'), fun k l h h' => W.sub k l (up k h) (up l h'), fun k h => W.sT k (up k h)⟩
abbrev GivesAll (P : Program) (w : World) (K : PySem.W.Frag) (mg : Str → Option Value) (base : Heap) (cl : Nat → OCls) (S : Nat → List OD → Prop) : Prop := ∀ X : Cx, X.prog = P → X.w = w → X.K = K → X.mg = mg → X.base = base → OwnGives X cl S
theorem givesN {P : Program} {w : World} {K : PySem.W.Frag} {mg : Str → Option Value} {base : Heap} {cl : Nat → OCls} : GivesAll P w K mg base cl Sn := fun X _ _ _ _ _ k ds h => h.elim
section
variable {P : Program} {w : World} {K : PySem.W.Frag} {mg : Str → Option Value} {base : Heap} {C fe : Nat → Addr}
end
end Kx
set_option linter.all false
namespace Kx
open PySem L2 PySem.Spec PyProof.Rows
open StX (pe_makeR tMakeR)
/-! conditions as data; a Cond made -/
abbrev litO (l : Lit) : OD := .tup [.fl (.str l.1), .fl (.str l.2.1), .fl (.int l.2.2)]
abbrev clO (c : List Lit) : OD := .tup (c.map litO)
abbrev strsO (l : List Str) : OD := .tup (l.map fun t => .fl (.str t))
abbrev cO (cs : List (List Lit)) (ys : List Str) : OD := .obj 0 [.tup (cs.map clO), strsO ys]
section
variable {K : PySem.W.Frag} {cl : Nat → OCls} {H : Hp}
theorem lit_od {x : V} {l : Lit} (h : IsLit K H x l) : Oh K cl H (litO l) x := by
  obtain ⟨a, rfl, q⟩ := h
  exact oh_tup q (oh_cons (oh_str _) (oh_cons (oh_str _) (oh_cons (oh_int _) oh_nil)))
theorem lits_od : ∀ {xs : List V} {c : List Lit}, Paired (IsLit K H) xs c → OhAll K cl H (c.map litO) xs
  | _, _, .nil => rfl
  | _, _, .cons h q => oh_cons (lit_od h) (lits_od q)
theorem cl_od {x : V} {c : List Lit} (h : IsC K H x c) : Oh K cl H (clO c) x := by
  obtain ⟨a, ys, rfl, q⟩ := h
  exact oh_tup q.sq (lits_od q.p)
theorem cls_od : ∀ {xs : List V} {cs : List (List Lit)}, Paired (IsC K H) xs cs → OhAll K cl H (cs.map clO) xs
  | _, _, .nil => rfl
  | _, _, .cons h q => oh_cons (cl_od h) (cls_od q)
theorem ok_lits {S : Nat → List OD → Prop} : ∀ (c : List Lit), okAll S (c.map litO) ∧ noLs (c.map litO) ∧ needAll cl (c.map litO) ≤ 1
  | [] => ⟨trivial, trivial, Nat.zero_le _⟩
  | l :: c => let ⟨a, b, d⟩ := ok_lits c; ⟨⟨⟨trivial, trivial, trivial, trivial⟩, a⟩, ⟨⟨trivial, trivial, trivial, trivial⟩, b⟩, Nat.max_le.mpr ⟨by show max 0 (max 0 (max 0 0)) + 1 ≤ 1; decide, d⟩⟩
theorem ok_cls {S : Nat → List OD → Prop} : ∀ (cs : List (List Lit)), okAll S (cs.map clO) ∧ noLs (cs.map clO) ∧ needAll cl (cs.map clO) ≤ 2
  | [] => ⟨trivial, trivial, Nat.zero_le _⟩
  | c :: cs => let ⟨a, b, d⟩ := ok_cls cs; let ⟨e, f, g⟩ := ok_lits (cl := cl) (S := S) c; ⟨⟨e, a⟩, ⟨f, b⟩, Nat.max_le.mpr ⟨Nat.succ_le_succ g, d⟩⟩
theorem ok_strs {S : Nat → List OD → Prop} : ∀ (l : List Str), okAll S (l.map fun t => .fl (.str t)) ∧ noLs (l.map fun t => .fl (.str t)) ∧ needAll cl (l.map fun t => .fl (.str t)) ≤ 0
  | [] => ⟨trivial, trivial, Nat.le_refl _⟩
  | l :: c => let ⟨a, b, d⟩ := ok_strs c; ⟨⟨trivial, a⟩, ⟨trivial, b⟩, Nat.max_le.mpr ⟨Nat.le_refl _, d⟩⟩
theorem strs_od : ∀ {l : List Str}, OhAll K cl H (l.map fun t => .fl (.str t)) (l.map V.str)
  | [] => rfl
  | t :: _ => oh_cons (oh_str t) strs_od
theorem od_strs : ∀ {l : List Str} {xs : List V}, OhAll K cl H (l.map fun t => .fl (.str t)) xs → xs = l.map V.str
  | [], _, h => h
  | t :: l, _, ⟨v, ys, e, ⟨h, _⟩, q⟩ => by rw [e, h, od_strs q] <;> rfl
theorem ok_cO (cs : List (List Lit)) (ys : List Str) : okO (S0 cl) (cO cs ys) ∧ noL (cO cs ys) := by
  obtain ⟨a, b, d⟩ := ok_cls (cl := cl) (S := Sn) cs
  obtain ⟨a', b', d'⟩ := ok_cls (cl := cl) (S := S0 cl) cs
  obtain ⟨e, f, g⟩ := ok_strs (cl := cl) (S := Sn) ys
  obtain ⟨e', f', g'⟩ := ok_strs (cl := cl) (S := S0 cl) ys
  refine ⟨⟨⟨rfl, rfl, fun x hx => ?_⟩, a', e', trivial⟩, b, f, trivial⟩
  simp only [List.mem_cons, List.not_mem_nil, or_false] at hx
  rcases hx with rfl | rfl
  · exact ⟨a, b, Nat.succ_le_succ d⟩
  · exact ⟨e, f, Nat.le_trans (Nat.succ_le_succ g) (by decide)⟩
end
theorem need_cO {C f : Nat → Addr} (cs : List (List Lit)) (ys : List Str) : need (clk C f) (cO cs ys) ≤ 4 := Nat.le_refl _
theorem cond_od {K : PySem.W.Frag} {C f : Nat → Addr} {H : Hp} {r dz p q : Addr} {cs : List (List Lit)} {ys : List Str} (h : CondF K H r (C 0) dz p q cs ys) : Oh K (clk C f) H (cO cs ys) (.ref r) := by
  obtain ⟨xs, hc⟩ := h.cl
  exact ⟨r, dz, _, [.ref p, .ref q], rfl, h.ins, rfl, oh_cons (oh_tup hc.sq (cls_od hc.p)) (oh_cons (oh_tup h.tm strs_od) oh_nil)⟩
theorem cond0_od {K : PySem.W.Frag} {C f : Nat → Addr} {H : Hp} {r dz p q : Addr} {ys : List Str} (h : CondF K H r (C 0) dz p q [] ys) : Oh K (clk C f) H (cO [] []) (.ref r) := by
  have e : ys = [] := by
    cases ys with
    | nil => rfl
    | cons y ys => exact absurd ((h.mem y).mp List.mem_cons_self) (by simp [termsOf])
  subst e
  exact cond_od h
/-- None gives way to Cond() -/
def fill : OD → OD
  | .fl .non => cO [] []
  | d => d
theorem oh_nn {K : PySem.W.Frag} {cl : Nat → OCls} {H : Hp} {d : OD} {v : V} (h : Oh K cl H d v) : (v = .non ∧ d = .fl .non) ∨ (v ≠ .non ∧ fill d = d) := by
  cases d with
  | fl w =>
    obtain ⟨rfl, _⟩ := h
    by_cases z : v = .non
    · subst z; exact .inl ⟨rfl, rfl⟩
    · refine .inr ⟨z, ?_⟩
      cases v with
      | non => exact absurd rfl z
      | _ => rfl
  | tup ds => obtain ⟨_, _, rfl, _⟩ := h; exact .inr ⟨nofun, rfl⟩
  | lst ds => obtain ⟨_, _, rfl, _⟩ := h; exact .inr ⟨nofun, rfl⟩
  | obj k ds => obtain ⟨_, _, _, _, rfl, _⟩ := h; exact .inr ⟨nofun, rfl⟩
/-- what holds of a part and of Cond() holds of the part filled -/
theorem fill_p {P : OD → Prop} {d : OD} (h : P d) (h0 : P (cO [] [])) : P (fill d) := by
  unfold fill
  split
  · exact h0
  · exact h
mutual
theorem Oh.keepC {K : PySem.W.Frag} {cl : Nat → OCls} {S : Nat → List OD → Prop} {H H' : Hp} {a C dx : Addr} {fs : List (Str × V)} (hk : ∀ k ds, S k ds → (cl k).C ≠ C) (hp : H a = some (.ins C dx fs)) (kb : KeepB a H H') : ∀ (d : OD) (v : V), okO S d → Oh K cl H d v → Oh K cl H' d v
  | .fl _, _, _, h => h
  | .tup ds, _, o, ⟨b, xs, e, h, q⟩ => ⟨b, xs, e, by
      rcases h with (h | ⟨z, h⟩) | h
      · exact .inl (.inl (kb _ _ (fun z => by rw [z, hp] at h; cases h) h))
      · exact .inl (.inr ⟨z, kb _ _ (fun z => by rw [z, hp] at h; cases h) h⟩)
      · exact .inr h, OhAll.keepC hk hp kb ds xs o q⟩
  | .lst ds, _, o, ⟨b, xs, e, h, q⟩ => ⟨b, xs, e, kb _ _ (fun z => by rw [z, hp] at h; cases h) h, OhAll.keepC hk hp kb ds xs o q⟩
  | .obj k ds, _, o, ⟨b, dx', fs', xs, e, h, l, q⟩ => ⟨b, dx', fs', xs, e, kb _ _ (fun z => by
      rw [z, hp] at h
      injection h with h
      injection h with h _ _
      exact hk k ds o.1 h.symm) h, l, OhAll.keepC hk hp kb ds xs o.2 q⟩
theorem OhAll.keepC {K : PySem.W.Frag} {cl : Nat → OCls} {S : Nat → List OD → Prop} {H H' : Hp} {a C dx : Addr} {fs : List (Str × V)} (hk : ∀ k ds, S k ds → (cl k).C ≠ C) (hp : H a = some (.ins C dx fs)) (kb : KeepB a H H') : ∀ (ds : List OD) (xs : List V), okAll S ds → OhAll K cl H ds xs → OhAll K cl H' ds xs
  | [], _, _, h => h
  | d :: ds, _, o, ⟨v, ys, e, h, q⟩ => ⟨v, ys, e, Oh.keepC hk hp kb d v o.1 h, OhAll.keepC hk hp kb ds ys o.2 q⟩
end
abbrev NoF : XK → Hp → Int → Prop := fun _ _ _ => False
theorem init_ok {K : PySem.W.Frag} {H H1 : Hp} {C : Addr} {vs : List V} {cs : List (List Lit)} {Q : VK} {E : XK} (s1 : Same H H1) (hp : Paired (IsC K H1) vs cs) (hsh : shortC cs) (hl : cs.length ≤ 1000) (hw : firstWrong cs = none)
    (k : ∀ r dz p q ys H', CondF K H' r C dz p q cs ys → Same H H' → H r = none → Q (.ref r) H') : ∀ x dx, H1 x = none → H1 dx = none → dx ≠ x →
      spInit K C NoF (V.ref x :: vs) (upd (upd H1 dx (.own x)) x (.ins C dx [])) (fun v H2 => v = .non ∧ Q (.ref x) H2) E := by
  intro r dz hr0 hdz hne
  have hml : vs.length = cs.length := Paired.length hp
  refine ⟨[.ref r], vs, rfl, rfl, Nat.le_of_lt (small1000 (by omega)), fun p2 hp2 => ?_⟩
  have s5 : Same H1 (upd (upd H1 dz (.own r)) r (.ins C dz [])) := same_upd hr0 (new_same hdz)
  have s6 : Same H1 (upd (upd (upd H1 dz (.own r)) r (.ins C dz [])) p2 (.tup vs)) := fun b u z => new_same hp2 _ _ (s5 _ _ z)
  have hrp : r ≠ p2 := fun z => by
    rw [← z, upd_same] at hp2
    cases hp2
  refine ⟨r, dz, p2, vs, cs, rfl, (by rw [upd_ne hrp]; exact upd_same), ⟨SqT.of upd_same, pairedC_same s6 hp, hl⟩, hsh, fun _ H' q2 zs hF hk => ⟨rfl, ?_⟩, fun i z => ?_⟩
  · refine k r dz p2 q2 zs H' hF (fun b u z => hk b u (fun e => ?_) (s6 _ _ (s1 _ _ z))) (Same.free s1 hr0)
    rw [e, Same.free s1 hr0] at z
    cases z
  · rw [hw] at z
    cases z
theorem makeZ_go {K : PySem.W.Frag} {H : Hp} {C : Addr} {Q : VK} {E : XK} {σ : L2.St}
    (k : ∀ r dz p q ys H', CondF K H' r C dz p q [] ys → Same H H' → H r = none → Q (.ref r) H') : tMakeR C (spInit K C NoF) E tNil σ H Q :=
  init_ok (fun _ _ z => z) .nil (fun _ z => nomatch z) (by decide) rfl k
theorem isC_new {K : PySem.W.Frag} {H : Hp} {t u : Addr} {a b : Str} {n : Int} (ht : H t = none) (hu : (upd H t (.tup [.str a, .str b, .int n])) u = none) :
    IsC K (upd (upd H t (.tup [.str a, .str b, .int n])) u (.tup [.ref t])) (.ref u) [(a, b, n)] ∧ Same H (upd (upd H t (.tup [.str a, .str b, .int n])) u (.tup [.ref t])) :=
  ⟨⟨u, [.ref t], rfl, SqT.of upd_same, .cons ⟨t, rfl, SqT.same (new_same hu) (SqT.of upd_same)⟩ .nil, by show 1 ≤ 1; decide, by show 1 ≤ 1000; decide⟩, fun b o z => new_same hu _ _ (new_same ht _ _ z)⟩
theorem shE : Short "" := ⟨by decide +kernel, by decide +kernel, by decide +kernel⟩
theorem shX : Short "x" := ⟨by decide +kernel, by decide +kernel, by decide +kernel⟩
structure CondMk (K : PySem.W.Frag) (mg : Str → Option Value) (C fI : Addr) (fdI : FuncData) : Prop where
  D : Cnd K mg C
  I : Fun K "__init__" "Cond.__init__" sInit fI fdI
  M : Mk K C fI
/-! more about data -/
theorem noLs_of : ∀ {ds : List OD}, (∀ d ∈ ds, noL d) → noLs ds
  | [], _ => trivial
  | d :: ds, h => ⟨h d List.mem_cons_self, noLs_of fun e he => h e (List.mem_cons_of_mem _ he)⟩
section
variable {K : PySem.W.Frag} {cl : Nat → OCls} {H1 : Hp} {xs : List V} {ds : List OD} {Q : VK}
/-- a new tuple -/
theorem tup_new {p : Addr} (hp : H1 p = none) (hx : OhAll K cl H1 ds xs) : Oh K cl (upd H1 p (.tup xs)) (.tup ds) (.ref p) ∧ Same H1 (upd H1 p (.tup xs)) := ⟨oh_tup (SqT.of upd_same) (OhAll.ext (ext_of (new_same hp)) ds xs hx), new_same hp⟩
/-- a draw -/
theorem od_pick {p q : Addr} {n m : Int} {r : Nat} {v : V} {zs : List V} (W : WellAt H1 p n) (hq : H1 q = none) (ha : OhAll K cl H1 ds xs) (nl : noLs ds) (hv : xs[r]? = some v) (W2 : WellAt (upd (upd H1 q (.lst xs)) p (.lst zs)) p m) :
    ∃ H', upd (upd H1 q (.lst xs)) p (.lst zs) = H' ∧ KeepB p H1 H' ∧ WellAt H' p m ∧ ∃ d, d ∈ ds ∧ noL d ∧ Oh K cl H' d v := by
  have k2 : KeepB p H1 (upd (upd H1 q (.lst xs)) p (.lst zs)) := (KeepB.of (new_same hq)).trans KeepB.at
  obtain ⟨d, hd, od⟩ := ohAll_get ds xs r v ha hv
  obtain ⟨ms, hp⟩ := W.lst
  exact ⟨_, rfl, k2, W2, d, List.mem_of_getElem? hd, noLs_get nl hd, Oh.keepB hp k2 d v (noLs_get nl hd) od⟩
theorem same_make {x dx C : Addr} {H H' : Hp} (nx : H x = none) (ndx : H dx = none) (k : KeepB x (upd (upd H dx (.own x)) x (.ins C dx [])) H') : Same H H' := fun b u e => by
  have hb : b ≠ x := fun z => by rw [z, nx] at e; cases e
  have hd : b ≠ dx := fun z => by rw [z, ndx] at e; cases e
  exact k b u hb (by rw [upd_ne hb, upd_ne hd]; exact e)
theorem Oh.sm {H H' : Hp} (s : Same H H') {d : OD} {v : V} (h : Oh K cl H d v) : Oh K cl H' d v := Oh.ext (ext_of s) d v h
theorem OhAll.sm {H H' : Hp} (s : Same H H') {d : List OD} {v : List V} (h : OhAll K cl H d v) : OhAll K cl H' d v := OhAll.ext (ext_of s) d v h
end
mutual
theorem okO_mono {S S' : Nat → List OD → Prop} (h : ∀ k ds, S k ds → S' k ds) : ∀ (d : OD), okO S d → okO S' d
  | .fl _, _ => trivial
  | .tup xs, o => okAll_mono h xs o
  | .lst xs, o => okAll_mono h xs o
  | .obj k xs, o => ⟨h k xs o.1, okAll_mono h xs o.2⟩
theorem okAll_mono {S S' : Nat → List OD → Prop} (h : ∀ k ds, S k ds → S' k ds) : ∀ (ds : List OD), okAll S ds → okAll S' ds
  | [], _ => trivial
  | d :: ds, o => ⟨okO_mono h d o.1, okAll_mono h ds o.2⟩
end
abbrev rMk (K : PySem.W.Frag) (C : Addr) (t : TA) : TE := tMakeR C (spInit K C NoF) E0 t
end Kx
set_option linter.all false
namespace Kx
open PySem L2 PySem.Spec PyProof.Rows
open StX (pe_makeR tMakeR)
/-! Method and ClassDef made -/
abbrev sInM : Stmt := inClass (top 33) 0
abbrev sInC : Stmt := inClass (top 34) 0
abbrev pM : List Str := ["self", "name", "params", "result", "pre", "post", "body"]
abbrev pC : List Str := ["self", "name", "bases", "fields", "where", "methods"]
abbrev FunM (K : PySem.W.Frag) (f : Addr) (fd : FuncData) : Prop := FunD K "__init__" "Method.__init__" (defArgs sInM) (defBody sInM) (defScope sInM) [] [("pre", .non), ("post", .non)] f fd
abbrev FunC (K : PySem.W.Frag) (e0 e1 e2 : Addr) (f : Addr) (fd : FuncData) : Prop := FunD K "__init__" "ClassDef.__init__" (defArgs sInC) (defBody sInC) (defScope sInC) [.ref e0] [("fields", .ref e1), ("where", .non), ("methods", .ref e2)] f fd
/-- parts with Cond() in the place of None at some places -/
def fullK (ks : List Nat) (ds : List OD) : List OD := ks.foldl (fun ds k => ds.set k (fill (ds.getD k (.fl .non)))) ds
structure NeC (C : Nat → Addr) : Prop where
  a : C 0 ≠ C 1
  b : C 0 ≠ C 2
  c : C 1 ≠ C 2
theorem hk1 {C f : Nat → Addr} (N : NeC C) : ∀ k ds, S0 (clk C f) k ds → (clk C f k).C ≠ C 1 := fun k ds h => by
  obtain ⟨rfl, _⟩ := h
  exact N.a
theorem hk2 {C f : Nat → Addr} (N : NeC C) : ∀ k ds, S1 (clk C f) k ds → (clk C f k).C ≠ C 2 := fun k ds h => by
  rcases h with ⟨rfl, _⟩ | ⟨rfl, _⟩
  · exact N.b
  · exact N.c
theorem ohl_c {K : PySem.W.Frag} {cl : Nat → OCls} {H : Hp} {ds : List OD} {xs : List V} {n : Nat} (h : ds.length = n + 1) (q : OhAll K cl H ds xs) : ∃ d ds' v xs', ds = d :: ds' ∧ xs = v :: xs' ∧ ds'.length = n ∧ Oh K cl H d v ∧ OhAll K cl H ds' xs' := by
  match ds, h, q with
  | d :: ds, h, ⟨v, ys, e, o, q⟩ => exact ⟨d, ds, v, ys, rfl, e, by simpa using h, o, q⟩
theorem ohl_n {K : PySem.W.Frag} {cl : Nat → OCls} {H : Hp} {ds : List OD} {xs : List V} (h : ds.length = 0) (q : OhAll K cl H ds xs) : ds = [] ∧ xs = [] := by
  match ds, h, q with
  | [], _, q => exact ⟨rfl, q⟩
theorem ohl5 {K : PySem.W.Frag} {cl : Nat → OCls} {H : Hp} {ds : List OD} {xs : List V} (h : ds.length = 5) (q : OhAll K cl H ds xs) : ∃ d0 d1 d2 d3 d4 v0 v1 v2 v3 v4, ds = [d0, d1, d2, d3, d4] ∧ xs = [v0, v1, v2, v3, v4] ∧ Oh K cl H d0 v0 ∧ Oh K cl H d1 v1 ∧ Oh K cl H d2 v2 ∧ Oh K cl H d3 v3 ∧ Oh K cl H d4 v4 := by
  obtain ⟨d0, r0, v0, x0, rfl, rfl, h0, o0, q0⟩ := ohl_c (n := 4) h q
  obtain ⟨d1, r1, v1, x1, rfl, rfl, h1, o1, q1⟩ := ohl_c (n := 3) h0 q0
  obtain ⟨d2, r2, v2, x2, rfl, rfl, h2, o2, q2⟩ := ohl_c (n := 2) h1 q1
  obtain ⟨d3, r3, v3, x3, rfl, rfl, h3, o3, q3⟩ := ohl_c (n := 1) h2 q2
  obtain ⟨d4, r4, v4, x4, rfl, rfl, h4, o4, q4⟩ := ohl_c (n := 0) h3 q3
  obtain ⟨rfl, rfl⟩ := ohl_n h4 q4
  exact ⟨d0, d1, d2, d3, d4, v0, v1, v2, v3, v4, rfl, rfl, o0, o1, o2, o3, o4⟩
theorem ohl6 {K : PySem.W.Frag} {cl : Nat → OCls} {H : Hp} {ds : List OD} {xs : List V} (h : ds.length = 6) (q : OhAll K cl H ds xs) : ∃ d0 d1 d2 d3 d4 d5 v0 v1 v2 v3 v4 v5, ds = [d0, d1, d2, d3, d4, d5] ∧ xs = [v0, v1, v2, v3, v4, v5] ∧ Oh K cl H d0 v0 ∧ Oh K cl H d1 v1 ∧ Oh K cl H d2 v2 ∧ Oh K cl H d3 v3 ∧ Oh K cl H d4 v4 ∧ Oh K cl H d5 v5 := by
  obtain ⟨d0, r0, v0, x0, rfl, rfl, h0, o0, q0⟩ := ohl_c (n := 5) h q
  obtain ⟨d1, r1, v1, x1, rfl, rfl, h1, o1, q1⟩ := ohl_c (n := 4) h0 q0
  obtain ⟨d2, r2, v2, x2, rfl, rfl, h2, o2, q2⟩ := ohl_c (n := 3) h1 q1
  obtain ⟨d3, r3, v3, x3, rfl, rfl, h3, o3, q3⟩ := ohl_c (n := 2) h2 q2
  obtain ⟨d4, r4, v4, x4, rfl, rfl, h4, o4, q4⟩ := ohl_c (n := 1) h3 q3
  obtain ⟨d5, r5, v5, x5, rfl, rfl, h5, o5, q5⟩ := ohl_c (n := 0) h4 q4
  obtain ⟨rfl, rfl⟩ := ohl_n h5 q5
  exact ⟨d0, d1, d2, d3, d4, d5, v0, v1, v2, v3, v4, v5, rfl, rfl, o0, o1, o2, o3, o4, o5⟩
def spIn (K : PySem.W.Frag) (cl : Nat → OCls) (k n m : Nat) (S : Nat → List OD → Prop) (ks : List Nat) : Sp := fun vs H Q _ => ∃ (a dx : Addr) (ds : List OD) (xs : List V), vs = .ref a :: xs ∧ H a = some (.ins (cl k).C dx []) ∧ OhAll K cl H ds xs ∧ Shp cl S n m ds ∧ ∀ H', KeepB a H H' → Oh K cl H' (.obj k (fullK ks ds)) (.ref a) → Q .non H'
theorem fill_go {K : PySem.W.Frag} {C f : Nat → Addr} {H : Hp} {σ : L2.St} {Q : VK} {i : Nat} {d : OD} {v : V} (hσ : σ[i]? = some (some v)) (o : Oh K (clk C f) H d v) (k : ∀ u H', Oh K (clk C f) H' (fill d) u → Same H H' → Q u H') :
    if decide (v = .non) = true then rMk K (C 0) tNil σ H Q else tVar i σ H Q := by
  rcases oh_nn o with ⟨rfl, rfl⟩ | ⟨hv, e⟩
  · rw [decide_eq_true rfl]
    refine iteT (makeZ_go (K := K) (C := C 0) (E := E0) (σ := σ) (Q := Q) fun r dz p q ys H' hF s _ => ?_)
    exact k _ _ (cond0_od hF) s
  · rw [decide_eq_false hv]
    refine iteF ⟨v, hσ, k v H ?_ fun _ _ z => z⟩
    rw [e]
    exact o
section
variable {P : Program} {w : World} {K : PySem.W.Frag} {mg : PySem.Str → Option Value} {base : Heap} {C fe : Nat → Addr} {fI e0 e1 e2 : Addr} {fdI : FuncData}
theorem scInM : FnScope pM pM (defScope sInM) := ⟨rfl, rfl, rfl, by decide +kernel, rfl, by decide +kernel, by decide +kernel⟩
theorem ok_inM {f : Addr} {fd : FuncData} (F : FunM K f fd) (T : Txt K mg C fe) (N : NeC C) (M : CondMk K mg (C 0) fI fdI) : FnOk P w K mg base CX0 8 f fd pM (spIn K (clk C fe) 1 4 6 (S0 (clk C fe)) [3, 4]) := by
  have GI : FnR P w K mg base CX0 6 fI (spInit K (C 0) NoF) := fnR_init0 M.I M.D
  refine F.ok scInM (fun vs H Q E h => ?_) (fun cdv A outer s H vs Q E hr h => ?_)
  · obtain ⟨a, dx, ds, xs, rfl, _, hx, hl, _⟩ := h
    show xs.length + 1 = 7
    rw [← OhAll.length ds xs hx, hl.1] <;> rfl
  · obtain ⟨a, dx, ds, xs, rfl, ha, hx, hl, q⟩ := h
    obtain ⟨d0, d1, d2, d3, d4, d5, v0, v1, v2, v3, v4, v5, rfl, rfl, o0, o1, o2, o3, o4, o5⟩ := ohl6 hl.1 hx
    have c0 := T.cls 1 (by decide)
    have n0 := T.no 1 (by decide)
    refine ⟨_, pss_cons (ps_fld (pv 0) (pv 1) (by rfl)) (pss_cons (ps_fld (pv 0) (pv 2) (by rfl)) (pss_cons (ps_fld (pv 0) (pv 3) (by rfl)) (pss_cons (ps_fld (pv 0) (pe_ifExp (pt_cmpR op_isN (pv 4) pe_non (nomark _)) (pe_makeZ (k := 6) (E := E0) M.M GI hr (by rfl) M.D.gC pass0) (pv 4)) (by rfl)) (pss_cons (ps_fld (pv 0) (pe_ifExp (pt_cmpR op_isN (pv 5) pe_non (nomark _)) (pe_makeZ (k := 6) (E := E0) M.M GI hr (by rfl) M.D.gC pass0) (pv 5)) (by rfl)) (pss_one (ps_fld (pv 0) (pv 6) (by rfl))))))), ?_⟩
    refine ⟨_, rfl, _, rfl, a, C 1, dx, [], rfl, ha, c0, n0 _ (by decide), (by show 0 < 1000; decide), ?_⟩
    have k0 : KeepB a H (upd H a (.ins (C 1) dx (putF "name" v0 []))) := KeepB.at
    have i0 : (upd H a (.ins (C 1) dx (putF "name" v0 []))) a = some (.ins (C 1) dx (putF "name" v0 [])) := upd_same
    obtain ⟨J0, eJ0⟩ : ∃ J, upd H a (.ins (C 1) dx (putF "name" v0 [])) = J := ⟨_, rfl⟩
    rw [eJ0] at k0 i0 ⊢
    refine ⟨_, rfl, _, rfl, a, C 1, dx, (putF "name" v0 []), rfl, i0, c0, n0 _ (by decide), (by show 1 < 1000; decide), ?_⟩
    have k1 : KeepB a J0 (upd J0 a (.ins (C 1) dx (putF "params" v1 (putF "name" v0 [])))) := KeepB.at
    have i1 : (upd J0 a (.ins (C 1) dx (putF "params" v1 (putF "name" v0 [])))) a = some (.ins (C 1) dx (putF "params" v1 (putF "name" v0 []))) := upd_same
    obtain ⟨J1, eJ1⟩ : ∃ J, upd J0 a (.ins (C 1) dx (putF "params" v1 (putF "name" v0 []))) = J := ⟨_, rfl⟩
    rw [eJ1] at k1 i1 ⊢
    refine ⟨_, rfl, _, rfl, a, C 1, dx, (putF "params" v1 (putF "name" v0 [])), rfl, i1, c0, n0 _ (by decide), (by show 2 < 1000; decide), ?_⟩
    have k2 : KeepB a J1 (upd J1 a (.ins (C 1) dx (putF "result" v2 (putF "params" v1 (putF "name" v0 []))))) := KeepB.at
    have i2 : (upd J1 a (.ins (C 1) dx (putF "result" v2 (putF "params" v1 (putF "name" v0 []))))) a = some (.ins (C 1) dx (putF "result" v2 (putF "params" v1 (putF "name" v0 [])))) := upd_same
    obtain ⟨J2, eJ2⟩ : ∃ J, upd J1 a (.ins (C 1) dx (putF "result" v2 (putF "params" v1 (putF "name" v0 [])))) = J := ⟨_, rfl⟩
    rw [eJ2] at k2 i2 ⊢
    refine ⟨_, rfl, rfl, _, rfl, fill_go (f := fe) (by rfl) (Oh.keepC (hk1 N) ha ((k0.trans k1).trans k2) _ _ (hl.2 d3 (by simp)).1 o3) fun u3 G3 w3 s3 => ?_⟩
    have j3 := s3 _ _ i2
    refine ⟨_, rfl, a, C 1, dx, (putF "result" v2 (putF "params" v1 (putF "name" v0 []))), rfl, j3, c0, n0 _ (by decide), (by show 3 < 1000; decide), ?_⟩
    have k3 : KeepB a G3 (upd G3 a (.ins (C 1) dx (putF "pre" u3 (putF "result" v2 (putF "params" v1 (putF "name" v0 [])))))) := KeepB.at
    have i3 : (upd G3 a (.ins (C 1) dx (putF "pre" u3 (putF "result" v2 (putF "params" v1 (putF "name" v0 [])))))) a = some (.ins (C 1) dx (putF "pre" u3 (putF "result" v2 (putF "params" v1 (putF "name" v0 []))))) := upd_same
    obtain ⟨J3, eJ3⟩ : ∃ J, upd G3 a (.ins (C 1) dx (putF "pre" u3 (putF "result" v2 (putF "params" v1 (putF "name" v0 []))))) = J := ⟨_, rfl⟩
    rw [eJ3] at k3 i3 ⊢
    refine ⟨_, rfl, rfl, _, rfl, fill_go (f := fe) (by rfl) (Oh.keepC (hk1 N) ha ((((k0.trans k1).trans k2).trans (KeepB.of s3)).trans k3) _ _ (hl.2 d4 (by simp)).1 o4) fun u4 G4 w4 s4 => ?_⟩
    have j4 := s4 _ _ i3
    refine ⟨_, rfl, a, C 1, dx, (putF "pre" u3 (putF "result" v2 (putF "params" v1 (putF "name" v0 [])))), rfl, j4, c0, n0 _ (by decide), (by show 4 < 1000; decide), ?_⟩
    have k4 : KeepB a G4 (upd G4 a (.ins (C 1) dx (putF "post" u4 (putF "pre" u3 (putF "result" v2 (putF "params" v1 (putF "name" v0 []))))))) := KeepB.at
    have i4 : (upd G4 a (.ins (C 1) dx (putF "post" u4 (putF "pre" u3 (putF "result" v2 (putF "params" v1 (putF "name" v0 []))))))) a = some (.ins (C 1) dx (putF "post" u4 (putF "pre" u3 (putF "result" v2 (putF "params" v1 (putF "name" v0 [])))))) := upd_same
    obtain ⟨J4, eJ4⟩ : ∃ J, upd G4 a (.ins (C 1) dx (putF "post" u4 (putF "pre" u3 (putF "result" v2 (putF "params" v1 (putF "name" v0 [])))))) = J := ⟨_, rfl⟩
    rw [eJ4] at k4 i4 ⊢
    refine ⟨_, rfl, _, rfl, a, C 1, dx, (putF "post" u4 (putF "pre" u3 (putF "result" v2 (putF "params" v1 (putF "name" v0 []))))), rfl, i4, c0, n0 _ (by decide), (by show 5 < 1000; decide), ?_⟩
    have k5 : KeepB a J4 (upd J4 a (.ins (C 1) dx (putF "body" v5 (putF "post" u4 (putF "pre" u3 (putF "result" v2 (putF "params" v1 (putF "name" v0 [])))))))) := KeepB.at
    have i5 : (upd J4 a (.ins (C 1) dx (putF "body" v5 (putF "post" u4 (putF "pre" u3 (putF "result" v2 (putF "params" v1 (putF "name" v0 [])))))))) a = some (.ins (C 1) dx (putF "body" v5 (putF "post" u4 (putF "pre" u3 (putF "result" v2 (putF "params" v1 (putF "name" v0 []))))))) := upd_same
    obtain ⟨J5, eJ5⟩ : ∃ J, upd J4 a (.ins (C 1) dx (putF "body" v5 (putF "post" u4 (putF "pre" u3 (putF "result" v2 (putF "params" v1 (putF "name" v0 []))))))) = J := ⟨_, rfl⟩
    rw [eJ5] at k5 i5 ⊢
    exact q _ (((((((k0.trans k1).trans k2).trans (KeepB.of s3)).trans k3).trans (KeepB.of s4)).trans k4).trans k5) ⟨a, dx, (putF "body" v5 (putF "post" u4 (putF "pre" u3 (putF "result" v2 (putF "params" v1 (putF "name" v0 [])))))), [v0, v1, v2, u3, u4, v5], rfl, i5, rfl, (oh_cons (Oh.keepC (hk1 N) ha (((((((k0.trans k1).trans k2).trans (KeepB.of s3)).trans k3).trans (KeepB.of s4)).trans k4).trans k5) _ _ (hl.2 d0 (by simp)).1 o0) (oh_cons (Oh.keepC (hk1 N) ha (((((((k0.trans k1).trans k2).trans (KeepB.of s3)).trans k3).trans (KeepB.of s4)).trans k4).trans k5) _ _ (hl.2 d1 (by simp)).1 o1) (oh_cons (Oh.keepC (hk1 N) ha (((((((k0.trans k1).trans k2).trans (KeepB.of s3)).trans k3).trans (KeepB.of s4)).trans k4).trans k5) _ _ (hl.2 d2 (by simp)).1 o2) (oh_cons (Oh.keepC (hk1 N) j3 (((k3.trans (KeepB.of s4)).trans k4).trans k5) _ _ (fill_p (P := fun x => okO (S0 (clk C fe)) x) (hl.2 d3 (by simp)).1 (ok_cO (cl := clk C fe) [] []).1) w3) (oh_cons (Oh.keepC (hk1 N) j4 (k4.trans k5) _ _ (fill_p (P := fun x => okO (S0 (clk C fe)) x) (hl.2 d4 (by simp)).1 (ok_cO (cl := clk C fe) [] []).1) w4) (oh_cons (Oh.keepC (hk1 N) ha (((((((k0.trans k1).trans k2).trans (KeepB.of s3)).trans k3).trans (KeepB.of s4)).trans k4).trans k5) _ _ (hl.2 d5 (by simp)).1 o5) oh_nil))))))⟩
theorem scInC : FnScope pC pC (defScope sInC) := ⟨rfl, rfl, rfl, by decide +kernel, rfl, by decide +kernel, by decide +kernel⟩
theorem ok_inC {f : Addr} {fd : FuncData} (F : FunC K e0 e1 e2 f fd) (T : Txt K mg C fe) (N : NeC C) (M : CondMk K mg (C 0) fI fdI) : FnOk P w K mg base CX0 8 f fd pC (spIn K (clk C fe) 2 6 5 (S1 (clk C fe)) [3]) := by
  have GI : FnR P w K mg base CX0 6 fI (spInit K (C 0) NoF) := fnR_init0 M.I M.D
  refine F.ok scInC (fun vs H Q E h => ?_) (fun cdv A outer s H vs Q E hr h => ?_)
  · obtain ⟨a, dx, ds, xs, rfl, _, hx, hl, _⟩ := h
    show xs.length + 1 = 6
    rw [← OhAll.length ds xs hx, hl.1] <;> rfl
  · obtain ⟨a, dx, ds, xs, rfl, ha, hx, hl, q⟩ := h
    obtain ⟨d0, d1, d2, d3, d4, v0, v1, v2, v3, v4, rfl, rfl, o0, o1, o2, o3, o4⟩ := ohl5 hl.1 hx
    have c0 := T.cls 2 (by decide)
    have n0 := T.no 2 (by decide)
    refine ⟨_, pss_cons (ps_fld (pv 0) (pv 1) (by rfl)) (pss_cons (ps_fld (pv 0) (pv 2) (by rfl)) (pss_cons (ps_fld (pv 0) (pv 3) (by rfl)) (pss_cons (ps_fld (pv 0) (pe_ifExp (pt_cmpR op_isN (pv 4) pe_non (nomark _)) (pe_makeZ (k := 6) (E := E0) M.M GI hr (by rfl) M.D.gC pass0) (pv 4)) (by rfl)) (pss_one (ps_fld (pv 0) (pv 5) (by rfl)))))), ?_⟩
    refine ⟨_, rfl, _, rfl, a, C 2, dx, [], rfl, ha, c0, n0 _ (by decide), (by show 0 < 1000; decide), ?_⟩
    have k0 : KeepB a H (upd H a (.ins (C 2) dx (putF "name" v0 []))) := KeepB.at
    have i0 : (upd H a (.ins (C 2) dx (putF "name" v0 []))) a = some (.ins (C 2) dx (putF "name" v0 [])) := upd_same
    obtain ⟨J0, eJ0⟩ : ∃ J, upd H a (.ins (C 2) dx (putF "name" v0 [])) = J := ⟨_, rfl⟩
    rw [eJ0] at k0 i0 ⊢
    refine ⟨_, rfl, _, rfl, a, C 2, dx, (putF "name" v0 []), rfl, i0, c0, n0 _ (by decide), (by show 1 < 1000; decide), ?_⟩
    have k1 : KeepB a J0 (upd J0 a (.ins (C 2) dx (putF "bases" v1 (putF "name" v0 [])))) := KeepB.at
    have i1 : (upd J0 a (.ins (C 2) dx (putF "bases" v1 (putF "name" v0 [])))) a = some (.ins (C 2) dx (putF "bases" v1 (putF "name" v0 []))) := upd_same
    obtain ⟨J1, eJ1⟩ : ∃ J, upd J0 a (.ins (C 2) dx (putF "bases" v1 (putF "name" v0 []))) = J := ⟨_, rfl⟩
    rw [eJ1] at k1 i1 ⊢
    refine ⟨_, rfl, _, rfl, a, C 2, dx, (putF "bases" v1 (putF "name" v0 [])), rfl, i1, c0, n0 _ (by decide), (by show 2 < 1000; decide), ?_⟩
    have k2 : KeepB a J1 (upd J1 a (.ins (C 2) dx (putF "fields" v2 (putF "bases" v1 (putF "name" v0 []))))) := KeepB.at
    have i2 : (upd J1 a (.ins (C 2) dx (putF "fields" v2 (putF "bases" v1 (putF "name" v0 []))))) a = some (.ins (C 2) dx (putF "fields" v2 (putF "bases" v1 (putF "name" v0 [])))) := upd_same
    obtain ⟨J2, eJ2⟩ : ∃ J, upd J1 a (.ins (C 2) dx (putF "fields" v2 (putF "bases" v1 (putF "name" v0 [])))) = J := ⟨_, rfl⟩
    rw [eJ2] at k2 i2 ⊢
    refine ⟨_, rfl, rfl, _, rfl, fill_go (f := fe) (by rfl) (Oh.keepC (hk2 N) ha ((k0.trans k1).trans k2) _ _ (hl.2 d3 (by simp)).1 o3) fun u3 G3 w3 s3 => ?_⟩
    have j3 := s3 _ _ i2
    refine ⟨_, rfl, a, C 2, dx, (putF "fields" v2 (putF "bases" v1 (putF "name" v0 []))), rfl, j3, c0, n0 _ (by decide), (by show 3 < 1000; decide), ?_⟩
    have k3 : KeepB a G3 (upd G3 a (.ins (C 2) dx (putF "where" u3 (putF "fields" v2 (putF "bases" v1 (putF "name" v0 [])))))) := KeepB.at
    have i3 : (upd G3 a (.ins (C 2) dx (putF "where" u3 (putF "fields" v2 (putF "bases" v1 (putF "name" v0 [])))))) a = some (.ins (C 2) dx (putF "where" u3 (putF "fields" v2 (putF "bases" v1 (putF "name" v0 []))))) := upd_same
    obtain ⟨J3, eJ3⟩ : ∃ J, upd G3 a (.ins (C 2) dx (putF "where" u3 (putF "fields" v2 (putF "bases" v1 (putF "name" v0 []))))) = J := ⟨_, rfl⟩
    rw [eJ3] at k3 i3 ⊢
    refine ⟨_, rfl, _, rfl, a, C 2, dx, (putF "where" u3 (putF "fields" v2 (putF "bases" v1 (putF "name" v0 [])))), rfl, i3, c0, n0 _ (by decide), (by show 4 < 1000; decide), ?_⟩
    have k4 : KeepB a J3 (upd J3 a (.ins (C 2) dx (putF "methods" v4 (putF "where" u3 (putF "fields" v2 (putF "bases" v1 (putF "name" v0 []))))))) := KeepB.at
    have i4 : (upd J3 a (.ins (C 2) dx (putF "methods" v4 (putF "where" u3 (putF "fields" v2 (putF "bases" v1 (putF "name" v0 []))))))) a = some (.ins (C 2) dx (putF "methods" v4 (putF "where" u3 (putF "fields" v2 (putF "bases" v1 (putF "name" v0 [])))))) := upd_same
    obtain ⟨J4, eJ4⟩ : ∃ J, upd J3 a (.ins (C 2) dx (putF "methods" v4 (putF "where" u3 (putF "fields" v2 (putF "bases" v1 (putF "name" v0 [])))))) = J := ⟨_, rfl⟩
    rw [eJ4] at k4 i4 ⊢
    exact q _ (((((k0.trans k1).trans k2).trans (KeepB.of s3)).trans k3).trans k4) ⟨a, dx, (putF "methods" v4 (putF "where" u3 (putF "fields" v2 (putF "bases" v1 (putF "name" v0 []))))), [v0, v1, v2, u3, v4], rfl, i4, rfl, (oh_cons (Oh.keepC (hk2 N) ha (((((k0.trans k1).trans k2).trans (KeepB.of s3)).trans k3).trans k4) _ _ (hl.2 d0 (by simp)).1 o0) (oh_cons (Oh.keepC (hk2 N) ha (((((k0.trans k1).trans k2).trans (KeepB.of s3)).trans k3).trans k4) _ _ (hl.2 d1 (by simp)).1 o1) (oh_cons (Oh.keepC (hk2 N) ha (((((k0.trans k1).trans k2).trans (KeepB.of s3)).trans k3).trans k4) _ _ (hl.2 d2 (by simp)).1 o2) (oh_cons (Oh.keepC (hk2 N) j3 (k3.trans k4) _ _ (fill_p (P := fun x => okO (S1 (clk C fe)) x) (hl.2 d3 (by simp)).1 (okO_mono (fun _ _ z => .inl z) _ (ok_cO (cl := clk C fe) [] []).1)) w3) (oh_cons (Oh.keepC (hk2 N) ha (((((k0.trans k1).trans k2).trans (KeepB.of s3)).trans k3).trans k4) _ _ (hl.2 d4 (by simp)).1 o4) oh_nil)))))⟩
end
/-! how calls of them bind -/
theorem kb_m {K : PySem.W.Frag} {f : Addr} {fd : FuncData} (F : FunM K f fd) : ∃ mv : List Value, KBn K fd pM 4 ["pre", "post", "body"] (fun us ws => us ++ ws) (fun vs zs => vs ++ zs) := by
  obtain ⟨mv, h⟩ := FunD.kbinds0 (ps := pM) F 4 ["pre", "post", "body"] [] (fun us _ ws => us ++ ws) (by simp) (fun q hq => nomatch hq) (fun r _ z => r.append z)
    (fun D doc pm an cdv ct us mv ws h1 h2 h3 => match us, mv, ws, h1, h2, h3 with | [_, _, _, _], [], [_, _, _], _, _, _ => rfl)
  exact ⟨mv, h⟩
theorem kb_m1 {K : PySem.W.Frag} {f : Addr} {fd : FuncData} (F : FunM K f fd) : ∃ mv : List Value, KBn K fd pM 4 ["body"] (fun us ws => us ++ (mv ++ ws)) (fun vs zs => vs ++ ([.non, .non] ++ zs)) := by
  obtain ⟨mv, h⟩ := FunD.kbinds0 (ps := pM) F 4 ["body"] [("pre", .non), ("post", .non)] (fun us ms ws => us ++ (ms ++ ws)) (by simp) (fun q hq => hq) (fun r m z => r.append (m.append z))
    (fun D doc pm an cdv ct us mv ws h1 h2 h3 => match us, mv, ws, h1, h2, h3 with | [_, _, _, _], [_, _], [_], _, _, _ => ⟨_, _, _, _, _, _, rfl, rfl, ⟨_, _, _, _, _, _, rfl, rfl, rfl⟩⟩)
  exact ⟨mv, h⟩
theorem kb_c {K : PySem.W.Frag} {f e0 e1 e2 : Addr} {fd : FuncData} (F : FunC K e0 e1 e2 f fd) : KBn K fd pC 3 ["fields", "where", "methods"] (fun us ws => us ++ ws) (fun vs zs => vs ++ zs) := by
  obtain ⟨its, mv, h⟩ := FunD.kbinds (ps := pC) F 3 ["fields", "where", "methods"] [] (fun us _ _ ws => us ++ ws) (by simp) (by simp) (fun q hq => nomatch hq) (fun r _ _ z => r.append z)
    (fun T D doc pm an cdv ct us its mv ws h1 h2 h3 h4 => match us, its, mv, ws, h1, h2, h3, h4 with | [_, _, _], [_], [], [_, _, _], _, _, _, _ => ⟨_, rfl, rfl⟩)
  exact h
theorem kb_c2 {K : PySem.W.Frag} {f e0 e1 e2 : Addr} {fd : FuncData} (F : FunC K e0 e1 e2 f fd) : ∃ mv : List Value, KBn K fd pC 3 ["fields", "methods"] (fun us ws => us ++ (ws.take 1 ++ (mv ++ ws.drop 1))) (fun vs zs => vs ++ (zs.take 1 ++ ([.non] ++ zs.drop 1))) := by
  obtain ⟨its, mv, h⟩ := FunD.kbinds (ps := pC) F 3 ["fields", "methods"] [("where", .non)] (fun us _ ms ws => us ++ (ws.take 1 ++ (ms ++ ws.drop 1))) (by simp) (by simp) (fun q hq => by rw [List.mem_singleton.mp hq]; simp) (fun r _ m z => r.append ((z.take 1).append (m.append (z.drop 1))))
    (fun T D doc pm an cdv ct us its mv ws h1 h2 h3 h4 => match us, its, mv, ws, h1, h2, h3, h4 with | [_, _, _], [_], [_], [_, _], _, _, _, _ => ⟨_, rfl, ⟨_, _, _, _, _, _, rfl, rfl, rfl⟩⟩)
  exact ⟨mv, h⟩
theorem kb_c0 {K : PySem.W.Frag} {f e0 e1 e2 : Addr} {fd : FuncData} (F : FunC K e0 e1 e2 f fd) : ∃ ds, Vals ([V.ref e0, .ref e1, .non, .ref e2]) ds ∧ Binds K fd pC ds :=
  FunD.binds (ps := pC) F 2 0 (by simp) rfl (fun T D doc pm an cdv ct us its ks h1 h2 h3 => match us, its, ks, h1, h2, h3 with | [_, _], [_], [_, _, _], _, _, _ => ⟨_, rfl, ⟨_, _, _, _, _, _, rfl, rfl, ⟨_, _, _, _, _, _, rfl, rfl, ⟨_, _, _, _, _, _, rfl, rfl, rfl⟩⟩⟩⟩) (by simp)
end Kx
set_option linter.all false
namespace Kx
open PySem L2 PySem.Spec PyProof.Rows
/-! x in o, x not in o, o[x] by a class's own def -/
structure OwnIn (K : PySem.W.Frag) (C f : Addr) : Prop where
  inf : PySem.W.findIn K (.ref C) "__contains__" = some (some (.ref f))
  isf : PySem.W.isFn K (.ref f) = true
structure OwnIx (K : PySem.W.Frag) (C f : Addr) : Prop where
  ixf : PySem.W.findIn K (.ref C) "__getitem__" = some (some (.ref f))
  isf : PySem.W.isFn K (.ref f) = true
  fn : PySem.W.fnIn K f = true
def rOwnIn (C : Addr) (sp : Sp) (E : XK) : R2 := fun x y H Q => ∃ (a dx : Addr) (fs : List (Str × V)), y = .ref a ∧ H a = some (.ins C dx fs) ∧ sp [y, x] H (fun v H' => ∃ b, v = .bl b ∧ Q (.bl b) H') E
def rOwnNotIn (C : Addr) (sp : Sp) (E : XK) : R2 := fun x y H Q => ∃ (a dx : Addr) (fs : List (Str × V)), y = .ref a ∧ H a = some (.ins C dx fs) ∧ sp [y, x] H (fun v H' => ∃ b, v = .bl b ∧ Q (.bl (!b)) H') E
def rOwnIx (C : Addr) (sp : Sp) (E : XK) : R2 := fun x y H Q => ∃ (a dx : Addr) (fs : List (Str × V)), x = .ref a ∧ H a = some (.ins C dx fs) ∧ sp [x, y] H Q E
section
variable {X : Cx} {CX : CXT} {k : Nat} {f C : Addr} {fd : FuncData} {ps : List Str} {sp : Sp} {E : XK}
theorem run_ownA (F : FnOk X.prog X.w X.K X.mg X.base CX k f fd ps sp) (hb : L2.Binds X.K fd ps []) (hx : Passes CX X E) {A : Around} (hr : Room k A) (hf : A.frames = X.A.frames) {pins : List (Addr × Obj)} {s : Shared} {σ : L2.St} {H : Hp} {us : List Value} {vs : List V} {Q : VK}
    (I : L2.Inv X pins σ H s) (r2 : Vals vs us) (hsp : sp vs H Q E) : wpAny (model X.prog X.w) A (call (.ref f) us) (fun u s' => ∃ v H', L2.Inv X pins σ H' s' ∧ L2.RelV v u ∧ Q v H') X.xe s := by
  have e0 : Env0 X.prog X.w X.K X.mg X.base A X.stack s H := by
    have e := I.env0
    exact ⟨by rw [hf]; exact e.frames, e.mod, e.bs, e.bsz, e.funs, e.frf, e.hok, e.bare⟩
  have hl := F.len _ _ _ _ hsp
  refine wpAny_call (codeAny_mono (F.run A X.stack s H ⟨us, []⟩ us vs _ E hr e0 (by
    have := hb s us I.kIn (by rw [List.append_nil, ← r2.length]; exact hl)
    simpa using this) r2 hsp) fun r s' hq => ?_)
  cases r with
  | error e => exact hx pins σ H s e s' I hq
  | ok fl =>
    cases fl with
    | ret w =>
      obtain ⟨z, H', I', rz, q⟩ := I.after hq
      exact ⟨z, H', I', rz, q⟩
    | next => exact False.elim hq
    | brk => exact False.elim hq
    | cont => exact False.elim hq
theorem op_ownIn (M : OwnIn X.K C f) (F : FnOk X.prog X.w X.K X.mg X.base CX k f fd ps sp) (hr : Room k X.A) (hb : L2.Binds X.K fd ps []) (hx : Passes CX X E) : OpR X (compareOp .In) (rOwnIn C sp E) := by
  intro pins s σ H x y v u Q I rx ry h
  obtain ⟨a, dx, fs, rfl, ha, q⟩ := h
  obtain rfl : u = Value.ref a := ry
  obtain ⟨_, O1, _⟩ := ins_get I.hok ha
  obtain ⟨o1, J1, _⟩ := O1.look
  obtain ⟨m, hF⟩ := I.fr
  refine PySem.W.in_K hF I.ok.mod.kin J1 M.inf M.isf (wpAny_mono (run_ownA (vs := [.ref a, x]) (us := [.ref a, v]) F hb hx hr rfl I (.cons rfl (.cons rx .nil)) q) (fun z s' hz => ?_) fun _ _ e => e)
  obtain ⟨zv, H', I', rz, b, rfl, q'⟩ := hz
  obtain rfl : z = Value.bool b := rz
  exact wpAny_truthy_bool ⟨.bl b, H', I', rfl, q'⟩
theorem op_ownNotIn (M : OwnIn X.K C f) (F : FnOk X.prog X.w X.K X.mg X.base CX k f fd ps sp) (hr : Room k X.A) (hb : L2.Binds X.K fd ps []) (hx : Passes CX X E) : OpR X (compareOp .NotIn) (rOwnNotIn C sp E) := by
  intro pins s σ H x y v u Q I rx ry h
  obtain ⟨a, dx, fs, rfl, ha, q⟩ := h
  obtain rfl : u = Value.ref a := ry
  obtain ⟨_, O1, _⟩ := ins_get I.hok ha
  obtain ⟨o1, J1, _⟩ := O1.look
  obtain ⟨m, hF⟩ := I.fr
  refine PySem.W.notIn_K hF I.ok.mod.kin J1 M.inf M.isf (wpAny_mono (run_ownA (vs := [.ref a, x]) (us := [.ref a, v]) F hb hx hr rfl I (.cons rfl (.cons rx .nil)) q) (fun z s' hz => ?_) fun _ _ e => e)
  obtain ⟨zv, H', I', rz, b, rfl, q'⟩ := hz
  obtain rfl : z = Value.bool b := rz
  exact wpAny_truthy_bool ⟨.bl (!b), H', I', rfl, q'⟩
theorem pe_ownIx {a b : Expr} {ta tb : TE} {pos : Pos} (M : OwnIx X.K C f) (F : FnOk X.prog X.w X.K X.mg X.base CX k f fd ps sp) (hr : Room (k + 1) X.A) (hb : L2.Binds X.K fd ps []) (hx : Passes CX X E) (ha : PE X a ta) (hb' : PE X b tb)
    (hsl : ∀ o i, subscripted b true o i = runValue (.builtin "lifetime.subscript" ⟨[o, i], []⟩) := by intro _ _; rfl) : PE X (.Subscript a b pos) (tOp (rOwnIx C sp E) ta tb) := by
  refine ⟨fun pins s σ H Q I h => ?_⟩
  refine Subscript_ (binT ha hb' I h fun v u s2 x y H2 I2 rx ry q => ?_)
  obtain ⟨p, dx, fs, rfl, hp, q⟩ := q
  obtain rfl : v = Value.ref p := rx
  obtain ⟨_, O1, _⟩ := ins_get I2.hok hp
  obtain ⟨o1, J1, _⟩ := O1.look
  obtain ⟨m, hF⟩ := I2.fr
  exact PySem.W.sub_K hF I2.ok.mod.kin J1 M.ixf M.fn M.isf (run_ownA (vs := [.ref p, y]) (us := [.ref p, u]) F hb hx hr.in1 rfl I2 (.cons rfl (.cons ry .nil)) q) (hsl _ _)
end
end Kx
set_option linter.all false
namespace Kx
open PySem L2 PySem.Spec PyProof.Rows
/-- set(t), t a tuple of texts -/
def rSetTt (K : PySem.W.Frag) (P : Program) (w : World) : List V → Hp → VK → Prop := fun vs H Q => ∃ (a : Addr) (ts : List Str), vs = [.ref a] ∧ SqT K H a (ts.map V.str) ∧ ts.length ≤ 60 ∧
  ∀ (p : Addr) (l : List Str), H p = none → l.Nodup → l.length ≤ ts.length → (∀ x, x ∈ l ↔ x ∈ ts) → Q (.ref p) (upd H p (SetX P w p l))
def rLenX (P : Program) (w : World) : List V → Hp → VK → Prop := fun vs H Q => ∃ (a : Addr) (l : List Str), vs = [.ref a] ∧ H a = some (SetX P w a l) ∧ l.length ≤ 1000 ∧ Q (.int l.length) H
section
variable {X : Cx}
theorem cr_setTt (hc : X.calm = true) : CallR X (.type "set") (rSetTt X.K X.prog X.w) := by
  intro pins s σ H xs us Q I r h
  obtain ⟨a, ts, rfl, ha, hn, q⟩ := h
  rw [Vals.ref1 r]
  obtain ⟨its, rv, pl, _⟩ := I.tuple ha
  obtain ⟨o, ho, hcl, n, hd⟩ := pl
  have lim : scanBound > 64 := by decide
  refine call_setTt (P := X.prog) (w := X.w) (I.ok.hd hc) ⟨o, ho, hcl, n, hd⟩ (strsAre_of rv) (by omega) fun h' tk l T nd le mem kp => ?_
  exact ⟨.ref s.heap.objs.size, _, I.laid (t' := tk) (o := SetX X.prog X.w s.heap.objs.size l) kp (Nat.le_refl _) (setX_new T), rfl, q _ l (I.hok.fresh (Nat.le_refl _)) nd le mem⟩
theorem call_lenX : CallR X (.builtin "len") (rLenX X.prog X.w) := by
  intro pins s σ H xs us Q I r h
  obtain ⟨a, l, rfl, ha, hl, q⟩ := h
  rw [Vals.ref1 r]
  obtain ⟨D, ho, G⟩ := setX_get I ha
  obtain ⟨es, ep, t⟩ := D
  have hz : es.size = l.length := G.tx.sz
  refine Calls.call_function_entry PySem.kind_len PySem.plain_len PySem.entry_len (PySem.args_len1 _) ?_
  exact wpAny_len_body_set (es := es) (ep := ep) (t := t) ho ⟨rfl, rfl, rfl⟩ rfl G.tx.fit (by omega) ⟨.int l.length, H, I.tok _, ⟨_, by rw [hz]⟩, q⟩
end
end Kx
set_option linter.all false
namespace Kx
open PySem L2 PySem.Spec PyProof.Rows
/-! comprehensions that change nothing but their own list -/
section
variable {J : It} {n : Nat} {G : Hp → Prop} {Y : Nat → Hp → V → Hp → Prop}
theorem same_D {H1 H4 : Hp} {D : Addr} {o : HO} (hD : H1 D = none) (s : Same H1 H4) : Same H1 (upd H4 D o) := fun b u e => by
  have hb : b ≠ D := fun z => by rw [z, hD] at e; cases e
  rw [upd_ne hb]; exact s _ _ e
theorem lc_map (w : Walk J n G Y) {g : TG} {te : TE} {vs : List Nat} {σ : L2.St} {H1 : Hp} {D : Addr} {Qd : Hp → Prop} (f : Nat → V) (hD : H1 D = none) (hn : n ≤ 1000) (hG : ∀ H, Same H1 H → G H)
    (hs : ∀ i x H H' (R : VK), i < n → Same H1 H → Y i H x H' → (∀ H3, Same H H3 → R (f i) H3) → g x (wipe σ vs) H' fun σ2 H2 => wipe σ2 vs = wipe σ vs ∧ te σ2 H2 R)
    (hd : ∀ H, Same H1 H → H D = some (.lst ((List.range n).map f)) → Qd H) :
    ∃ W : Nat → Nat → Hp → Prop, (∃ m, W 0 m (upd H1 D (.lst []))) ∧ ∀ i m H, W i m H →
      (J.stop i H ∧ Qd H) ∨ (J.go i H ∧ ∃ Nx : Hp → Prop, (∀ H', Nx H' → ∃ m', m' < m ∧ W (i + 1) m' H') ∧ ∀ x H', J.yld i H x H' → g x (wipe σ vs) H' fun σ2 H2 => wipe σ2 vs = wipe σ vs ∧ tYes σ2 H2 fun b H3 =>
        if b = true then te σ2 H3 fun y H4 => ∃ acc, H4 D = some (.lst acc) ∧ acc.length < sizeLine ∧ Nx (upd H4 D (.lst (acc ++ [y]))) else Nx H3) := by
  refine lc_it w (tt := tYes) (fun i H => Same H1 H ∧ H D = some (.lst ((List.range i).map f))) ⟨new_same hD, upd_same⟩ (fun i H _ h => hG H h.1) (fun i x H H' hi ⟨s, gD⟩ hy => ?_) (fun H ⟨s, gD⟩ => hd H s gD)
  have := hs i x H H' (fun y H4 => ∃ acc, H4 D = some (.lst acc) ∧ acc.length < sizeLine ∧ (fun H => Same H1 H ∧ H D = some (.lst ((List.range (i + 1)).map f))) (upd H4 D (.lst (acc ++ [y])))) hi s hy fun H3 s3 =>
    ⟨_, s3 _ _ gD, small1000 (by rw [List.length_map, List.length_range]; omega), same_D hD (s.trans s3), by rw [upd_same, List.range_succ, List.map_append]; rfl⟩
  exact this
theorem lc_fil (w : Walk J n G Y) {g : TG} {tt : TT} {te : TE} {vs : List Nat} {σ : L2.St} {H1 : Hp} {D : Addr} {Qd : Hp → Prop} (f : Nat → V) (c : Nat → Bool) (hD : H1 D = none) (hn : n ≤ 1000) (hG : ∀ H, Same H1 H → G H)
    (hs : ∀ i x H H' (R : Bool → Hp → Prop) (R2 : VK), i < n → Same H1 H → Y i H x H' → (∀ H3, Same H H3 → R (c i) H3) → (c i = true → ∀ H3, Same H H3 → R2 (f i) H3) → g x (wipe σ vs) H' fun σ2 H2 => wipe σ2 vs = wipe σ vs ∧ tt σ2 H2 R ∧ ∀ H3, Same H H3 → c i = true → te σ2 H3 R2)
    (mono : ∀ σ H Q Q', (∀ b H1, Q b H1 → Q' b H1) → tt σ H Q → tt σ H Q') (gmono : ∀ x σ H Q Q', (∀ σ2 H1, Q σ2 H1 → Q' σ2 H1) → g x σ H Q → g x σ H Q')
    (hd : ∀ H, Same H1 H → H D = some (.lst (((List.range n).filter c).map f)) → Qd H) :
    ∃ W : Nat → Nat → Hp → Prop, (∃ m, W 0 m (upd H1 D (.lst []))) ∧ ∀ i m H, W i m H →
      (J.stop i H ∧ Qd H) ∨ (J.go i H ∧ ∃ Nx : Hp → Prop, (∀ H', Nx H' → ∃ m', m' < m ∧ W (i + 1) m' H') ∧ ∀ x H', J.yld i H x H' → g x (wipe σ vs) H' fun σ2 H2 => wipe σ2 vs = wipe σ vs ∧ tt σ2 H2 fun b H3 =>
        if b = true then te σ2 H3 fun y H4 => ∃ acc, H4 D = some (.lst acc) ∧ acc.length < sizeLine ∧ Nx (upd H4 D (.lst (acc ++ [y]))) else Nx H3) := by
  refine lc_it w (fun i H => Same H1 H ∧ H D = some (.lst (((List.range i).filter c).map f))) ⟨new_same hD, upd_same⟩ (fun i H _ h => hG H h.1) (fun i x H H' hi ⟨s, gD⟩ hy => ?_) (fun H ⟨s, gD⟩ => hd H s gD)
  refine gmono _ _ _ _ _ ?_ (hs i x H H' (fun b H3 => b = c i ∧ Same H H3) (fun y H4 => ∃ acc, H4 D = some (.lst acc) ∧ acc.length < sizeLine ∧ Same H1 (upd H4 D (.lst (acc ++ [y]))) ∧ (upd H4 D (.lst (acc ++ [y]))) D = some (.lst (((List.range (i + 1)).filter c).map f))) hi s hy (fun H3 s3 => ⟨rfl, s3⟩) fun hc H3 s3 =>
    ⟨_, s3 _ _ gD, small1000 (by rw [List.length_map]; exact Nat.le_trans (List.length_filter_le _ _) (by rw [List.length_range]; omega)), same_D hD (s.trans s3), by rw [upd_same, List.range_succ, List.filter_append, List.map_append, show List.filter c [i] = [i] by simp [hc]]; rfl⟩)
  rintro σ2 H2 ⟨e, ht, he⟩
  refine ⟨e, mono _ _ _ _ ?_ ht⟩
  rintro b H3 ⟨rfl, s3⟩
  cases hc : c i with
  | false =>
    refine iteF ⟨s.trans s3, ?_⟩
    rw [s3 _ _ gD, List.range_succ, List.filter_append, List.map_append, show List.filter c [i] = [] by simp [hc]]
    simp
  | true =>
    refine iteT ?_
    exact he H3 s3 hc
theorem range_getD {α β : Type} (l : List α) (d : α) (h : α → β) : (List.range l.length).map (fun i => h (l.getD i d)) = l.map h := by
  refine List.ext_getElem (by simp) fun i h1 h2 => ?_
  have hi : i < l.length := by simpa using h1
  simp [List.getD, hi]
theorem get_str {l : List Str} {i : Nat} {x : V} (h : (l.map V.str)[i]? = some x) : x = .str (l.getD i "") ∧ l.getD i "" ∈ l := by
  rw [List.getElem?_map] at h
  cases e : l[i]? with
  | none => rw [e] at h; cases h
  | some t =>
    rw [e] at h
    have e2 : l.getD i "" = t := by simp [List.getD, e]
    rw [e2]
    exact ⟨(Option.some.inj h).symm, List.mem_of_getElem? e⟩
theorem flat_strs (l : List Str) : (l.map V.str).all flatV = true := by
  rw [List.all_eq_true]
  intro v hv
  obtain ⟨t, _, rfl⟩ := List.mem_map.mp hv
  rfl
end
end Kx
set_option linter.all false
namespace Kx
open PySem L2 PySem.Spec PyProof.Rows
/-! rules with the words' K written out: for what stands within a comprehension -/
section
variable {X : Cx} {K : PySem.W.Frag} {e o : Expr} {te : TE} {ta : TA} {pos p : Pos} {tg : Expr} {f : Str}
theorem ix_listK (h : X.K = K) : IxR X (rIxL K) := h ▸ ix_list
theorem ix_tupK (h : X.K = K) : IxR X (rIxT K) := h ▸ ix_tup
theorem sl_listK (h : X.K = K) : SlR X (rSlL K) := h ▸ sl_list
theorem sl_tupAK (h : X.K = K) : SlR X (rSlA K) := h ▸ sl_tupA
theorem op_catAK (h : X.K = K) : OpR X (binaryOp .Add) (rCatA K) := h ▸ op_catA
theorem op_in_seqK (h : X.K = K) : OpR X (compareOp .In) (rIn K false) := h ▸ op_in_seq
theorem op_notIn_seqK (h : X.K = K) : OpR X (compareOp .NotIn) (rIn K true) := h ▸ op_notIn_seq
theorem op_neDK (h : X.K = K) (hu : X.A.units + 64 < cLine) : OpR X (compareOp .NotEq) (rNeD K) := h ▸ op_neD hu
theorem op_eqDK (h : X.K = K) (hu : X.A.units + 64 < cLine) : OpR X (compareOp .Eq) (rEqD K) := h ▸ op_eqD hu
theorem pe_fldK (h : X.K = K) (he : PE X e te) (hb : attributeBase e f X.env (eval e X.env) = eval e X.env) : PE X (.Attribute e f pos) (tFld K te f) := h ▸ pe_fld he hb
theorem pi_listK (h : X.K = K) (he : PE X e te) : PI X tg e (iList K te) := h ▸ pi_list he
theorem pi_tupK (h : X.K = K) (he : PE X e te) : PI X tg e (iTup K te) := h ▸ pi_tup he
theorem call_isiK (h : X.K = K) : CallR X (.builtin "isinstance") (rIsi K) := h ▸ call_isi
def rLen (K : PySem.W.Frag) : List V → Hp → VK → Prop := fun xs H Q => ∃ p ys, xs = [.ref p] ∧ (SqL K H p ys ∨ SqT K H p ys) ∧ Q (.int ys.length) H
theorem call_lenK (h : X.K = K) : CallR X (.builtin "len") (rLen K) := h ▸ call_len_seq
theorem pt_truthK {a : Expr} (h : X.K = K) (ha : PE X a te) (he : ∀ whole, isTrue a X.env whole = (do let v ← whole; standAt a.pos; holding [v] (truthy v))) : PT X a (fun σ H Q => te σ H fun x H2 => ∃ k, TruV K x H2 k ∧ Q k H2) := h ▸ pt_truth ha he
theorem pe_tupK (h : X.K = K) {es : List Expr} {kk : Nat} (hp : PA X es ta) : PE X (.Tuple es kk pos) (tTup ta) := pe_tup hp
end
theorem SqL.same {K : PySem.W.Frag} {H H' : Hp} {a : Addr} {xs : List V} (s : Same H H') (h : SqL K H a xs) : SqL K H' a xs := by
  rcases h with (h | ⟨z, h⟩) | h
  · exact .inl (.inl (s _ _ h))
  · exact .inl (.inr ⟨z, s _ _ h⟩)
  · exact .inr h
end Kx
set_option linter.all false
namespace Kx
open PySem L2 PySem.Spec PyProof.Rows
/-! names -/
abbrev sIsN : Stmt := top 15
abbrev nIsN : List Str := ["thing"]
theorem scIsN : FnScope nIsN ["thing"] (defScope sIsN) := ⟨rfl, rfl, rfl, by decide +kernel, rfl, by decide +kernel, by decide +kernel⟩
abbrev sAreN : Stmt := top 16
abbrev nAreN : List Str := ["things", "most", "one"]
theorem scAreN : FnScope nAreN ["things", "most"] (defScope sAreN) := ⟨rfl, rfl, rfl, by decide +kernel, rfl, by decide +kernel, by decide +kernel⟩
def noNames : List Str := ["as", "ask", "body", "call", "class", "else", "field", "halt", "if", "int", "let", "method", "next", "none", "post", "pre", "result", "return", "self", "try", "where", "zero"]
def isName (t : Str) : Bool := isWord t && !(inV (.str t) (noNames.map V.str))
def areN (l : List Str) (m : Int) : Bool := decide ((l.length : Int) ≤ m) && (l.all isName && decide l.Nodup)
def spIsN : Sp := fun vs H Q _ => ∃ t : Str, vs = [.str t] ∧ t.length ≤ 1000 ∧ ∀ H', Same H H' → Q (.bl (isName t)) H'
def spAreN (K : PySem.W.Frag) : Sp := fun vs H Q _ => ∃ (a : Addr) (l : List Str) (m : Int), vs = [.ref a, .int m] ∧ SqT K H a (l.map V.str) ∧ l.length ≤ 60 ∧ (∀ t ∈ l, t.length ≤ 1000) ∧ ∀ H', Same H H' → Q (.bl (areN l m)) H'
theorem nodup_len {l m : List Str} (nd : l.Nodup) (h : ∀ x, x ∈ l ↔ x ∈ m) : l.length = m.length ↔ m.Nodup := by
  constructor
  · intro e
    exact (perm_of_sub nd (fun x hx => (h x).mp hx) e.symm).symm.nodup nd
  · intro md
    have p : l.Perm m := (List.perm_ext_iff_of_nodup nd md).mpr h
    exact p.length_eq
section
variable {P : Program} {w : World} {K : PySem.W.Frag} {mg : Str → Option Value} {base : Heap}
theorem ok_isN {f g NN : Addr} {fd fdW : FuncData} (F : Fs K mg "is_name" sIsN ["thing"] f fd) (dW : Fs K mg "is_word" sIsWord ["thing"] g fdW) (T : Bx mg) (hN : mg "NO_NAMES" = some (.ref NN)) (zN : ∀ H, SqT K H NN (noNames.map V.str)) : FnOk P w K mg base CX0 2 f fd ["thing"] spIsN := by
  have GW : FnOk P w K mg base CX0 1 g fdW ["thing"] spIsWord := ok_isword dW T
  refine F.F.ok scIsN (fun vs H Q E h => ?_) (fun cdv A outer s H vs Q E hr h => ?_)
  · obtain ⟨t, rfl, _⟩ := h
    rfl
  · obtain ⟨t, rfl, ht, q⟩ := h
    have hr1 := hr.mono (j := 1) (by decide)
    refine ⟨_, (pss_one (ps_ret (pe_and (pe_call GW hr1 (by rfl) dW.m dW.F.kp dW.b .nil pass0 (pa_cons (pv 0) pa_nil)) (pe_one (pe_cmpR op_notIn_seq (pv 0) (pe_glob (v := .ref NN) (by rfl) hN rfl) (by with_unfolding_all rfl)))))), ?_⟩
    refine ⟨_, rfl, t, rfl, ht, fun H1 s1 => ⟨_, rfl, ?_⟩⟩
    cases hw : isWord t with
    | false =>
      have e : isName t = false := by unfold isName; rw [hw]; rfl
      have := q H1 s1
      rw [e] at this
      exact iteF this
    | true =>
      have e : isName t = !(inV (.str t) (noNames.map V.str)) := by unfold isName; rw [hw]; rfl
      have := q H1 s1
      rw [e] at this
      exact iteT ⟨_, rfl, NN, _, rfl, .inr (zN H1), rfl, flat_strs _, this⟩
theorem ok_areN {f g g2 NN : Addr} {fd fdN fdW : FuncData} (F : Fs K mg "are_names" sAreN ["things", "most"] f fd) (dN : Fs K mg "is_name" sIsN ["thing"] g fdN) (dW : Fs K mg "is_word" sIsWord ["thing"] g2 fdW) (T : Bx mg) (hN : mg "NO_NAMES" = some (.ref NN)) (zN : ∀ H, SqT K H NN (noNames.map V.str)) (hst : mg "set" = none) : FnOk P w K mg base CX0 3 f fd ["things", "most"] (spAreN K) := by
  have GN : FnOk P w K mg base CX0 2 g fdN ["thing"] spIsN := ok_isN dN dW T hN zN
  refine F.F.ok scAreN (fun vs H Q E h => ?_) (fun cdv A outer s H vs Q E hr h => ?_)
  · obtain ⟨a, l, m, rfl, _⟩ := h
    rfl
  · obtain ⟨a, l, m, rfl, ha, h60, hsh, q⟩ := h
    refine ⟨_, (pss_cons (ps_if (PW.pt (pw_or (pt_not (pt_val (pe_callB call_isi (by rfl) T.isi boot_isinstance (pa_cons (pv 0) (pa_cons (pe_bltn (v := .ty "tuple") (by rfl) T.tuple (by decide +kernel) rfl) pa_nil))))) (pw_or (pt_cmpR op_gt (pe_callB call_len_seq (by rfl) T.len PySem.boot_len (pa_cons (pv 0) pa_nil)) (pv 1) (nomark _)) (pw_or1 (pt_not (pt_val (pe_callB (cr_all rfl) (by rfl) T.all (by decide +kernel) (pa_cons (pe_lc (own := [("one", 2)]) (g := gName 2) (tt := tYes) rfl scAreN.nd (pi_tup (pv 0)) (blkOk_by (N := nAreN) (sc := defScope sAreN) (by decide +kernel)) (fun _ _ _ _ _ => (pg_name (i := 2) scAreN.nd rfl (Or.inl rfl))) (fun _ _ _ _ _ => pts_nil) (fun _ _ _ _ _ => (pe_call GN hr (by rfl) dN.m dN.F.kp dN.b .nil pass0 (pa_cons (pv 2) pa_nil)))) pa_nil)))))))) (pss_one (ps_ret pe_bl)) pss_nil) (pss_one (ps_ret (pe_cmpR op_eq (pe_callB call_lenX (by rfl) T.len PySem.boot_len (pa_cons (pe_callTy (cr_setTt rfl) (by rfl) hst (by decide +kernel) (pa_cons (pv 0) pa_nil)) pa_nil)) (pe_callB call_len_seq (by rfl) T.len PySem.boot_len (pa_cons (pv 0) pa_nil)) (nomark _))))), ?_⟩
    refine ⟨_, rfl, .ref a, .ty "tuple", _, _, true, rfl, .ty _, tyT ha, kit_ty (by decide +kernel), true, rfl, iteF ?_⟩
    refine ⟨_, rfl, a, _, rfl, .inr ha, _, rfl, _, _, rfl, rfl, _, rfl, ?_⟩
    rw [List.length_map]
    by_cases h2 : (l.length : Int) ≤ m
    case neg =>
      rw [decide_eq_true (by omega)]
      have e : areN l m = false := by unfold areN; rw [decide_eq_false h2]; rfl
      have := q H fun _ _ z => z
      rw [e] at this
      exact iteT (iteT this)
    case pos =>
    rw [decide_eq_false (by omega)]
    refine iteF ⟨_, rfl, a, rfl, ⟨_, ha⟩, fun D hD => ?_⟩
    refine lc_map (walk_tup (xs := l.map V.str)) (fun i => .bl (isName (l.getD i ""))) hD (by rw [List.length_map]; omega) (fun H' s' => SqT.same s' ha) (fun i x H1 H2 R hi s1 ⟨e1, hx⟩ k => ?_) fun H1 s1 gD => ?_
    · subst e1
      obtain ⟨rfl, hm⟩ := get_str hx
      exact ⟨rfl, _, rfl, _, rfl, hsh _ hm, k⟩
    · rw [List.length_map] at gD
      refine ⟨D, (List.range l.length).map fun i => isName (l.getD i ""), rfl, SqL.of (by rw [gD, List.map_map]; rfl), _, rfl, ?_⟩
      rw [range_getD, List.all_map, show (id ∘ isName) = isName from rfl]
      cases h3 : l.all isName with
      | false =>
        have e : areN l m = false := by unfold areN; rw [h3, Bool.false_and, Bool.and_false]
        have := q H1 s1
        rw [e] at this
        exact iteT this
      | true =>
        have e : areN l m = decide l.Nodup := by unfold areN; rw [h3, decide_eq_true h2]; rfl
        refine iteF ?_
        refine ⟨_, rfl, a, l, rfl, SqT.same s1 ha, h60, fun p l' hp nd le mem => ?_⟩
        have s2 := new_same (o := SetX P w p l') hp
        refine ⟨p, l', rfl, upd_same, by omega, _, rfl, a, _, rfl, .inr (SqT.same (s1.trans s2) ha), rfl, ?_⟩
        rw [List.length_map]
        have q' := q _ (s1.trans s2)
        rw [e] at q'
        have e3 : decide l.Nodup = decide (V.int l'.length = V.int l.length) := by
          rw [decide_eq_decide, ← nodup_len nd mem]
          constructor
          · intro z; rw [z]
          · intro z; injection z with z; omega
        rw [e3] at q'
        exact q'
end
end Kx
set_option linter.all false
namespace Kx
open PySem L2 PySem.Spec PyProof.Rows
/-! xs.extend(t), t a tuple -/
abbrev lstO (xs : Array Value) (n : Nat) : Obj := { cls := .type "list", dict := none, data := .seq xs n, slots := #[] }
def rExtendT (K : PySem.W.Frag) : V → List V → Hp → VK → Prop := fun x vs H Q => ∃ l b xs zs, x = .ref l ∧ vs = [.ref b] ∧ H l = some (.lst xs) ∧ SqT K H b zs ∧ xs.length + zs.length ≤ sizeLine ∧ Q .non (upd H l (.lst (xs ++ zs)))
theorem extT_meets {l b : Addr} {xs ys : Array Value} {n m : Nat} {dd : Option Addr} {sl : Array (Option Value)} (c0 : ¬(!xs.isEmpty && Builtin.List.listTooLong (xs.size + ys.size)) = true) (c1 : xs.size ≤ sizeLine) (c2 : xs.size + ys.size ≤ sizeLine + 1) :
    Meets (Builtin.«list.extend» ⟨[.ref l, .ref b], []⟩) (fun _ R s => s.heap.get? l = some (lstO xs n) ∧ s.heap.get? b = some ⟨.type "tuple", dd, .seq ys m, sl⟩ ∧
      R (.ok (.ret Value.none)) { s with heap := s.heap.update l (Obj.mapSeq fun x => x ++ ys) }) :=
  .of_wp fun prog w A R s h => by
    obtain ⟨hp, g, d, tk, os⟩ := s
    obtain ⟨h1, h2, q⟩ := h
    have z : (xs ++ ys).size ≤ sizeLine + 1 := Nat.le_trans (Nat.le_of_eq Array.size_append) c2
    wp_walk using (wpAny_updateSeq h1 rfl (hz := c1) (_hz' := z)), AutoSeq1.wpAny_loadPart' h1, AutoSeq1.wpAny_loadPart' h2
    exact ⟨_, rfl, q⟩
theorem mt_extendT {X : Cx} : MtM X "list.extend" (rExtendT X.K) := by
  intro pins s σ H x vs v us Q I rx rv h
  obtain ⟨l, b, xs, zs, rfl, rfl, hH, hB, hz, q⟩ := h
  cases rx
  obtain ⟨u, rfl, ru⟩ := rv.one
  cases ru
  obtain ⟨z, its, n, r, hl, e⟩ := I.lstM hH
  obtain ⟨its2, r2, ⟨⟨cls, dd, data, sl⟩, ho, hc, n2, hd⟩, hs⟩ := I.tuple hB
  simp only at hc hd
  subst hc hd
  have l2 := r2.length
  have hsz : its.toArray.size + its2.toArray.size ≤ sizeLine := by rw [List.size_toArray, List.size_toArray]; omega
  have hlong : ¬ (!its.toArray.isEmpty && Builtin.List.listTooLong (its.toArray.size + its2.toArray.size)) = true := by
    rw [notLongL hsz, Bool.and_false]
    exact Bool.false_ne_true
  refine call_meets F.slot_list_extend ⟨_, e, rfl⟩ F.entry_list_extend (F.args_list_extend_2 _ _)
    (extT_meets hlong (by rw [List.size_toArray]; omega) (by omega)) ⟨e, ho, ?_⟩
  refine ⟨.non, _, I.lset (its' := its ++ its2) hH e (by simp) (r.append r2) ?_, rfl, q⟩
  rw [List.length_append]
  omega
end Kx
set_option linter.all false
namespace Kx
open PySem L2 PySem.Spec PyProof.Rows
/-! the bases of classes -/
abbrev Bs := List (Str × List Str)
def look (bs : Bs) (n : Str) : Option (List Str) := (bs.find? fun b => decide (b.1 = n)).map (·.2)
inductive Up (bs : Bs) : Str → Str → Prop where
  | one {x y : Str} {l : List Str} (h : look bs x = some l) (m : y ∈ l) : Up bs x y
  | more {x y z : Str} {l : List Str} (u : Up bs x y) (h : look bs y = some l) (m : z ∈ l) : Up bs x z
/-- a dict from names to tuples of names -/
def BasesAt (K : PySem.W.Frag) (H : Hp) (D : Addr) (bs : Bs) : Prop := ∃ kvs : List (Key × V), Rd H D (.dK kvs) ∧ Paired (fun (kv : Key × V) (b : Str × List Str) => kv.1 = .inr b.1 ∧ ∃ a, kv.2 = .ref a ∧ SqT K H a (b.2.map V.str)) kvs bs
theorem rd_same {H H' : Hp} {D : Addr} {u : HO} (s : Same H H') (h : Rd H D u) : Rd H' D u := h.imp (fun e => s _ _ e) fun ⟨o, e⟩ => ⟨o, s _ _ e⟩
theorem BasesAt.same {K : PySem.W.Frag} {H H' : Hp} {D : Addr} {bs : Bs} (s : Same H H') (h : BasesAt K H D bs) : BasesAt K H' D bs := by
  obtain ⟨kvs, r, p⟩ := h
  exact ⟨kvs, rd_same s r, L2.Paired.mapP p fun kv b ⟨e, a, e2, q⟩ => ⟨e, a, e2, SqT.same s q⟩⟩
theorem pair_look {K : PySem.W.Frag} {H : Hp} {n : Str} {l : List Str} : ∀ {kvs : List (Key × V)} {bs : Bs}, Paired (fun (kv : Key × V) (b : Str × List Str) => kv.1 = .inr b.1 ∧ ∃ a, kv.2 = .ref a ∧ SqT K H a (b.2.map V.str)) kvs bs → look bs n = some l → ∃ a, valV kvs (.inr n) = some (.ref a) ∧ SqT K H a (l.map V.str)
  | _, _, .nil, h => by cases h
  | kv :: kvs, b :: bs, .cons ⟨e, a, e2, q⟩ r, h => by
    by_cases z : b.1 = n
    · have e3 : look (b :: bs) n = some b.2 := by simp [look, List.find?_cons, z]
      rw [e3] at h
      cases h
      exact ⟨a, by rw [valV_pos (by rw [e, z]), e2], q⟩
    · have e3 : look (b :: bs) n = look bs n := by simp [look, List.find?_cons, z]
      rw [e3] at h
      obtain ⟨a', h1, h2⟩ := pair_look r h
      exact ⟨a', by rw [valV_neg (by rw [e]; intro y; injection y with y; exact z y)]; exact h1, h2⟩
theorem BasesAt.get {K : PySem.W.Frag} {H : Hp} {D : Addr} {bs : Bs} {n : Str} {l : List Str} (h : BasesAt K H D bs) (e : look bs n = some l) : ∃ a, DGet H D (.str n) (some (.ref a)) ∧ SqT K H a (l.map V.str) := by
  obtain ⟨kvs, r, p⟩ := h
  obtain ⟨a, h1, h2⟩ := pair_look p e
  exact ⟨a, .inl ⟨kvs, .inr n, r, rfl, h1.symm⟩, h2⟩
/-- all bases are there, and few -/
structure BsOk (bs : Bs) : Prop where
  clo : ∀ n l, look bs n = some l → ∀ y ∈ l, (look bs y).isSome
  few : ∀ n l, look bs n = some l → l.length ≤ 3
  len : bs.length ≤ 31
theorem look_mem {bs : Bs} {n : Str} (h : (look bs n).isSome) : n ∈ bs.map (·.1) := by
  unfold look at h
  rw [Option.isSome_map] at h
  obtain ⟨b, hb⟩ := Option.isSome_iff_exists.mp h
  have := List.find?_some hb
  exact List.mem_map.mpr ⟨b, List.mem_of_find?_eq_some hb, of_decide_eq_true this⟩
theorem sub_len : ∀ {l m : List Str}, l.Nodup → (∀ x ∈ l, x ∈ m) → l.length ≤ m.length
  | [], _, _, _ => Nat.zero_le _
  | a :: l, m, nd, h => by
    obtain ⟨h1, h2⟩ := List.nodup_cons.mp nd
    have : l.length ≤ (m.erase a).length := sub_len h2 fun x hx => (List.mem_erase_of_ne (fun z => h1 (by rw [← z]; exact hx))).mpr (h x (List.mem_cons_of_mem _ hx))
    rw [List.length_erase_of_mem (h a List.mem_cons_self)] at this
    have := List.length_pos_of_mem (h a List.mem_cons_self)
    simp only [List.length_cons]
    omega
def seenK (ss : List Str) : List (Key × V) := ss.map fun t => (.inr t, .bl true)
theorem seen_val {n : Str} : ∀ {ss : List Str}, (valV (seenK ss) (.inr n)).isSome = decide (n ∈ ss)
  | [] => rfl
  | t :: ss => by
    by_cases z : t = n
    · subst z
      have e : valV (seenK (t :: ss)) (.inr t) = some (.bl true) := valV_pos (p := ((.inr t : Key), V.bl true)) rfl
      rw [e, decide_eq_true List.mem_cons_self]
      rfl
    · have e : valV (seenK (t :: ss)) (.inr n) = valV (seenK ss) (.inr n) := valV_neg (p := ((.inr t : Key), V.bl true)) (by intro y; injection y with y; exact z y)
      rw [e, seen_val, decide_eq_decide]
      exact ⟨List.mem_cons_of_mem _, fun h => (List.mem_cons.mp h).resolve_left (fun y => z y.symm)⟩
theorem seen_put {n : Str} {ss : List Str} (h : n ∉ ss) : putK (seenK ss) (.inr n) (.bl true) = seenK (ss ++ [n]) := by
  unfold putK
  rw [if_neg]
  · show ss.map _ ++ [_] = (ss ++ [n]).map _
    rw [List.map_append]
    rfl
  · intro z
    obtain ⟨kv, hk, e⟩ := List.any_eq_true.mp z
    obtain ⟨t, ht, rfl⟩ := List.mem_map.mp hk
    have e := of_decide_eq_true e
    injection e with e
    exact h (by rw [← e]; exact ht)

abbrev sAbv : Stmt := top 98
abbrev nAbv : List Str := ["bases", "name", "seen", "waiting", "above"]
theorem scAbv : FnScope nAbv ["bases", "name"] (defScope sAbv) := ⟨rfl, rfl, rfl, by decide +kernel, rfl, by decide +kernel, by decide +kernel⟩
def spAbv (K : PySem.W.Frag) : Sp := fun vs H Q _ => ∃ (D : Addr) (bs : Bs) (n : Str), vs = [.ref D, .str n] ∧ BasesAt K H D bs ∧ BsOk bs ∧ (look bs n).isSome ∧ ∀ b H', (b = true ↔ Up bs n n) → Same H H' → Q (.bl b) H'
/-- what is kept while the way up is gone -/
structure AbvI (bs : Bs) (n : Str) (ss ws : List Str) : Prop where
  up : ∀ x, x ∈ ss ∨ x ∈ ws → Up bs n x
  cl : ∀ x ∈ ss, ∀ l, look bs x = some l → ∀ y ∈ l, y ∈ ss ∨ y ∈ ws
  st : ∀ l, look bs n = some l → ∀ y ∈ l, y ∈ ss ∨ y ∈ ws
  nd : ss.Nodup
  bw : ∀ x, x ∈ ss ∨ x ∈ ws → (look bs x).isSome
theorem AbvI.few {bs : Bs} {n : Str} {ss ws : List Str} (h : AbvI bs n ss ws) : ss.length ≤ bs.length := by
  have := sub_len h.nd (m := bs.map (·.1)) fun x hx => look_mem (h.bw x (.inl hx))
  rwa [List.length_map] at this
theorem AbvI.fin {bs : Bs} {n : Str} {ss : List Str} (h : AbvI bs n ss []) : n ∈ ss ↔ Up bs n n := by
  constructor
  · exact fun z => h.up n (.inl z)
  · have all : ∀ x y, Up bs x y → x = n → y ∈ ss := by
      intro x y u
      induction u with
      | one hl m => intro e; subst e; exact (h.st _ hl _ m).resolve_right (fun z => by cases z)
      | more u hl m ih => intro e; exact (h.cl _ (ih e) _ hl _ m).resolve_right (fun z => by cases z)
    exact fun u => all n n u rfl
theorem AbvI.step {bs : Bs} {n t : Str} {ss ws lt : List Str} (I : AbvI bs n ss (ws ++ [t])) (ht : t ∉ ss) (e : look bs t = some lt) (b : ∀ y ∈ lt, (look bs y).isSome) : AbvI bs n (ss ++ [t]) (ws ++ lt) := by
  have go : ∀ y, (y ∈ ss ∨ y ∈ ws ++ [t]) → y ∈ ss ++ [t] ∨ y ∈ ws ++ lt := fun y h => by
    rcases h with h | h
    · exact .inl (List.mem_append_left _ h)
    · rcases List.mem_append.mp h with h | h
      · exact .inr (List.mem_append_left _ h)
      · exact .inl (List.mem_append_right _ h)
  have back : ∀ x, x ∈ ss ++ [t] ∨ x ∈ ws ++ lt → (x ∈ ss ∨ x ∈ ws ++ [t]) ∨ x ∈ lt := fun x h => by
    rcases h with h | h
    · rcases List.mem_append.mp h with h | h
      · exact .inl (.inl h)
      · exact .inl (.inr (List.mem_append_right _ h))
    · rcases List.mem_append.mp h with h | h
      · exact .inl (.inr (List.mem_append_left _ h))
      · exact .inr h
  refine ⟨fun x hx => ?_, fun x hx l hl y hy => ?_, fun l hl y hy => go y (I.st l hl y hy), ?_, fun x hx => ?_⟩
  · rcases back x hx with h | h
    · exact I.up x h
    · exact .more (I.up t (.inr (by simp))) e h
  · rcases List.mem_append.mp hx with h | h
    · exact go y (I.cl x h l hl y hy)
    · rw [List.mem_singleton.mp h, e] at hl
      cases hl
      exact .inr (List.mem_append_right _ hy)
  · refine List.nodup_append.mpr ⟨I.nd, by simp, fun a ha b hb => ?_⟩
    rw [List.mem_singleton.mp hb]
    exact fun z => ht (z ▸ ha)
  · rcases back x hx with h | h
    · exact I.bw x h
    · exact b x h
theorem drop1 {ss ws : List Str} {t y : Str} (ht : t ∈ ss) (h : y ∈ ss ∨ y ∈ ws ++ [t]) : y ∈ ss ∨ y ∈ ws := by
  rcases h with h | h
  · exact .inl h
  · rcases List.mem_append.mp h with h | h
    · exact .inr h
    · rw [List.mem_singleton.mp h]; exact .inl ht
section
variable {P : Program} {w : World} {K : PySem.W.Frag} {mg : Str → Option Value} {base : Heap}
theorem ok_abv {f : Addr} {fd : FuncData} (F : Fs K mg "is_above_itself" sAbv ["bases", "name"] f fd) (ls : mg "list" = none) : FnOk P w K mg base CX0 1 f fd ["bases", "name"] (spAbv K) := by
  refine F.F.ok scAbv (fun vs H Q E h => ?_) (fun cdv A outer s H vs Q E hr h => ?_)
  · obtain ⟨D, bs, n, rfl, _⟩ := h
    rfl
  · obtain ⟨D, bs, n, rfl, hD, ok, hn, q⟩ := h
    have hu := hu_of hr
    obtain ⟨l0, el0⟩ := Option.isSome_iff_exists.mp hn
    refine ⟨_, (pss_cons (ps_set (i := 2) scAbv.nd rfl (Or.inl rfl) pe_dnewK) (pss_cons (ps_set (i := 3) scAbv.nd rfl (Or.inl rfl) (pe_callTy call_list_of (by rfl) ls (by decide +kernel) (pa_cons (pe_dget hu (pv 0) (pv 1) (fun _ _ => rfl)) pa_nil))) (pss_cons (ps_while PassesOwn.never (pt_truth (pv 3) (by intro _; rfl)) (pss_cons (ps_set (i := 4) scAbv.nd rfl (Or.inl rfl) (pe_bm0 PySem.F.plainAttrs_list PySem.F.slot_list_pop PySem.F.type_list_pop mt_pop (pv 3))) (pss_one (ps_if (pt_cmp (pc_dnotin hu (pv 4) (pv 2)) (by with_unfolding_all rfl)) (pss_cons (ps_asg pe_bl (pg_sub (pv 2) (pv 4) (set_dict hu))) (pss_one (ps_expr (pe_bm PySem.F.plainAttrs_list PySem.F.slot_list_extend PySem.F.type_list_extend mt_extendT (pv 3) (pa_cons (pe_dget hu (pv 0) (pv 4) (fun _ _ => rfl)) pa_nil))))) pss_nil)))) (pss_one (ps_ret (pe_cmp (pc_din hu (pv 1) (pv 2)) (by with_unfolding_all rfl))))))), ?_⟩
    intro S hS
    have s1 := new_same (o := .dK []) hS
    have gS : (upd H S (.dK [])) S = some (.dK []) := upd_same
    obtain ⟨H1, e1⟩ : ∃ G, upd H S (.dK []) = G := ⟨_, rfl⟩
    rw [e1] at s1 gS ⊢
    obtain ⟨a0, g0, t0⟩ := (hD.same s1).get el0
    refine ⟨_, rfl, _, rfl, D, _, rfl, g0, a0, _, rfl, .inr t0, fun W hW => ?_⟩
    have hW0 : H W = none := by
      cases z : H W with
      | none => rfl
      | some u => rw [s1 _ _ z] at hW; cases hW
    have s2 := s1.trans (new_same (o := .lst (l0.map V.str)) hW)
    have nSW : S ≠ W := fun z => by rw [z, hW] at gS; cases gS
    refine ⟨fun m σ H' => ∃ ss ws v, m = 4 * (bs.length - ss.length) + ws.length ∧ σ = [some (.ref D), some (.str n), some (.ref S), some (.ref W), v] ∧ AbvI bs n ss ws ∧ ws.length ≤ 3 + 3 * ss.length ∧ Same H H' ∧ H' S = some (.dK (seenK ss)) ∧ H' W = some (.lst (ws.map V.str)), ⟨_, [], l0, none, rfl, rfl, ?_, ?_, s2, ?_, upd_same⟩, ?_⟩
    · refine ⟨fun x hx => ?_, fun x hx => (nomatch hx), fun l hl y hy => ?_, List.nodup_nil, fun x hx => ?_⟩
      · exact .one el0 (hx.resolve_left (fun z => by cases z))
      · rw [el0] at hl; cases hl; exact .inr hy
      · exact ok.clo _ _ el0 _ (hx.resolve_left (fun z => by cases z))
    · exact ok.few _ _ el0
    · rw [upd_ne nSW]; exact gS
    · rintro m σ H2 ⟨ss, ws, v, rfl, rfl, I, hl, s3, gS2, gW2⟩
      have hk := I.few
      have hb := ok.len
      refine ⟨_, rfl, !(ws.map V.str).isEmpty, .inl ⟨_, SqL.of gW2, rfl⟩, ?_⟩
      by_cases hw : ws = []
      · subst hw
        refine iteF ?_
        refine ⟨_, rfl, _, rfl, S, _, rfl, DGet.k (k := .inr n) gS2, ?_⟩
        rw [seen_val]
        exact q _ _ (by rw [decide_eq_true_iff]; exact I.fin) s3
      · obtain ⟨ws', t, rfl⟩ : ∃ ws' t, ws = ws' ++ [t] := ⟨ws.dropLast, ws.getLast hw, (List.dropLast_concat_getLast hw).symm⟩
        rw [show (!((ws' ++ [t]).map V.str).isEmpty) = true by simp]
        refine iteT ⟨fun σ' H' => ∃ m', m' < 4 * (bs.length - ss.length) + (ws' ++ [t]).length ∧ ∃ ss2 ws2 v, m' = 4 * (bs.length - ss2.length) + ws2.length ∧ σ' = [some (.ref D), some (.str n), some (.ref S), some (.ref W), v] ∧ AbvI bs n ss2 ws2 ∧ ws2.length ≤ 3 + 3 * ss2.length ∧ Same H H' ∧ H' S = some (.dK (seenK ss2)) ∧ H' W = some (.lst (ws2.map V.str)), fun σ' H' z => z, ?_⟩
        have hx := I.bw t (.inr (by simp))
        obtain ⟨lt, elt⟩ := Option.isSome_iff_exists.mp hx
        refine ⟨_, rfl, .inl ⟨rfl, _, SqL.of gW2⟩, W, _, .str t, rfl, rfl, gW2, by simp, ?_⟩
        have ed : ((ws' ++ [t]).map V.str).dropLast = ws'.map V.str := by simp
        rw [ed]
        have nW2 : H W = none := hW0
        have s4 : Same H (upd H2 W (.lst (ws'.map V.str))) := same_D nW2 s3
        have gS3 : (upd H2 W (.lst (ws'.map V.str))) S = some (.dK (seenK ss)) := by rw [upd_ne nSW]; exact gS2
        have gW3 : (upd H2 W (.lst (ws'.map V.str))) W = some (.lst (ws'.map V.str)) := upd_same
        obtain ⟨H3, e3⟩ : ∃ G, upd H2 W (.lst (ws'.map V.str)) = G := ⟨_, rfl⟩
        rw [e3] at s4 gS3 gW3 ⊢
        refine ⟨_, rfl, _, rfl, S, _, rfl, DGet.k (k := .inr t) gS3, ?_⟩
        rw [seen_val]
        by_cases ht : t ∈ ss
        · rw [decide_eq_true ht]
          refine ⟨_, rfl, iteF ?_⟩
          exact ⟨_, by simp only [List.length_append, List.length_singleton]; exact Nat.lt_succ_self _, ss, ws', _, rfl, rfl, ⟨fun x hx => I.up x (hx.imp_right fun z => List.mem_append_left _ z), fun x hx l hl y hy => drop1 ht (I.cl x hx l hl y hy), fun l hl y hy => drop1 ht (I.st l hl y hy), I.nd, fun x hx => I.bw x (hx.imp_right fun z => List.mem_append_left _ z)⟩, by simp only [List.length_append, List.length_singleton] at hl; omega, s4, gS3, gW3⟩
        · rw [decide_eq_false ht]
          refine ⟨_, rfl, iteT ?_⟩
          refine ⟨_, rfl, _, rfl, S, _, rfl, DPut.k (k := .inr t) gS3 ?_, ?_⟩
          · rw [show (seenK ss).length = ss.length from List.length_map ..]
            exact small1000 (by omega)
          rw [seen_put ht]
          have s5 : Same H (upd H3 S (.dK (seenK (ss ++ [t])))) := same_D hS s4
          have gS4 : (upd H3 S (.dK (seenK (ss ++ [t])))) S = some (.dK (seenK (ss ++ [t]))) := upd_same
          have gW4 : (upd H3 S (.dK (seenK (ss ++ [t])))) W = some (.lst (ws'.map V.str)) := by rw [upd_ne (Ne.symm nSW)]; exact gW3
          obtain ⟨H4, e4⟩ : ∃ G, upd H3 S (.dK (seenK (ss ++ [t]))) = G := ⟨_, rfl⟩
          rw [e4] at s5 gS4 gW4 ⊢
          obtain ⟨a1, g1, t1⟩ := (hD.same s5).get elt
          have fw := ok.few _ _ elt
          refine ⟨_, rfl, .inl ⟨rfl, _, SqL.of gW4⟩, _, rfl, _, rfl, D, _, rfl, g1, W, a1, _, _, rfl, rfl, gW4, t1, ?_, ?_⟩
          · rw [List.length_map, List.length_map]
            simp only [List.length_append, List.length_singleton] at hl
            exact le_sz (by omega)
          · have I2 : AbvI bs n (ss ++ [t]) (ws' ++ lt) := I.step ht elt (fun y hy => ok.clo _ _ elt y hy)
            have f2 := I2.few
            refine ⟨_, ?_, ss ++ [t], ws' ++ lt, _, rfl, rfl, I2, ?_, same_D hW0 s5, ?_, ?_⟩
            · simp only [List.length_append, List.length_singleton] at f2 ⊢
              omega
            · simp only [List.length_append, List.length_singleton] at hl ⊢
              omega
            · rw [upd_ne nSW]; exact gS4
            · rw [upd_same, List.map_append]
end

end Kx
set_option linter.all false
namespace Kx
open PySem L2 PySem.Spec PyProof.Rows
/-! texts in rows -/
theorem inV_str {t : Str} : ∀ {l : List Str}, inV (.str t) (l.map V.str) = decide (t ∈ l)
  | [] => rfl
  | x :: l => by
    show (eqV (.str x) (.str t) || inV (.str t) (l.map V.str)) = _
    rw [inV_str, Bool.eq_iff_iff, Bool.or_eq_true, decide_eq_true_iff, decide_eq_true_iff, List.mem_cons]
    show (x == t) = true ∨ _ ↔ _
    rw [beq_iff_eq]
    exact ⟨fun h => h.imp_left Eq.symm, fun h => h.imp_left Eq.symm⟩
theorem eqv_strs : ∀ {l m : List Str}, PyData.eqvAll (l.map .str) (m.map .str) = decide (l = m)
  | [], [] => rfl
  | [], y :: m => rfl
  | x :: l, [] => rfl
  | x :: l, y :: m => by
    show ((x == y) && PyData.eqvAll (l.map .str) (m.map .str)) = _
    rw [eqv_strs, Bool.eq_iff_iff, Bool.and_eq_true, decide_eq_true_iff, decide_eq_true_iff, beq_iff_eq]
    exact ⟨fun ⟨a, b⟩ => by rw [a, b], fun h => by injection h with a b; exact ⟨a, b⟩⟩
def OkS (l : List Str) : Prop := ∀ t ∈ l, PyData.strOk t = true
theorem lay_strs : ∀ {l : List Str}, OkS l → PyData.canLayAll0 (l.map .str) = true ∧ PyData.depthAll (l.map .str) = 0
  | [], _ => ⟨rfl, rfl⟩
  | x :: l, h => by
    obtain ⟨a, b⟩ := lay_strs (l := l) fun t ht => h t (List.mem_cons_of_mem _ ht)
    refine ⟨?_, ?_⟩
    · show (PyData.canLay0 (.str x) && PyData.canLayAll0 (l.map .str)) = true
      rw [a, Bool.and_true]
      exact h x List.mem_cons_self
    · show max (PyData.depth (.str x)) (PyData.depthAll (l.map .str)) = 0
      rw [b]
      rfl
theorem shaped_strs {l : List Str} (h : OkS l) : SeqAt.shaped (.list (l.map .str)) = true := by
  obtain ⟨a, b⟩ := lay_strs h
  unfold SeqAt.shaped
  show (PyData.canLayAll0 (l.map .str) && decide (PyData.depthAll (l.map .str) + 1 ≤ 64)) = true
  rw [a, b]
  rfl
theorem dpAll_strs {K : PySem.W.Frag} {H : Hp} : ∀ {l : List Str}, DpAll K H (l.map V.str) (l.map .str)
  | [] => .nil
  | x :: l => .cons (.str x) dpAll_strs
/-- x != y of two lists of texts -/
theorem ne_strs {K : PySem.W.Frag} {H : Hp} {Q : VK} {a b : Addr} {l m : List Str} (o1 : OkS l) (o2 : OkS m) (h1 : SqL K H a (l.map V.str)) (h2 : SqL K H b (m.map V.str)) (q : Q (.bl (!decide (l = m))) H) : rNeD K (.ref a) (.ref b) H Q :=
  ⟨_, _, .lst h1 dpAll_strs, .lst h2 dpAll_strs, shaped_strs o1, shaped_strs o2, by rw [show PyData.eqv (.list (l.map .str)) (.list (m.map .str)) = PyData.eqvAll (l.map .str) (m.map .str) by rfl, eqv_strs]; exact q⟩
theorem at0 {x : V} {xs : List V} : atI (x :: xs) 0 = some x := by
  unfold atI ixN
  rw [if_pos (by decide), if_pos (by simp only [List.length_cons]; omega)]
  rfl
theorem cutV_lo {xs : List V} {k : Nat} (h : k ≤ xs.length) : cutV xs none (some (k : Int)) = xs.take k := by
  unfold cutV
  rw [HT.sIx_nat, HT.sIx_none, List.drop_zero, Nat.sub_zero, Nat.min_eq_left h]
theorem cutV_hi {xs : List V} {k : Nat} : cutV xs (some (k : Int)) none = xs.drop k := by
  unfold cutV
  rw [HT.sIx_nat, HT.sIx_none]
  by_cases h : k ≤ xs.length
  · rw [Nat.min_eq_left h, List.take_of_length_le]
    rw [List.length_drop]
    omega
  · rw [Nat.min_eq_right (by omega), List.drop_eq_nil_of_le (Nat.le_refl _), List.drop_eq_nil_of_le (by omega), List.take_nil]
/-- a list of lists of texts -/
def RowsAt (K : PySem.W.Frag) (H : Hp) (R : Addr) (rows : List (List Str)) : Prop := ∃ vs, SqL K H R vs ∧ Paired (fun v r => ∃ a, v = .ref a ∧ SqL K H a (r.map V.str)) vs rows
theorem RowsAt.same {K : PySem.W.Frag} {H H' : Hp} {R : Addr} {rows : List (List Str)} (s : Same H H') (h : RowsAt K H R rows) : RowsAt K H' R rows := by
  obtain ⟨vs, r, p⟩ := h
  exact ⟨vs, SqL.same s r, L2.Paired.mapP p fun v b ⟨a, e, q⟩ => ⟨a, e, SqL.same s q⟩⟩
def freeIn (rows : List (List Str)) (h : Str) : Bool := !rows.any fun o => decide (h ∈ o.drop 1)
def nextOf (rows : List (List Str)) : Option Str := (rows.find? fun r => freeIn rows (r.headD "")).map (·.headD "")
def osV : Option Str → V
  | none => .non
  | some t => .str t
def spNx (K : PySem.W.Frag) : Sp := fun vs H Q _ => ∃ (R : Addr) (rows : List (List Str)), vs = [.ref R] ∧ RowsAt K H R rows ∧ (∀ r ∈ rows, r ≠ []) ∧ rows.length ≤ 30 ∧ (∀ r ∈ rows, r.length ≤ 100) ∧ ∀ H', Same H H' → Q (osV (nextOf rows)) H'

abbrev sNx : Stmt := top 102
abbrev nNx : List Str := ["rows", "row", "other"]
theorem scNx : FnScope nNx ["rows"] (defScope sNx) := ⟨rfl, rfl, rfl, by decide +kernel, rfl, by decide +kernel, by decide +kernel⟩
section
variable {P : Program} {w : World} {K : PySem.W.Frag} {mg : Str → Option Value} {base : Heap}
theorem ok_nx {f : Addr} {fd : FuncData} (F : Fs K mg "_next_of" sNx ["rows"] f fd) (hany : mg "any" = none) : FnOk P w K mg base CX0 1 f fd ["rows"] (spNx K) := by
  refine F.F.ok scNx (fun vs H Q E h => ?_) (fun cdv A outer s H vs Q E hr h => ?_)
  · obtain ⟨R, rows, rfl, _⟩ := h
    rfl
  · obtain ⟨R, rows, rfl, hR, ne, l30, l100, q⟩ := h
    obtain ⟨vs, hv, hp⟩ := hR
    have hlen : vs.length = rows.length := Paired.length hp
    refine ⟨_, (pss_cons (ps_for PassesOwn.never rfl (pi_list (pv 0)) (pg_name (i := 1) scNx.nd rfl (Or.inr rfl)) (pss_one (ps_if (pt_not (pt_val (pe_callB (cr_any rfl) (by rfl) hany (by decide +kernel) (pa_cons (pe_lc (own := [("other", 2)]) (g := gName 2) (tt := tYes) rfl scNx.nd (pi_list (pv 0)) (blkOk_by (N := nNx) (sc := defScope sNx) (by decide +kernel)) (fun _ _ _ _ _ => (pg_name (i := 2) scNx.nd rfl (Or.inl rfl))) (fun _ _ _ _ _ => pts_nil) (fun _ _ _ _ _ => (pe_cmpR (op_in_seqK (K := K) rfl) (pe_ix (ix_listK (K := K) rfl) (pv 1) pe_int (fun _ _ => rfl)) (pe_slice (sl_listK (K := K) rfl) (pv 2) (po_some pe_int) po_none) (by with_unfolding_all rfl)))) pa_nil)))) (pss_one (ps_ret (pe_ix ix_list (pv 1) pe_int (fun _ _ => rfl)))) pss_nil))) (pss_one (ps_ret pe_non))), ?_⟩
    refine ⟨_, rfl, R, rfl, ⟨_, hv⟩, for_list (K := K) (a := R) (xs := vs) (fun i σ H' => ∃ v1 v2, σ = [some (.ref R), v1, v2] ∧ Same H H' ∧ ∀ j r, j < i → rows[j]? = some r → freeIn rows (r.headD "") = false) ⟨none, none, rfl, fun _ _ z => z, fun j _ z => absurd z (Nat.not_lt_zero _)⟩ (fun i σ H' _ ⟨_, _, _, s, _⟩ => SqL.same s hv) ?_ ?_⟩
    · rintro i x σ H' hi ⟨v1, v2, rfl, s1, hb⟩
      obtain ⟨r, er, a, rfl, ha⟩ := paired_get hp hi
      have hr0 := ne r (List.mem_of_getElem? er)
      obtain ⟨h0, r', rfl⟩ := List.exists_cons_of_ne_nil hr0
      refine ⟨_, rfl, R, rfl, ⟨_, SqL.same s1 hv⟩, fun D hD => ?_⟩
      refine lc_map (walk_list (xs := vs)) (fun j => .bl (decide (h0 ∈ (rows.getD j []).drop 1))) hD (by omega) (fun H2 s2 => SqL.same (s1.trans s2) hv) (fun j x H2 H3 RR hj s2 ⟨e2, hx⟩ k => ?_) fun H2 s2 gD => ?_
      · subst e2
        obtain ⟨o, eo, b, rfl, hb2⟩ := paired_get hp hx
        have eo2 : rows.getD j [] = o := by simp [List.getD, eo]
        have l1 := l100 o (List.mem_of_getElem? eo)
        refine ⟨rfl, _, rfl, a, _, _, .str h0, rfl, rfl, SqL.same (s1.trans s2) ha, at0, ?_⟩
        refine ⟨_, rfl, _, rfl, b, _, rfl, SqL.same (s1.trans s2) hb2, fun p hp2 => ?_⟩
        have e4 : cutV (o.map V.str) (some 1) none = (o.drop 1).map V.str := by rw [show (1 : Int) = ((1 : Nat) : Int) from rfl, cutV_hi, List.map_drop]
        rw [e4]
        refine ⟨p, _, rfl, .inl (SqL.of upd_same), rfl, flat_strs _, ?_⟩
        rw [inV_str]
        have := k _ (new_same (o := .lst ((o.drop 1).map V.str)) hp2)
        rw [eo2] at this
        exact this
      · refine ⟨D, (List.range rows.length).map fun j => decide (h0 ∈ (rows.getD j []).drop 1), rfl, SqL.of (by rw [gD, hlen, List.map_map]; rfl), _, rfl, ?_⟩
        rw [range_getD rows [] (fun o => decide (h0 ∈ o.drop 1))]
        have ef : ((rows.map fun o => decide (h0 ∈ o.drop 1)).any id) = !freeIn rows h0 := by unfold freeIn; rw [List.any_map, Bool.not_not]; rfl
        rw [ef]
        cases hf : freeIn rows h0 with
        | false =>
          refine iteF ⟨_, _, rfl, s1.trans s2, fun j r hj er2 => ?_⟩
          by_cases z : j = i
          · subst z; rw [er] at er2; cases er2; exact hf
          · exact hb j r (by omega) er2
        | true =>
          refine iteT ⟨_, rfl, a, _, _, .str h0, rfl, rfl, SqL.same (s1.trans s2) ha, at0, ?_⟩
          have e : nextOf rows = some h0 := by
            unfold nextOf
            have e5 : rows.find? (fun r => freeIn rows (r.headD "")) = some (h0 :: r') := by
              rw [List.find?_eq_some_iff_getElem]
              obtain ⟨hlt, eg⟩ := List.getElem?_eq_some_iff.mp er
              refine ⟨hf, i, hlt, eg, fun j hj => ?_⟩
              have hj2 : j < rows.length := by omega
              rw [hb j _ hj (List.getElem?_eq_getElem hj2)]
              rfl
            rw [e5]
            rfl
          have := q _ (s1.trans s2)
          rw [e] at this
          exact this
    · rintro σ H' ⟨v1, v2, rfl, s1, hb⟩
      have e : nextOf rows = none := by
        unfold nextOf
        rw [List.find?_eq_none.mpr]
        · rfl
        · intro r hr
          obtain ⟨j, hj, e⟩ := List.getElem_of_mem hr
          rw [hb j r (by rw [hlen]; exact hj) (by rw [List.getElem?_eq_getElem hj, e])]
          exact Bool.false_ne_true
      have := q H' s1
      rw [e] at this
      exact this
end

end Kx
set_option linter.all false
namespace Kx
open PySem L2 PySem.Spec PyProof.Rows
/-! rows merged -/
def stripR (t : Str) (rest : List (List Str)) : List (List Str) := (rest.filter fun r => !decide (r = [t])).map fun r => r.filter fun o => !decide (o = t)
def mergeF : Nat → List (List Str) → Option (List Str)
  | 0, _ => some []
  | k + 1, rest => if rest = [] then some [] else match nextOf rest with
    | none => none
    | some t => (mergeF k (stripR t rest)).map (t :: ·)
def tot (rest : List (List Str)) : Nat := (rest.map List.length).sum
def merged (rows : List (List Str)) : Option (List Str) := mergeF (tot (rows.filter fun r => !r.isEmpty) + 1) (rows.filter fun r => !r.isEmpty)
structure RowOk (r : List Str) : Prop where
  ne : r ≠ []
  nd : r.Nodup
  ok : OkS r
  len : r.length ≤ 100
theorem RowOk.strip {t : Str} {r : List Str} (h : RowOk r) (n : r ≠ [t]) : RowOk (r.filter fun o => !decide (o = t)) := by
  refine ⟨fun z => ?_, h.nd.filter _, fun x hx => h.ok x (List.mem_filter.mp hx).1, Nat.le_trans (List.length_filter_le _ _) h.len⟩
  have all : ∀ x ∈ r, x = t := fun x hx => by
    have := List.filter_eq_nil_iff.mp z x hx
    simpa using this
  obtain ⟨a, r', rfl⟩ := List.exists_cons_of_ne_nil h.ne
  have ha := all a List.mem_cons_self
  cases r' with
  | nil => exact n (by rw [ha])
  | cons b r'' =>
    have hb := all b (by simp)
    have := (List.nodup_cons.mp h.nd).1
    exact this (by rw [ha, hb]; exact List.mem_cons_self)
theorem next_mem {rest : List (List Str)} {t : Str} (h : nextOf rest = some t) : ∃ r ∈ rest, r.headD "" = t := by
  unfold nextOf at h
  obtain ⟨r, hr, e⟩ := Option.map_eq_some_iff.mp h
  exact ⟨r, List.mem_of_find?_eq_some hr, e⟩
theorem tot_strip {t : Str} : ∀ {rest : List (List Str)}, tot (stripR t rest) ≤ tot rest ∧ (∀ r ∈ rest, t ∈ r → tot (stripR t rest) < tot rest)
  | [] => ⟨Nat.le_refl _, fun r hr => nomatch hr⟩
  | r :: rest => by
    obtain ⟨h1, h2⟩ := tot_strip (t := t) (rest := rest)
    have hl := List.length_filter_le (fun o => !decide (o = t)) r
    have hlt : t ∈ r → (r.filter fun o => !decide (o = t)).length < r.length := fun hm => by
      refine Nat.lt_of_le_of_ne hl fun e => ?_
      have := List.length_filter_eq_length_iff.mp e t hm
      simp at this
    by_cases z : r = [t]
    · have e : tot (stripR t (r :: rest)) = tot (stripR t rest) := by unfold stripR; rw [List.filter_cons_of_neg (by simp [z])]
      have e2 : tot (r :: rest) = 1 + tot rest := by rw [z]; rfl
      rw [e, e2]
      exact ⟨by omega, fun _ _ _ => by omega⟩
    · have e : tot (stripR t (r :: rest)) = (r.filter fun o => !decide (o = t)).length + tot (stripR t rest) := by unfold stripR; rw [List.filter_cons_of_pos (by simp [z])]; rfl
      have e2 : tot (r :: rest) = r.length + tot rest := rfl
      rw [e, e2]
      refine ⟨by omega, fun r2 hr2 ht => ?_⟩
      rcases List.mem_cons.mp hr2 with rfl | hr2
      · have := hlt ht; omega
      · have := h2 r2 hr2 ht; omega
theorem tot_le : ∀ {rest : List (List Str)}, (∀ r ∈ rest, r.length ≤ 100) → tot rest ≤ 100 * rest.length
  | [], _ => Nat.le_refl _
  | r :: rest, h => by
    have h1 := tot_le (rest := rest) fun x hx => h x (List.mem_cons_of_mem _ hx)
    have h2 := h r List.mem_cons_self
    have e2 : tot (r :: rest) = r.length + tot rest := rfl
    rw [e2, List.length_cons]
    omega
theorem small1000' {n : Nat} (h : n ≤ 3001) : n < sizeLine := by rw [sizeLine_eq]; omega
def LstAt (K : PySem.W.Frag) (H : Hp) (v : V) (r : List Str) : Prop := ∃ a, v = .ref a ∧ SqL K H a (r.map V.str)
theorem LstAt.same {K : PySem.W.Frag} {H H' : Hp} {v : V} {r : List Str} (s : Same H H') : LstAt K H v r → LstAt K H' v r := fun ⟨a, e, q⟩ => ⟨a, e, SqL.same s q⟩
theorem paired_snoc {α β : Type} {R : α → β → Prop} : ∀ {xs : List α} {ys : List β} {x : α} {y : β}, Paired R xs ys → R x y → Paired R (xs ++ [x]) (ys ++ [y])
  | _, _, _, _, .nil, h => .cons h .nil
  | _, _, _, _, .cons a p, h => .cons a (paired_snoc p h)
theorem pmem {α β : Type} {R S : α → β → Prop} : ∀ {xs : List α} {ys : List β}, Paired R xs ys → (∀ x y, x ∈ xs → R x y → S x y) → Paired S xs ys
  | _, _, .nil, _ => .nil
  | _, _, .cons a p, h => .cons (h _ _ List.mem_cons_self a) (pmem p fun x y m => h x y (List.mem_cons_of_mem _ m))
theorem take_snoc {α : Type} {l : List α} {i : Nat} {x : α} (h : l[i]? = some x) : l.take (i + 1) = l.take i ++ [x] := by
  obtain ⟨hl, e⟩ := List.getElem?_eq_some_iff.mp h
  rw [List.take_succ_eq_append_getElem hl, e]
theorem strip_snoc {t : Str} {l : List (List Str)} {r : List Str} : stripR t (l ++ [r]) = stripR t l ++ (if r = [t] then [] else [r.filter fun o => !decide (o = t)]) := by
  unfold stripR
  rw [List.filter_append, List.map_append]
  congr 1
  by_cases z : r = [t]
  · simp [z]
  · simp [z]
/-- a list that stays as it is while M changes -/
def SqLN (K : PySem.W.Frag) (H : Hp) (M a : Addr) (xs : List V) : Prop := ∀ o, SqL K (upd H M o) a xs
theorem upd_upd {H : Hp} {M : Addr} {o o' : HO} : upd (upd H M o) M o' = upd H M o' := by
  funext b
  by_cases z : b = M
  · rw [z, upd_same, upd_same]
  · rw [upd_ne z, upd_ne z, upd_ne z]
theorem upd_self {H : Hp} {M : Addr} {o : HO} (h : H M = some o) : upd H M o = H := by
  funext b
  by_cases z : b = M
  · rw [z, upd_same, h]
  · rw [upd_ne z]
theorem SqLN.of {K : PySem.W.Frag} {H : Hp} {M a : Addr} {xs : List V} (hM : H M = none) (h : SqL K H a xs) : SqLN K H M a xs := fun o => SqL.same (new_same hM) h
theorem SqLN.same {K : PySem.W.Frag} {H H' : Hp} {M a : Addr} {xs : List V} (s : Same H H') (h : SqLN K H M a xs) : SqLN K H' M a xs := fun o => SqL.same (fun b u e => by
  by_cases z : b = M
  · rw [z, upd_same] at e ⊢; exact e
  · rw [upd_ne z] at e ⊢; exact s _ _ e) (h o)
theorem SqLN.at {K : PySem.W.Frag} {H : Hp} {M a : Addr} {xs : List V} {o : HO} (h : SqLN K H M a xs) (e : H M = some o) : SqL K H a xs := by
  have := h o
  rwa [upd_self e] at this
theorem SqLN.upd {K : PySem.W.Frag} {H : Hp} {M a : Addr} {xs : List V} {o : HO} (h : SqLN K H M a xs) : SqLN K (upd H M o) M a xs := fun o' => by
  rw [upd_upd]; exact h o'
theorem SqLN.new {K : PySem.W.Frag} {H : Hp} {M a : Addr} {xs : List V} (n : a ≠ M) (e : H a = some (.lst xs)) : SqLN K H M a xs := fun o => SqL.of (by rw [upd_ne n]; exact e)
def RowsN (K : PySem.W.Frag) (H : Hp) (M R : Addr) (rows : List (List Str)) : Prop := ∃ vs, SqLN K H M R vs ∧ Paired (fun v r => ∃ a, v = .ref a ∧ SqLN K H M a (r.map V.str)) vs rows
theorem RowsN.same {K : PySem.W.Frag} {H H' : Hp} {M R : Addr} {rows : List (List Str)} (s : Same H H') (h : RowsN K H M R rows) : RowsN K H' M R rows :=
  let ⟨vs, a, b⟩ := h; ⟨vs, a.same s, L2.Paired.mapP b fun _ _ ⟨a, e, q⟩ => ⟨a, e, q.same s⟩⟩
theorem RowsN.upd {K : PySem.W.Frag} {H : Hp} {M R : Addr} {rows : List (List Str)} {o : HO} (h : RowsN K H M R rows) : RowsN K (upd H M o) M R rows :=
  let ⟨vs, a, b⟩ := h; ⟨vs, a.upd, L2.Paired.mapP b fun _ _ ⟨a, e, q⟩ => ⟨a, e, q.upd⟩⟩
theorem RowsN.at {K : PySem.W.Frag} {H : Hp} {M R : Addr} {rows : List (List Str)} {o : HO} (h : RowsN K H M R rows) (e : H M = some o) : RowsAt K H R rows :=
  let ⟨vs, a, b⟩ := h; ⟨vs, a.at e, L2.Paired.mapP b fun _ _ ⟨a, e', q⟩ => ⟨a, e', q.at e⟩⟩
/-- what merging answers with -/
def spMg (K : PySem.W.Frag) : Sp := fun vs H Q _ => ∃ (R : Addr) (rows : List (List Str)), vs = [.ref R] ∧ RowsAt K H R rows ∧ (∀ r ∈ rows, r ≠ [] → RowOk r) ∧ rows.length ≤ 30 ∧
  (merged rows = none → ∀ H', Same H H' → Q .non H') ∧ ∀ l, merged rows = some l → ∀ M H', H M = none → Same H H' → H' M = some (.lst (l.map V.str)) → Q (.ref M) H'

abbrev sMg : Stmt := top 101
abbrev nMg : List Str := ["rows", "merged", "rest", "taken", "row", "one"]
theorem scMg : FnScope nMg ["rows"] (defScope sMg) := ⟨rfl, rfl, rfl, by decide +kernel, rfl, by decide +kernel, by decide +kernel⟩
def mgLc0 : Scope := match defBody sMg with
  | _ :: _ :: .While _ b _ _ :: _ => (match b.getLast? with
    | some (.Assign _ (.ListComp _ _ sc _) _) => sc
    | _ => defScope sMg)
  | _ => defScope sMg
def mgLc : Scope := relabel mgLc0 (envOfC "_merged" (defScope sMg) 0 0 .none)
section
variable {P : Program} {w : World} {K : PySem.W.Frag} {mg : Str → Option Value} {base : Heap}
theorem ok_mg {f g : Addr} {fd fdN : FuncData} (F : Fs K mg "_merged" sMg ["rows"] f fd) (dN : Fs K mg "_next_of" sNx ["rows"] g fdN) (hany : mg "any" = none) : FnOk P w K mg base CX0 2 f fd ["rows"] (spMg K) := by
  have GN : FnOk P w K mg base CX0 1 g fdN ["rows"] (spNx K) := ok_nx dN hany
  refine F.F.ok scMg (fun vs H Q E h => ?_) (fun cdv A outer s H vs Q E hr h => ?_)
  · obtain ⟨R, rows, rfl, _⟩ := h
    rfl
  · obtain ⟨R, rows, rfl, ⟨vs, hv, hp⟩, ok, l30, q0, q1⟩ := h
    have hlen : vs.length = rows.length := Paired.length hp
    refine ⟨_, (pss_cons (ps_set (i := 1) scMg.nd rfl (Or.inl rfl) (pe_lst pa_nil)) (pss_cons (ps_setLc (i := 2) (own := [("row", 4)]) (g := gName 4) rfl scMg.nd rfl rfl (sw_true rfl rfl rfl rfl) (pi_list (pv 0)) (blkOk_by (N := nMg) (sc := defScope sMg) (by decide +kernel)) (fun _ _ _ _ _ => (pg_name (i := 4) scMg.nd rfl (Or.inl rfl))) (fun _ _ _ _ _ => (pts_one (pt_truthK (K := K) rfl (pv 4) (by intro _; rfl)))) (fun _ _ _ _ _ => (pv 4))) (pss_cons (ps_while PassesOwn.never (pt_truth (pv 2) (by intro _; rfl)) (pss_cons (ps_set (i := 3) scMg.nd rfl (Or.inr rfl) (pe_call GN hr (by rfl) dN.m dN.F.kp dN.b .nil pass0 (pa_cons (pv 2) pa_nil))) (pss_cons (ps_if (pt_cmpR op_isN (pv 3) pe_non (nomark _)) (pss_one (ps_ret pe_non)) pss_nil) (pss_cons (ps_expr (pe_bm PySem.F.plainAttrs_list PySem.F.slot_list_append PySem.F.type_list_append mt_append (pv 1) (pa_cons (pv 3) pa_nil))) (pss_one (ps_setLc (i := 2) (own := [("row", 4)]) (g := gName 4) rfl scMg.nd rfl rfl (sw_true rfl rfl rfl rfl) (pi_list (pv 2)) (blkOk_by (N := nMg) (sc := defScope sMg) (by decide +kernel)) (fun _ _ _ _ _ => (pg_name (i := 4) scMg.nd rfl (Or.inl rfl))) (fun _ _ _ _ _ => (pts_one (pt_cmpR (op_neDK (K := K) rfl hr.units) (pv 4) (pe_lst (pa_cons (pv 3) pa_nil)) (nomark _)))) (fun _ _ _ _ _ => (pe_lc (own := [("one", 5)]) (g := gName 5) rfl scMg.nd (pi_listK (K := K) rfl (pv 4)) (blkOk_by (N := nMg) (sc := mgLc) (by decide +kernel)) (fun _ _ _ _ _ => (pg_name (i := 5) scMg.nd rfl (Or.inl rfl))) (fun _ _ _ _ _ => (pts_one (pt_cmpR op_ne (pv 5) (pv 3) (nomark _)))) (fun _ _ _ _ _ => (pv 5)))))))))) (pss_one (ps_ret (pv 1)))))), ?_⟩
    refine ⟨le_sz (Nat.le_of_ble_eq_true rfl), fun M hM => ?_⟩
    have s1 := new_same (o := .lst []) hM
    have gM : (upd H M (.lst [])) M = some (.lst []) := upd_same
    obtain ⟨H1, e1⟩ : ∃ G, upd H M (.lst []) = G := ⟨_, rfl⟩
    rw [e1] at s1 gM ⊢
    refine ⟨_, rfl, R, rfl, ⟨_, SqL.same s1 hv⟩, fun D hD => ?_⟩
    refine lc_it (walk_list (xs := vs)) (g := gName 4) (vs := [4]) (σ := [some (.ref R), some (.ref M), none, none, none, none]) (tt := fun σ H Q => tVar 4 σ H fun x H2 => ∃ k, TruV K x H2 k ∧ Q k H2) (te := tVar 4) (fun i H2 => Same H1 H2 ∧ ∃ acc, H2 D = some (.lst acc) ∧ acc.length ≤ i ∧ Paired (fun v r => ∃ a, v = .ref a ∧ SqLN K H1 M a (r.map V.str)) acc ((rows.take i).filter fun r => !r.isEmpty)) ⟨new_same hD, [], upd_same, Nat.le_refl _, .nil⟩ (fun i H2 _ h => SqL.same (s1.trans h.1) hv) ?_ ?_
    · rintro i x H2 H3 hi ⟨s2, acc, gD, la, pa⟩ ⟨rfl, hx⟩
      obtain ⟨r, er, a, rfl, ha⟩ := paired_get hp hx
      have ha3 : SqLN K H1 M a (r.map V.str) := (SqLN.of hM ha).same s1
      have ha2 := SqL.same s1 ha
      have ts := take_snoc er
      refine ⟨rfl, _, rfl, !(r.map V.str).isEmpty, .inl ⟨_, SqL.same s2 ha2, rfl⟩, ?_⟩
      by_cases z : r = []
      · subst z
        refine iteF ⟨s2, acc, gD, Nat.le_succ_of_le la, ?_⟩
        rw [ts, List.filter_append]
        simpa using pa
      · have zb : r.isEmpty = false := by cases r with | nil => exact absurd rfl z | cons _ _ => rfl
        rw [show (!(r.map V.str).isEmpty) = true by rw [List.isEmpty_map, zb]; rfl]
        refine iteT ⟨_, rfl, acc, gD, small1000 (by omega), same_D hD s2, _, upd_same, by rw [List.length_append]; simp only [List.length_singleton]; omega, ?_⟩
        rw [ts, List.filter_append, show [r].filter (fun r => !r.isEmpty) = [r] by simp [zb]]
        exact paired_snoc pa ⟨a, rfl, ha3⟩
    · rintro H2 ⟨s2, acc, gD, la, pa⟩
      rw [hlen, List.take_length] at pa
      have gM2 := s2 _ _ gM
      have nDM : D ≠ M := fun z => by rw [z, gM] at hD; cases hD
      have pa2 : Paired (fun v r => ∃ a, v = V.ref a ∧ SqLN K H2 M a (r.map V.str)) acc (rows.filter fun r => !r.isEmpty) := L2.Paired.mapP pa fun v r ⟨a, e, q⟩ => ⟨a, e, q.same s2⟩
      have rd : RowsN K H2 M D (rows.filter fun r => !r.isEmpty) := ⟨acc, .new nDM gD, pa2⟩
      refine ⟨fun m σ H' => ∃ R2 rest ms v3, σ = [some (.ref R), some (.ref M), some (.ref R2), v3, none, none] ∧ Same H H' ∧ H' M = some (.lst (ms.map V.str)) ∧ ms.length + m ≤ 3001 ∧ RowsN K H' M R2 rest ∧ (∀ r ∈ rest, RowOk r) ∧ rest.length ≤ 30 ∧ tot rest ≤ m ∧ merged rows = (mergeF m rest).map (ms ++ ·), ⟨_, D, _, [], none, rfl, s1.trans s2, gM2, ?_, rd, fun r hr => ?_, Nat.le_trans (List.length_filter_le _ _) l30, Nat.le_succ _, ?_⟩, ?_⟩
      · have h1 := tot_le (rest := rows.filter fun r => !r.isEmpty) fun r hr => by
          have := List.mem_filter.mp hr
          exact (ok r this.1 (fun z => by rw [z] at this; exact absurd this.2 (by decide))).len
        have h2 := List.length_filter_le (fun r : List Str => !r.isEmpty) rows
        show 0 + (tot _ + 1) ≤ 3001
        omega
      · have := List.mem_filter.mp hr
        exact ok r this.1 (fun z => by rw [z] at this; exact absurd this.2 (by decide))
      · unfold merged
        cases mergeF (tot (rows.filter fun r => !r.isEmpty) + 1) (rows.filter fun r => !r.isEmpty) <;> rfl
      · rintro m σ H3 ⟨R2, rest, ms, v3, rfl, s3, gM3, hms, rn, rok, rl, ht, hm⟩
        obtain ⟨vs2, hv2, hp2⟩ := id rn
        have hl2 : vs2.length = rest.length := Paired.length hp2
        refine ⟨_, rfl, !vs2.isEmpty, .inl ⟨_, hv2.at gM3, rfl⟩, ?_⟩
        cases rest with
        | nil =>
          have : vs2 = [] := List.eq_nil_of_length_eq_zero hl2
          subst this
          refine iteF ⟨_, rfl, ?_⟩
          refine q1 ms ?_ M H3 hM s3 gM3
          rw [hm]
          cases m with
          | zero => simp [mergeF]
          | succ k => simp [mergeF]
        | cons r0 rest' =>
          have nv : vs2.isEmpty = false := by cases vs2 with | nil => simp at hl2 | cons _ _ => rfl
          rw [nv]
          have hr0 := rok r0 List.mem_cons_self
          have hpos : 0 < tot (r0 :: rest') := by
            have : 0 < r0.length := List.length_pos_iff.mpr hr0.ne
            show 0 < r0.length + _
            omega
          obtain ⟨k, rfl⟩ : ∃ k, m = k + 1 := ⟨m - 1, by omega⟩
          refine iteT ⟨fun σ' H' => ∃ R2 rest ms v3, σ' = [some (.ref R), some (.ref M), some (.ref R2), v3, none, none] ∧ Same H H' ∧ H' M = some (.lst (ms.map V.str)) ∧ ms.length + k ≤ 3001 ∧ RowsN K H' M R2 rest ∧ (∀ r ∈ rest, RowOk r) ∧ rest.length ≤ 30 ∧ tot rest ≤ k ∧ merged rows = (mergeF k rest).map (ms ++ ·), fun σ' H' z => ⟨k, Nat.lt_succ_self _, z⟩, ?_⟩
          refine ⟨_, rfl, R2, _, rfl, rn.at gM3, fun r hr => (rok r hr).ne, rl, fun r hr => (rok r hr).len, fun H4 s4 => ?_⟩
          refine ⟨_, rfl, rfl, _, rfl, ?_⟩
          cases hn : nextOf (r0 :: rest') with
          | none =>
            refine iteT ?_
            exact q0 (by rw [hm]; simp [mergeF, hn]) H4 (s3.trans s4)
          | some t =>
            refine iteF ?_
            have gM4 := s4 _ _ gM3
            refine ⟨_, rfl, .inl ⟨rfl, _, SqL.of gM4⟩, _, rfl, M, _, _, rfl, rfl, gM4, small1000' (by rw [List.length_map]; omega), ?_⟩
            have e5 : upd H4 M (.lst (ms.map V.str ++ [osV (some t)])) = upd H4 M (.lst ((ms ++ [t]).map V.str)) := by rw [List.map_append]; rfl
            rw [e5]
            have s5 : Same H (upd H4 M (.lst ((ms ++ [t]).map V.str))) := same_D hM (s3.trans s4)
            have gM5 : (upd H4 M (.lst ((ms ++ [t]).map V.str))) M = some (.lst ((ms ++ [t]).map V.str)) := upd_same
            have rn5 := (rn.same s4).upd (o := .lst ((ms ++ [t]).map V.str))
            obtain ⟨H5, e6⟩ : ∃ G, upd H4 M (.lst ((ms ++ [t]).map V.str)) = G := ⟨_, rfl⟩
            rw [e6] at s5 gM5 rn5 ⊢
            obtain ⟨vs5, hv5, hp5⟩ := id rn5
            have hl5 : vs5.length = (r0 :: rest').length := Paired.length hp5
            refine ⟨_, rfl, R2, rfl, ⟨_, hv5.at gM5⟩, fun D2 hD2 => ?_⟩
            have nD2 : D2 ≠ M := fun z => by rw [z, gM5] at hD2; cases hD2
            have okt : OkS [t] := by
              obtain ⟨r, hr, e⟩ := next_mem hn
              obtain ⟨x, r', rfl⟩ := List.exists_cons_of_ne_nil (rok r hr).ne
              intro y hy
              rw [List.mem_singleton.mp hy, ← e]
              exact (rok _ hr).ok _ List.mem_cons_self
            refine lc_it (walk_list (xs := vs5)) (g := gName 4) (vs := [4]) (σ := [some (.ref R), some (.ref M), some (.ref R2), some (.str t), none, none]) (tt := tTest (tOp (rNeD K) (tVar 4) (tLst (tCons (tVar 3) tNil)))) (te := tLc (iList K (tVar 4)) (gName 5) (tTest (tOp rNe (tVar 5) (tVar 3))) (tVar 5) [5]) (fun i H6 => Same H5 H6 ∧ ∃ acc, H6 D2 = some (.lst acc) ∧ acc.length ≤ i ∧ (∀ v ∈ acc, v ≠ .ref D2) ∧ Paired (fun v r => ∃ a, v = V.ref a ∧ a ≠ M ∧ H6 a = some (.lst (r.map V.str))) acc (stripR t ((r0 :: rest').take i))) ⟨new_same hD2, [], upd_same, Nat.le_refl _, fun _ z => (nomatch z), .nil⟩ (fun i H6 _ h => SqL.same h.1 (hv5.at gM5)) ?_ ?_
            · rintro i x H6 H7 hi ⟨s6, acc6, gD6, la6, nn6, pa6⟩ ⟨rfl, hx⟩
              obtain ⟨r, er, a, rfl, ha⟩ := paired_get hp5 hx
              have rk := rok r (List.mem_of_getElem? er)
              have ts := take_snoc er
              refine ⟨rfl, _, rfl, ⟨_, rfl, le_sz (Nat.le_of_ble_eq_true rfl), fun p hp6 => ?_⟩⟩
              have sp := s6.trans (new_same (o := .lst [V.str t]) hp6)
              have sp0 := new_same (o := .lst [V.str t]) hp6
              have gp : (upd H7 p (.lst [V.str t])) p = some (.lst [V.str t]) := upd_same
              have haK := SqL.same sp (ha.at gM5)
              show rNeD K (V.ref a) (V.ref p) (upd H7 p (.lst [V.str t])) _
              obtain ⟨H8, e8⟩ : ∃ G, upd H7 p (.lst [V.str t]) = G := ⟨_, rfl⟩
              rw [e8] at sp sp0 gp haK ⊢
              have gD8 := sp0 _ _ gD6
              refine ne_strs (m := [t]) rk.ok okt haK (SqL.of gp) ⟨_, rfl, ?_⟩
              by_cases z : r = [t]
              · rw [decide_eq_true z]
                refine iteF ⟨sp, acc6, gD8, by omega, nn6, ?_⟩
                rw [ts, strip_snoc, if_pos z, List.append_nil]
                exact L2.Paired.mapP pa6 fun v r ⟨a, e, n, q⟩ => ⟨a, e, n, sp0 _ _ q⟩
              · rw [decide_eq_false z]
                refine iteT ⟨_, rfl, a, rfl, ⟨_, haK⟩, fun D3 hD3 => ?_⟩
                refine lc_it (walk_list (xs := r.map V.str)) (g := gName 5) (vs := [5]) (σ := [some (.ref R), some (.ref M), some (.ref R2), some (.str t), some (.ref a), none]) (tt := tTest (tOp rNe (tVar 5) (tVar 3))) (te := tVar 5) (fun j H9 => Same H8 H9 ∧ H9 D3 = some (.lst (((r.take j).filter fun o => !decide (o = t)).map V.str))) ⟨new_same hD3, upd_same⟩ (fun i H9 _ h => SqL.same h.1 haK) ?_ ?_
                · rintro j y H9 H10 hj ⟨s9, gD9⟩ ⟨rfl, hy⟩
                  obtain ⟨o, eo, rfl⟩ : ∃ o, r[j]? = some o ∧ y = V.str o := by
                    rw [List.getElem?_map] at hy
                    cases e : r[j]? with
                    | none => rw [e] at hy; cases hy
                    | some o => rw [e] at hy; exact ⟨o, rfl, (Option.some.inj hy).symm⟩
                  have ts2 := take_snoc eo
                  refine ⟨rfl, _, rfl, _, rfl, rfl, _, rfl, ?_⟩
                  by_cases y2 : o = t
                  · rw [decide_eq_true (by rw [y2])]
                    refine iteF ⟨s9, ?_⟩
                    rw [ts2, List.filter_append, show [o].filter (fun o => !decide (o = t)) = [] by simp [y2], List.append_nil]
                    exact gD9
                  · rw [decide_eq_false (fun e => y2 (by injection e))]
                    refine iteT ⟨_, rfl, _, gD9, small1000 ?_, same_D hD3 s9, ?_⟩
                    · rw [List.length_map]
                      exact Nat.le_trans (List.length_filter_le _ _) (by rw [List.length_take]; have := rk.len; omega)
                    · rw [upd_same, ts2, List.filter_append, show [o].filter (fun o => !decide (o = t)) = [o] by simp [y2], List.map_append]
                      rfl
                · rintro H9 ⟨s9, gD9⟩
                  rw [List.length_map, List.take_length] at gD9
                  have gD9b := s9 _ _ gD8
                  have n32 : D3 ≠ D2 := fun z => by rw [z, gD8] at hD3; cases hD3
                  have n3M : D3 ≠ M := fun z => by rw [z, sp _ _ gM5] at hD3; cases hD3
                  refine ⟨acc6, gD9b, small1000 (by have := List.length_take_le i (r0 :: rest'); omega), same_D hD2 (sp.trans s9), _, upd_same, by rw [List.length_append]; simp only [List.length_singleton]; omega, ?_, ?_⟩
                  · intro v hv
                    rcases List.mem_append.mp hv with h | h
                    · exact nn6 v h
                    · rw [List.mem_singleton.mp h]
                      exact fun z => n32 (by injection z)
                  · rw [ts, strip_snoc, if_neg z]
                    refine paired_snoc (pmem pa6 fun v r hv ⟨a, e, n, q⟩ => ⟨a, e, n, ?_⟩) ⟨D3, rfl, n3M, ?_⟩
                    · rw [upd_ne (fun z => nn6 v hv (by rw [e, z]))]
                      exact s9 _ _ (sp0 _ _ q)
                    · rw [upd_ne n32]; exact gD9
            · rintro H6 ⟨s6, acc6, gD6, la6, nn6, pa6⟩
              rw [hl5, List.take_length] at pa6
              have hlt : tot (stripR t (r0 :: rest')) < tot (r0 :: rest') := by
                obtain ⟨r, hr, e⟩ := next_mem hn
                obtain ⟨x, r', rfl⟩ := List.exists_cons_of_ne_nil (rok r hr).ne
                exact tot_strip.2 _ hr (by rw [← e]; exact List.mem_cons_self)
              refine ⟨D2, stripR t (r0 :: rest'), ms ++ [t], _, rfl, s5.trans s6, s6 _ _ gM5, by rw [List.length_append]; simp only [List.length_singleton]; omega, ⟨acc6, .new nD2 gD6, L2.Paired.mapP pa6 fun v r ⟨a, e, n, q⟩ => ⟨a, e, .new n q⟩⟩, fun r hr => ?_, ?_, by omega, ?_⟩
              · unfold stripR at hr
                obtain ⟨r2, h2, e⟩ := List.mem_map.mp hr
                obtain ⟨h3, h4⟩ := List.mem_filter.mp h2
                rw [← e]
                exact (rok r2 h3).strip (by simpa using h4)
              · unfold stripR
                rw [List.length_map]
                exact Nat.le_trans (List.length_filter_le _ _) rl
              · rw [hm]
                have e9 : mergeF (k + 1) (r0 :: rest') = (mergeF k (stripR t (r0 :: rest'))).map (t :: ·) := by
                  show (if (r0 :: rest') = [] then _ else _) = _
                  rw [if_neg (by simp), hn]
                rw [e9, Option.map_map]
                congr 1
                funext l
                simp
end

end Kx
set_option linter.all false
namespace Kx
open PySem L2 PySem.Spec PyProof.Rows
abbrev sPut : Stmt := top 100
abbrev nPut : List Str := ["bases", "name", "orders", "base", "rows", "behind"]
theorem scPut : FnScope nPut ["bases", "name", "orders"] (defScope sPut) := ⟨rfl, rfl, rfl, by decide +kernel, rfl, by decide +kernel, by decide +kernel⟩
abbrev sAllO : Stmt := top 99
abbrev nAllO : List Str := ["bases", "orders", "name"]
theorem scAllO : FnScope nAllO ["bases"] (defScope sAllO) := ⟨rfl, rfl, rfl, by decide +kernel, rfl, by decide +kernel, by decide +kernel⟩
/-! the orders of all classes -/
abbrev Ord := Str → Option (List Str)
def ordStep (o : Ord) (n : Str) (l : List Str) : Option (List Str) :=
  if (l.map o).any Option.isNone = true then none else (merged ((l.map fun b => (o b).getD []) ++ [l])).map (n :: ·)
structure OrdOk (bs : Bs) (o : Ord) (rk : Str → Nat) : Prop where
  eq : ∀ n l, look bs n = some l → o n = ordStep o n l
  ok : ∀ n l, o n = some l → RowOk l
  nd : ∀ n l, look bs n = some l → l ≠ [] → RowOk l
  rk : ∀ n l, look bs n = some l → ∀ y ∈ l, rk y < rk n
  nm : ∀ n, (look bs n).isSome → PyData.strOk n = true
def ValO (K : PySem.W.Frag) (H : Hp) (v : V) : Option (List Str) → Prop
  | none => v = .non
  | some l => ∃ a, v = .ref a ∧ SqL K H a (l.map V.str)
theorem ValO.same {K : PySem.W.Frag} {H H' : Hp} {v : V} {r : Option (List Str)} (s : Same H H') (h : ValO K H v r) : ValO K H' v r := by
  cases r with
  | none => exact h
  | some l => obtain ⟨a, e, q⟩ := h; exact ⟨a, e, SqL.same s q⟩
theorem SqL.updK {K : PySem.W.Frag} {H : Hp} {O a : Addr} {kvs : List (Key × V)} {o : HO} {xs : List V} (hO : H O = some (.dK kvs)) (h : SqL K H a xs) : SqL K (upd H O o) a xs := by
  rcases h with (h | ⟨z, h⟩) | h
  · exact .inl (.inl (by rw [upd_ne (fun e => by rw [e, hO] at h; cases h)]; exact h))
  · exact .inl (.inr ⟨z, by rw [upd_ne (fun e => by rw [e, hO] at h; cases h)]; exact h⟩)
  · exact .inr h
theorem ValO.updK {K : PySem.W.Frag} {H : Hp} {O : Addr} {kvs : List (Key × V)} {o : HO} {v : V} {r : Option (List Str)} (hO : H O = some (.dK kvs)) (h : ValO K H v r) : ValO K (upd H O o) v r := by
  cases r with
  | none => exact h
  | some l => obtain ⟨a, e, q⟩ := h; exact ⟨a, e, SqL.updK hO q⟩
/-- a dict from some names to their orders -/
def EntO (K : PySem.W.Frag) (H : Hp) (o : Ord) (kvs : List (Key × V)) (ns : List Str) : Prop := Paired (fun (kv : Key × V) n => kv.1 = .inr n ∧ ValO K H kv.2 (o n)) kvs ns
theorem entO_look {K : PySem.W.Frag} {H : Hp} {o : Ord} {n : Str} : ∀ {kvs : List (Key × V)} {ns : List Str}, EntO K H o kvs ns → ((valV kvs (.inr n)).isSome = decide (n ∈ ns)) ∧ (n ∈ ns → ∃ v, valV kvs (.inr n) = some v ∧ ValO K H v (o n))
  | _, _, .nil => ⟨rfl, fun h => nomatch h⟩
  | kv :: kvs, m :: ns, .cons ⟨e, q⟩ r => by
    obtain ⟨h1, h2⟩ := entO_look (n := n) r
    by_cases z : m = n
    · subst z
      have ev : valV (kv :: kvs) (.inr m) = some kv.2 := valV_pos e
      rw [ev, decide_eq_true List.mem_cons_self]
      exact ⟨rfl, fun _ => ⟨_, rfl, q⟩⟩
    · have ev : valV (kv :: kvs) (.inr n) = valV kvs (.inr n) := valV_neg (by rw [e]; intro y; injection y with y; exact z y)
      rw [ev, h1, decide_eq_decide]
      exact ⟨⟨List.mem_cons_of_mem _, fun h => (List.mem_cons.mp h).resolve_left (fun y => z y.symm)⟩, fun h => h2 ((List.mem_cons.mp h).resolve_left (fun y => z y.symm))⟩
theorem entO_map {K : PySem.W.Frag} {H : Hp} {o : Ord} {n : Str} {v : V} (hv : ValO K H v (o n)) : ∀ {kvs : List (Key × V)} {ns : List Str}, EntO K H o kvs ns → EntO K H o (kvs.map fun kv => if kv.1 = .inr n then (kv.1, v) else kv) ns
  | _, _, .nil => .nil
  | kv :: kvs, m :: ns, .cons ⟨e, q⟩ r => by
    refine .cons ?_ (entO_map hv r)
    dsimp only
    by_cases z : kv.1 = .inr n
    · rw [if_pos z]
      rw [e] at z
      injection z with z
      subst z
      exact ⟨e, hv⟩
    · rw [if_neg z]
      exact ⟨e, q⟩
theorem entO_put {K : PySem.W.Frag} {H : Hp} {o : Ord} {kvs : List (Key × V)} {ns : List Str} {n : Str} {v : V} (h : EntO K H o kvs ns) (hv : ValO K H v (o n)) : EntO K H o (putK kvs (.inr n) v) (if n ∈ ns then ns else ns ++ [n]) := by
  unfold putK
  by_cases hn : n ∈ ns
  · rw [if_pos hn, if_pos]
    · exact entO_map hv h
    · obtain ⟨i, hi, e⟩ := List.getElem_of_mem hn
      have hl : kvs.length = ns.length := Paired.length h
      obtain ⟨m, em, e3, _⟩ := paired_get h (List.getElem?_eq_getElem (by omega : i < kvs.length))
      rw [List.getElem?_eq_getElem hi, e] at em
      cases em
      exact List.any_eq_true.mpr ⟨_, List.getElem_mem (by omega : i < kvs.length), decide_eq_true e3⟩
  · rw [if_neg hn, if_neg]
    · exact paired_snoc h ⟨rfl, hv⟩
    · intro z
      obtain ⟨kv, hk, e⟩ := List.any_eq_true.mp z
      have e := of_decide_eq_true e
      obtain ⟨i, hi, e2⟩ := List.getElem_of_mem hk
      obtain ⟨m, em, e3, _⟩ := paired_get h (show kvs[i]? = some kv by rw [List.getElem?_eq_getElem hi, e2])
      rw [e3] at e
      injection e with e
      exact hn (by rw [← e]; exact List.mem_of_getElem? em)
def dO : Option (List Str) → PyData
  | none => .none
  | some l => .list (l.map .str)
theorem ValO.dp {K : PySem.W.Frag} {H : Hp} {v : V} {r : Option (List Str)} (h : ValO K H v r) : Dp K H v (dO r) := by
  cases r with
  | none => rw [show v = .non from h]; exact .non
  | some l => obtain ⟨a, rfl, q⟩ := h; exact .lst q dpAll_strs
theorem dpAll_map {K : PySem.W.Frag} {H : Hp} {α : Type} {f : α → V} {g : α → PyData} : ∀ {l : List α}, (∀ x ∈ l, Dp K H (f x) (g x)) → DpAll K H (l.map f) (l.map g)
  | [], _ => .nil
  | x :: l, h => .cons (h x List.mem_cons_self) (dpAll_map fun y hy => h y (List.mem_cons_of_mem _ hy))
theorem shaped_O {o : Ord} (h : ∀ n l, o n = some l → OkS l) : ∀ {l : List Str}, PyData.canLayAll0 (l.map fun b => dO (o b)) = true ∧ PyData.depthAll (l.map fun b => dO (o b)) ≤ 1
  | [] => ⟨rfl, Nat.zero_le _⟩
  | x :: l => by
    obtain ⟨a, b⟩ := shaped_O h (l := l)
    refine ⟨?_, ?_⟩
    · show (PyData.canLay0 (dO (o x)) && PyData.canLayAll0 (l.map fun b => dO (o b))) = true
      rw [a, Bool.and_true]
      cases e : o x with
      | none => rfl
      | some r => exact (lay_strs (h _ _ e)).1
    · show max (PyData.depth (dO (o x))) (PyData.depthAll (l.map fun b => dO (o b))) ≤ 1
      refine Nat.max_le.mpr ⟨?_, b⟩
      cases e : o x with
      | none => exact Nat.zero_le _
      | some r => show PyData.depthAll (r.map .str) + 1 ≤ 1; rw [(lay_strs (h _ _ e)).2]; decide
theorem any_none {o : Ord} : ∀ {l : List Str}, ((l.map fun b => dO (o b)).any fun z => PyData.eqv z .none) = (l.map o).any Option.isNone
  | [] => rfl
  | x :: l => by
    show (PyData.eqv (dO (o x)) .none || _) = (Option.isNone (o x) || _)
    rw [any_none]
    cases o x <;> rfl
theorem pair_map {α β γ : Type} {R : β → γ → Prop} {f : α → β} {g : α → γ} : ∀ {l : List α}, (∀ x ∈ l, R (f x) (g x)) → Paired R (l.map f) (l.map g)
  | [], _ => .nil
  | x :: l, h => .cons (h x List.mem_cons_self) (pair_map fun y hy => h y (List.mem_cons_of_mem _ hy))
def OrdAt (K : PySem.W.Frag) (H : Hp) (O : Addr) (o : Ord) (ns : List Str) : Prop := ∃ kvs, H O = some (.dK kvs) ∧ EntO K H o kvs ns
theorem OrdAt.same {K : PySem.W.Frag} {H H' : Hp} {O : Addr} {o : Ord} {ns : List Str} (s : Same H H') (h : OrdAt K H O o ns) : OrdAt K H' O o ns := by
  obtain ⟨kvs, a, b⟩ := h
  exact ⟨kvs, s _ _ a, L2.Paired.mapP b fun _ _ ⟨e, q⟩ => ⟨e, q.same s⟩⟩
theorem SqT.keepK {K : PySem.W.Frag} {H H' : Hp} {a O : Addr} {kvs : List (Key × V)} {xs : List V} (hO : H O = some (.dK kvs)) (s : KeepB O H H') (h : SqT K H a xs) : SqT K H' a xs := by
  rcases h with (h | ⟨z, h⟩) | h
  · exact .inl (.inl (s _ _ (fun e => by rw [e, hO] at h; cases h) h))
  · exact .inl (.inr ⟨z, s _ _ (fun e => by rw [e, hO] at h; cases h) h⟩)
  · exact .inr h
theorem SqL.updF {K : PySem.W.Frag} {H : Hp} {D a : Addr} {kvs : List (Key × V)} {od : Obj} {o : HO} {xs : List V} (hD : H D = some (.frz od (.dK kvs))) (h : SqL K H a xs) : SqL K (upd H D o) a xs := by
  rcases h with (h | ⟨z, h⟩) | h
  · exact .inl (.inl (by rw [upd_ne (fun e => by rw [e, hD] at h; cases h)]; exact h))
  · exact .inl (.inr ⟨z, by rw [upd_ne (fun e => by rw [e, hD] at h; cases h)]; exact h⟩)
  · exact .inr h
theorem ValO.updF {K : PySem.W.Frag} {H : Hp} {D : Addr} {kvs : List (Key × V)} {od : Obj} {o : HO} {v : V} {r : Option (List Str)} (hD : H D = some (.frz od (.dK kvs))) (h : ValO K H v r) : ValO K (upd H D o) v r := by
  cases r with
  | none => exact h
  | some l => obtain ⟨a, e, q⟩ := h; exact ⟨a, e, SqL.updF hD q⟩
theorem look_of {K : PySem.W.Frag} {H : Hp} {kvs : List (Key × V)} {bs : Bs} (p : Paired (fun (kv : Key × V) (b : Str × List Str) => kv.1 = .inr b.1 ∧ ∃ a, kv.2 = .ref a ∧ SqT K H a (b.2.map V.str)) kvs bs) {i : Nat} {k : Key} {v : V} (h : kvs[i]? = some (k, v)) : ∃ n, k = .inr n ∧ bs[i]?.map (·.1) = some n ∧ (look bs n).isSome := by
  obtain ⟨b, eb, e1, _⟩ := paired_get p h
  refine ⟨b.1, e1, by rw [eb]; rfl, ?_⟩
  unfold look
  rw [Option.isSome_map, List.find?_isSome]
  exact ⟨b, List.mem_of_getElem? eb, decide_eq_true rfl⟩
theorem BasesAt.keep {K : PySem.W.Frag} {H H' : Hp} {D O : Addr} {kvs : List (Key × V)} {bs : Bs} (n : D ≠ O) (hO : H O = some (.dK kvs)) (s : KeepB O H H') (h : BasesAt K H D bs) : BasesAt K H' D bs := by
  obtain ⟨ks, r, p⟩ := h
  refine ⟨ks, r.imp (fun e => s _ _ n e) fun ⟨o, e⟩ => ⟨o, s _ _ n e⟩, L2.Paired.mapP p fun kv b ⟨e, a, e2, q⟩ => ⟨e, a, e2, ?_⟩⟩
  rcases q with (h | ⟨z, h⟩) | h
  · exact .inl (.inl (s _ _ (fun e => by rw [e, hO] at h; cases h) h))
  · exact .inl (.inr ⟨z, s _ _ (fun e => by rw [e, hO] at h; cases h) h⟩)
  · exact .inr h
def spPut (K : PySem.W.Frag) (n : Nat) : Sp := fun vs H Q _ => ∃ (D O : Addr) (bs : Bs) (o : Ord) (rk : Str → Nat) (nm : Str) (ns : List Str), vs = [.ref D, .str nm, .ref O] ∧ D ≠ O ∧ BasesAt K H D bs ∧ BsOk bs ∧ OrdOk bs o rk ∧ (look bs nm).isSome ∧ rk nm < n ∧ OrdAt K H O o ns ∧ ns.Nodup ∧ (∀ x ∈ ns, (look bs x).isSome) ∧
  ∀ H' ns', OrdAt K H' O o ns' → ns'.Nodup → (∀ x ∈ ns', (look bs x).isSome) → (∀ x ∈ ns, x ∈ ns') → nm ∈ ns' → KeepB O H H' → Q .non H'

section
variable {P : Program} {w : World} {K : PySem.W.Frag} {mg : Str → Option Value} {base : Heap}
theorem ok_put0 {f : Addr} {fd : FuncData} (dP : Fs K mg "_put_order" sPut ["bases", "name", "orders"] f fd) : FnOk P w K mg base CX0 3 f fd ["bases", "name", "orders"] (spPut K 0) := by
  refine dP.F.ok scPut (fun vs H Q E h => ?_) (fun cdv A outer s H vs Q E hr h => ?_)
  · obtain ⟨_, _, _, _, _, _, _, _, _, _, _, _, _, hz, _⟩ := h
    exact absurd hz (Nat.not_lt_zero _)
  · obtain ⟨_, _, _, _, _, _, _, _, _, _, _, _, _, hz, _⟩ := h
    exact absurd hz (Nat.not_lt_zero _)
theorem ok_putS {n : Nat} {f g g2 : Addr} {fd fdM fdN : FuncData} (dP : Fs K mg "_put_order" sPut ["bases", "name", "orders"] f fd) (dM : Fs K mg "_merged" sMg ["rows"] g fdM) (dN : Fs K mg "_next_of" sNx ["rows"] g2 fdN) (hany : mg "any" = none) (ls : mg "list" = none)
    (GP : FnOk P w K mg base CX0 (3 + n) f fd ["bases", "name", "orders"] (spPut K n)) : FnOk P w K mg base CX0 (3 + (n + 1)) f fd ["bases", "name", "orders"] (spPut K (n + 1)) := by
  have GM : FnOk P w K mg base CX0 2 g fdM ["rows"] (spMg K) := ok_mg dM dN hany
  refine dP.F.ok scPut (fun vs H Q E h => ?_) (fun cdv A outer s H vs Q E hr h => ?_)
  · obtain ⟨_, _, _, _, _, _, _, rfl, _⟩ := h
    rfl
  · obtain ⟨D, O, bs, o, rk, nm, ns, rfl, nDO, hD, hB, hK, hn, hrk, hO, hnd, hin, q⟩ := h
    have hrn : Room (3 + n) (A.deeper (envOfC "_put_order" (defScope sPut) s.heap.objs.size f cdv)) := hr.mono (show 3 + n ≤ Nat.add 3 n from Nat.le_refl _)
    have hr2 : Room 2 (A.deeper (envOfC "_put_order" (defScope sPut) s.heap.objs.size f cdv)) := hr.mono (show 2 ≤ 3 + n by omega)
    have hu := hu_of hr2
    have hu65 : (A.deeper (envOfC "_put_order" (defScope sPut) s.heap.objs.size f cdv)).units + 65 < cLine := by have := hr2.un; omega
    refine ⟨_, (pss_cons (ps_if (pt_cmp (pc_din hu (pv 1) (pv 2)) (by with_unfolding_all rfl)) (pss_one ps_retN) pss_nil) (pss_cons (ps_for PassesOwn.never rfl (pi_tup (pe_dget hu (pv 0) (pv 1) (fun _ _ => rfl))) (pg_name (i := 3) scPut.nd rfl (Or.inl rfl)) (pss_one (ps_expr (pe_call GP hrn (by rfl) dP.m dP.F.kp dP.b .nil pass0 (pa_cons (pv 0) (pa_cons (pv 3) (pa_cons (pv 2) pa_nil))))))) (pss_cons (ps_setLc (i := 4) (own := [("base", 3)]) (g := gName 3) (tt := tYes) rfl scPut.nd rfl rfl (sw_true rfl rfl rfl rfl) (pi_tup (pe_dget hu (pv 0) (pv 1) (fun _ _ => rfl))) (blkOk_by (N := nPut) (sc := defScope sPut) (by decide +kernel)) (fun _ _ _ _ _ => (pg_name (i := 3) scPut.nd rfl (Or.inl rfl))) (fun _ _ _ _ _ => pts_nil) (fun _ _ _ _ _ => (pe_dget hu (pv 2) (pv 3) (fun _ _ => rfl)))) (pss_cons (ps_set (i := 5) scPut.nd rfl (Or.inl rfl) (pe_ifExp (pt_cmpR (op_inD hu65) pe_non (pv 4) (by with_unfolding_all rfl)) pe_non (pe_call GM hr2 (by rfl) dM.m dM.F.kp dM.b .nil pass0 (pa_cons (pe_op op_cat (pv 4) (pe_lst (pa_cons (pe_callTy call_list_of (by rfl) ls (by decide +kernel) (pa_cons (pe_dget hu (pv 0) (pv 1) (fun _ _ => rfl)) pa_nil)) pa_nil))) pa_nil)))) (pss_one (ps_asg (pe_ifExp (pt_cmpR op_isN (pv 5) pe_non (nomark _)) pe_non (pe_op op_cat (pe_lst (pa_cons (pv 1) pa_nil)) (pv 5))) (pg_sub (pv 2) (pv 1) (set_dict hu)))))))), ?_⟩
    obtain ⟨kvs, gO, en⟩ := id hO
    refine ⟨_, rfl, _, rfl, O, _, rfl, DGet.k (k := .inr nm) gO, ?_⟩
    rw [(entO_look en).1]
    by_cases hin2 : nm ∈ ns
    · rw [decide_eq_true hin2]
      refine ⟨_, rfl, iteT ?_⟩
      exact q H ns hO hnd hin (fun x hx => hx) hin2 (fun _ _ _ z => z)
    · rw [decide_eq_false hin2]
      refine ⟨_, rfl, iteF ?_⟩
      obtain ⟨l, el⟩ := Option.isSome_iff_exists.mp hn
      obtain ⟨a, ga, ta⟩ := hD.get el
      refine ⟨_, rfl, _, rfl, D, _, rfl, ga, a, rfl, ⟨_, ta⟩, for_tup (K := K) (a := a) (xs := l.map V.str) (fun i σ H2 => ∃ v ns2, σ = [some (.ref D), some (.str nm), some (.ref O), v, none, none] ∧ OrdAt K H2 O o ns2 ∧ ns2.Nodup ∧ (∀ x ∈ ns2, (look bs x).isSome) ∧ (∀ x ∈ ns, x ∈ ns2) ∧ (∀ x ∈ l.take i, x ∈ ns2) ∧ KeepB O H H2) ⟨none, ns, rfl, hO, hnd, hin, fun x hx => hx, fun x hx => (nomatch hx), fun _ _ _ z => z⟩ (fun i σ H2 _ ⟨_, _, _, _, _, _, _, _, k⟩ => SqT.keepK gO k ta) ?_ ?_⟩
      · rintro i x σ H2 hi ⟨v, ns2, rfl, hO2, nd2, in2, sub2, tk2, k2⟩
        obtain ⟨rfl, hm⟩ := get_str hi
        have rl := hK.rk _ _ el _ hm
        refine ⟨_, rfl, _, rfl, _, rfl, D, O, bs, o, rk, l.getD i "", ns2, rfl, nDO, hD.keep nDO gO k2, hB, hK, hB.clo _ _ el _ hm, by omega, hO2, nd2, in2, fun H3 ns3 hO3 nd3 in3 sub3 mem3 k3 => ?_⟩
        refine ⟨_, ns3, rfl, hO3, nd3, in3, fun x hx => sub3 x (sub2 x hx), fun x hx => ?_, k2.trans k3⟩
        have hlt : i < l.length := by
          have := (List.getElem?_eq_some_iff.mp hi).1
          rwa [List.length_map] at this
        rw [List.take_succ_eq_append_getElem hlt] at hx
        rcases List.mem_append.mp hx with h | h
        · exact sub3 x (tk2 x h)
        · rw [List.mem_singleton.mp h]
          have : l.getD i "" = l[i] := by simp [List.getD, hlt]
          rw [← this]
          exact mem3
      · rintro σ H2 ⟨v, ns2, rfl, hO2, nd2, in2, sub2, tk2, k2⟩
        rw [List.length_map, List.take_length] at tk2
        obtain ⟨kvs2, gO2, en2⟩ := id hO2
        have hD2 := hD.keep nDO gO k2
        obtain ⟨a2, ga2, ta2⟩ := hD2.get el
        have fw := hB.few _ _ el
        refine ⟨_, rfl, _, rfl, D, _, rfl, ga2, a2, rfl, ⟨_, ta2⟩, fun R hR => ?_⟩
        refine lc_map (walk_tup (xs := l.map V.str)) (g := gName 3) (vs := [3]) (σ := [some (.ref D), some (.str nm), some (.ref O), v, none, none]) (te := tDGet (tVar 2) (tVar 3)) (fun i => (valV kvs2 (.inr (l.getD i ""))).getD .non) hR (by rw [List.length_map]; omega) (fun H' s' => SqT.same s' ta2) (fun i x H3 H4 RR hi s3 ⟨e4, hx⟩ k => ?_) fun H3 s3 gR => ?_
        · subst e4
          obtain ⟨rfl, hm⟩ := get_str hx
          obtain ⟨v2, ev2, _⟩ := (entO_look en2).2 (tk2 _ hm)
          have hg := DGet.k (k := .inr (l.getD i "")) (s3 _ _ gO2)
          rw [ev2] at hg
          refine ⟨rfl, _, rfl, _, rfl, O, _, rfl, hg, ?_⟩
          have := k H4 (fun _ _ z => z)
          rw [ev2] at this
          exact this
        · rw [List.length_map] at gR
          rw [range_getD l "" fun b => (valV kvs2 (.inr b)).getD .non] at gR
          have vals : ∀ b ∈ l, ValO K H3 ((valV kvs2 (.inr b)).getD .non) (o b) := fun b hb => by
            obtain ⟨v2, ev2, hv2⟩ := (entO_look en2).2 (tk2 _ hb)
            rw [ev2]
            exact hv2.same s3
          have oks : ∀ n l, o n = some l → OkS l := fun n l e => (hK.ok n l e).ok
          obtain ⟨c1, c2⟩ := shaped_O oks (l := l)
          have shp : SeqAt.shaped (.list (l.map fun b => dO (o b))) = true := by
            unfold SeqAt.shaped
            show (PyData.canLayAll0 _ && decide (PyData.depthAll _ + 1 ≤ 64)) = true
            rw [c1, decide_eq_true (by omega)]
            rfl
          have hO3 := hO2.same s3
          obtain ⟨kvs3, gO3, en3⟩ := id hO3
          refine ⟨_, rfl, .none, _, .non, .lst (SqL.of gR) (dpAll_map fun b hb => (vals b hb).dp), rfl, shp, _, rfl, ?_⟩
          rw [any_none]
          have fin : ∀ (Hx : Hp) (w : V) (kx : List (Key × V)), Hx O = some (.dK kx) → EntO K Hx o kx ns2 → ValO K Hx w (o nm) → KeepB O H Hx → kx.length < sizeLine ∧ Q .non (upd Hx O (.dK (putK kx (.inr nm) w))) := by
            intro Hx w kx g e hw kk
            have hl : kx.length = ns2.length := Paired.length e
            have hb := sub_len nd2 (m := bs.map (·.1)) fun x hx => look_mem (in2 x hx)
            rw [List.length_map] at hb
            have h31 := hB.len
            refine ⟨small1000 (by omega), ?_⟩
            have e2 : EntO K (upd Hx O (.dK (putK kx (.inr nm) w))) o kx ns2 := L2.Paired.mapP e fun _ _ ⟨a, b⟩ => ⟨a, b.updK g⟩
            have e3 := entO_put e2 (hw.updK (o := .dK (putK kx (.inr nm) w)) g)
            by_cases z : nm ∈ ns2
            · rw [if_pos z] at e3
              exact q _ ns2 ⟨_, upd_same, e3⟩ nd2 in2 sub2 z (kk.trans KeepB.at)
            · rw [if_neg z] at e3
              refine q _ (ns2 ++ [nm]) ⟨_, upd_same, e3⟩ ?_ ?_ (fun x hx => List.mem_append_left _ (sub2 x hx)) (by simp) (kk.trans KeepB.at)
              · refine List.nodup_append.mpr ⟨nd2, by simp, fun a ha b hb => ?_⟩
                rw [List.mem_singleton.mp hb]
                exact fun y => z (y ▸ ha)
              · intro x hx
                rcases List.mem_append.mp hx with h | h
                · exact in2 x h
                · rw [List.mem_singleton.mp h]; exact hn
          have k3 : KeepB O H H3 := k2.trans (KeepB.of s3)
          have eqn := hK.eq nm l el
          unfold ordStep at eqn
          cases hnone : (l.map o).any Option.isNone with
          | true =>
            rw [if_pos hnone] at eqn
            refine iteT ?_
            obtain ⟨f1, f2⟩ := fin H3 .non kvs3 gO3 en3 (by rw [eqn]; rfl) k3
            refine ⟨_, rfl, rfl, _, rfl, iteT ?_⟩
            exact ⟨_, rfl, _, rfl, O, _, rfl, DPut.k (k := .inr nm) gO3 f1, f2⟩
          | false =>
            rw [if_neg (by rw [hnone]; exact Bool.false_ne_true)] at eqn
            refine iteF ?_
            have some_ : ∀ b ∈ l, ∃ r, o b = some r := fun b hb => by
              cases e : o b with
              | some r => exact ⟨r, rfl⟩
              | none =>
                have : (l.map o).any Option.isNone = true := List.any_eq_true.mpr ⟨none, List.mem_map.mpr ⟨b, hb, e⟩, rfl⟩
                rw [hnone] at this; cases this
            obtain ⟨a3, ga3, ta3⟩ := (hD2.same s3).get el
            refine ⟨_, rfl, _, rfl, _, rfl, D, _, rfl, ga3, a3, _, rfl, .inr ta3, fun L hL => ?_⟩
            have s4 := new_same (o := .lst (l.map V.str)) hL
            have gL : (upd H3 L (.lst (l.map V.str))) L = some (.lst (l.map V.str)) := upd_same
            obtain ⟨H4, e4⟩ : ∃ G, upd H3 L (.lst (l.map V.str)) = G := ⟨_, rfl⟩
            rw [e4] at s4 gL ⊢
            refine ⟨le_sz (Nat.le_of_ble_eq_true rfl), fun W hW => ?_⟩
            have s5 := new_same (o := .lst [V.ref L]) hW
            have gW : (upd H4 W (.lst [V.ref L])) W = some (.lst [V.ref L]) := upd_same
            obtain ⟨H5, e5⟩ : ∃ G, upd H4 W (.lst [V.ref L]) = G := ⟨_, rfl⟩
            rw [e5] at s5 gW ⊢
            have s35 := s4.trans s5
            refine ⟨R, W, _, _, rfl, rfl, s35 _ _ gR, gW, le_sz (by rw [List.length_map]; simp only [List.length_singleton]; omega), fun p hp => ?_⟩
            have s6 := s35.trans (new_same (o := .lst (l.map (fun b => (valV kvs2 (.inr b)).getD .non) ++ [V.ref L])) hp)
            have gp : (upd H5 p (.lst (l.map (fun b => (valV kvs2 (.inr b)).getD .non) ++ [V.ref L]))) p = some (.lst (l.map (fun b => (valV kvs2 (.inr b)).getD .non) ++ [V.ref L])) := upd_same
            have sL := s5.trans (new_same (o := .lst (l.map (fun b => (valV kvs2 (.inr b)).getD .non) ++ [V.ref L])) hp)
            obtain ⟨H6, e6⟩ : ∃ G, upd H5 p (.lst (l.map (fun b => (valV kvs2 (.inr b)).getD .non) ++ [V.ref L])) = G := ⟨_, rfl⟩
            rw [e6] at s6 gp sL ⊢
            refine ⟨p, (l.map fun b => (o b).getD []) ++ [l], rfl, ⟨_, SqL.of gp, paired_snoc ?_ ⟨L, rfl, SqL.of (sL _ _ gL)⟩⟩, ?_, ?_, ?_, ?_⟩
            · refine pair_map fun b hb => ?_
              obtain ⟨r, er⟩ := some_ b hb
              have := (vals b hb).same s6
              rw [er] at this ⊢
              exact this
            · intro r hr ne
              rcases List.mem_append.mp hr with h | h
              · obtain ⟨b, hb, e⟩ := List.mem_map.mp h
                obtain ⟨r2, er⟩ := some_ b hb
                rw [er] at e
                rw [← e]
                exact hK.ok _ _ er
              · rw [List.mem_singleton.mp h] at ne ⊢
                exact hK.nd _ _ el ne
            · rw [List.length_append, List.length_map]
              simp only [List.length_singleton]
              omega
            · intro hmn H7 s7
              rw [hmn] at eqn
              obtain ⟨kx, gk, ek⟩ := hO3.same (s6.trans s7)
              obtain ⟨f1, f2⟩ := fin H7 .non kx gk ek (by rw [eqn]; rfl) (k3.trans (KeepB.of (s6.trans s7)))
              refine ⟨_, rfl, rfl, _, rfl, iteT ?_⟩
              exact ⟨_, rfl, _, rfl, O, _, rfl, DPut.k (k := .inr nm) gk f1, f2⟩
            · intro m hms M H7 hM s7 gM
              rw [hms] at eqn
              have rm := hK.ok _ _ eqn
              refine ⟨_, rfl, rfl, _, rfl, iteF ?_⟩
              refine ⟨_, rfl, le_sz (Nat.le_of_ble_eq_true rfl), fun X hX => ?_⟩
              have s8 := new_same (o := .lst [V.str nm]) hX
              have gX : (upd H7 X (.lst [V.str nm])) X = some (.lst [V.str nm]) := upd_same
              obtain ⟨H8, e8⟩ : ∃ G, upd H7 X (.lst [V.str nm]) = G := ⟨_, rfl⟩
              rw [e8] at s8 gX ⊢
              have lm : m.length + 1 ≤ 100 := rm.len
              refine ⟨_, rfl, X, M, _, _, rfl, rfl, gX, s8 _ _ gM, le_sz (by rw [List.length_map]; simp only [List.length_singleton]; omega), fun Y hY => ?_⟩
              have s9 := s8.trans (new_same (o := .lst ([V.str nm] ++ m.map V.str)) hY)
              have gY : (upd H8 Y (.lst ([V.str nm] ++ m.map V.str))) Y = some (.lst ((nm :: m).map V.str)) := upd_same
              obtain ⟨H9, e9⟩ : ∃ G, upd H8 Y (.lst ([V.str nm] ++ m.map V.str)) = G := ⟨_, rfl⟩
              rw [e9] at s9 gY ⊢
              have s39 := (s6.trans s7).trans s9
              obtain ⟨kx, gk, ek⟩ := hO3.same s39
              obtain ⟨f1, f2⟩ := fin H9 (.ref Y) kx gk ek (by rw [eqn]; exact ⟨Y, rfl, SqL.of gY⟩) (k3.trans (KeepB.of s39))
              exact ⟨_, rfl, _, rfl, O, _, rfl, DPut.k (k := .inr nm) gk f1, f2⟩
end
section
variable {P : Program} {w : World} {K : PySem.W.Frag} {mg : Str → Option Value} {base : Heap}
theorem ok_put {f g g2 : Addr} {fd fdM fdN : FuncData} (dP : Fs K mg "_put_order" sPut ["bases", "name", "orders"] f fd) (dM : Fs K mg "_merged" sMg ["rows"] g fdM) (dN : Fs K mg "_next_of" sNx ["rows"] g2 fdN) (hany : mg "any" = none) (ls : mg "list" = none) : ∀ n, FnOk P w K mg base CX0 (3 + n) f fd ["bases", "name", "orders"] (spPut K n)
  | 0 => ok_put0 dP
  | n + 1 => ok_putS dP dM dN hany ls (ok_put dP dM dN hany ls n)
def spAllO (K : PySem.W.Frag) : Sp := fun vs H Q _ => ∃ (D : Addr) (bs : Bs) (kvs : List (Key × V)) (o : Ord) (rk : Str → Nat), vs = [.ref D] ∧ H D = some (.dK kvs) ∧ Paired (fun (kv : Key × V) (b : Str × List Str) => kv.1 = .inr b.1 ∧ ∃ a, kv.2 = .ref a ∧ SqT K H a (b.2.map V.str)) kvs bs ∧ BsOk bs ∧ OrdOk bs o rk ∧ (∀ n, rk n < 32) ∧
  ∀ H' O ns', OrdAt K H' O o ns' → (∀ x, (look bs x).isSome → x ∈ ns') → H O = none → Same H H' → Q (.ref O) H'
theorem ok_allO {f p g g2 : Addr} {fd fdP fdM fdN : FuncData} (F : Fs K mg "all_orders" sAllO ["bases"] f fd) (dP : Fs K mg "_put_order" sPut ["bases", "name", "orders"] p fdP) (dM : Fs K mg "_merged" sMg ["rows"] g fdM) (dN : Fs K mg "_next_of" sNx ["rows"] g2 fdN) (hany : mg "any" = none) (ls : mg "list" = none) : FnOk P w K mg base CX0 36 f fd ["bases"] (spAllO K) := by
  have GP : FnOk P w K mg base CX0 35 p fdP ["bases", "name", "orders"] (spPut K 32) := ok_put dP dM dN hany ls 32
  refine F.F.ok scAllO (fun vs H Q E h => ?_) (fun cdv A outer s H vs Q E hr h => ?_)
  · obtain ⟨_, _, _, _, _, rfl, _⟩ := h
    rfl
  · obtain ⟨D, bs, kvs, o, rk, rfl, gD, hp, hB, hK, hrk, q⟩ := h
    have hrn := hr
    have hu := hu_of hr
    refine ⟨_, (pss_cons (ps_set (i := 1) scAllO.nd rfl (Or.inl rfl) pe_dnewK) (pss_cons (ps_lock (ps_for PassesOwn.never rfl (pi_keys (pv 0)) (pg_name (i := 2) scAllO.nd rfl (Or.inl rfl)) (pss_one (ps_expr (pe_call GP hrn (by rfl) dP.m dP.F.kp dP.b .nil pass0 (pa_cons (pv 0) (pa_cons (pv 2) (pa_cons (pv 1) pa_nil)))))))) (pss_one (ps_ret (pv 1))))), ?_⟩
    intro O hO
    have s1 := new_same (o := .dK []) hO
    have gO : (upd H O (.dK [])) O = some (.dK []) := upd_same
    have nDO : D ≠ O := fun z => by rw [z, hO] at gD; cases gD
    obtain ⟨H1, e1⟩ : ∃ G, upd H O (.dK []) = G := ⟨_, rfl⟩
    rw [e1] at s1 gO ⊢
    refine ⟨D, _, s1 _ _ gD, trivial, fun od => ?_⟩
    have k0 : KeepB D H1 (upd H1 D (.frz od (.dK kvs))) := KeepB.at
    have gD1 := s1 _ _ gD
    have gD2 : (upd H1 D (.frz od (.dK kvs))) D = some (.frz od (.dK kvs)) := upd_same
    have gO2 : (upd H1 D (.frz od (.dK kvs))) O = some (.dK []) := by rw [upd_ne nDO.symm]; exact gO
    have hp2 : Paired (fun (kv : Key × V) (b : Str × List Str) => kv.1 = .inr b.1 ∧ ∃ a, kv.2 = .ref a ∧ SqT K (upd H1 D (.frz od (.dK kvs))) a (b.2.map V.str)) kvs bs := L2.Paired.mapP hp fun kv b ⟨e, a, e2, q⟩ => ⟨e, a, e2, SqT.keepK gD1 k0 (SqT.same s1 q)⟩
    obtain ⟨H2, e2⟩ : ∃ G, upd H1 D (.frz od (.dK kvs)) = G := ⟨_, rfl⟩
    rw [e2] at k0 gD2 gO2 hp2 ⊢
    have hD2 : BasesAt K H2 D bs := ⟨kvs, .inr ⟨od, gD2⟩, hp2⟩
    refine ⟨_, rfl, D, od, rfl, .inl ⟨kvs, gD2, ?_⟩⟩
    refine for_it (walk_keys (kvs := kvs)) (fun i σ H3 => ∃ v ns, σ = [some (.ref D), some (.ref O), v] ∧ OrdAt K H3 O o ns ∧ ns.Nodup ∧ (∀ x ∈ ns, (look bs x).isSome) ∧ (∀ x ∈ (bs.take i).map (·.1), x ∈ ns) ∧ KeepB O H2 H3) ⟨none, [], rfl, ⟨[], gO2, .nil⟩, List.nodup_nil, fun _ z => (nomatch z), fun _ z => (nomatch z), fun _ _ _ z => z⟩ (fun i σ H3 _ ⟨_, _, _, _, _, _, _, k⟩ => k _ _ nDO gD2) ?_ ?_
    · rintro i x σ H3 H4 hi ⟨v, ns, rfl, hO3, nd, hin, tk, k⟩ ⟨rfl, key, w, ek, rfl⟩
      obtain ⟨n, rfl, en, hl⟩ := look_of hp2 ek
      refine ⟨_, rfl, _, rfl, _, rfl, D, O, bs, o, rk, n, ns, rfl, nDO, hD2.keep nDO gO2 k, hB, hK, hl, hrk n, hO3, nd, hin, fun H5 ns5 hO5 nd5 in5 sub5 mem5 k5 => ?_⟩
      refine ⟨_, ns5, rfl, hO5, nd5, in5, fun x hx => ?_, k.trans k5⟩
      obtain ⟨b, eb, e1⟩ := Option.map_eq_some_iff.mp en
      rw [take_snoc eb, List.map_append] at hx
      rcases List.mem_append.mp hx with h | h
      · exact sub5 x (tk x h)
      · rw [List.mem_singleton.mp h]; show b.1 ∈ ns5; rw [e1]; exact mem5
    · rintro σ H3 ⟨v, ns, rfl, hO3, nd, hin, tk, k⟩
      have gD3 := k _ _ nDO gD2
      refine ⟨gD3, _, rfl, q _ O ns ?_ (fun x hx => tk x ?_) hO ?_⟩
      · obtain ⟨kx, g, e⟩ := hO3
        exact ⟨kx, by rw [upd_ne nDO.symm]; exact g, L2.Paired.mapP e fun _ _ ⟨a, b⟩ => ⟨a, b.updF gD3⟩⟩
      · rw [show kvs.length = bs.length from Paired.length hp, List.take_length]
        exact look_mem hx
      · intro b u hb
        by_cases z : b = D
        · rw [z, upd_same, ← hb, z, gD]
        · rw [upd_ne z]
          have zO : b ≠ O := fun y => by rw [y, hO] at hb; cases hb
          refine k _ _ zO ?_
          rw [← e2, upd_ne z]
          exact s1 _ _ hb
end

end Kx
set_option linter.all false
namespace Kx
open PySem L2 PySem.Spec PyProof.Rows
/-! a set comprehension of two clauses -/
section
variable {elt t0 i0 t1 i1 : Expr} {f0 f1 : List Expr} {scope : Scope} {cp : Pos}
abbrev c2 (elt t0 i0 t1 i1 : Expr) (f0 f1 : List Expr) (scope : Scope) (cp : Pos) : Expr := .SetComp elt [⟨t0, i0, f0, 0⟩, ⟨t1, i1, f1, 0⟩] scope cp
theorem start2_1 (acc : Value) (env : Env) : StartOk (c2 elt t0 i0 t1 i1 f0 f1 scope cp) 1 acc env := by
  intro P w A R s it h0 h
  refine codeAny_of_tree ?_
  show wpAny _ _ ((compStart (c2 elt t0 i0 t1 i1 f0 f1 scope cp) 1 it acc env).onRaise (fun x => do noteFrame x env; standAt theWindowsPlace)) _ _ s
  refine wpAny_notedAt ?_
  unfold compStart
  show wpAny _ _ (ask >>= _) _ _ s
  refine wpAny_bind (wpAny_askSetting (wpAny_ite ?_))
  split
  · first
      | exact wpAny_bind (wpAny_pure (wpAny_pure (And.intro rfl h0)))
      | exact wpAny_pure (And.intro rfl h0)
  · refine wpAny_bind (wpAny_rule ?_)
    show wpAny _ _ (standAt i1.pos >>= _) _ _ s
    exact wpAny_bind (wpAny_standAt (wpAny_bind (thn (h _) fun it' s' h' => wpAny_pure (And.intro rfl h'))))
theorem turn2_0 (it D : Addr) (env : Env) : compTurn (c2 elt t0 i0 t1 i1 f0 f1 scope cp) 0 (.ref it) (.ref D) env = turnOf t0 i0.pos f0 (bNest (c2 elt t0 i0 t1 i1 f0 f1 scope cp) 1 i1 D env) (c2 elt t0 i0 t1 i1 f0 f1 scope cp) 0 (.ref it) (.ref D) env := by
  have e : compTurn (c2 elt t0 i0 t1 i1 f0 f1 scope cp) 0 (.ref it) (.ref D) env = (do
      standAt i0.pos
      match ← pyNext (.ref it) with
      | none => pure (.done .next)
      | some v =>
        letOwnedTupleGo t0 (.ref it) v
        assign t0 env v
        let mut ok := true
        for c in f0 do
          if ok then ok ← isTrue c env (eval c env)
        if ok then
          let x ← eval i1 env
          standAt i1.pos
          let x ← foldedSetIterable i1 env x
          let _ ← runOwn (.compStart (c2 elt t0 i0 t1 i1 f0 f1 scope cp) 1 (← holding [x] (pyIter x)) (.ref D) env) env
        again (.compLoop (c2 elt t0 i0 t1 i1 f0 f1 scope cp) 0 (.ref it) (.ref D) env)) := by rfl
  rw [e]
  unfold turnOf
  simp only [bind_assoc, pure_bind]
  all_goals rfl
theorem turn2_1 (it D : Addr) (env : Env) : compTurn (c2 elt t0 i0 t1 i1 f0 f1 scope cp) 1 (.ref it) (.ref D) env = turnOf t1 i1.pos f1 (bElt elt D env) (c2 elt t0 i0 t1 i1 f0 f1 scope cp) 1 (.ref it) (.ref D) env := by rfl
end
section
variable {X : Cx} {elt t0 i0 t1 i1 : Expr} {f0 f1 : List Expr} {scope : Scope} {own : List (PySem.Str × Nat)} {cp : Pos} {w0 w1 : TI} {g0 g1 : TG} {tt0 tt1 : TT} {te : TE} {vs1 : List Nat}
theorem pe_sc2 (hc : X.calm = true) (hN : X.N.Nodup) (hi : PI X t0 i0 w0) (ok : BlkOk X.N X.env.scope scope own) (h1 : ∀ i ∈ vs1, i ∈ own.map (·.2))
    (hg0 : ∀ (s : Shared) (H : Hp) (C : Addr) (cl : List (PySem.Str × Addr)) (fp : List Addr), PG (X.blk s H scope (compEnvC scope cl C X.env) fp) t0 g0)
    (ht0 : ∀ (s : Shared) (H : Hp) (C : Addr) (cl : List (PySem.Str × Addr)) (fp : List Addr), PTs (X.blk s H scope (compEnvC scope cl C X.env) fp) f0 tt0)
    (hi1 : ∀ (s : Shared) (H : Hp) (C : Addr) (cl : List (PySem.Str × Addr)) (fp : List Addr), PI (X.blk s H scope (compEnvC scope cl C X.env) fp) t1 i1 w1)
    (hg1 : ∀ (s : Shared) (H : Hp) (C : Addr) (cl : List (PySem.Str × Addr)) (fp : List Addr), PG (X.blk s H scope (compEnvC scope cl C X.env) fp) t1 g1)
    (ht1 : ∀ (s : Shared) (H : Hp) (C : Addr) (cl : List (PySem.Str × Addr)) (fp : List Addr), PTs (X.blk s H scope (compEnvC scope cl C X.env) fp) f1 tt1)
    (he : ∀ (s : Shared) (H : Hp) (C : Addr) (cl : List (PySem.Str × Addr)) (fp : List Addr), PE (X.blk s H scope (compEnvC scope cl C X.env) fp) elt te)
    (hs : ∀ x, foldedSetIterable i0 X.env x = pure x := by intro _; rfl) (hs1 : ∀ env x, foldedSetIterable i1 env x = pure x := by intro _ _; rfl) :
    PE X (c2 elt t0 i0 t1 i1 f0 f1 scope cp) (tScN X.prog X.w w0 g0 tt0 (fun D => tNest w1 g1 tt1 (tElt X.prog X.w te D) vs1) (own.map (·.2))) :=
  pe_scN (gs := [⟨t1, i1, f1, 0⟩]) (body := fun D env => bNest (c2 elt t0 i0 t1 i1 f0 f1 scope cp) 1 i1 D env) hc hN hi ok h1 hg0 ht0
    (fun s H C cl fp D => pb_nest (ee := elt) (gs := [⟨t0, i0, f0, 0⟩, ⟨t1, i1, f1, 0⟩]) (scope := scope) (cp := cp) (Y := X.blk s H scope (compEnvC scope cl C X.env) fp) (vs' := []) (fun i z => nomatch z) hc rfl (hi1 s H C cl fp) (hg1 s H C cl fp) (ht1 s H C cl fp)
      (pb_elt (Y := X.blk s H scope (compEnvC scope cl C X.env) fp) rfl (he s H C cl fp)) (hs1 _) (fun it => turn2_1 it D _) (start2_1 _ _))
    (fun it D env => turn2_0 it D env) hs
end
/-! what is never reached -/
theorem ps_dead {X : Cx} {st : Stmt} : PS X st (fun _ _ _ => False) := ⟨fun _ _ _ _ _ _ h => h.elim⟩
theorem pe_dead {X : Cx} {e : Expr} : PE X e (fun _ _ _ => False) := ⟨fun _ _ _ _ _ _ h => h.elim⟩
theorem pt_dead {X : Cx} {e : Expr} : PT X e (fun _ _ _ => False) := ⟨fun _ _ _ _ _ _ h => h.elim⟩
end Kx
set_option linter.all false
namespace Kx
open PySem L2 PySem.Spec PyProof.Rows
/-! classes as data -/
abbrev CDat := List (List Lit) × List Str
structure MD where
  name : Str
  params : List (Str × Str)
  result : Str
  pre : CDat
  post : CDat
  body : OD
structure KD where
  name : Str
  bases : List Str
  fields : List Str
  wh : CDat
  methods : List MD
abbrev pairO (p : Str × Str) : OD := .tup [.fl (.str p.1), .fl (.str p.2)]
abbrev mO (m : MD) : OD := .obj 1 [.fl (.str m.name), .tup (m.params.map pairO), .fl (.str m.result), cO m.pre.1 m.pre.2, cO m.post.1 m.post.2, m.body]
abbrev kO (k : KD) : OD := .obj 2 [.fl (.str k.name), strsO k.bases, strsO k.fields, cO k.wh.1 k.wh.2, .tup (k.methods.map mO)]
section
variable {K : PySem.W.Frag} {C f : Nat → Addr} {H : Hp}
structure KAt (K : PySem.W.Frag) (C f : Nat → Addr) (H : Hp) (k : KD) (a dx : Addr) (fs : List (Str × V)) (vb vf vm : Addr) (vw : V) (xs : List V) : Prop where
  ins : H a = some (.ins (C 2) dx fs)
  nm : fs.lookup ("name" : Str) = some (.str k.name)
  b : fs.lookup ("bases" : Str) = some (.ref vb)
  sb : SqT K H vb (k.bases.map V.str)
  fl : fs.lookup ("fields" : Str) = some (.ref vf)
  sf : SqT K H vf (k.fields.map V.str)
  w : fs.lookup ("where" : Str) = some vw
  ow : Oh K (clk C f) H (cO k.wh.1 k.wh.2) vw
  m : fs.lookup ("methods" : Str) = some (.ref vm)
  sm : SqT K H vm xs
  om : OhAll K (clk C f) H (k.methods.map mO) xs
theorem kO_get {k : KD} {v : V} (h : Oh K (clk C f) H (kO k) v) : ∃ a dx fs vb vf vm vw xs, v = .ref a ∧ KAt K C f H k a dx fs vb vf vm vw xs := by
  obtain ⟨a, dx, fs, ys, rfl, hi, hn, q⟩ := h
  obtain ⟨d0, d1, d2, d3, d4, v0, v1, v2, v3, v4, e, e0, e1, e2, e3, e4, o0, o1, o2, o3, o4⟩ := oh5 hn q
  cases e
  obtain ⟨e0', _⟩ := o0
  obtain ⟨vb, xb, eb, sb, ob⟩ := o1
  obtain ⟨vf, xf, ef, sf, of⟩ := o2
  obtain ⟨vm, xm, em, sm, om⟩ := o4
  have hb := od_strs ob
  have hf := od_strs of
  subst hb hf
  exact ⟨a, dx, fs, vb, vf, vm, v3, xm, rfl, hi, e0.trans (congrArg some e0'), e1.trans (congrArg some eb), sb, e2.trans (congrArg some ef), sf, e3, o3, e4.trans (congrArg some em), sm, om⟩
structure MAt (K : PySem.W.Frag) (C f : Nat → Addr) (H : Hp) (m : MD) (a dx : Addr) (fs : List (Str × V)) (vp : Addr) (xs : List V) (v1 v2 vb : V) : Prop where
  ins : H a = some (.ins (C 1) dx fs)
  nm : fs.lookup ("name" : Str) = some (.str m.name)
  p : fs.lookup ("params" : Str) = some (.ref vp)
  sp : SqT K H vp xs
  op : OhAll K (clk C f) H (m.params.map pairO) xs
  r : fs.lookup ("result" : Str) = some (.str m.result)
  pre : fs.lookup ("pre" : Str) = some v1
  opre : Oh K (clk C f) H (cO m.pre.1 m.pre.2) v1
  post : fs.lookup ("post" : Str) = some v2
  opost : Oh K (clk C f) H (cO m.post.1 m.post.2) v2
  b : fs.lookup ("body" : Str) = some vb
  ob : Oh K (clk C f) H m.body vb
theorem mO_get {m : MD} {v : V} (h : Oh K (clk C f) H (mO m) v) : ∃ a dx fs vp xs v1 v2 vb, v = .ref a ∧ MAt K C f H m a dx fs vp xs v1 v2 vb := by
  obtain ⟨a, dx, fs, ys, rfl, hi, hn, q⟩ := h
  obtain ⟨d0, d1, d2, d3, d4, d5, v0, v1, v2, v3, v4, v5, e, e0, e1, e2, e3, e4, e5, o0, o1, o2, o3, o4, o5⟩ := oh6 hn q
  cases e
  obtain ⟨e0', _⟩ := o0
  obtain ⟨vp, xp, ep, sp, op⟩ := o1
  obtain ⟨e2', _⟩ := o2
  exact ⟨a, dx, fs, vp, xp, v3, v4, v5, rfl, hi, e0.trans (congrArg some e0'), e1.trans (congrArg some ep), sp, op, e2.trans (congrArg some e2'), e3, o3, e4, o4, e5, o5⟩
end
def kd (cs : List KD) (n : Str) : Option KD := cs.find? fun k => decide (k.name = n)
/-- a library that is being made: names and table -/
structure LibAt (K : PySem.W.Frag) (C f : Nat → Addr) (CL : Addr) (H : Hp) (a dx : Addr) (fs : List (Str × V)) (N T : Addr) (vs : List V) (cs : List KD) (ns : List Str) : Prop where
  ins : H a = some (.ins CL dx fs)
  nm : fs.lookup ("names" : Str) = some (.ref N)
  sn : SqT K H N (ns.map V.str)
  tb : fs.lookup ("_table" : Str) = some (.ref T)
  gT : H T = some (.dK ((cs.zip vs).map fun kv => (.inr kv.1.name, kv.2)))
  ov : OhAll K (clk C f) H (cs.map kO) vs
  mem : ∀ n, n ∈ ns ↔ n ∈ cs.map (·.name)
  no : ∀ x : Str, x ∉ (["classes", "names", "_table", "_orders"] : List Str) → fs.lookup x = none
def LibA (K : PySem.W.Frag) (C f : Nat → Addr) (CL : Addr) (H : Hp) (a : Addr) (cs : List KD) (ns : List Str) : Prop := ∃ dx fs N T vs, LibAt K C f CL H a dx fs N T vs cs ns
theorem LibA.same {K : PySem.W.Frag} {C f : Nat → Addr} {CL : Addr} {H H' : Hp} {a : Addr} {cs : List KD} {ns : List Str} (s : Same H H') (h : LibA K C f CL H a cs ns) : LibA K C f CL H' a cs ns :=
  let ⟨dx, fs, N, T, vs, g⟩ := h; ⟨dx, fs, N, T, vs, s _ _ g.ins, g.nm, SqT.same s g.sn, g.tb, s _ _ g.gT, OhAll.sm s g.ov, g.mem, g.no⟩
theorem tab_look {K : PySem.W.Frag} {cl : Nat → OCls} {H : Hp} {n : Str} : ∀ {cs : List KD} {vs : List V}, OhAll K cl H (cs.map kO) vs → (valV ((cs.zip vs).map fun kv => ((.inr kv.1.name : Key), kv.2)) (.inr n)).isSome = decide (n ∈ cs.map (·.name)) ∧ ∀ k, kd cs n = some k → ∃ v, valV ((cs.zip vs).map fun kv => ((.inr kv.1.name : Key), kv.2)) (.inr n) = some v ∧ Oh K cl H (kO k) v
  | [], _, h => by
    obtain rfl := h
    exact ⟨rfl, fun k e => nomatch e⟩
  | c :: cs, _, ⟨v, ys, e, h, q⟩ => by
    subst e
    obtain ⟨h1, h2⟩ := tab_look (n := n) q
    by_cases z : c.name = n
    · have ev : valV (((c :: cs).zip (v :: ys)).map fun kv => ((.inr kv.1.name : Key), kv.2)) (.inr n) = some v := valV_pos (p := ((.inr c.name : Key), v)) (by rw [z])
      have ek : kd (c :: cs) n = some c := by unfold kd; rw [List.find?_cons_of_pos (by simpa using z)]
      rw [ev, ek]
      refine ⟨?_, fun k e => ⟨v, rfl, by cases e; exact h⟩⟩
      rw [decide_eq_true (by rw [← z]; exact List.mem_map.mpr ⟨c, List.mem_cons_self, rfl⟩)]
      rfl
    · have ev : valV (((c :: cs).zip (v :: ys)).map fun kv => ((.inr kv.1.name : Key), kv.2)) (.inr n) = valV ((cs.zip ys).map fun kv => ((.inr kv.1.name : Key), kv.2)) (.inr n) := valV_neg (p := ((.inr c.name : Key), v)) (by intro y; injection y with y; exact z y)
      have ek : kd (c :: cs) n = kd cs n := by unfold kd; rw [List.find?_cons_of_neg (by simpa using z)]
      rw [ev, ek, h1]
      refine ⟨?_, h2⟩
      rw [decide_eq_decide, List.map_cons, List.mem_cons]
      exact ⟨.inr, fun h => h.resolve_left fun y => z y.symm⟩
theorem kd_name {cs : List KD} {n : Str} {k : KD} (h : kd cs n = some k) : k.name = n ∧ k ∈ cs := ⟨of_decide_eq_true (List.find?_some (p := fun k : KD => decide (k.name = n)) h), List.mem_of_find?_eq_some h⟩
theorem kd_some {cs : List KD} {n : Str} (h : n ∈ cs.map (·.name)) : ∃ k, kd cs n = some k := by
  obtain ⟨k, hk, e⟩ := List.mem_map.mp h
  have : (cs.find? fun k => decide (k.name = n)).isSome := List.find?_isSome.mpr ⟨k, hk, decide_eq_true e⟩
  exact Option.isSome_iff_exists.mp this

abbrev sCo : Stmt := inClass (top 130) 1
abbrev nCo : List Str := ["self", "name"]
theorem scCo : FnScope nCo ["self", "name"] (defScope sCo) := ⟨rfl, rfl, rfl, by decide +kernel, rfl, by decide +kernel, by decide +kernel⟩
abbrev sLix : Stmt := inClass (top 130) 2
abbrev nLix : List Str := ["self", "name"]
theorem scLix : FnScope nLix ["self", "name"] (defScope sLix) := ⟨rfl, rfl, rfl, by decide +kernel, rfl, by decide +kernel, by decide +kernel⟩
abbrev sOd : Stmt := inClass (top 130) 4
abbrev nOd : List Str := ["self", "name"]
theorem scOd : FnScope nOd ["self", "name"] (defScope sOd) := ⟨rfl, rfl, rfl, by decide +kernel, rfl, by decide +kernel, by decide +kernel⟩
abbrev sFl : Stmt := inClass (top 130) 5
abbrev nFl : List Str := ["self", "name", "each", "field"]
theorem scFl : FnScope nFl ["self", "name"] (defScope sFl) := ⟨rfl, rfl, rfl, by decide +kernel, rfl, by decide +kernel, by decide +kernel⟩
abbrev sMo : Stmt := inClass (top 130) 7
abbrev nMo : List Str := ["self", "name", "each", "method"]
theorem scMo : FnScope nMo ["self", "name"] (defScope sMo) := ⟨rfl, rfl, rfl, by decide +kernel, rfl, by decide +kernel, by decide +kernel⟩
abbrev sWo : Stmt := inClass (top 130) 8
abbrev nWo : List Str := ["self", "name", "method", "each"]
theorem scWo : FnScope nWo ["self", "name", "method"] (defScope sWo) := ⟨rfl, rfl, rfl, by decide +kernel, rfl, by decide +kernel, by decide +kernel⟩
abbrev sWri : Stmt := top 35
abbrev nWri : List Str := ["classdef", "name", "method"]
theorem scWri : FnScope nWri ["classdef", "name"] (defScope sWri) := ⟨rfl, rfl, rfl, by decide +kernel, rfl, by decide +kernel, by decide +kernel⟩
structure Lm (K : PySem.W.Frag) (mg : Str → Option Value) (C f : Nat → Addr) (CL : Addr) : Prop where
  cls : Cls K CL
  no : ∀ x ∈ (["classes", "names", "_table", "_orders"] : List Str), NoAttr K CL x
  co : ∃ g fd, OwnIn K CL g ∧ Fun K "__contains__" "Library.__contains__" sCo g fd ∧ Binds K fd ["self", "name"] []
  ix : ∃ g fd, OwnIx K CL g ∧ Fun K "__getitem__" "Library.__getitem__" sLix g fd ∧ Binds K fd ["self", "name"] []
  od : ∃ g fd, Meth K CL "order_of" g ∧ Fun K "order_of" "Library.order_of" sOd g fd ∧ Binds K fd ["self", "name"] []
  fl : ∃ g fd, Meth K CL "fields_of" g ∧ Fun K "fields_of" "Library.fields_of" sFl g fd ∧ Binds K fd ["self", "name"] []
  me : ∃ g fd, Meth K CL "methods_of" g ∧ Fun K "methods_of" "Library.methods_of" sMo g fd ∧ Binds K fd ["self", "name"] []
  wr : ∃ g fd, Meth K CL "writer_of" g ∧ Fun K "writer_of" "Library.writer_of" sWo g fd ∧ Binds K fd ["self", "name", "method"] []
  wri : ∃ g fd, Fs K mg "written" sWri ["classdef", "name"] g fd
  T : Bx mg
  X : Txt K mg C f
  ls : mg "list" = none
def spCo (K : PySem.W.Frag) (C f : Nat → Addr) (CL : Addr) : Sp := fun vs H Q _ => ∃ (a : Addr) (cs : List KD) (ns : List Str) (n : Str), vs = [.ref a, .str n] ∧ LibA K C f CL H a cs ns ∧ ∀ H', Same H H' → Q (.bl (decide (n ∈ cs.map (·.name)))) H'
def spLix (K : PySem.W.Frag) (C f : Nat → Addr) (CL : Addr) : Sp := fun vs H Q _ => ∃ (a : Addr) (cs : List KD) (ns : List Str) (n : Str) (k : KD), vs = [.ref a, .str n] ∧ LibA K C f CL H a cs ns ∧ kd cs n = some k ∧ ∀ v H', Same H H' → Oh K (clk C f) H' (kO k) v → Q v H'
section
variable {P : Program} {w : World} {K : PySem.W.Frag} {mg : Str → Option Value} {base : Heap} {C f : Nat → Addr} {CL : Addr}
theorem ok_co {g : Addr} {fd : FuncData} (F : Fun K "__contains__" "Library.__contains__" sCo g fd) (M : Lm K mg C f CL) : FnOk P w K mg base CX0 1 g fd ["self", "name"] (spCo K C f CL) := by
  have T := M.T
  refine F.ok scCo (fun vs H Q E h => ?_) (fun cdv A outer s H vs Q E hr h => ?_)
  · obtain ⟨_, _, _, _, rfl, _⟩ := h
    rfl
  · obtain ⟨a, cs, ns, n, rfl, ⟨dx, fs, N, Tb, us, L⟩, q⟩ := h
    have hu := hu_of hr
    refine ⟨_, (pss_one (ps_ret (pe_and (pe_callB call_isi (by rfl) T.isi boot_isinstance (pa_cons (pv 1) (pa_cons (pe_bltn (v := .ty "str") (by rfl) T.str (by decide +kernel) rfl) pa_nil))) (pe_one (pe_cmp (pc_din hu (pv 1) (pe_fld (pv 0) (by rfl))) (by with_unfolding_all rfl)))))), ?_⟩
    refine ⟨_, rfl, .str n, .ty "str", _, _, true, rfl, .ty _, .base (.str n), kit_ty (by decide +kernel), true, rfl, iteT ?_⟩
    refine ⟨_, rfl, _, rfl, a, CL, dx, fs, .ref Tb, rfl, L.ins, M.cls, M.no _ (by simp), L.tb, Tb, _, rfl, DGet.k (k := .inr n) L.gT, ?_⟩
    rw [(tab_look L.ov).1]
    exact q H fun _ _ z => z
theorem ok_lix {g : Addr} {fd : FuncData} (F : Fun K "__getitem__" "Library.__getitem__" sLix g fd) (M : Lm K mg C f CL) : FnOk P w K mg base CX0 2 g fd ["self", "name"] (spLix K C f CL) := by
  have T := M.T
  obtain ⟨gc, fdc, oc, Fc, bc⟩ := M.co
  have GC : FnOk P w K mg base CX0 1 gc fdc ["self", "name"] (spCo K C f CL) := ok_co Fc M
  refine F.ok scLix (fun vs H Q E h => ?_) (fun cdv A outer s H vs Q E hr h => ?_)
  · obtain ⟨_, _, _, _, _, rfl, _⟩ := h
    rfl
  · obtain ⟨a, cs, ns, n, k, rfl, hL, hk, q⟩ := h
    obtain ⟨dx, fs, N, Tb, us, L⟩ := id hL
    have hu := hu_of hr
    have hm : n ∈ cs.map (·.name) := by obtain ⟨e, m⟩ := kd_name hk; exact List.mem_map.mpr ⟨k, m, e⟩
    refine ⟨_, (pss_cons (ps_if (pt_cmpR (op_ownNotIn (E := E0) oc GC hr bc pass0) (pv 1) (pv 0) (by with_unfolding_all rfl)) (pss_one ps_dead) pss_nil) (pss_one (ps_ret (pe_dget hu (pe_fld (pv 0) (by rfl)) (pv 1) (fun _ _ => rfl))))), ?_⟩
    refine ⟨_, rfl, _, rfl, a, dx, fs, rfl, L.ins, a, cs, ns, n, rfl, hL, fun H1 s1 => ⟨_, rfl, _, rfl, ?_⟩⟩
    rw [decide_eq_true hm]
    refine iteF ?_
    obtain ⟨dx1, fs1, N1, Tb1, us1, L1⟩ := hL.same s1
    obtain ⟨v, ev, ov⟩ := (tab_look L1.ov).2 k hk
    have hg := DGet.k (k := .inr n) L1.gT
    rw [ev] at hg
    exact ⟨_, rfl, a, CL, dx1, fs1, .ref Tb1, rfl, L1.ins, M.cls, M.no _ (by simp), L1.tb, _, rfl, Tb1, _, rfl, hg, q _ _ s1 ov⟩
end

end Kx
set_option linter.all false
namespace Kx
open PySem L2 PySem.Spec PyProof.Rows
/-- a library with the orders of its classes -/
def LibO (K : PySem.W.Frag) (C f : Nat → Addr) (CL : Addr) (H : Hp) (a : Addr) (cs : List KD) (ns : List Str) (o : Ord) : Prop := ∃ dx fs N T vs O ns', LibAt K C f CL H a dx fs N T vs cs ns ∧ fs.lookup ("_orders" : Str) = some (.ref O) ∧ OrdAt K H O o ns' ∧ ∀ n ∈ cs.map (·.name), n ∈ ns'
theorem LibO.a {K : PySem.W.Frag} {C f : Nat → Addr} {CL : Addr} {H : Hp} {a : Addr} {cs : List KD} {ns : List Str} {o : Ord} (h : LibO K C f CL H a cs ns o) : LibA K C f CL H a cs ns := let ⟨dx, fs, N, T, vs, _, _, g, _⟩ := h; ⟨dx, fs, N, T, vs, g⟩
theorem LibO.same {K : PySem.W.Frag} {C f : Nat → Addr} {CL : Addr} {H H' : Hp} {a : Addr} {cs : List KD} {ns : List Str} {o : Ord} (s : Same H H') (h : LibO K C f CL H a cs ns o) : LibO K C f CL H' a cs ns o :=
  let ⟨dx, fs, N, T, vs, O, ns', g, e, q, m⟩ := h; ⟨dx, fs, N, T, vs, O, ns', ⟨s _ _ g.ins, g.nm, SqT.same s g.sn, g.tb, s _ _ g.gT, OhAll.sm s g.ov, g.mem, g.no⟩, e, q.same s, m⟩
def spOd (K : PySem.W.Frag) (C f : Nat → Addr) (CL : Addr) : Sp := fun vs H Q _ => ∃ (a : Addr) (cs : List KD) (ns : List Str) (o : Ord) (n : Str) (l : List Str), vs = [.ref a, .str n] ∧ LibO K C f CL H a cs ns o ∧ n ∈ cs.map (·.name) ∧ o n = some l ∧ ∀ L H', H L = none → Same H H' → H' L = some (.lst (l.map V.str)) → Q (.ref L) H'
/-- what is known of a library's orders -/
structure Lok (cs : List KD) (o : Ord) : Prop where
  mem : ∀ n l, o n = some l → ∀ e ∈ l, e ∈ cs.map (·.name)
  ok : ∀ n l, o n = some l → RowOk l
  all : ∀ n ∈ cs.map (·.name), ∃ l, o n = some l
  fs : ∀ k ∈ cs, k.fields.length ≤ 3
  ms : ∀ k ∈ cs, k.methods.length ≤ 3
  few : ∀ n l, o n = some l → l.length ≤ 20
  flt : ∀ k ∈ cs, ∀ t ∈ k.fields, t.length ≤ 1000
def fldsL (cs : List KD) (l : List Str) : List Str := l.flatMap fun e => ((kd cs e).map (·.fields)).getD []
def fldsOf (cs : List KD) (o : Ord) (n : Str) : List Str := fldsL cs ((o n).getD []).reverse
def spFl (K : PySem.W.Frag) (C f : Nat → Addr) (CL : Addr) : Sp := fun vs H Q _ => ∃ (a : Addr) (cs : List KD) (ns : List Str) (o : Ord) (n : Str), vs = [.ref a, .str n] ∧ LibO K C f CL H a cs ns o ∧ n ∈ cs.map (·.name) ∧ Lok cs o ∧ ∀ L H', H L = none → Same H H' → H' L = some (.lst ((fldsOf cs o n).map V.str)) → Q (.ref L) H'
theorem fldsL_snoc {cs : List KD} {l : List Str} {e : Str} : fldsL cs (l ++ [e]) = fldsL cs l ++ ((kd cs e).map (·.fields)).getD [] := by
  unfold fldsL
  rw [List.flatMap_append]
  simp
theorem fldsL_len {cs : List KD} (h : ∀ k ∈ cs, k.fields.length ≤ 3) : ∀ (l : List Str), (fldsL cs l).length ≤ 3 * l.length
  | [] => Nat.le_refl _
  | e :: l => by
    have := fldsL_len h l
    have h3 : (((kd cs e).map (·.fields)).getD []).length ≤ 3 := by
      cases hk : kd cs e with
      | none => exact Nat.zero_le _
      | some k => exact h k (kd_name hk).2
    show ((((kd cs e).map (·.fields)).getD []) ++ fldsL cs l).length ≤ _
    rw [List.length_append, List.length_cons]
    omega
section
variable {P : Program} {w : World} {K : PySem.W.Frag} {mg : Str → Option Value} {base : Heap} {C f : Nat → Addr} {CL : Addr}
theorem ok_od {g : Addr} {fd : FuncData} (F : Fun K "order_of" "Library.order_of" sOd g fd) (M : Lm K mg C f CL) : FnOk P w K mg base CX0 2 g fd ["self", "name"] (spOd K C f CL) := by
  have ls := M.ls
  obtain ⟨gc, fdc, oc, Fc, bc⟩ := M.co
  have GC : FnOk P w K mg base CX0 1 gc fdc ["self", "name"] (spCo K C f CL) := ok_co Fc M
  refine F.ok scOd (fun vs H Q E h => ?_) (fun cdv A outer s H vs Q E hr h => ?_)
  · obtain ⟨_, _, _, _, _, _, rfl, _⟩ := h
    rfl
  · obtain ⟨a, cs, ns, o, n, l, rfl, hL, hm, hl, q⟩ := h
    obtain ⟨dx, fs, N, Tb, us, O, ns', L, eO, gO, hin⟩ := id hL
    have hu := hu_of hr
    refine ⟨_, (pss_cons (ps_if (pt_cmpR (op_ownNotIn (E := E0) oc GC hr bc pass0) (pv 1) (pv 0) (by with_unfolding_all rfl)) (pss_one ps_dead) pss_nil) (pss_one (ps_ret (pe_callTy call_list_of (by rfl) ls (by decide +kernel) (pa_cons (pe_dget hu (pe_fld (pv 0) (by rfl)) (pv 1) (fun _ _ => rfl)) pa_nil))))), ?_⟩
    refine ⟨_, rfl, _, rfl, a, dx, fs, rfl, L.ins, a, cs, ns, n, rfl, hL.a, fun H1 s1 => ⟨_, rfl, _, rfl, ?_⟩⟩
    rw [decide_eq_true hm]
    refine iteF ?_
    obtain ⟨dx1, fs1, N1, Tb1, us1, O1, ns1, L1, eO1, ⟨kvs, gO1, en⟩, hin1⟩ := hL.same s1
    obtain ⟨v, ev, hv⟩ := (entO_look en).2 (hin1 n hm)
    rw [hl] at hv
    obtain ⟨b, rfl, hb⟩ := hv
    have hg := DGet.k (k := .inr n) gO1
    rw [ev] at hg
    exact ⟨_, rfl, a, CL, dx1, fs1, .ref O1, rfl, L1.ins, M.cls, M.no _ (by simp), eO1, _, rfl, O1, _, rfl, hg, b, _, rfl, .inl hb, fun X hX => q X _ (Same.free s1 hX) (same_D (by cases z : H X with | none => rfl | some u => rw [s1 _ _ z] at hX; cases hX) s1) upd_same⟩
theorem ok_fl {g : Addr} {fd : FuncData} (F : Fun K "fields_of" "Library.fields_of" sFl g fd) (M : Lm K mg C f CL) : FnOk P w K mg base CX0 3 g fd ["self", "name"] (spFl K C f CL) := by
  obtain ⟨go, fdo, mo, Fo, bo⟩ := M.od
  have GO : FnOk P w K mg base CX0 2 go fdo ["self", "name"] (spOd K C f CL) := ok_od Fo M
  refine F.ok scFl (fun vs H Q E h => ?_) (fun cdv A outer s H vs Q E hr h => ?_)
  · obtain ⟨_, _, _, _, _, rfl, _⟩ := h
    rfl
  · obtain ⟨a, cs, ns, o, n, rfl, hL, hm, ok, q⟩ := h
    obtain ⟨l, hl⟩ := ok.all n hm
    have hu := hu_of hr
    refine ⟨_, (pss_one (ps_ret (pe_lc2 (own := [("each", 2), ("field", 3)]) (vs1 := [3]) rfl scFl.nd (pi_list (pe_revL (pe_meth (pv 0) M.cls mo GO hr bo .nil pass0 (pa_cons (pv 1) pa_nil)))) (blkOk_by (N := nFl) (sc := defScope sFl) (by decide +kernel)) (by decide) (fun _ _ _ _ _ => (pg_name (i := 2) scFl.nd rfl (Or.inl rfl))) (fun _ _ _ _ _ => pts_nil) (fun _ _ _ _ _ => (pi_tupK (K := K) rfl (pe_fldK (K := K) rfl (pe_dget hu (pe_fldK (K := K) rfl (pv 0) (by rfl)) (pv 2) (fun _ _ => rfl)) (by rfl)))) (fun _ _ _ _ _ => (pg_name (i := 3) scFl.nd rfl (Or.inl rfl))) (fun _ _ _ _ _ => pts_nil) (fun _ _ _ _ _ => (pv 3))))), ?_⟩
    obtain ⟨dx, fs, N, Tb, us, O, ns', L, eO, gO, hin⟩ := id hL
    have lok := ok.ok n l hl
    refine ⟨_, rfl, a, dx, fs, rfl, L.ins, L.no _ (by decide +kernel), _, rfl, a, cs, ns, o, n, l, rfl, hL, hm, hl, fun L1 H1 f1 s1 g1 => ?_⟩
    refine ⟨L1, _, rfl, SqL.of g1, fun L2 hL2 => ?_⟩
    have s2 := s1.trans (new_same (o := .lst (l.map V.str).reverse) hL2)
    have g2 : (upd H1 L2 (.lst (l.map V.str).reverse)) L2 = some (.lst (l.reverse.map V.str)) := by rw [upd_same, List.map_reverse]
    obtain ⟨H2, e2⟩ : ∃ G, upd H1 L2 (.lst (l.map V.str).reverse) = G := ⟨_, rfl⟩
    rw [e2] at s2 g2 ⊢
    refine ⟨L2, rfl, ⟨_, SqL.of g2⟩, fun D hD => ?_⟩
    have len : ∀ i, (fldsL cs (l.reverse.take i)).length ≤ 300 := fun i => by
      have h1 := fldsL_len ok.fs (l.reverse.take i)
      have h2 : (l.reverse.take i).length ≤ l.length := by rw [List.length_take, List.length_reverse]; exact Nat.min_le_right _ _
      have h3 := lok.len
      omega
    refine walk_it (walk_list (xs := l.reverse.map V.str)) (g := gName 2) (vs := [2, 3]) (σ := [some (.ref a), some (.str n), none, none]) (fun i H3 => Same H2 H3 ∧ H3 D = some (.lst ((fldsL cs (l.reverse.take i)).map V.str))) ⟨new_same hD, upd_same⟩ (fun i H3 _ h => SqL.same h.1 (SqL.of g2)) ?_ ?_
    · rintro i x H3 H4 hi ⟨s3, gD⟩ ⟨rfl, hx⟩
      obtain ⟨rfl, hm2⟩ := get_str hx
      have he : l.reverse[i]? = some (l.reverse.getD i "") := by
        have hlt : i < l.reverse.length := by rw [List.length_map] at hi; exact hi
        simp only [List.getD, List.getElem?_eq_getElem hlt, Option.getD_some]
      have hin2 := ok.mem n l hl _ (List.mem_reverse.mp hm2)
      obtain ⟨k, hk⟩ := kd_some hin2
      obtain ⟨dx3, fs3, N3, Tb3, us3, L3⟩ := hL.a.same (s2.trans s3)
      obtain ⟨v, ev, ov⟩ := (tab_look L3.ov).2 k hk
      have hg := DGet.k (k := .inr (l.reverse.getD i "")) L3.gT
      rw [ev] at hg
      obtain ⟨b, bx, bs, vb, vf, vm, vw, xs, rfl, KA⟩ := kO_get ov
      refine ⟨rfl, yes_of ⟨_, rfl, a, CL, dx3, fs3, .ref Tb3, rfl, L3.ins, M.cls, M.no _ (by simp), L3.tb, _, rfl, Tb3, _, rfl, hg, b, C 2, bx, bs, .ref vf, rfl, KA.ins, M.X.cls 2 (by decide), M.X.no 2 (by decide) _ (by decide), KA.fl, vf, rfl, ⟨_, KA.sf⟩, ?_⟩⟩
      have ef : fldsL cs (l.reverse.take (i + 1)) = fldsL cs (l.reverse.take i) ++ k.fields := by rw [take_snoc he, fldsL_snoc, hk]; rfl
      refine walk_it (walk_tup (xs := k.fields.map V.str)) (g := gName 3) (vs := [3]) (σ := [some (.ref a), some (.str n), some (.str (l.reverse.getD i "")), none]) (fun j H5 => Same H2 H5 ∧ KeepB D H4 H5 ∧ H5 D = some (.lst ((fldsL cs (l.reverse.take i) ++ k.fields.take j).map V.str))) ⟨s3, fun _ _ _ z => z, by rw [List.take_zero, List.append_nil]; exact gD⟩ (fun j H5 _ h => SqT.keepB gD h.2.1 KA.sf) ?_ ?_
      · rintro j y H5 H6 hj ⟨s5, k5, gD5⟩ ⟨rfl, hy⟩
        obtain ⟨t, et, rfl⟩ : ∃ t, k.fields[j]? = some t ∧ y = V.str t := by
          rw [List.getElem?_map] at hy
          cases e : k.fields[j]? with
          | none => rw [e] at hy; cases hy
          | some t => rw [e] at hy; exact ⟨t, rfl, (Option.some.inj hy).symm⟩
        refine ⟨rfl, yes_of ⟨_, rfl, _, gD5, small1000 ?_, same_D hD s5, k5.trans KeepB.at, ?_⟩⟩
        · rw [List.length_map, List.length_append, List.length_take]
          have h1 := len i
          have h2 := ok.fs k (kd_name hk).2
          omega
        · rw [upd_same, take_snoc et]
          simp only [List.map_append, List.append_assoc]
          rfl
      · rintro H5 ⟨s5, k5, gD5⟩
        rw [List.length_map, List.take_length] at gD5
        exact ⟨s5, by rw [ef]; exact gD5⟩
    · rintro H3 ⟨s3, gD⟩
      rw [List.length_map, List.take_length] at gD
      refine q D H3 ?_ (s2.trans s3) ?_
      · exact Same.free s2 hD
      · rw [gD]
        unfold fldsOf
        rw [hl]
        rfl
end

end Kx
set_option linter.all false
namespace Kx
open PySem L2 PySem.Spec PyProof.Rows
abbrev sTO : Stmt := top 42
abbrev nTO : List Str := ["library", "name", "kind", "field"]
theorem scTO : FnScope nTO ["library", "name", "kind"] (defScope sTO) := ⟨rfl, rfl, rfl, by decide +kernel, rfl, by decide +kernel, by decide +kernel⟩
def termsO (cs : List KD) (o : Ord) (nm kind : Str) : List Str := if kind = "int" then [nm] else (fldsOf cs o kind).map fun t => (nm ++ ".") ++ t
theorem str_len (x y : Str) : (x ++ y).length = x.length + y.length := Array.size_append
theorem small1000'' {n : Nat} (h : n ≤ 3001) : n ≤ sizeLine := Nat.le_of_lt (small1000' h)
def wr (k : KD) (n : Str) : Option MD := k.methods.find? fun m => decide (m.name = n)
def spWri (K : PySem.W.Frag) (C f : Nat → Addr) : Sp := fun vs H Q _ => ∃ (v : V) (k : KD) (n : Str), vs = [v, .str n] ∧ Oh K (clk C f) H (kO k) v ∧ (wr k n = none → Q .non H) ∧ ∀ m u, wr k n = some m → Oh K (clk C f) H (mO m) u → Q u H
def mnames (cs : List KD) (l : List Str) : List Str := l.flatMap fun e => ((kd cs e).map fun k => k.methods.map (·.name)).getD []
theorem mnames_snoc {cs : List KD} {l : List Str} {e : Str} : mnames cs (l ++ [e]) = mnames cs l ++ ((kd cs e).map fun k => k.methods.map (·.name)).getD [] := by
  unfold mnames
  rw [List.flatMap_append]
  simp
def spMo (K : PySem.W.Frag) (C f : Nat → Addr) (CL : Addr) : Sp := fun vs H Q _ => ∃ (a : Addr) (cs : List KD) (ns : List Str) (o : Ord) (n : Str) (l : List Str), vs = [.ref a, .str n] ∧ LibO K C f CL H a cs ns o ∧ n ∈ cs.map (·.name) ∧ Lok cs o ∧ o n = some l ∧
  ∀ ys L H', sortedS ys = true → ys.Nodup → (∀ x, x ∈ ys ↔ x ∈ mnames cs l) → ys.length ≤ 60 → H L = none → Same H H' → H' L = some (.lst (ys.map V.str)) → Q (.ref L) H'
def hasM (cs : List KD) (m e : Str) : Bool := ((kd cs e).bind fun k => wr k m).isSome
def spWo (K : PySem.W.Frag) (C f : Nat → Addr) (CL : Addr) : Sp := fun vs H Q _ => ∃ (a : Addr) (cs : List KD) (ns : List Str) (o : Ord) (n m : Str) (l : List Str) (e : Str), vs = [.ref a, .str n, .str m] ∧ LibO K C f CL H a cs ns o ∧ n ∈ cs.map (·.name) ∧ Lok cs o ∧ o n = some l ∧ l.find? (hasM cs m) = some e ∧ ∀ H', Same H H' → Q (.str e) H'
def spTO (K : PySem.W.Frag) (C f : Nat → Addr) (CL : Addr) : Sp := fun vs H Q _ => ∃ (a : Addr) (cs : List KD) (ns : List Str) (o : Ord) (nm kind : Str), vs = [.ref a, .str nm, .str kind] ∧ LibO K C f CL H a cs ns o ∧ (kind = "int" ∨ kind ∈ cs.map (·.name)) ∧ Lok cs o ∧ nm.length ≤ 1000 ∧
  ∀ L H', H L = none → Same H H' → H' L = some (.lst ((termsO cs o nm kind).map V.str)) → Q (.ref L) H'
section
variable {P : Program} {w : World} {K : PySem.W.Frag} {mg : Str → Option Value} {base : Heap} {C f : Nat → Addr} {CL : Addr}
theorem SqT.keepX {H H' : Hp} {p a : Addr} {z : List Str} {xs : List V} (hp : H p = some (SetX P w p z)) (k : KeepB p H H') (h : SqT K H a xs) : SqT K H' a xs := by
  rcases h with (h | ⟨o, h⟩) | h
  · exact .inl (.inl (k _ _ (fun e => by rw [e, hp] at h; cases h) h))
  · exact .inl (.inr ⟨o, k _ _ (fun e => by rw [e, hp] at h; cases h) h⟩)
  · exact .inr h
theorem ok_wri {g : Addr} {fd : FuncData} (F : Fs K mg "written" sWri ["classdef", "name"] g fd) (M : Lm K mg C f CL) : FnOk P w K mg base CX0 1 g fd ["classdef", "name"] (spWri K C f) := by
  refine F.F.ok scWri (fun vs H Q E h => ?_) (fun cdv A outer s H vs Q E hr h => ?_)
  · obtain ⟨_, _, _, rfl, _⟩ := h
    rfl
  · obtain ⟨v, k, n, rfl, ov, q0, q1⟩ := h
    obtain ⟨b, bx, bs, vb, vf, vm, vw, xs, rfl, KA⟩ := kO_get ov
    refine ⟨_, (pss_cons (ps_for PassesOwn.never rfl (pi_tup (pe_fld (pv 0) (by rfl))) (pg_name (i := 2) scWri.nd rfl (Or.inl rfl)) (pss_one (ps_if (pt_cmpR op_eq (pe_fld (pv 2) (by rfl)) (pv 1) (nomark _)) (pss_one (ps_ret (pv 2))) pss_nil))) (pss_one (ps_ret pe_non))), ?_⟩
    refine ⟨_, rfl, b, C 2, bx, bs, .ref vm, rfl, KA.ins, M.X.cls 2 (by decide), M.X.no 2 (by decide) _ (by decide), KA.m, vm, rfl, ⟨_, KA.sm⟩, for_tup (K := K) (a := vm) (xs := xs) (fun i σ H' => ∃ v1, σ = [some (.ref b), some (.str n), v1] ∧ H' = H ∧ ∀ j m, j < i → k.methods[j]? = some m → m.name ≠ n) ⟨none, rfl, rfl, fun j _ z => absurd z (Nat.not_lt_zero _)⟩ (fun i σ H' _ ⟨_, _, e, _⟩ => by rw [e]; exact KA.sm) ?_ ?_⟩
    · rintro i x σ H' hi ⟨v1, rfl, rfl, hb⟩
      obtain ⟨d, hd, od⟩ := ohAll_get _ _ _ _ KA.om hi
      rw [List.getElem?_map] at hd
      obtain ⟨m, em, rfl⟩ := Option.map_eq_some_iff.mp hd
      obtain ⟨ma, mx, ms, vp, ps, v1', v2', vb', rfl, MA⟩ := mO_get od
      refine ⟨_, rfl, ma, C 1, mx, ms, .str m.name, rfl, MA.ins, M.X.cls 1 (by decide), M.X.no 1 (by decide) _ (by decide), MA.nm, _, rfl, rfl, _, rfl, ?_⟩
      by_cases z : m.name = n
      · rw [decide_eq_true (by rw [z])]
        refine iteT ⟨_, rfl, q1 m _ ?_ od⟩
        unfold wr
        rw [List.find?_eq_some_iff_getElem]
        obtain ⟨hlt, eg⟩ := List.getElem?_eq_some_iff.mp em
        refine ⟨decide_eq_true z, i, hlt, eg, fun j hj => ?_⟩
        have hj2 : j < k.methods.length := by omega
        have := hb j _ hj (List.getElem?_eq_getElem hj2)
        simpa using this
      · rw [decide_eq_false (fun y => z (by injection y))]
        refine iteF ⟨_, rfl, rfl, fun j m2 hj e => ?_⟩
        by_cases y : j = i
        · subst y; rw [em] at e; cases e; exact z
        · exact hb j m2 (by omega) e
    · rintro σ H' ⟨v1, rfl, rfl, hb⟩
      refine q0 ?_
      unfold wr
      rw [List.find?_eq_none]
      intro m hm
      obtain ⟨j, hj, e⟩ := List.getElem_of_mem hm
      have hl : xs.length = k.methods.length := by rw [← OhAll.length _ _ KA.om, List.length_map]
      have := hb j m (by omega) (by rw [List.getElem?_eq_getElem hj, e])
      simpa using this
theorem lok_len {cs : List KD} {o : Ord} (ok : Lok cs o) : ∀ (l : List Str), (mnames cs l).length ≤ 3 * l.length
  | [] => Nat.le_refl _
  | e :: l => by
    have := lok_len ok l
    have h3 : (((kd cs e).map fun k => k.methods.map (·.name)).getD []).length ≤ 3 := by
      cases hk : kd cs e with
      | none => exact Nat.zero_le _
      | some k => show (k.methods.map (·.name)).length ≤ 3; rw [List.length_map]; exact ok.ms k (kd_name hk).2
    show ((((kd cs e).map fun k => k.methods.map (·.name)).getD []) ++ mnames cs l).length ≤ _
    rw [List.length_append, List.length_cons]
    omega
theorem ok_mo {g : Addr} {fd : FuncData} (F : Fun K "methods_of" "Library.methods_of" sMo g fd) (M : Lm K mg C f CL) : FnOk P w K mg base CX0 3 g fd ["self", "name"] (spMo K C f CL) := by
  have T := M.T
  obtain ⟨go, fdo, mo, Fo, bo⟩ := M.od
  have GO : FnOk P w K mg base CX0 2 go fdo ["self", "name"] (spOd K C f CL) := ok_od Fo M
  refine F.ok scMo (fun vs H Q E h => ?_) (fun cdv A outer s H vs Q E hr h => ?_)
  · obtain ⟨_, _, _, _, _, _, rfl, _⟩ := h
    rfl
  · obtain ⟨a, cs, ns, o, n, l, rfl, hL, hm, ok, hl, q⟩ := h
    have hu := hu_of hr
    obtain ⟨dx, fs, N, Tb, us, O, ns', L, eO, gO, hin⟩ := id hL
    have lok := ok.few n l hl
    have bound : (64 : Nat) < scanBound := by decide
    refine ⟨_, (pss_one (ps_ret (pe_callB (cr_sortedX rfl) (by rfl) T.sorted (by decide +kernel) (pa_cons (pe_sc2 (own := [("each", 2), ("method", 3)]) (vs1 := [3]) rfl scMo.nd (pi_list (pe_meth (pv 0) M.cls mo GO hr bo .nil pass0 (pa_cons (pv 1) pa_nil))) (blkOk_by (N := nMo) (sc := defScope sMo) (by decide +kernel)) (by decide) (fun _ _ _ _ _ => (pg_name (i := 2) scMo.nd rfl (Or.inl rfl))) (fun _ _ _ _ _ => pts_nil) (fun _ _ _ _ _ => (pi_tupK (K := K) rfl (pe_fldK (K := K) rfl (pe_dget hu (pe_fldK (K := K) rfl (pv 0) (by rfl)) (pv 2) (fun _ _ => rfl)) (by rfl)))) (fun _ _ _ _ _ => (pg_name (i := 3) scMo.nd rfl (Or.inl rfl))) (fun _ _ _ _ _ => pts_nil) (fun _ _ _ _ _ => (pe_fldK (K := K) rfl (pv 3) (by rfl)))) pa_nil)))), ?_⟩
    refine ⟨_, rfl, a, dx, fs, rfl, L.ins, L.no _ (by decide +kernel), _, rfl, a, cs, ns, o, n, l, rfl, hL, hm, hl, fun L1 H1 f1 s1 g1 => ?_⟩
    refine ⟨L1, rfl, ⟨_, SqL.of g1⟩, fun D hD => ?_⟩
    refine walk_it (walk_list (xs := l.map V.str)) (g := gName 2) (vs := [2, 3]) (σ := [some (.ref a), some (.str n), none, none]) (fun i H3 => Same H1 H3 ∧ ∃ z, H3 D = some (SetX P w D z) ∧ Col z (mnames cs (l.take i)) (3 * i)) ⟨new_same hD, [], upd_same, Col.nil⟩ (fun i H3 _ h => SqL.same h.1 (SqL.of g1)) ?_ ?_
    · rintro i x H3 H4 hi ⟨s3, z, gD, hC⟩ ⟨rfl, hx⟩
      obtain ⟨rfl, hm2⟩ := get_str hx
      have hi2 : i < l.length := by rw [List.length_map] at hi; exact hi
      have he : l[i]? = some (l.getD i "") := by simp only [List.getD, List.getElem?_eq_getElem hi2, Option.getD_some]
      have hin2 := ok.mem n l hl _ hm2
      obtain ⟨k, hk⟩ := kd_some hin2
      obtain ⟨dx3, fs3, N3, Tb3, us3, L3⟩ := hL.a.same (s1.trans s3)
      obtain ⟨v, ev, ov⟩ := (tab_look L3.ov).2 k hk
      have hg := DGet.k (k := .inr (l.getD i "")) L3.gT
      rw [ev] at hg
      obtain ⟨b, bx, bs, vb, vf, vm, vw, xs, rfl, KA⟩ := kO_get ov
      have ek := (kd_name hk).2
      have hms := ok.ms k ek
      have hxl : xs.length = k.methods.length := by rw [← OhAll.length _ _ KA.om, List.length_map]
      refine ⟨rfl, yes_of ⟨_, rfl, a, CL, dx3, fs3, .ref Tb3, rfl, L3.ins, M.cls, M.no _ (by simp), L3.tb, _, rfl, Tb3, _, rfl, hg, b, C 2, bx, bs, .ref vm, rfl, KA.ins, M.X.cls 2 (by decide), M.X.no 2 (by decide) _ (by decide), KA.m, vm, rfl, ⟨_, KA.sm⟩, ?_⟩⟩
      have ef : mnames cs (l.take (i + 1)) = mnames cs (l.take i) ++ k.methods.map (·.name) := by rw [take_snoc he, mnames_snoc, hk]; rfl
      refine walk_it (walk_tup (xs := xs)) (g := gName 3) (vs := [3]) (σ := [some (.ref a), some (.str n), some (.str (l.getD i "")), none]) (fun j H5 => Same H1 H5 ∧ KeepB D H4 H5 ∧ ∃ z, H5 D = some (SetX P w D z) ∧ Col z (mnames cs (l.take i) ++ (k.methods.take j).map (·.name)) (3 * i + j)) ⟨s3, fun _ _ _ z => z, z, gD, by rw [List.take_zero, List.map_nil, List.append_nil]; exact hC⟩ (fun j H5 _ h => SqT.keepX gD h.2.1 KA.sm) ?_ ?_
      · rintro j y H5 H6 hj ⟨s5, k5, z5, gD5, hC5⟩ ⟨rfl, hy⟩
        obtain ⟨d, hd, od⟩ := ohAll_get _ _ _ _ KA.om hy
        rw [List.getElem?_map] at hd
        obtain ⟨m, em, rfl⟩ := Option.map_eq_some_iff.mp hd
        obtain ⟨ma, mx, ms, vp, ps, v1', v2', vb', rfl, MA⟩ := mO_get od
        have hne : ma ≠ D := fun z => by
          have := MA.ins
          rw [z, gD] at this
          cases this
        refine ⟨rfl, yes_of ⟨_, rfl, ma, C 1, mx, ms, .str m.name, rfl, k5 _ _ hne MA.ins, M.X.cls 1 (by decide), M.X.no 1 (by decide) _ (by decide), MA.nm, z5, m.name, rfl, gD5, ?_, same_D hD s5, k5.trans KeepB.at, _, upd_same, ?_⟩⟩
        · have := hC5.len
          omega
        · refine (hC5.put (k := m.name)).same ?_
          rw [take_snoc em]
          simp only [List.map_append, List.append_assoc]
          rfl
      · rintro H5 ⟨s5, k5, z5, gD5, hC5⟩
        rw [hxl, List.take_length] at hC5
        exact ⟨s5, z5, gD5, (hC5.same ef.symm).more (by omega)⟩
    · rintro H3 ⟨s3, z, gD, hC⟩
      rw [List.length_map, List.take_length] at hC
      have hlen := hC.len
      refine ⟨D, z, rfl, gD, by omega, fun ys p3 hso hpm hp3 => ?_⟩
      refine q ys p3 _ hso (hpm.nodup_iff.mpr hC.nd) (fun t => hpm.mem_iff.trans (hC.mem t)) (by rw [hpm.length_eq]; omega) (Same.free (s1.trans s3) hp3) ((s1.trans s3).trans (new_same hp3)) upd_same
theorem ok_wo {g : Addr} {fd : FuncData} (F : Fun K "writer_of" "Library.writer_of" sWo g fd) (M : Lm K mg C f CL) : FnOk P w K mg base CX0 3 g fd ["self", "name", "method"] (spWo K C f CL) := by
  obtain ⟨go, fdo, mo, Fo, bo⟩ := M.od
  have GO : FnOk P w K mg base CX0 2 go fdo ["self", "name"] (spOd K C f CL) := ok_od Fo M
  obtain ⟨gw, fdw, dWr⟩ := M.wri
  have GWr : FnOk P w K mg base CX0 1 gw fdw ["classdef", "name"] (spWri K C f) := ok_wri dWr M
  refine F.ok scWo (fun vs H Q E h => ?_) (fun cdv A outer s H vs Q E hr h => ?_)
  · obtain ⟨_, _, _, _, _, _, _, _, rfl, _⟩ := h
    rfl
  · obtain ⟨a, cs, ns, o, n, m, l, e, rfl, hL, hm, ok, hl, he, q⟩ := h
    have hu := hu_of hr
    have hr1 : Room 1 (A.deeper (envOfC "Library.writer_of" (defScope sWo) s.heap.objs.size g cdv)) := hr.mono (by decide)
    obtain ⟨dx, fs, N, Tb, us, O, ns', L, eO, gO, hin⟩ := id hL
    rw [List.find?_eq_some_iff_getElem] at he
    obtain ⟨hhas, i0, hi0, ei0, hbef⟩ := he
    refine ⟨_, (pss_cons (ps_for PassesOwn.never rfl (pi_list (pe_meth (pv 0) M.cls mo GO hr bo .nil pass0 (pa_cons (pv 1) pa_nil))) (pg_name (i := 3) scWo.nd rfl (Or.inl rfl)) (pss_one (ps_if (pt_cmpR op_notN (pe_call GWr hr1 (by rfl) dWr.m dWr.F.kp dWr.b .nil pass0 (pa_cons (pe_dget hu (pe_fld (pv 0) (by rfl)) (pv 3) (fun _ _ => rfl)) (pa_cons (pv 2) pa_nil))) pe_non (nomark _)) (pss_one (ps_ret (pv 3))) pss_nil))) (pss_one ps_dead)), ?_⟩
    refine ⟨_, rfl, a, dx, fs, rfl, L.ins, L.no _ (by decide +kernel), _, rfl, a, cs, ns, o, n, l, rfl, hL, hm, hl, fun L1 H1 f1 s1 g1 => ?_⟩
    refine ⟨L1, rfl, ⟨_, SqL.of g1⟩, for_list (K := K) (a := L1) (xs := l.map V.str) (fun i σ H' => ∃ v, σ = [some (.ref a), some (.str n), some (.str m), v] ∧ Same H1 H' ∧ i ≤ i0) ⟨none, rfl, fun _ _ z => z, Nat.zero_le _⟩ (fun i σ H' _ ⟨_, _, s, _⟩ => SqL.same s (SqL.of g1)) ?_ ?_⟩
    · rintro i x σ H3 hi ⟨v0, rfl, s3, hle⟩
      obtain ⟨rfl, hm2⟩ := get_str hi
      have hi2 : i < l.length := by
        have := (List.getElem?_eq_some_iff.mp hi).1
        rwa [List.length_map] at this
      have egd : l.getD i "" = l[i] := by simp [List.getD, hi2]
      have hin2 := ok.mem n l hl _ hm2
      obtain ⟨k, hk⟩ := kd_some hin2
      obtain ⟨dx3, fs3, N3, Tb3, us3, L3⟩ := hL.a.same (s1.trans s3)
      obtain ⟨v, ev, ov⟩ := (tab_look L3.ov).2 k hk
      have hg := DGet.k (k := .inr (l.getD i "")) L3.gT
      rw [ev] at hg
      have ehas : hasM cs m (l.getD i "") = (wr k m).isSome := by unfold hasM; rw [hk]; rfl
      refine ⟨_, rfl, a, CL, dx3, fs3, .ref Tb3, rfl, L3.ins, M.cls, M.no _ (by simp), L3.tb, _, rfl, Tb3, _, rfl, hg, _, rfl, v, k, m, rfl, ov, fun hw => ?_, fun md u hw ou => ?_⟩
      · refine ⟨rfl, _, rfl, iteF ⟨_, rfl, s3, ?_⟩⟩
        by_cases y : i = i0
        · subst y
          rw [← ei0, ← egd, ehas, hw] at hhas
          cases hhas
        · omega
      · refine ⟨rfl, _, rfl, ?_⟩
        obtain ⟨ma, _, _, _, _, _, _, _, rfl, _⟩ := mO_get ou
        refine iteT ⟨_, rfl, ?_⟩
        have : i = i0 := by
          by_cases y : i = i0
          · exact y
          · have := hbef i (by omega)
            rw [← egd, ehas, hw] at this
            cases this
        subst this
        have := q H3 (s1.trans s3)
        rw [← ei0, ← egd] at this
        exact this
    · rintro σ H' ⟨v, rfl, s3, hle⟩
      rw [List.length_map] at hle
      omega
theorem ok_to {g : Addr} {fd : FuncData} (F : Fs K mg "terms_of" sTO ["library", "name", "kind"] g fd) (M : Lm K mg C f CL) : FnOk P w K mg base CX0 4 g fd ["library", "name", "kind"] (spTO K C f CL) := by
  obtain ⟨gf, fdf, mf, Ff, bf⟩ := M.fl
  have GF : FnOk P w K mg base CX0 3 gf fdf ["self", "name"] (spFl K C f CL) := ok_fl Ff M
  refine F.F.ok scTO (fun vs H Q E h => ?_) (fun cdv A outer s H vs Q E hr h => ?_)
  · obtain ⟨_, _, _, _, _, _, rfl, _⟩ := h
    rfl
  · obtain ⟨a, cs, ns, o, nm, kind, rfl, hL, hk, ok, hnl, q⟩ := h
    obtain ⟨dx, fs, N, Tb, us, O, ns', L, eO, gO, hin⟩ := id hL
    refine ⟨_, (pss_cons (ps_if (pt_cmpR op_eq (pv 2) pe_str (nomark _)) (pss_one (ps_ret (pe_lst (pa_cons (pv 1) pa_nil)))) pss_nil) (pss_one (ps_ret (pe_lc (own := [("field", 3)]) (g := gName 3) (tt := tYes) rfl scTO.nd (pi_list (pe_meth (pv 0) M.cls mf GF hr bf .nil pass0 (pa_cons (pv 2) pa_nil))) (blkOk_by (N := nTO) (sc := defScope sTO) (by decide +kernel)) (fun _ _ _ _ _ => (pg_name (i := 3) scTO.nd rfl (Or.inl rfl))) (fun _ _ _ _ _ => pts_nil) (fun _ _ _ _ _ => (pe_op op_add_str (pe_op op_add_str (pv 1) pe_str) (pv 3))))))), ?_⟩
    refine ⟨_, rfl, rfl, _, rfl, ?_⟩
    by_cases z : kind = "int"
    · rw [decide_eq_true (by rw [z])]
      refine iteT ⟨_, rfl, le_sz (Nat.le_of_ble_eq_true rfl), fun p hp => ?_⟩
      exact q p _ hp (new_same hp) (by rw [upd_same]; unfold termsO; rw [if_pos z]; rfl)
    · rw [decide_eq_false (fun y => z (by injection y))]
      have hm := hk.resolve_left z
      obtain ⟨l, hl⟩ := ok.all kind hm
      refine iteF ⟨_, rfl, a, dx, fs, rfl, L.ins, L.no _ (by decide +kernel), _, rfl, a, cs, ns, o, kind, rfl, hL, hm, ok, fun L1 H1 f1 s1 g1 => ?_⟩
      have hfl : ∀ t ∈ fldsOf cs o kind, t.length ≤ 1000 := fun t ht => by
        unfold fldsOf fldsL at ht
        obtain ⟨e, _, ht⟩ := List.mem_flatMap.mp ht
        cases ek : kd cs e with
        | none => rw [ek] at ht; cases ht
        | some k => rw [ek] at ht; exact ok.flt k (kd_name ek).2 t ht
      have hlen : (fldsOf cs o kind).length ≤ 60 := by
        have h1 := fldsL_len ok.fs ((o kind).getD []).reverse
        have h2 := ok.few kind l hl
        rw [List.length_reverse, hl] at h1
        have : (some l).getD [] = l := rfl
        rw [this] at h1
        have h3 : 3 * l.length ≤ 60 := by omega
        exact Nat.le_trans (show (fldsOf cs o kind).length ≤ 3 * l.length by unfold fldsOf; rw [hl]; exact h1) h3
      refine ⟨L1, rfl, ⟨_, SqL.of g1⟩, fun D hD => ?_⟩
      refine lc_map (walk_list (xs := (fldsOf cs o kind).map V.str)) (g := gName 3) (vs := [3]) (σ := [some (.ref a), some (.str nm), some (.str kind), none]) (fun i => .str ((nm ++ ".") ++ (fldsOf cs o kind).getD i "")) hD (by rw [List.length_map]; omega) (fun H' s' => SqL.same s' (SqL.of g1)) (fun i x H2 H3 R hi s2 ⟨e1, hx⟩ k => ?_) fun H2 s2 gD => ?_
      · subst e1
        obtain ⟨rfl, hm2⟩ := get_str hx
        have h1 := hfl _ hm2
        refine ⟨rfl, _, rfl, _, _, rfl, rfl, small1000'' (by have : ("." : Str).length = 1 := rfl; omega), _, rfl, _, _, rfl, rfl, small1000'' (by rw [str_len]; have : ("." : Str).length = 1 := rfl; omega), k _ fun _ _ z => z⟩
      · rw [List.length_map, range_getD (fldsOf cs o kind) "" fun t => V.str ((nm ++ ".") ++ t)] at gD
        refine q D H2 (Same.free s1 hD) (s1.trans s2) ?_
        rw [gD]
        unfold termsO
        rw [if_neg z, List.map_map]
        rfl
end

end Kx
set_option linter.all false
namespace Kx
open PySem L2 PySem.Spec PyProof.Rows
/-! for word in D, D a dict that the module has written -/
structure KWalk (K : PySem.W.Frag) (d : Addr) (ks : List Str) (o : Obj) (es : Array DictEntry) (ep : Nat) : Prop where
  at_ : K.lookup d = some o
  ex : o.ExactDict
  dt : o.data = .dict es ep
  sz : es.size = ks.length
  low : (d == sysModules) = false
  key : ∀ (i : Nat) (k : Str), ks[i]? = some k → ∃ (en : DictEntry) (t : Tok), es[i]? = some en ∧ en.key = .str k t
def Itkd (ks : List Str) : It := ⟨fun i _ => i < ks.length, fun i H x H' => H' = H ∧ ∃ k, ks[i]? = some k ∧ x = .str k, fun i _ => ks.length ≤ i⟩
theorem turn_kd {P : Program} {w : World} {K : PySem.W.Frag} {tg : Expr} {d : Addr} {ks : List Str} {o : Obj} {es : Array DictEntry} {ep : Nat} (D : KWalk K d ks o es ep) (it : Addr) : Turn P w K tg (Itkd ks) [it] it (fun i h => h.IsKeyIter it d i ks.length ep) where
  mem := by simp
  obj := fun i h st b hb => by
    have e : b = it := by simpa using hb
    subst e
    obtain ⟨oi, e, c, dd⟩ := st
    exact ⟨oi, e, fun v z => by rw [dd] at z; cases z⟩
  keep := fun i h h' st k => st.at fun oi e => k it (by simp) oi e
  item := by
    intro X hP hw hK hc i pins s σ H E I hf st hi
    subst hP hw hK
    obtain ⟨f0, f1, f2, f3, f4, f5⟩ := hf it (by simp)
    have hgd := I.kIn _ _ D.at_
    obtain ⟨k, hk⟩ : ∃ k, ks[i]? = some k := ⟨ks[i], List.getElem?_eq_getElem hi⟩
    obtain ⟨en, t, he, ek⟩ := D.key i k hk
    refine next_key_item st hgd D.dt D.sz he fun h' st' sb => ?_
    have I1 : Inv X pins σ H { s with heap := h' } := I.turned (t' := s.toks) (fun b ob hb e => (sb.2 b hb).trans e) f0 f1 f3 f4 f5
    obtain ⟨oi, e, c, dd⟩ := id st'
    exact ⟨en.key, rfl, go_of (s := { s with heap := h' }) e c dd (by decide) ⟨.str k, H, I1, ⟨t, ek⟩, ⟨rfl, k, hk, rfl⟩, st', fun b hb => (hf b hb).1⟩⟩
  done := by
    intro X hP hw hK hc i pins s σ H E I hf st hi
    subst hP hw hK
    obtain ⟨f0, f1, f2, f3, f4, f5⟩ := hf it (by simp)
    have hgd := I.kIn _ _ D.at_
    exact next_key_end (I.ok.hd hc) st hgd D.dt D.sz hi fun h' eb => ⟨rfl, I.turned (t' := s.toks) (fun b ob hb e => eb b ob hb e) f0 f1 f3 f4 f5⟩
  self := fun A i s Q E st h => wpAny_pyIter_keyiter st h
def iKd (td : TE) (d : Addr) (ks : List Str) : TI := fun σ H R => td σ H fun x H1 => x = .ref d ∧ R (Itkd ks) H1
theorem pi_kd {X : Cx} {tg e : Expr} {td : TE} {d : Addr} {ks : List Str} {o : Obj} {es : Array DictEntry} {ep : Nat} (D : KWalk X.K d ks o es ep) (he : PE X e td) : PI X tg e (iKd td d ks) := by
  refine ⟨fun pins s σ H R I h => ?_⟩
  refine thn (he.run pins s σ H _ I h) fun u s1 ⟨x, H1, I1, rx, ex, q⟩ => ?_
  subst ex
  obtain rfl : u = Value.ref d := rx
  have hgd := I1.kIn _ _ D.at_
  refine iter_keys D.low hgd D.ex D.dt (pi_one (tk := s1.toks) I1 _ (turn_kd D _) ⟨_, Heap.get?_push_size _ rfl, rfl, ?_⟩ q)
  rw [D.sz] <;> rfl
theorem walk_kd {ks : List Str} : Walk (Itkd ks) ks.length (fun _ => True) (fun i H x H' => H' = H ∧ ∃ k, ks[i]? = some k ∧ x = .str k) :=
  ⟨fun i _ hi _ => hi, fun _ _ => Nat.le_refl _, fun _ _ _ _ _ _ y => y⟩
/-! y = {k: v for x in xs}, a statement of its own -/
theorem sw_dict {kx vx : Expr} {gs : List Comprehension} {scope : Scope} {pos py : Pos} {y : Str} {l : Nat} {env : Env} (h1 : env.scope.kind = .function) (h2 : env.scope.names.lookup y = some .local) (h3 : (py.line == pos.line) = true)
    (h4 : (scope.names.any fun (n, k) => n == y && (k == .local || k == .cell)) = false) : swapsWith (.DictComp kx vx gs scope pos) (some (.Name y py)) l env = pure true := by
  have k1 : env.kindOf y = some .local := h2
  have k2 : env.blockKind = .function := by
    unfold Env.blockKind
    rw [h1]
    rfl
  unfold swapsWith
  simp only [k2, k1, h4, Expr.pos, h3]
  rfl
section
variable {X : Cx}
theorem ps_setDc {i : Nat} {y : Str} {py : Pos} {kx vx tg iter : Expr} {ifs : List Expr} {scope : Scope} {own : List (Str × Nat)} {pos spos : Pos} {wi : TI} {g : TG} {tt : TT} {tk tv : TE} (calm : X.calm = true) (nd : X.N.Nodup) (at_ : X.N[i]? = some y) (loc : X.env.scope.names.lookup y = some .local)
    (sw : swapsWith (.DictComp kx vx [⟨tg, iter, ifs, 0⟩] scope pos) (some (.Name y py)) spos.line X.env = pure true) (hi : PI X tg iter wi) (ok : BlkOk X.N X.env.scope scope own)
    (pg : ∀ (s : Shared) (H : Hp) (C : Addr) (cl : List (Str × Addr)) (fp : List Addr), PG (X.blk s H scope (compEnvC scope cl C X.env) fp) tg g)
    (pt : ∀ (s : Shared) (H : Hp) (C : Addr) (cl : List (Str × Addr)) (fp : List Addr), PTs (X.blk s H scope (compEnvC scope cl C X.env) fp) ifs tt)
    (pk : ∀ (s : Shared) (H : Hp) (C : Addr) (cl : List (Str × Addr)) (fp : List Addr), PE (X.blk s H scope (compEnvC scope cl C X.env) fp) kx tk)
    (pv' : ∀ (s : Shared) (H : Hp) (C : Addr) (cl : List (Str × Addr)) (fp : List Addr), PE (X.blk s H scope (compEnvC scope cl C X.env) fp) vx tv)
    (fo : ∀ x, foldedSetIterable iter X.env x = pure x := by intro _; rfl) :
    PS X (.Assign [.Name y py] (.DictComp kx vx [⟨tg, iter, ifs, 0⟩] scope pos) spos) (tAsg (tDc wi g tt tk tv (own.map (·.2))) (gName i)) := by
  refine ⟨fun pins s σ H D I h => ?_⟩
  rw [exec_Assign_Name_used _ _ _ _ sw]
  refine wpAny_bind (wpAny_standAt (wpAny_bind ?_))
  show wpAny _ X.A (do let _ ← comprehension (.DictComp kx vx [⟨tg, iter, ifs, 0⟩] scope pos) scope X.env (firstIterPos [⟨tg, iter, ifs, 0⟩] pos) newDict false (eval iter X.env) (some (assign (.Name y py) X.env))) _ _ s
  have h : tDc wi g tt tk tv (own.map (·.2)) σ H (fun x H1 => gName i x σ H1 D.nx) := h
  refine wpAny_bind (thn (dc_core (Qf := fun _ s' => SP X pins D .next s') calm nd I hi ok pg pt pk pv' fo h fun L C s' m H' I' q hn fr => ?_) fun _ s' hq => wpAny_pure (wpAny_pure hq))
  show wpAny _ _ (assign (.Name y py) X.env (.ref L)) _ _ _
  refine wpAny_assign_Name (store_ok2 (v := V.ref L) I' nd at_ (.inl loc) rfl (fun s2 I2 ⟨a, sb, ha⟩ => ?_) (.inr loc))
  obtain ⟨e0, e1, e2, e3, e4, e5⟩ := fr
  have nCa : C ≠ a := by
    rcases ha with z | z
    · rw [z]; exact e1
    · exact fun e => e4 y a z e.symm
  refine ⟨m, hn.sameBut sb nCa, fun h3 sb3 => ?_⟩
  exact ⟨_, H', I2.turned (t' := s2.toks) (fun b o hb z => (sb3.2 b hb).trans z) e0 e1 e3 e4 e5, q⟩
end
end Kx
set_option linter.all false
namespace Kx
open PySem L2 PySem.Spec PyProof.Rows
abbrev sFNC : Stmt := top 109
abbrev nFNC : List Str := ["classes", "names", "at", "one"]
theorem scFNC : FnScope nFNC ["classes"] (defScope sFNC) := ⟨rfl, rfl, rfl, by decide +kernel, rfl, by decide +kernel, by decide +kernel⟩
abbrev sAC : Stmt := top 111
abbrev nAC : List Str := ["library", "bases", "base"]
theorem scAC : FnScope nAC ["library", "bases"] (defScope sAC) := ⟨rfl, rfl, rfl, by decide +kernel, rfl, by decide +kernel, by decide +kernel⟩
abbrev sWBs : Stmt := top 110
abbrev nWBs : List Str := ["library", "name", "bases"]
theorem scWBs : FnScope nWBs ["library"] (defScope sWBs) := ⟨rfl, rfl, rfl, by decide +kernel, rfl, by decide +kernel, by decide +kernel⟩
/-- what is known of the library's words -/
structure Gm (mg : Str → Option Value) : Prop where
  c30 : ∃ k, mg "MOST_CLASSES" = some (.int 30 k)
  b3 : ∃ k, mg "MOST_BASES" = some (.int 3 k)
  f3 : ∃ k, mg "MOST_FIELDS" = some (.int 3 k)
  m3 : ∃ k, mg "MOST_METHODS" = some (.int 3 k)
  p3 : ∃ k, mg "MOST_PARAMS" = some (.int 3 k)
structure Nm (K : PySem.W.Frag) (mg : Str → Option Value) : Prop where
  isN : ∃ f fd, Fs K mg "is_name" sIsN ["thing"] f fd
  areN : ∃ f fd, Fs K mg "are_names" sAreN ["things", "most"] f fd
  word : ∃ f fd, Fs K mg "is_word" sIsWord ["thing"] f fd
  no : ∃ NN, mg "NO_NAMES" = some (.ref NN) ∧ ∀ H, SqT K H NN (noNames.map V.str)
  set : mg "set" = none
theorem Nm.ga {P : Program} {w : World} {K : PySem.W.Frag} {mg : Str → Option Value} {base : Heap} (N : Nm K mg) (T : Bx mg) : ∃ f fd, Fs K mg "are_names" sAreN ["things", "most"] f fd ∧ FnOk P w K mg base CX0 3 f fd ["things", "most"] (spAreN K) := by
  obtain ⟨_, _, d1⟩ := N.isN
  obtain ⟨_, _, d2⟩ := N.areN
  obtain ⟨_, _, d3⟩ := N.word
  obtain ⟨_, h1, h2⟩ := N.no
  exact ⟨_, _, d2, ok_areN d2 d1 d3 T h1 h2 N.set⟩
theorem Nm.gn {P : Program} {w : World} {K : PySem.W.Frag} {mg : Str → Option Value} {base : Heap} (N : Nm K mg) (T : Bx mg) : ∃ f fd, Fs K mg "is_name" sIsN ["thing"] f fd ∧ FnOk P w K mg base CX0 2 f fd ["thing"] spIsN := by
  obtain ⟨_, _, d1⟩ := N.isN
  obtain ⟨_, _, d3⟩ := N.word
  obtain ⟨_, h1, h2⟩ := N.no
  exact ⟨_, _, d1, ok_isN d1 d3 T h1 h2⟩
/-- names that can stand -/
structure NamesOk (cs : List KD) : Prop where
  nd : (cs.map (·.name)).Nodup
  nm : ∀ k ∈ cs, isName k.name = true ∧ k.name.length ≤ 1000
  few : cs.length ≤ 30
def spFNC (K : PySem.W.Frag) (C f : Nat → Addr) : Sp := fun vs H Q _ => ∃ (a : Addr) (xs : List V) (cs : List KD), vs = [.ref a] ∧ SqT K H a xs ∧ OhAll K (clk C f) H (cs.map kO) xs ∧ NamesOk cs ∧ ∀ H', Same H H' → Q .non H'
/-- of a class: its bases, and that they are there -/
structure BasesOk (cs : List KD) (l : List Str) : Prop where
  nm : areN l 3 = true
  mem : ∀ b ∈ l, b ∈ cs.map (·.name)
  len : l.length ≤ 60
  sh : ∀ b ∈ l, b.length ≤ 1000
def spAC (K : PySem.W.Frag) (C f : Nat → Addr) (CL : Addr) : Sp := fun vs H Q _ => ∃ (a b : Addr) (cs : List KD) (ns l : List Str), vs = [.ref a, .ref b] ∧ LibA K C f CL H a cs ns ∧ SqT K H b (l.map V.str) ∧ BasesOk cs l ∧ ∀ H', Same H H' → Q (.bl true) H'
def bsOf (cs : List KD) (ns : List Str) : Bs := ns.map fun n => (n, ((kd cs n).map (·.bases)).getD [])
def spWB (K : PySem.W.Frag) (C f : Nat → Addr) (CL : Addr) : Sp := fun vs H Q _ => ∃ (a : Addr) (cs : List KD) (ns : List Str), vs = [.ref a] ∧ LibA K C f CL H a cs ns ∧ ns.Nodup ∧ ns.length ≤ 30 ∧ (∀ k ∈ cs, BasesOk cs k.bases) ∧ BsOk (bsOf cs ns) ∧ (∀ n, ¬ Up (bsOf cs ns) n n) ∧ ∀ H', Same H H' → Q .non H'
section
variable {P : Program} {w : World} {K : PySem.W.Frag} {mg : Str → Option Value} {base : Heap} {C f : Nat → Addr} {CL : Addr}
theorem le_sz' {n : Nat} (h : n < 100) : n < sizeLine := Nat.lt_of_lt_of_le h (le_sz (Nat.le_refl _))
theorem walk_enumT {a : Addr} {xs : List V} : Walk (IteT K a) xs.length (fun H => SqT K H a xs) (YPair (fun i => some (.int (i : Nat))) (fun i => xs[i]?)) := by
  refine ⟨fun i _ hi q => ⟨xs, xs[i], q, by simp [hi]⟩, fun _ q => ⟨xs, q, Nat.le_refl _⟩, fun i H v H' _ q y => ?_⟩
  obtain ⟨T, x, h1, h2, h3, h4⟩ := y
  exact ⟨T, .int (i : Nat), x, h1, h2, h3, rfl, h4 xs q⟩
theorem ok_fnc {g : Addr} {fd : FuncData} (F : Fs K mg "first_no_class" sFNC ["classes"] g fd) (M : Lm K mg C f CL) (G : Gm mg) (N : Nm K mg) (gC : mg "ClassDef" = some (.ref (C 2))) : FnOk P w K mg base CX0 3 g fd ["classes"] (spFNC K C f) := by
  have T := M.T
  obtain ⟨_, _, dN, GN⟩ := N.gn (P := P) (w := w) (base := base) T
  obtain ⟨k30, h30⟩ := G.c30
  refine F.F.ok scFNC (fun vs H Q E h => ?_) (fun cdv A outer s H vs Q E hr h => ?_)
  · obtain ⟨_, _, _, rfl, _⟩ := h
    rfl
  · obtain ⟨a, xs, cs, rfl, ha, ox, ok, q⟩ := h
    have hxl : xs.length = cs.length := by rw [← OhAll.length _ _ ox, List.length_map]
    refine ⟨_, (pss_cons (ps_set (i := 1) scFNC.nd rfl (Or.inl rfl) (pe_lst pa_nil)) (pss_cons (ps_for PassesOwn.never rfl (pi_enumT (by rfl) T.enum (pa_cons (pv 0) pa_nil)) (pg_tup rfl (pgs_cons (pg_name (i := 2) scFNC.nd rfl (Or.inl rfl)) (pgs_cons (pg_name (i := 3) scFNC.nd rfl (Or.inl rfl)) pgs_nil))) (pss_cons (ps_if (PW.pt (pw_or (pt_cmpR op_eq (pv 2) (pe_glob (v := .int 30) (by rfl) h30 ⟨_, rfl⟩) (nomark _)) (pw_or (pt_not (pt_val (pe_callB call_isi (by rfl) T.isi boot_isinstance (pa_cons (pv 3) (pa_cons (pe_glob (v := .ref (C 2)) (by rfl) gC rfl) pa_nil))))) (pw_or (pt_not (pt_val (pe_call GN hr (by rfl) dN.m dN.F.kp dN.b .nil pass0 (pa_cons (pe_fld (pv 3) (by rfl)) pa_nil)))) (pw_or1 (pt_cmpR op_in_seq (pe_fld (pv 3) (by rfl)) (pv 1) (by with_unfolding_all rfl))))))) (pss_one (ps_ret (pv 2))) pss_nil) (pss_one (ps_expr (pe_bm PySem.F.plainAttrs_list PySem.F.slot_list_append PySem.F.type_list_append mt_append (pv 1) (pa_cons (pe_fld (pv 3) (by rfl)) pa_nil)))))) (pss_one (ps_ret pe_non)))), ?_⟩
    refine ⟨le_sz (Nat.le_of_ble_eq_true rfl), fun L hL => ?_⟩
    have s1 := new_same (o := .lst []) hL
    have gL : (upd H L (.lst [])) L = some (.lst []) := upd_same
    obtain ⟨H1, e1⟩ : ∃ G, upd H L (.lst []) = G := ⟨_, rfl⟩
    rw [e1] at s1 gL ⊢
    refine ⟨_, rfl, a, _, rfl, SqT.same s1 ha, for_it walk_enumT (fun i σ H2 => ∃ v1 v2, σ = [some (.ref a), some (.ref L), v1, v2] ∧ Same H H2 ∧ H2 L = some (.lst (((cs.take i).map (·.name)).map V.str))) ⟨none, none, rfl, s1, gL⟩ (fun i σ H2 _ ⟨_, _, _, s, _⟩ => SqT.same s ha) ?_ ?_⟩
    · rintro i x σ H2 H3 hi ⟨v1, v2, rfl, s2, g2⟩ ⟨t, y1, y, rfl, ht, rfl, e5, hy⟩
      injection e5 with e5
      subst e5
      obtain ⟨d, hd, od⟩ := ohAll_get _ _ _ _ ox hy
      rw [List.getElem?_map] at hd
      obtain ⟨k, ek, rfl⟩ := Option.map_eq_some_iff.mp hd
      have hk : k ∈ cs := List.mem_of_getElem? ek
      obtain ⟨kn, kl⟩ := ok.nm k hk
      have s3 : Same H2 (upd H2 t (.tup [.int (i : Nat), y])) := new_same ht
      have s23 := s2.trans s3
      have g3 := s3 _ _ g2
      have od3 := Oh.sm s23 od
      refine ⟨t, _, rfl, SqT.of upd_same, rfl, _, _, rfl, _, _, rfl, rfl, ?_⟩
      obtain ⟨H3, e3⟩ : ∃ G, upd H2 t (.tup [.int (i : Nat), y]) = G := ⟨_, rfl⟩
      rw [e3] at s3 s23 g3 od3 ⊢
      obtain ⟨b, bx, bs, vb, vf, vm, vw, ys, rfl, KA⟩ := kO_get od3
      have hi30 : i < 30 := by have := ok.few; omega
      refine ⟨_, rfl, rfl, _, rfl, ?_⟩
      rw [decide_eq_false (fun z => by injection z with z; omega)]
      refine iteF ?_
      refine ⟨_, rfl, .ref b, .ref (C 2), _, _, true, rfl, .own _, M.X.KT.ty 2 (by decide) _ b bx bs KA.ins, kitS, true, rfl, iteF ?_⟩
      refine ⟨_, rfl, b, C 2, bx, bs, _, rfl, KA.ins, M.X.cls 2 (by decide), M.X.no 2 (by decide) _ (by decide), KA.nm, k.name, rfl, kl, fun H4 s4 => ?_⟩
      rw [kn]
      refine ⟨_, rfl, iteF ?_⟩
      have g4 := s4 _ _ g3
      refine ⟨_, rfl, b, C 2, bx, bs, _, rfl, s4 _ _ KA.ins, M.X.cls 2 (by decide), M.X.no 2 (by decide) _ (by decide), KA.nm, _, rfl, L, _, rfl, .inl (SqL.of g4), rfl, flat_strs _, _, rfl, ?_⟩
      rw [inV_str]
      have nin : k.name ∉ (cs.take i).map (·.name) := by
        intro z
        obtain ⟨k2, hk2, e⟩ := List.mem_map.mp z
        obtain ⟨j, hj, ej⟩ := List.getElem_of_mem hk2
        rw [List.length_take] at hj
        rw [List.getElem_take] at ej
        have hi2 : i < cs.length := by omega
        have hnd := List.pairwise_iff_getElem.mp ok.nd j i (by rw [List.length_map]; omega) (by rw [List.length_map]; exact hi2) (by omega)
        refine hnd ?_
        rw [List.getElem_map, List.getElem_map, ej, e]
        have : cs[i] = k := by rw [List.getElem?_eq_getElem hi2] at ek; exact Option.some.inj ek
        rw [this]
      rw [decide_eq_false nin]
      refine iteF ?_
      refine ⟨_, rfl, .inl ⟨rfl, _, SqL.of g4⟩, _, rfl, b, C 2, bx, bs, _, rfl, s4 _ _ KA.ins, M.X.cls 2 (by decide), M.X.no 2 (by decide) _ (by decide), KA.nm, L, _, _, rfl, rfl, g4, le_sz' (by rw [List.length_map, List.length_map, List.length_take]; omega), ?_⟩
      refine ⟨_, _, rfl, same_D hL (s23.trans s4), ?_⟩
      rw [upd_same, take_snoc ek]
      simp only [List.map_append]
      rfl
    · rintro σ H2 ⟨v1, v2, rfl, s2, g2⟩
      exact q H2 s2
theorem ok_ac {g : Addr} {fd : FuncData} (F : Fs K mg "_are_classes" sAC ["library", "bases"] g fd) (M : Lm K mg C f CL) (G : Gm mg) (N : Nm K mg) : FnOk P w K mg base CX0 4 g fd ["library", "bases"] (spAC K C f CL) := by
  have T := M.T
  obtain ⟨_, _, dA, GA⟩ := N.ga (P := P) (w := w) (base := base) T
  obtain ⟨_, hb3⟩ := G.b3
  obtain ⟨gc, fdc, oc, Fc, bc⟩ := M.co
  have GC : FnOk P w K mg base CX0 1 gc fdc ["self", "name"] (spCo K C f CL) := ok_co Fc M
  refine F.F.ok scAC (fun vs H Q E h => ?_) (fun cdv A outer s H vs Q E hr h => ?_)
  · obtain ⟨_, _, _, _, _, rfl, _⟩ := h
    rfl
  · obtain ⟨a, b, cs, ns, l, rfl, hL, hb, ok, q⟩ := h
    have hrC : Room 1 (A.deeper (envOfC "_are_classes" (defScope sAC) s.heap.objs.size g cdv)) := hr.mono (by decide)
    refine ⟨_, (pss_one (ps_ret (pe_and (pe_call GA hr (by rfl) dA.m dA.F.kp dA.b .nil pass0 (pa_cons (pv 1) (pa_cons (pe_glob (v := .int 3) (by rfl) hb3 ⟨_, rfl⟩) pa_nil))) (pe_one (pe_callB (cr_all rfl) (by rfl) T.all (by decide +kernel) (pa_cons (pe_lc (own := [("base", 2)]) (g := gName 2) (tt := tYes) rfl scAC.nd (pi_tup (pv 1)) (blkOk_by (N := nAC) (sc := defScope sAC) (by decide +kernel)) (fun _ _ _ _ _ => (pg_name (i := 2) scAC.nd rfl (Or.inl rfl))) (fun _ _ _ _ _ => pts_nil) (fun _ _ _ _ _ => (pe_cmpR (op_ownIn (E := E0) oc GC hrC bc pass0) (pv 2) (pv 0) (by with_unfolding_all rfl)))) pa_nil)))))), ?_⟩
    refine ⟨_, rfl, b, l, 3, rfl, hb, ok.len, ok.sh, fun H1 s1 => ⟨_, rfl, ?_⟩⟩
    rw [ok.nm]
    refine iteT ⟨_, rfl, b, rfl, ⟨_, SqT.same s1 hb⟩, fun D hD => ?_⟩
    have h60 := ok.len
    refine lc_map (walk_tup (xs := l.map V.str)) (g := gName 2) (vs := [2]) (σ := [some (.ref a), some (.ref b), none]) (fun _ => .bl true) hD (by rw [List.length_map]; omega) (fun H' s' => SqT.same (s1.trans s') hb) (fun i x H2 H3 R hi s2 ⟨e1, hx⟩ k => ?_) fun H2 s2 gD => ?_
    · subst e1
      obtain ⟨rfl, hm⟩ := get_str hx
      obtain ⟨dx, fs, N', Tb, us, L⟩ := id (hL.same (s1.trans s2))
      refine ⟨rfl, _, rfl, _, rfl, a, dx, fs, rfl, L.ins, a, cs, ns, _, rfl, hL.same (s1.trans s2), fun H4 s4 => ⟨_, rfl, ?_⟩⟩
      rw [decide_eq_true (ok.mem _ hm)]
      exact k H4 s4
    · refine ⟨D, (List.range (l.map V.str).length).map fun _ => true, rfl, SqL.of (by rw [gD, List.map_map]; rfl), ?_⟩
      rw [show ((List.range (l.map V.str).length).map fun _ => true).all id = true by rw [List.all_eq_true]; intro b hb; obtain ⟨_, _, rfl⟩ := List.mem_map.mp hb; rfl]
      exact q H2 (s1.trans s2)
theorem bsOf_look {cs : List KD} {ns : List Str} {n : Str} (h : n ∈ ns) : look (bsOf cs ns) n = some (((kd cs n).map (·.bases)).getD []) := by
  unfold look bsOf
  rw [List.find?_map]
  have : (ns.find? ((fun b : Str × List Str => decide (b.1 = n)) ∘ fun n => (n, ((kd cs n).map (·.bases)).getD []))) = some n := by
    have e : ((fun b : Str × List Str => decide (b.1 = n)) ∘ fun n => (n, ((kd cs n).map (·.bases)).getD [])) = fun m => decide (m = n) := rfl
    rw [e]
    obtain ⟨m, hm⟩ : ∃ m, ns.find? (fun m => decide (m = n)) = some m := Option.isSome_iff_exists.mp (List.find?_isSome.mpr ⟨n, h, decide_eq_true rfl⟩)
    rw [hm, of_decide_eq_true (List.find?_some (p := fun m => decide (m = n)) hm)]
  rw [this]
  rfl
theorem bs_put {H : Hp} {cs : List KD} {kvs : List (Key × V)} {l : List Str} {n : Str} {v : V} (h : Paired (fun (kv : Key × V) (b : Str × List Str) => kv.1 = .inr b.1 ∧ ∃ a, kv.2 = .ref a ∧ SqT K H a (b.2.map V.str)) kvs (bsOf cs l)) (hn : n ∉ l) : putK kvs (.inr n) v = kvs ++ [(.inr n, v)] := by
  unfold putK
  rw [if_neg]
  intro z
  obtain ⟨kv, hk, e⟩ := List.any_eq_true.mp z
  have e := of_decide_eq_true e
  obtain ⟨i, hi, e2⟩ := List.getElem_of_mem hk
  obtain ⟨m, em, e3, _⟩ := paired_get h (show kvs[i]? = some kv by rw [List.getElem?_eq_getElem hi, e2])
  unfold bsOf at em
  rw [List.getElem?_map] at em
  obtain ⟨t, et, rfl⟩ := Option.map_eq_some_iff.mp em
  rw [e3] at e
  injection e with e
  exact hn (by rw [← e]; exact List.mem_of_getElem? et)
theorem ok_wb {g : Addr} {fd : FuncData} (F : Fs K mg "wrong_bases" sWBs ["library"] g fd) (dAC : ∃ g fd, Fs K mg "_are_classes" sAC ["library", "bases"] g fd) (dAb : ∃ g fd, Fs K mg "is_above_itself" sAbv ["bases", "name"] g fd) (M : Lm K mg C f CL) (G : Gm mg) (N : Nm K mg) : FnOk P w K mg base CX0 5 g fd ["library"] (spWB K C f CL) := by
  have T := M.T
  obtain ⟨_, _, dAC⟩ := dAC
  obtain ⟨_, _, dAb⟩ := dAb
  have GAC : FnOk P w K mg base CX0 4 _ _ ["library", "bases"] (spAC K C f CL) := ok_ac dAC M G N
  have GAb : FnOk P w K mg base CX0 1 _ _ ["bases", "name"] (spAbv K) := ok_abv dAb M.ls
  obtain ⟨gx, fdx, ox, Fx, bx⟩ := M.ix
  have GX : FnOk P w K mg base CX0 2 gx fdx ["self", "name"] (spLix K C f CL) := ok_lix Fx M
  refine F.F.ok scWBs (fun vs H Q E h => ?_) (fun cdv A outer s H vs Q E hr h => ?_)
  · obtain ⟨_, _, _, rfl, _⟩ := h
    rfl
  · obtain ⟨a, cs, ns, rfl, hL, nd, n30, hb, bok, nup, q⟩ := h
    have hrX : Room 3 (A.deeper (envOfC "wrong_bases" (defScope sWBs) s.heap.objs.size g cdv)) := hr.mono (by decide)
    have hrAb : Room 1 (A.deeper (envOfC "wrong_bases" (defScope sWBs) s.heap.objs.size g cdv)) := hr.mono (by decide)
    obtain ⟨dx, fs, Nn, Tb, us, L⟩ := id hL
    refine ⟨_, (pss_cons (ps_for PassesOwn.never rfl (pi_tup (pe_fld (pv 0) (by rfl))) (pg_name (i := 1) scWBs.nd rfl (Or.inl rfl)) (pss_one (ps_if (pt_not (pt_val (pe_call GAC hr (by rfl) dAC.m dAC.F.kp dAC.b .nil pass0 (pa_cons (pv 0) (pa_cons (pe_fld (pe_ownIx (E := E0) ox GX hrX bx pass0 (pv 0) (pv 1)) (by rfl)) pa_nil))))) (pss_one (ps_ret (pe_tup (pa_cons (pv 1) (pa_cons pe_str pa_nil))))) pss_nil))) (pss_cons (ps_setDc (i := 2) (own := [("name", 1)]) (g := gName 1) (tt := tYes) rfl scWBs.nd rfl rfl (sw_dict rfl rfl rfl rfl) (pi_tup (pe_fld (pv 0) (by rfl))) (blkOk_by (N := nWBs) (sc := defScope sWBs) (by decide +kernel)) (fun _ _ _ _ _ => (pg_name (i := 1) scWBs.nd rfl (Or.inl rfl))) (fun _ _ _ _ _ => pts_nil) (fun _ _ _ _ _ => (pv 1)) (fun _ _ _ _ _ => (pe_fldK (K := K) rfl (pe_ownIx (E := E0) ox GX hrX bx pass0 (pv 0) (pv 1)) (by rfl)))) (pss_cons (ps_for PassesOwn.never rfl (pi_tup (pe_fld (pv 0) (by rfl))) (pg_name (i := 1) scWBs.nd rfl (Or.inl rfl)) (pss_one (ps_if (pt_val (pe_call GAb hrAb (by rfl) dAb.m dAb.F.kp dAb.b .nil pass0 (pa_cons (pv 2) (pa_cons (pv 1) pa_nil)))) (pss_one (ps_ret (pe_tup (pa_cons (pv 1) (pa_cons pe_str pa_nil))))) pss_nil))) (pss_one (ps_ret pe_non))))), ?_⟩
    refine ⟨_, rfl, a, CL, dx, fs, .ref Nn, rfl, L.ins, M.cls, M.no _ (by simp), L.nm, Nn, rfl, ⟨_, L.sn⟩, for_tup (K := K) (a := Nn) (xs := ns.map V.str) (fun i σ H2 => ∃ v, σ = [some (.ref a), v, none] ∧ Same H H2) ⟨none, rfl, fun _ _ z => z⟩ (fun i σ H2 _ ⟨_, _, s⟩ => SqT.same s L.sn) ?_ ?_⟩
    · rintro i x σ H2 hi ⟨v, rfl, s2⟩
      obtain ⟨rfl, hm⟩ := get_str hi
      obtain ⟨k, hk⟩ := kd_some ((L.mem _).mp hm)
      obtain ⟨dx2, fs2, N2, Tb2, us2, L2'⟩ := id (hL.same s2)
      refine ⟨_, rfl, _, rfl, _, rfl, a, dx2, fs2, rfl, L2'.ins, a, cs, ns, _, k, rfl, hL.same s2, hk, fun u H3 s3 ov => ?_⟩
      obtain ⟨b, bx, bs, vb, vf, vm, vw, ys, rfl, KA⟩ := kO_get ov
      refine ⟨b, C 2, bx, bs, _, rfl, KA.ins, M.X.cls 2 (by decide), M.X.no 2 (by decide) _ (by decide), KA.b, a, vb, cs, ns, k.bases, rfl, hL.same (s2.trans s3), KA.sb, hb k (kd_name hk).2, fun H4 s4 => ⟨_, rfl, iteF ⟨_, rfl, (s2.trans s3).trans s4⟩⟩⟩
    · rintro σ H2 ⟨v, rfl, s2⟩
      obtain ⟨dx2, fs2, N2, Tb2, us2, L2'⟩ := id (hL.same s2)
      refine ⟨_, rfl, a, CL, dx2, fs2, .ref N2, rfl, L2'.ins, M.cls, M.no _ (by simp), L2'.nm, N2, rfl, ⟨_, L2'.sn⟩, fun D hD => ?_⟩
      refine dc_tup (K := K) (a := N2) (xs := ns.map V.str) (g := gName 1) (vs := [1]) (σ := [some (.ref a), v, none]) (tt := tYes) (tk := tVar 1) (tv := tFld K (tOp (rOwnIx CL (spLix K C f CL) E0) (tVar 0) (tVar 1)) "bases") (fun i H3 => Same H2 H3 ∧ ∃ kvs, H3 D = some (.dK kvs) ∧ Paired (fun (kv : Key × V) (b : Str × List Str) => kv.1 = .inr b.1 ∧ ∃ a, kv.2 = .ref a ∧ SqT K H3 a (b.2.map V.str)) kvs (bsOf cs (ns.take i))) ⟨new_same hD, [], upd_same, .nil⟩ (fun i H3 _ h => SqT.same h.1 L2'.sn) ?_ ?_
      · rintro i x H3 hi ⟨s3, kvs, gD, pk⟩
        obtain ⟨rfl, hm⟩ := get_str hi
        obtain ⟨k, hk⟩ := kd_some ((L.mem _).mp hm)
        obtain ⟨dx3, fs3, N3, Tb3, us3, L3⟩ := id (hL.same (s2.trans s3))
        have hi2 : i < ns.length := by
          have := (List.getElem?_eq_some_iff.mp hi).1
          rwa [List.length_map] at this
        have egd : ns[i]? = some (ns.getD i "") := by simp only [List.getD, List.getElem?_eq_getElem hi2, Option.getD_some]
        refine ⟨rfl, yes_of ⟨_, rfl, _, rfl, _, rfl, a, dx3, fs3, rfl, L3.ins, a, cs, ns, _, k, rfl, hL.same (s2.trans s3), hk, fun u H4 s4 ov => ?_⟩⟩
        obtain ⟨b, bx, bs, vb, vf, vm, vw, ys, rfl, KA⟩ := kO_get ov
        have g4 := s4 _ _ gD
        have hkl : kvs.length = i := by
          rw [Paired.length pk]
          unfold bsOf
          rw [List.length_map, List.length_take]
          omega
        refine ⟨b, C 2, bx, bs, _, rfl, KA.ins, M.X.cls 2 (by decide), M.X.no 2 (by decide) _ (by decide), KA.b, kvs, .inr (ns.getD i ""), rfl, g4, le_sz' (by omega), same_D hD (s3.trans s4), _, upd_same, ?_⟩
        have nin : ns.getD i "" ∉ ns.take i := by
          intro z
          obtain ⟨j, hj, ej⟩ := List.getElem_of_mem z
          rw [List.length_take] at hj
          rw [List.getElem_take] at ej
          have := List.pairwise_iff_getElem.mp nd j i (by omega) hi2 (by omega)
          refine this ?_
          rw [ej]
          simp [List.getD, hi2]
        have pk2 : Paired (fun (kv : Key × V) (b : Str × List Str) => kv.1 = .inr b.1 ∧ ∃ a, kv.2 = .ref a ∧ SqT K (upd H4 D (.dK (putK kvs (.inr (ns.getD i "")) (.ref vb)))) a (b.2.map V.str)) kvs (bsOf cs (ns.take i)) := L2.Paired.mapP pk fun kv b ⟨e, a, e2, q⟩ => ⟨e, a, e2, SqT.keepK g4 KeepB.at (SqT.same s4 q)⟩
        rw [bs_put pk2 nin, show bsOf cs (ns.take (i + 1)) = bsOf cs (ns.take i) ++ [(ns.getD i "", k.bases)] by rw [take_snoc egd]; unfold bsOf; rw [List.map_append, List.map_cons, List.map_nil, hk]; rfl]
        refine paired_snoc ?_ ⟨rfl, vb, rfl, SqT.keepK g4 KeepB.at KA.sb⟩
        rw [bs_put pk2 nin] at pk2
        exact pk2
      · rintro H3 ⟨s3, kvs, gD, pk⟩
        rw [List.length_map, List.take_length] at pk
        have hD3 : BasesAt K H3 D (bsOf cs ns) := ⟨kvs, .inl gD, pk⟩
        obtain ⟨dx3, fs3, N3, Tb3, us3, L3⟩ := id (hL.same (s2.trans s3))
        refine ⟨_, rfl, a, CL, dx3, fs3, .ref N3, rfl, L3.ins, M.cls, M.no _ (by simp), L3.nm, N3, rfl, ⟨_, L3.sn⟩, for_tup (K := K) (a := N3) (xs := ns.map V.str) (fun i σ H4 => ∃ v, σ = [some (.ref a), v, some (.ref D)] ∧ Same H3 H4) ⟨_, rfl, fun _ _ z => z⟩ (fun i σ H4 _ ⟨_, _, s⟩ => SqT.same s L3.sn) ?_ ?_⟩
        · rintro i x σ H4 hi ⟨v4, rfl, s4⟩
          obtain ⟨rfl, hm⟩ := get_str hi
          refine ⟨_, rfl, _, rfl, D, _, _, rfl, hD3.same s4, bok, by rw [bsOf_look hm]; rfl, fun b H5 hb5 s5 => ⟨_, rfl, ?_⟩⟩
          have : b = false := by
            cases b with
            | false => rfl
            | true => exact absurd (hb5.mp rfl) (nup _)
          subst this
          exact iteF ⟨_, rfl, s4.trans s5⟩
        · rintro σ H4 ⟨v4, rfl, s4⟩
          exact q H4 ((s2.trans s3).trans s4)
end

end Kx
set_option linter.all false
namespace Kx
open PySem L2 PySem.Spec PyProof.Rows
abbrev sHWF : Stmt := top 112
abbrev nHWF : List Str := ["library", "name"]
theorem scHWF : FnScope nHWF ["library", "name"] (defScope sHWF) := ⟨rfl, rfl, rfl, by decide +kernel, rfl, by decide +kernel, by decide +kernel⟩
abbrev sHDb : Stmt := top 113
abbrev nHDb : List Str := ["library", "name", "fields"]
theorem scHDb : FnScope nHDb ["library", "name"] (defScope sHDb) := ⟨rfl, rfl, rfl, by decide +kernel, rfl, by decide +kernel, by decide +kernel⟩
abbrev sOv : Stmt := top 118
abbrev nOv : List Str := ["cond", "terms", "term"]
theorem scOv : FnScope nOv ["cond", "terms"] (defScope sOv) := ⟨rfl, rfl, rfl, by decide +kernel, rfl, by decide +kernel, by decide +kernel⟩
abbrev sHWW : Stmt := top 114
abbrev nHWW : List Str := ["library", "name", "where", "clause"]
theorem scHWW : FnScope nHWW ["library", "name"] (defScope sHWW) := ⟨rfl, rfl, rfl, by decide +kernel, rfl, by decide +kernel, by decide +kernel⟩
abbrev sHWM : Stmt := top 115
abbrev nHWM : List Str := ["library", "name", "methods", "method"]
theorem scHWM : FnScope nHWM ["library", "name"] (defScope sHWM) := ⟨rfl, rfl, rfl, by decide +kernel, rfl, by decide +kernel, by decide +kernel⟩
abbrev sWC : Stmt := top 117
abbrev nWC : List Str := ["library", "word", "is_wrong", "name"]
theorem scWC : FnScope nWC ["library"] (defScope sWC) := ⟨rfl, rfl, rfl, by decide +kernel, rfl, by decide +kernel, by decide +kernel⟩
/-- a class that is right but for doubles -/
structure FineC (cs : List KD) (o : Ord) (k : KD) : Prop where
  fd : areN k.fields 3 = true
  wt : ∀ t ∈ k.wh.2, t ∈ termsO cs o "self" k.name
  wc : ∀ c ∈ k.wh.1, c.length = 1
  wl1 : k.wh.1.length ≤ 60
  wl2 : k.wh.2.length ≤ 60
  me : areN (k.methods.map (·.name)) 3 = true
  ml : ∀ m ∈ k.methods, m.name.length ≤ 1000
abbrev SpLN (K : PySem.W.Frag) (C f : Nat → Addr) (CL : Addr) (P : List KD → Ord → KD → Bool) : Sp := fun vs H Q _ => ∃ (a : Addr) (cs : List KD) (ns : List Str) (o : Ord) (n : Str) (k : KD), vs = [.ref a, .str n] ∧ LibO K C f CL H a cs ns o ∧ Lok cs o ∧ kd cs n = some k ∧ FineC cs o k ∧ n.length ≤ 1000 ∧ ∀ H', Same H H' → Q (.bl (P cs o k)) H'
structure CAt (K : PySem.W.Frag) (C f : Nat → Addr) (H : Hp) (c : CDat) (a dx : Addr) (fs : List (Str × V)) (vp vq : Addr) (xs : List V) : Prop where
  ins : H a = some (.ins (C 0) dx fs)
  cl : fs.lookup ("clauses" : Str) = some (.ref vp)
  sc : SqT K H vp xs
  oc : OhAll K (clk C f) H (c.1.map clO) xs
  tm : fs.lookup ("terms" : Str) = some (.ref vq)
  st : SqT K H vq (c.2.map V.str)
theorem cO_get {K : PySem.W.Frag} {C f : Nat → Addr} {H : Hp} {c : CDat} {v : V} (h : Oh K (clk C f) H (cO c.1 c.2) v) : ∃ a dx fs vp vq xs, v = .ref a ∧ CAt K C f H c a dx fs vp vq xs := by
  obtain ⟨a, dx, fs, ys, rfl, hi, hn, q⟩ := h
  obtain ⟨d0, r0, v0, x0, e, rfl, e0, o0, h0, q0⟩ := ohx hn q
  cases e
  obtain ⟨d1, r1, v1, x1, e, rfl, e1, o1, h1, q1⟩ := ohx h0 q0
  cases e
  obtain ⟨vp, xs, ep, sp, op⟩ := o0
  obtain ⟨vq, ys, eq, sq, oq⟩ := o1
  have hy := od_strs oq
  subst hy
  exact ⟨a, dx, fs, vp, vq, xs, rfl, hi, e0.trans (congrArg some ep), sp, op, e1.trans (congrArg some eq), sq⟩
def spOv (K : PySem.W.Frag) (C f : Nat → Addr) : Sp := fun vs H Q _ => ∃ (v : V) (c : CDat) (L : Addr) (ts : List Str), vs = [v, .ref L] ∧ Oh K (clk C f) H (cO c.1 c.2) v ∧ SqL K H L (ts.map V.str) ∧ c.2.length ≤ 60 ∧ (∀ t ∈ c.2, t ∈ ts) ∧ ∀ H', Same H H' → Q (.bl true) H'
structure CWd (K : PySem.W.Frag) (w : World) (mg : Str → Option Value) (CW g0 g1 g2 g3 : Addr) : Prop where
  at_ : mg "CLASS_WORDS" = some (.ref CW)
  wk : ∃ o es ep, KWalk K CW ["fields", "double", "where", "methods"] o es ep
  k0 : KDct K w CW "fields" (.ref g0)
  k1 : KDct K w CW "double" (.ref g1)
  k2 : KDct K w CW "where" (.ref g2)
  k3 : KDct K w CW "methods" (.ref g3)
  n0 : g0 ≠ g1
  n2 : g2 ≠ g1
  n3 : g3 ≠ g1
  d0 : ∃ fd, Fs K mg "_has_wrong_fields" sHWF ["library", "name"] g0 fd
  d1 : ∃ fd, Fs K mg "_has_double" sHDb ["library", "name"] g1 fd
  d2 : ∃ fd, Fs K mg "_has_wrong_where" sHWW ["library", "name"] g2 fd
  d3 : ∃ fd, Fs K mg "_has_wrong_methods" sHWM ["library", "name"] g3 fd
  ov : ∃ g fd, Fs K mg "_is_over" sOv ["cond", "terms"] g fd
  to : ∃ g fd, Fs K mg "terms_of" sTO ["library", "name", "kind"] g fd
abbrev noP : List KD → Ord → KD → Bool := fun _ _ _ => false
def dbl (cs : List KD) (o : Ord) (k : KD) : Bool := !decide (fldsOf cs o k.name).Nodup
section
variable {P : Program} {w : World} {K : PySem.W.Frag} {mg : Str → Option Value} {base : Heap} {C f : Nat → Addr} {CL : Addr}
theorem ok_hf {g : Addr} {fd : FuncData} (F : Fs K mg "_has_wrong_fields" sHWF ["library", "name"] g fd) (M : Lm K mg C f CL) (G : Gm mg) (N : Nm K mg) : FnOk P w K mg base CX0 5 g fd ["library", "name"] (SpLN K C f CL fun _ _ _ => false) := by
  have T := M.T
  obtain ⟨_, _, dA, GA⟩ := N.ga (P := P) (w := w) (base := base) T
  obtain ⟨_, hf3⟩ := G.f3
  obtain ⟨gx, fdx, ox, Fx, bx⟩ := M.ix
  have GX : FnOk P w K mg base CX0 2 gx fdx ["self", "name"] (spLix K C f CL) := ok_lix Fx M
  refine F.F.ok scHWF (fun vs H Q E h => ?_) (fun cdv A outer s H vs Q E hr h => ?_)
  · obtain ⟨_, _, _, _, _, _, rfl, _⟩ := h
    rfl
  · obtain ⟨a, cs, ns, o, n, k, rfl, hL, ok, hk, fc, nl, q⟩ := h
    have hrX : Room 3 (A.deeper (envOfC "_has_wrong_fields" (defScope sHWF) s.heap.objs.size g cdv)) := hr.mono (by decide)
    have hrA : Room 3 (A.deeper (envOfC "_has_wrong_fields" (defScope sHWF) s.heap.objs.size g cdv)) := hr.mono (by decide)
    obtain ⟨dx, fs, Nn, Tb, us, L⟩ := id hL.a
    have ek := (kd_name hk).2
    refine ⟨_, (pss_one (ps_ret (pe_not (pe_call GA hrA (by rfl) dA.m dA.F.kp dA.b .nil pass0 (pa_cons (pe_fld (pe_ownIx (E := E0) ox GX hrX bx pass0 (pv 0) (pv 1)) (by rfl)) (pa_cons (pe_glob (v := .int 3) (by rfl) hf3 ⟨_, rfl⟩) pa_nil)))))), ?_⟩
    refine ⟨_, rfl, _, rfl, a, dx, fs, rfl, L.ins, a, cs, ns, n, k, rfl, hL.a, hk, fun u H3 s3 ov => ?_⟩
    obtain ⟨b, bx, bs, vb, vf, vm, vw, ys, rfl, KA⟩ := kO_get ov
    refine ⟨b, C 2, bx, bs, _, rfl, KA.ins, M.X.cls 2 (by decide), M.X.no 2 (by decide) _ (by decide), KA.fl, vf, k.fields, 3, rfl, KA.sf, Nat.le_trans (ok.fs k ek) (by decide), ok.flt k ek, fun H4 s4 => ⟨_, rfl, ?_⟩⟩
    rw [fc.fd]
    exact q H4 (s3.trans s4)
theorem ok_hd {g : Addr} {fd : FuncData} (F : Fs K mg "_has_double" sHDb ["library", "name"] g fd) (M : Lm K mg C f CL) (N : Nm K mg) : FnOk P w K mg base CX0 4 g fd ["library", "name"] (SpLN K C f CL dbl) := by
  have T := M.T
  have hst := N.set
  obtain ⟨gf, fdf, mf, Ff, bf⟩ := M.fl
  have GF : FnOk P w K mg base CX0 3 gf fdf ["self", "name"] (spFl K C f CL) := ok_fl Ff M
  refine F.F.ok scHDb (fun vs H Q E h => ?_) (fun cdv A outer s H vs Q E hr h => ?_)
  · obtain ⟨_, _, _, _, _, _, rfl, _⟩ := h
    rfl
  · obtain ⟨a, cs, ns, o, n, k, rfl, hL, ok, hk, fc, nl, q⟩ := h
    obtain ⟨dx, fs, Nn, Tb, us, L⟩ := id hL.a
    obtain ⟨en, ek⟩ := kd_name hk
    have hm : n ∈ cs.map (·.name) := List.mem_map.mpr ⟨k, ek, en⟩
    obtain ⟨l, hl⟩ := ok.all n hm
    have hlen : (fldsOf cs o n).length ≤ 60 := by
      have h1 := fldsL_len ok.fs l.reverse
      have h2 := ok.few n l hl
      rw [List.length_reverse] at h1
      have h3 : 3 * l.length ≤ 60 := by omega
      exact Nat.le_trans (show (fldsOf cs o n).length ≤ 3 * l.length by unfold fldsOf; rw [hl]; exact h1) h3
    refine ⟨_, (pss_cons (ps_set (i := 2) scHDb.nd rfl (Or.inl rfl) (pe_meth (pv 0) M.cls mf GF hr bf .nil pass0 (pa_cons (pv 1) pa_nil))) (pss_one (ps_ret (pe_cmpR op_ne (pe_callB call_lenX (by rfl) T.len PySem.boot_len (pa_cons (pe_callTy (cr_setTx rfl) (by rfl) hst (by decide +kernel) (pa_cons (pv 2) pa_nil)) pa_nil)) (pe_callB call_len_seq (by rfl) T.len PySem.boot_len (pa_cons (pv 2) pa_nil)) (nomark _))))), ?_⟩
    refine ⟨_, rfl, a, dx, fs, rfl, L.ins, L.no _ (by decide +kernel), _, rfl, a, cs, ns, o, n, rfl, hL, hm, ok, fun L1 H1 f1 s1 g1 => ?_⟩
    refine ⟨_, rfl, L1, _, rfl, SqL.of g1, hlen, fun p l' hp nd le mem => ?_⟩
    have s2 := new_same (o := SetX P w p l') hp
    refine ⟨p, l', rfl, upd_same, by omega, _, rfl, L1, _, rfl, .inl (SqL.of (s2 _ _ g1)), rfl, ?_⟩
    rw [List.length_map]
    have q' := q _ (s1.trans s2)
    have e3 : dbl cs o k = !decide (V.int l'.length = V.int (fldsOf cs o n).length) := by
      unfold dbl
      rw [en]
      congr 1
      rw [decide_eq_decide, ← nodup_len nd mem]
      constructor
      · intro z; rw [z]
      · intro z; injection z with z; omega
    rw [e3] at q'
    exact q'
theorem ok_ov {g : Addr} {fd : FuncData} (F : Fs K mg "_is_over" sOv ["cond", "terms"] g fd) (M : Lm K mg C f CL) (gC : mg "Cond" = some (.ref (C 0))) : FnOk P w K mg base CX0 1 g fd ["cond", "terms"] (spOv K C f) := by
  have T := M.T
  refine F.F.ok scOv (fun vs H Q E h => ?_) (fun cdv A outer s H vs Q E hr h => ?_)
  · obtain ⟨_, _, _, _, rfl, _⟩ := h
    rfl
  · obtain ⟨v, c, L, ts, rfl, ov, hL, h60, hin, q⟩ := h
    obtain ⟨b, bx, bs, vp, vq, xs, rfl, CA⟩ := cO_get ov
    refine ⟨_, (pss_one (ps_ret (pe_and (pe_callB call_isi (by rfl) T.isi boot_isinstance (pa_cons (pv 0) (pa_cons (pe_glob (v := .ref (C 0)) (by rfl) gC rfl) pa_nil))) (pe_one (pe_callB (cr_all rfl) (by rfl) T.all (by decide +kernel) (pa_cons (pe_lc (own := [("term", 2)]) (g := gName 2) (tt := tYes) rfl scOv.nd (pi_tup (pe_fld (pv 0) (by rfl))) (blkOk_by (N := nOv) (sc := defScope sOv) (by decide +kernel)) (fun _ _ _ _ _ => (pg_name (i := 2) scOv.nd rfl (Or.inl rfl))) (fun _ _ _ _ _ => pts_nil) (fun _ _ _ _ _ => (pe_cmpR (op_in_seqK (K := K) rfl) (pv 2) (pv 1) (by with_unfolding_all rfl)))) pa_nil)))))), ?_⟩
    refine ⟨_, rfl, .ref b, .ref (C 0), _, _, true, rfl, .own _, M.X.KT.ty 0 (by decide) _ b bx bs CA.ins, kitS, true, rfl, iteT ?_⟩
    refine ⟨_, rfl, b, C 0, bx, bs, _, rfl, CA.ins, M.X.cls 0 (by decide), M.X.no 0 (by decide) _ (by decide), CA.tm, vq, rfl, ⟨_, CA.st⟩, fun D hD => ?_⟩
    refine lc_map (walk_tup (xs := c.2.map V.str)) (g := gName 2) (vs := [2]) (σ := [some (.ref b), some (.ref L), none]) (fun _ => .bl true) hD (by rw [List.length_map]; omega) (fun H' s' => SqT.same s' CA.st) (fun i x H2 H3 R hi s2 ⟨e1, hx⟩ k => ?_) fun H2 s2 gD => ?_
    · subst e1
      obtain ⟨rfl, hm⟩ := get_str hx
      refine ⟨rfl, _, rfl, _, rfl, L, _, rfl, .inl (SqL.same s2 hL), rfl, flat_strs _, ?_⟩
      have := k _ fun _ _ z => z
      rw [← show inV (.str (c.2.getD i "")) (ts.map V.str) = true by rw [inV_str]; exact decide_eq_true (hin _ hm)] at this
      exact this
    · refine ⟨D, (List.range (c.2.map V.str).length).map fun _ => true, rfl, SqL.of (by rw [gD, List.map_map]; rfl), ?_⟩
      rw [show ((List.range (c.2.map V.str).length).map fun _ => true).all id = true by rw [List.all_eq_true]; intro b hb; obtain ⟨_, _, rfl⟩ := List.mem_map.mp hb; rfl]
      exact q H2 s2
theorem ok_hw {g : Addr} {fd : FuncData} (F : Fs K mg "_has_wrong_where" sHWW ["library", "name"] g fd) (dOv : ∃ g fd, Fs K mg "_is_over" sOv ["cond", "terms"] g fd) (dTO : ∃ g fd, Fs K mg "terms_of" sTO ["library", "name", "kind"] g fd) (M : Lm K mg C f CL) (gC : mg "Cond" = some (.ref (C 0))) : FnOk P w K mg base CX0 5 g fd ["library", "name"] (SpLN K C f CL fun _ _ _ => false) := by
  have T := M.T
  obtain ⟨_, _, dOv⟩ := dOv
  obtain ⟨_, _, dTO⟩ := dTO
  have GOv : FnOk P w K mg base CX0 1 _ _ ["cond", "terms"] (spOv K C f) := ok_ov dOv M gC
  have GTO : FnOk P w K mg base CX0 4 _ _ ["library", "name", "kind"] (spTO K C f CL) := ok_to dTO M
  obtain ⟨gx, fdx, ox, Fx, bx⟩ := M.ix
  have GX : FnOk P w K mg base CX0 2 gx fdx ["self", "name"] (spLix K C f CL) := ok_lix Fx M
  refine F.F.ok scHWW (fun vs H Q E h => ?_) (fun cdv A outer s H vs Q E hr h => ?_)
  · obtain ⟨_, _, _, _, _, _, rfl, _⟩ := h
    rfl
  · obtain ⟨a, cs, ns, o, n, k, rfl, hL, ok, hk, fc, nl, q⟩ := h
    have hrX : Room 3 (A.deeper (envOfC "_has_wrong_where" (defScope sHWW) s.heap.objs.size g cdv)) := hr.mono (by decide)
    have hrOv : Room 1 (A.deeper (envOfC "_has_wrong_where" (defScope sHWW) s.heap.objs.size g cdv)) := hr.mono (by decide)
    have hrTO : Room 4 (A.deeper (envOfC "_has_wrong_where" (defScope sHWW) s.heap.objs.size g cdv)) := hr.mono (by decide)
    obtain ⟨dx, fs, Nn, Tb, us, L⟩ := id hL.a
    obtain ⟨en, ek⟩ := kd_name hk
    have hm : n ∈ cs.map (·.name) := List.mem_map.mpr ⟨k, ek, en⟩
    refine ⟨_, (pss_cons (ps_set (i := 2) scHWW.nd rfl (Or.inl rfl) (pe_fld (pe_ownIx (E := E0) ox GX hrX bx pass0 (pv 0) (pv 1)) (by rfl))) (pss_cons (ps_if (pt_not (pt_val (pe_call GOv hrOv (by rfl) dOv.m dOv.F.kp dOv.b .nil pass0 (pa_cons (pv 2) (pa_cons (pe_call GTO hrTO (by rfl) dTO.m dTO.F.kp dTO.b .nil pass0 (pa_cons (pv 0) (pa_cons pe_str (pa_cons (pv 1) pa_nil)))) pa_nil))))) (pss_one (ps_ret pe_bl)) pss_nil) (pss_one (ps_ret (pe_not (pe_callB (cr_all rfl) (by rfl) T.all (by decide +kernel) (pa_cons (pe_lc (own := [("clause", 3)]) (g := gName 3) (tt := tYes) rfl scHWW.nd (pi_tup (pe_fld (pv 2) (by rfl))) (blkOk_by (N := nHWW) (sc := defScope sHWW) (by decide +kernel)) (fun _ _ _ _ _ => (pg_name (i := 3) scHWW.nd rfl (Or.inl rfl))) (fun _ _ _ _ _ => pts_nil) (fun _ _ _ _ _ => (pe_cmpR op_eq (pe_callB (call_lenK (K := K) rfl) (by rfl) T.len PySem.boot_len (pa_cons (pv 3) pa_nil)) pe_int (nomark _)))) pa_nil))))))), ?_⟩
    refine ⟨_, rfl, _, rfl, a, dx, fs, rfl, L.ins, a, cs, ns, n, k, rfl, hL.a, hk, fun u H3 s3 ov => ?_⟩
    obtain ⟨b, bx, bs, vb, vf, vm, vw, ys, rfl, KA⟩ := kO_get ov
    refine ⟨b, C 2, bx, bs, _, rfl, KA.ins, M.X.cls 2 (by decide), M.X.no 2 (by decide) _ (by decide), KA.w, ?_⟩
    refine ⟨_, rfl, _, rfl, _, rfl, a, cs, ns, o, "self", n, rfl, hL.same s3, .inr hm, ok, by decide, fun L1 H4 f1 s4 g1 => ?_⟩
    refine ⟨vw, k.wh, L1, _, rfl, Oh.sm s4 KA.ow, SqL.of g1, fc.wl2, by rw [← en]; exact fc.wt, fun H5 s5 => ⟨_, rfl, iteF ?_⟩⟩
    obtain ⟨c, cx, cf, vp, vq, xs, rfl, CA⟩ := cO_get (Oh.sm (s4.trans s5) KA.ow)
    have hxl : xs.length = k.wh.1.length := by rw [← OhAll.length _ _ CA.oc, List.length_map]
    have h60 := fc.wl1
    refine ⟨_, rfl, c, C 0, cx, cf, _, rfl, CA.ins, M.X.cls 0 (by decide), M.X.no 0 (by decide) _ (by decide), CA.cl, vp, rfl, ⟨_, CA.sc⟩, fun D hD => ?_⟩
    refine lc_map (walk_tup (xs := xs)) (g := gName 3) (vs := [3]) (σ := [some (.ref a), some (.str n), some (.ref c), none]) (fun _ => .bl true) hD (by omega) (fun H' s' => SqT.same s' CA.sc) (fun i x H2 H6 R hi s2 ⟨e1, hx⟩ kk => ?_) fun H2 s2 gD => ?_
    · subst e1
      obtain ⟨d, hd, od⟩ := ohAll_get _ _ _ _ CA.oc hx
      rw [List.getElem?_map] at hd
      obtain ⟨cl, ec, rfl⟩ := Option.map_eq_some_iff.mp hd
      obtain ⟨z, zs, rfl, hz, oz⟩ := Oh.sm s2 od
      have hzl : zs.length = 1 := by rw [← OhAll.length _ _ oz, List.length_map]; exact fc.wc cl (List.mem_of_getElem? ec)
      refine ⟨rfl, _, rfl, z, zs, rfl, .inr hz, rfl, ?_⟩
      have := kk _ fun _ _ z => z
      rw [hzl]
      exact this
    · refine ⟨D, (List.range xs.length).map fun _ => true, rfl, SqL.of (by rw [gD, List.map_map]; rfl), _, rfl, ?_⟩
      rw [show ((List.range xs.length).map fun _ => true).all id = true by rw [List.all_eq_true]; intro b hb; obtain ⟨_, _, rfl⟩ := List.mem_map.mp hb; rfl]
      exact q H2 (((s3.trans s4).trans s5).trans s2)
theorem ok_hm {g : Addr} {fd : FuncData} (F : Fs K mg "_has_wrong_methods" sHWM ["library", "name"] g fd) (M : Lm K mg C f CL) (G : Gm mg) (N : Nm K mg) (gC : mg "Method" = some (.ref (C 1))) : FnOk P w K mg base CX0 5 g fd ["library", "name"] (SpLN K C f CL fun _ _ _ => false) := by
  have T := M.T
  obtain ⟨_, _, dA, GA⟩ := N.ga (P := P) (w := w) (base := base) T
  obtain ⟨_, hm3⟩ := G.m3
  obtain ⟨gx, fdx, ox, Fx, bx⟩ := M.ix
  have GX : FnOk P w K mg base CX0 2 gx fdx ["self", "name"] (spLix K C f CL) := ok_lix Fx M
  refine F.F.ok scHWM (fun vs H Q E h => ?_) (fun cdv A outer s H vs Q E hr h => ?_)
  · obtain ⟨_, _, _, _, _, _, rfl, _⟩ := h
    rfl
  · obtain ⟨a, cs, ns, o, n, k, rfl, hL, ok, hk, fc, nl, q⟩ := h
    have hrX : Room 3 (A.deeper (envOfC "_has_wrong_methods" (defScope sHWM) s.heap.objs.size g cdv)) := hr.mono (by decide)
    have hrA : Room 3 (A.deeper (envOfC "_has_wrong_methods" (defScope sHWM) s.heap.objs.size g cdv)) := hr.mono (by decide)
    obtain ⟨dx, fs, Nn, Tb, us, L⟩ := id hL.a
    obtain ⟨en, ek⟩ := kd_name hk
    have hms := ok.ms k ek
    refine ⟨_, (pss_cons (ps_set (i := 2) scHWM.nd rfl (Or.inl rfl) (pe_fld (pe_ownIx (E := E0) ox GX hrX bx pass0 (pv 0) (pv 1)) (by rfl))) (pss_cons (ps_if (PW.pt (pw_or (pt_not (pt_val (pe_callB call_isi (by rfl) T.isi boot_isinstance (pa_cons (pv 2) (pa_cons (pe_bltn (v := .ty "tuple") (by rfl) T.tuple (by decide +kernel) rfl) pa_nil))))) (pw_or1 (pt_not (pt_val (pe_callB (cr_all rfl) (by rfl) T.all (by decide +kernel) (pa_cons (pe_lc (own := [("method", 3)]) (g := gName 3) (tt := tYes) rfl scHWM.nd (pi_tup (pv 2)) (blkOk_by (N := nHWM) (sc := defScope sHWM) (by decide +kernel)) (fun _ _ _ _ _ => (pg_name (i := 3) scHWM.nd rfl (Or.inl rfl))) (fun _ _ _ _ _ => pts_nil) (fun _ _ _ _ _ => (pe_callB (call_isiK (K := K) rfl) (by rfl) T.isi boot_isinstance (pa_cons (pv 3) (pa_cons (pe_glob (v := .ref (C 1)) (by rfl) gC rfl) pa_nil))))) pa_nil))))))) (pss_one (ps_ret pe_bl)) pss_nil) (pss_one (ps_ret (pe_not (pe_call GA hrA (by rfl) dA.m dA.F.kp dA.b .nil pass0 (pa_cons (pe_tupleOf (by rfl) T.tuple (pe_lc (own := [("method", 3)]) (g := gName 3) (tt := tYes) rfl scHWM.nd (pi_tup (pv 2)) (blkOk_by (N := nHWM) (sc := defScope sHWM) (by decide +kernel)) (fun _ _ _ _ _ => (pg_name (i := 3) scHWM.nd rfl (Or.inl rfl))) (fun _ _ _ _ _ => pts_nil) (fun _ _ _ _ _ => (pe_fldK (K := K) rfl (pv 3) (by rfl))))) (pa_cons (pe_glob (v := .int 3) (by rfl) hm3 ⟨_, rfl⟩) pa_nil)))))))), ?_⟩
    refine ⟨_, rfl, _, rfl, a, dx, fs, rfl, L.ins, a, cs, ns, n, k, rfl, hL.a, hk, fun u H3 s3 ov => ?_⟩
    obtain ⟨b, bx, bs, vb, vf, vm, vw, xs, rfl, KA⟩ := kO_get ov
    have hxl : xs.length = k.methods.length := by rw [← OhAll.length _ _ KA.om, List.length_map]
    have item : ∀ (i : Nat) (x : V) (H4 : Hp), Same H3 H4 → xs[i]? = some x → ∃ (m : MD) (ma mx : Addr) (ms : List (Str × V)), k.methods[i]? = some m ∧ x = .ref ma ∧ H4 ma = some (.ins (C 1) mx ms) ∧ ms.lookup ("name" : Str) = some (.str m.name) := fun i x H4 s4 hx => by
      obtain ⟨d, hd, od⟩ := ohAll_get _ _ _ _ KA.om hx
      rw [List.getElem?_map] at hd
      obtain ⟨m, em, rfl⟩ := Option.map_eq_some_iff.mp hd
      obtain ⟨ma, mx, ms, _, _, _, _, _, rfl, MA⟩ := mO_get od
      exact ⟨m, ma, mx, ms, em, rfl, s4 _ _ MA.ins, MA.nm⟩
    refine ⟨b, C 2, bx, bs, _, rfl, KA.ins, M.X.cls 2 (by decide), M.X.no 2 (by decide) _ (by decide), KA.m, ?_⟩
    refine ⟨_, rfl, .ref vm, .ty "tuple", _, _, true, rfl, .ty _, tyT KA.sm, kit_ty (by decide +kernel), true, rfl, iteF ?_⟩
    refine ⟨_, rfl, vm, rfl, ⟨_, KA.sm⟩, fun D hD => ?_⟩
    refine lc_map (walk_tup (xs := xs)) (g := gName 3) (vs := [3]) (σ := [some (.ref a), some (.str n), some (.ref vm), none]) (fun _ => .bl true) hD (by omega) (fun H' s' => SqT.same s' KA.sm) (fun i x H2 H6 R hi s2 ⟨e1, hx⟩ kk => ?_) fun H2 s2 gD => ?_
    · subst e1
      obtain ⟨m, ma, mx, ms, em, rfl, gi, _⟩ := item i x H6 s2 hx
      exact ⟨rfl, _, rfl, .ref ma, .ref (C 1), _, _, true, rfl, .own _, M.X.KT.ty 1 (by decide) _ ma mx ms gi, kitS, kk _ fun _ _ z => z⟩
    · refine ⟨D, (List.range xs.length).map fun _ => true, rfl, SqL.of (by rw [gD, List.map_map]; rfl), _, rfl, ?_⟩
      rw [show ((List.range xs.length).map fun _ => true).all id = true by rw [List.all_eq_true]; intro b hb; obtain ⟨_, _, rfl⟩ := List.mem_map.mp hb; rfl]
      refine iteF ?_
      have sm2 := SqT.same s2 KA.sm
      refine ⟨_, rfl, vm, rfl, ⟨_, sm2⟩, fun D2 hD2 => ?_⟩
      refine lc_map (walk_tup (xs := xs)) (g := gName 3) (vs := [3]) (σ := [some (.ref a), some (.str n), some (.ref vm), none]) (fun i => .str ((k.methods.map (·.name)).getD i ("" : Str))) hD2 (by omega) (fun H' s' => SqT.same s' sm2) (fun i x H4 H6 R hi s4 ⟨e1, hx⟩ kk => ?_) fun H4 s4 gD2 => ?_
      · subst e1
        obtain ⟨m, ma, mx, ms, em, rfl, gi, ei⟩ := item i x H6 (s2.trans s4) hx
        have e9 : (k.methods.map (·.name)).getD i ("" : Str) = m.name := by simp [List.getD, em]
        have := kk _ fun _ _ z => z
        rw [e9] at this
        exact ⟨rfl, _, rfl, ma, C 1, mx, ms, _, rfl, gi, M.X.cls 1 (by decide), M.X.no 1 (by decide) _ (by decide), ei, this⟩
      · rw [hxl] at gD2
        have e8 : (List.range k.methods.length).map (fun i => V.str ((k.methods.map (·.name)).getD i ("" : Str))) = (k.methods.map (·.name)).map V.str := by
          have := range_getD (k.methods.map (·.name)) ("" : Str) V.str
          rwa [List.length_map] at this
        rw [e8] at gD2
        refine .inl ⟨D2, _, rfl, SqL.of gD2, fun t ht => ?_⟩
        have s5 := new_same (o := .tup ((k.methods.map (·.name)).map V.str)) ht
        refine ⟨t, k.methods.map (·.name), 3, rfl, SqT.of upd_same, by rw [List.length_map]; omega, fun x hx => ?_, fun H7 s7 => ⟨_, rfl, ?_⟩⟩
        · obtain ⟨m, hm, rfl⟩ := List.mem_map.mp hx
          exact fc.ml m hm
        · rw [fc.me]
          exact q H7 ((((s3.trans s2).trans s4).trans s5).trans s7)
def fdbl (cs : List KD) (o : Ord) (ns : List Str) : Option Str := ns.find? fun n => match kd cs n with
  | some k => dbl cs o k
  | none => false
structure Ns (cs : List KD) (ns : List Str) : Prop where
  mem : ∀ n, n ∈ ns ↔ n ∈ cs.map (·.name)
  sh : ∀ n ∈ ns, n.length ≤ 1000
def spWC (K : PySem.W.Frag) (C f : Nat → Addr) (CL : Addr) : Sp := fun vs H Q _ => ∃ (a : Addr) (cs : List KD) (ns : List Str) (o : Ord), vs = [.ref a] ∧ LibO K C f CL H a cs ns o ∧ Lok cs o ∧ (∀ k ∈ cs, FineC cs o k) ∧ Ns cs ns ∧ (fdbl cs o ns = none → ∀ H', Same H H' → Q .non H') ∧
  ∀ n, fdbl cs o ns = some n → ∀ p H', Same H H' → H' p = some (.tup [.str n, .str "double"]) → Q (.ref p) H'
theorem ok_wc {g CW g0 g1 g2 g3 : Addr} {fd : FuncData} (F : Fs K mg "wrong_class" sWC ["library"] g fd) (W : CWd K w mg CW g0 g1 g2 g3) (M : Lm K mg C f CL) (G : Gm mg) (N : Nm K mg) (gC : mg "Cond" = some (.ref (C 0))) (gM : mg "Method" = some (.ref (C 1))) : FnOk P w K mg base CX0 6 g fd ["library"] (spWC K C f CL) := by
  have T := M.T
  have hCW := W.at_
  obtain ⟨_, _, _, DW⟩ := W.wk
  obtain ⟨_, d0⟩ := W.d0
  obtain ⟨_, d1⟩ := W.d1
  obtain ⟨_, d2⟩ := W.d2
  obtain ⟨_, d3⟩ := W.d3
  let SW : Addr → Option Sp := fun h => if h = g1 then some (SpLN K C f CL dbl) else if h = g0 ∨ h = g2 ∨ h = g3 then some (SpLN K C f CL noP) else none
  have AW : ∀ h sp, SW h = some sp → Held P w K mg base 5 h sp := fun h sp e => by
    by_cases z : h = g1
    · have e' : some (SpLN K C f CL dbl) = some sp := by rw [← e]; exact (if_pos z).symm
      cases e'
      subst z
      exact ⟨_, _, (ok_hd d1 M N).mono (by decide), d1.F.kp, d1.b⟩
    · have e1 : SW h = if h = g0 ∨ h = g2 ∨ h = g3 then some (SpLN K C f CL noP) else none := if_neg z
      rw [e1] at e
      by_cases y : h = g0 ∨ h = g2 ∨ h = g3
      · rw [if_pos y] at e
        cases e
        rcases y with rfl | rfl | rfl
        · exact ⟨_, _, ok_hf d0 M G N, d0.F.kp, d0.b⟩
        · exact ⟨_, _, ok_hw d2 W.ov W.to M gC, d2.F.kp, d2.b⟩
        · exact ⟨_, _, ok_hm d3 M G N gM, d3.F.kp, d3.b⟩
      · rw [if_neg y] at e; cases e
  have S1 : SW g1 = some (SpLN K C f CL dbl) := if_pos rfl
  have S0 : ∀ h, h ≠ g1 → (h = g0 ∨ h = g2 ∨ h = g3) → SW h = some (SpLN K C f CL noP) := fun h z y => (if_neg z).trans (if_pos y)
  have hw : ∀ (i : Nat) (k : Str), (["fields", "double", "where", "methods"] : List Str)[i]? = some k → ∃ h Pw, KDct K w CW k (.ref h) ∧ SW h = some (SpLN K C f CL Pw) ∧ ((i ≠ 1 ∧ Pw = noP) ∨ (i = 1 ∧ k = "double" ∧ Pw = dbl)) := fun i k e => by
    match i, e with
    | 0, e => cases e; exact ⟨g0, noP, W.k0, S0 g0 W.n0 (.inl rfl), .inl ⟨by decide, rfl⟩⟩
    | 1, e => cases e; exact ⟨g1, dbl, W.k1, S1, .inr ⟨rfl, rfl, rfl⟩⟩
    | 2, e => cases e; exact ⟨g2, noP, W.k2, S0 g2 W.n2 (.inr (.inl rfl)), .inl ⟨by decide, rfl⟩⟩
    | 3, e => cases e; exact ⟨g3, noP, W.k3, S0 g3 W.n3 (.inr (.inr rfl)), .inl ⟨by decide, rfl⟩⟩
    | n + 4, e => simp at e
  refine F.F.ok scWC (fun vs H Q E h => ?_) (fun cdv A outer s H vs Q E hr h => ?_)
  · obtain ⟨_, _, _, _, rfl, _⟩ := h
    rfl
  · obtain ⟨a, cs, ns, o, rfl, hL, ok, fine, hns, q0, q1⟩ := h
    have hrW := hr
    refine ⟨_, (pss_cons (ps_for PassesOwn.never rfl (pi_kd DW (pe_glob (v := .ref CW) (by rfl) hCW rfl)) (pg_name (i := 1) scWC.nd rfl (Or.inl rfl)) (pss_cons (ps_set (i := 2) scWC.nd rfl (Or.inl rfl) (pe_ix ix_kdict (pe_glob (v := .ref CW) (by rfl) hCW rfl) (pv 1) (fun _ _ => rfl))) (pss_one (ps_for PassesOwn.never rfl (pi_tup (pe_fld (pv 0) (by rfl))) (pg_name (i := 3) scWC.nd rfl (Or.inl rfl)) (pss_one (ps_if (pt_val (pe_callA (i := 2) (S := SW) AW hrW rfl (Or.inl rfl) (pa_cons (pv 0) (pa_cons (pv 3) pa_nil)))) (pss_one (ps_ret (pe_tup (pa_cons (pv 3) (pa_cons (pv 1) pa_nil))))) pss_nil)))))) (pss_one (ps_ret pe_non))), ?_⟩
    refine ⟨rfl, for_it walk_kd (fun i σ H2 => ∃ v1 v2 v3, σ = [some (.ref a), v1, v2, v3] ∧ Same H H2 ∧ (2 ≤ i → fdbl cs o ns = none)) ⟨none, none, none, rfl, fun _ _ z => z, fun z => absurd z (by decide)⟩ (fun _ _ _ _ _ => trivial) ?_ ?_⟩
    · rintro i x σ H2 H3 hi ⟨v1, v2, v3, rfl, s2, hf⟩ ⟨rfl, k, ek, rfl⟩
      obtain ⟨h, Pw, hkd, hS, hP⟩ := hw i k ek
      obtain ⟨dx, fs, Nn, Tb, us, L⟩ := id (hL.a.same s2)
      refine ⟨_, rfl, CW, k, .ref h, rfl, rfl, hkd, ?_⟩
      refine ⟨_, rfl, a, CL, dx, fs, .ref Nn, rfl, L.ins, M.cls, M.no _ (by simp), L.nm, Nn, rfl, ⟨_, L.sn⟩, for_tup (K := K) (a := Nn) (xs := ns.map V.str) (fun j σ H4 => ∃ v3, σ = [some (.ref a), some (.str k), some (.ref h), v3] ∧ Same H3 H4 ∧ ∀ n ∈ ns.take j, ∀ k', kd cs n = some k' → Pw cs o k' = false) ⟨v3, rfl, fun _ _ z => z, fun _ z => nomatch z⟩ (fun j σ H4 _ ⟨_, _, s, _⟩ => SqT.same s L.sn) ?_ ?_⟩
      · rintro j y σ H4 hj ⟨v4, rfl, s4, hb⟩
        obtain ⟨rfl, hm⟩ := get_str hj
        have hj2 : j < ns.length := by
          have := (List.getElem?_eq_some_iff.mp hj).1
          rwa [List.length_map] at this
        have egd : ns[j]? = some (ns.getD j "") := by simp only [List.getD, List.getElem?_eq_getElem hj2, Option.getD_some]
        obtain ⟨k', hk'⟩ := kd_some ((hns.mem _).mp hm)
        refine ⟨h, _, rfl, hS, _, rfl, _, rfl, a, cs, ns, o, _, k', rfl, hL.same (s2.trans s4), ok, hk', fine k' (kd_name hk').2, hns.sh _ hm, fun H5 s5 => ⟨_, rfl, ?_⟩⟩
        cases hp : Pw cs o k' with
        | false =>
          refine iteF ⟨_, rfl, s4.trans s5, fun n hn k2 hk2 => ?_⟩
          rw [take_snoc egd] at hn
          rcases List.mem_append.mp hn with z | z
          · exact hb n z k2 hk2
          · rw [List.mem_singleton.mp z, hk'] at hk2
            cases hk2
            exact hp
        | true =>
          rcases hP with ⟨_, rfl⟩ | ⟨hi1, rfl, rfl⟩
          · cases hp
          · refine iteT ⟨_, rfl, _, rfl, le_sz (Nat.le_of_ble_eq_true rfl), fun p hp2 => ?_⟩
            refine q1 (ns.getD j "") ?_ p _ (((s2.trans s4).trans s5).trans (new_same hp2)) upd_same
            unfold fdbl
            rw [List.find?_eq_some_iff_getElem]
            refine ⟨by rw [hk']; exact hp, j, hj2, by simp [List.getD, hj2], fun j2 hj3 => ?_⟩
            have hj4 : j2 < ns.length := by omega
            obtain ⟨k2, hk2⟩ := kd_some ((hns.mem _).mp (List.getElem_mem hj4))
            have := hb ns[j2] (List.mem_take_iff_getElem.mpr ⟨j2, by omega, rfl⟩) k2 hk2
            rw [hk2]
            simpa using this
      · rintro σ H4 ⟨v4, rfl, s4, hb⟩
        rw [List.length_map, List.take_length] at hb
        refine ⟨_, _, _, rfl, s2.trans s4, fun hi2 => ?_⟩
        rcases hP with ⟨hi1, rfl⟩ | ⟨hi1, rfl, rfl⟩
        · exact hf (by omega)
        · unfold fdbl
          rw [List.find?_eq_none]
          intro n hn
          obtain ⟨k2, hk2⟩ := kd_some ((hns.mem _).mp hn)
          rw [hk2]
          simpa using hb n hn k2 hk2
    · rintro σ H2 ⟨v1, v2, v3, rfl, s2, hf⟩
      exact q0 (hf (by decide)) H2 s2
end

end Kx
set_option linter.all false
namespace Kx
open PySem L2 PySem.Spec PyProof.Rows
abbrev sIK : Stmt := top 120
abbrev nIK : List Str := ["library", "thing"]
theorem scIK : FnScope nIK ["library", "thing"] (defScope sIK) := ⟨rfl, rfl, rfl, by decide +kernel, rfl, by decide +kernel, by decide +kernel⟩
abbrev sEnt : Stmt := top 119
abbrev nEnt : List Str := ["library", "name", "method", "terms", "param", "kind"]
theorem scEnt : FnScope nEnt ["library", "name", "method"] (defScope sEnt) := ⟨rfl, rfl, rfl, by decide +kernel, rfl, by decide +kernel, by decide +kernel⟩
abbrev sHWP : Stmt := top 121
abbrev nHWP : List Str := ["library", "name", "method", "params", "param"]
theorem scHWP : FnScope nHWP ["library", "name", "method"] (defScope sHWP) := ⟨rfl, rfl, rfl, by decide +kernel, rfl, by decide +kernel, by decide +kernel⟩
abbrev sHWR : Stmt := top 122
abbrev nHWR : List Str := ["library", "name", "method"]
theorem scHWR : FnScope nHWR ["library", "name", "method"] (defScope sHWR) := ⟨rfl, rfl, rfl, by decide +kernel, rfl, by decide +kernel, by decide +kernel⟩
abbrev sHWPr : Stmt := top 123
abbrev nHWPr : List Str := ["library", "name", "method"]
theorem scHWPr : FnScope nHWPr ["library", "name", "method"] (defScope sHWPr) := ⟨rfl, rfl, rfl, by decide +kernel, rfl, by decide +kernel, by decide +kernel⟩
abbrev sHWPo : Stmt := top 124
abbrev nHWPo : List Str := ["library", "name", "method", "terms"]
theorem scHWPo : FnScope nHWPo ["library", "name", "method"] (defScope sHWPo) := ⟨rfl, rfl, rfl, by decide +kernel, rfl, by decide +kernel, by decide +kernel⟩
abbrev sWM : Stmt := top 126
abbrev nWM : List Str := ["library", "word", "is_wrong", "name", "method"]
theorem scWM : FnScope nWM ["library"] (defScope sWM) := ⟨rfl, rfl, rfl, by decide +kernel, rfl, by decide +kernel, by decide +kernel⟩
def kindOk (cs : List KD) (t : Str) : Prop := t = "int" ∨ t ∈ cs.map (·.name)
def entryT (cs : List KD) (o : Ord) (k : KD) (m : MD) : List Str := termsO cs o "self" k.name ++ m.params.flatMap fun p => termsO cs o p.1 p.2
/-- a method that is right -/
structure FineM (cs : List KD) (o : Ord) (k : KD) (m : MD) : Prop where
  ps : areN (m.params.map (·.1)) 3 = true
  pl : m.params.length ≤ 3
  psh : ∀ p ∈ m.params, p.1.length ≤ 1000
  pk : ∀ p ∈ m.params, kindOk cs p.2
  rk : kindOk cs m.result
  pre : ∀ t ∈ m.pre.2, t ∈ entryT cs o k m
  post : ∀ t ∈ m.post.2, t ∈ entryT cs o k m ++ termsO cs o "result" m.result
  l1 : m.pre.2.length ≤ 60
  l2 : m.post.2.length ≤ 60
theorem termsO_len {cs : List KD} {o : Ord} {nm kind : Str} (ok : Lok cs o) (h : kindOk cs kind) : (termsO cs o nm kind).length ≤ 60 := by
  unfold termsO
  by_cases z : kind = "int"
  · rw [if_pos z]
    exact Nat.le_of_ble_eq_true rfl
  · rw [if_neg z, List.length_map]
    obtain ⟨l, hl⟩ := ok.all kind (h.resolve_left z)
    have h1 := fldsL_len ok.fs l.reverse
    have h2 := ok.few kind l hl
    rw [List.length_reverse] at h1
    have h3 : 3 * l.length ≤ 60 := by omega
    exact Nat.le_trans (show (fldsOf cs o kind).length ≤ 3 * l.length by unfold fldsOf; rw [hl]; exact h1) h3
theorem ent_len {cs : List KD} {o : Ord} (ok : Lok cs o) : ∀ (l : List (Str × Str)), (∀ p ∈ l, kindOk cs p.2) → (l.flatMap fun p => termsO cs o p.1 p.2).length ≤ 60 * l.length
  | [], _ => Nat.le_refl _
  | p :: l, h => by
    have h1 := ent_len ok l fun q hq => h q (List.mem_cons_of_mem _ hq)
    have h2 := termsO_len (nm := p.1) ok (h p List.mem_cons_self)
    rw [List.flatMap_cons, List.length_append, List.length_cons]
    omega
abbrev SpLM (K : PySem.W.Frag) (C f : Nat → Addr) (CL : Addr) (R : List KD → Ord → KD → MD → VK → Hp → Prop) : Sp := fun vs H Q _ => ∃ (a : Addr) (cs : List KD) (ns : List Str) (o : Ord) (n : Str) (k : KD) (m : MD) (v : V), vs = [.ref a, .str n, v] ∧ LibO K C f CL H a cs ns o ∧ Lok cs o ∧ kd cs n = some k ∧ m ∈ k.methods ∧ FineM cs o k m ∧ Oh K (clk C f) H (mO m) v ∧ R cs o k m Q H
abbrev RFalse : List KD → Ord → KD → MD → VK → Hp → Prop := fun _ _ _ _ Q H => ∀ H', Same H H' → Q (.bl false) H'
abbrev REnt : List KD → Ord → KD → MD → VK → Hp → Prop := fun cs o k m Q H => ∀ L H', H L = none → Same H H' → H' L = some (.lst ((entryT cs o k m).map V.str)) → Q (.ref L) H'
def spKind (K : PySem.W.Frag) (C f : Nat → Addr) (CL : Addr) : Sp := fun vs H Q _ => ∃ (a : Addr) (cs : List KD) (ns : List Str) (t : Str), vs = [.ref a, .str t] ∧ LibA K C f CL H a cs ns ∧ kindOk cs t ∧ ∀ H', Same H H' → Q (.bl true) H'
section
variable {P : Program} {w : World} {K : PySem.W.Frag} {mg : Str → Option Value} {base : Heap} {C f : Nat → Addr} {CL : Addr}
theorem ok_kind {g : Addr} {fd : FuncData} (F : Fs K mg "_is_kind" sIK ["library", "thing"] g fd) (M : Lm K mg C f CL) : FnOk P w K mg base CX0 2 g fd ["library", "thing"] (spKind K C f CL) := by
  obtain ⟨gc, fdc, oc, Fc, bc⟩ := M.co
  have GC : FnOk P w K mg base CX0 1 gc fdc ["self", "name"] (spCo K C f CL) := ok_co Fc M
  refine F.F.ok scIK (fun vs H Q E h => ?_) (fun cdv A outer s H vs Q E hr h => ?_)
  · obtain ⟨_, _, _, _, rfl, _⟩ := h
    rfl
  · obtain ⟨a, cs, ns, t, rfl, hL, hk, q⟩ := h
    obtain ⟨dx, fs, Nn, Tb, us, L⟩ := id hL
    refine ⟨_, (pss_one (ps_ret (pe_or (pe_cmpR op_eq (pv 1) pe_str (nomark _)) (pe_one (pe_cmpR (op_ownIn (E := E0) oc GC hr bc pass0) (pv 1) (pv 0) (by with_unfolding_all rfl)))))), ?_⟩
    refine ⟨_, rfl, rfl, _, rfl, ?_⟩
    by_cases z : t = "int"
    · rw [decide_eq_true (by rw [z])]
      exact iteT (q H fun _ _ z => z)
    · rw [decide_eq_false (fun y => z (by injection y))]
      refine iteF ⟨_, rfl, _, rfl, a, dx, fs, rfl, L.ins, a, cs, ns, t, rfl, hL, fun H1 s1 => ⟨_, rfl, ?_⟩⟩
      rw [decide_eq_true (hk.resolve_left z)]
      exact q H1 s1
theorem ok_ent {g : Addr} {fd : FuncData} (F : Fs K mg "_entry_terms" sEnt ["library", "name", "method"] g fd) (dTO : ∃ g fd, Fs K mg "terms_of" sTO ["library", "name", "kind"] g fd) (M : Lm K mg C f CL) : FnOk P w K mg base CX0 5 g fd ["library", "name", "method"] (SpLM K C f CL REnt) := by
  obtain ⟨_, _, dTO⟩ := dTO
  have GTO : FnOk P w K mg base CX0 4 _ _ ["library", "name", "kind"] (spTO K C f CL) := ok_to dTO M
  refine F.F.ok scEnt (fun vs H Q E h => ?_) (fun cdv A outer s H vs Q E hr h => ?_)
  · obtain ⟨_, _, _, _, _, _, _, _, rfl, _⟩ := h
    rfl
  · obtain ⟨a, cs, ns, o, n, k, m, v, rfl, hL, ok, hk, hmm, fm, ov, q⟩ := h
    obtain ⟨en, ek⟩ := kd_name hk
    have hm : n ∈ cs.map (·.name) := List.mem_map.mpr ⟨k, ek, en⟩
    obtain ⟨ma, mx, ms, vp, ps, v1', v2', vb', rfl, MA⟩ := mO_get ov
    refine ⟨_, (pss_cons (ps_set (i := 3) scEnt.nd rfl (Or.inl rfl) (pe_call GTO hr (by rfl) dTO.m dTO.F.kp dTO.b .nil pass0 (pa_cons (pv 0) (pa_cons pe_str (pa_cons (pv 1) pa_nil))))) (pss_cons (ps_for PassesOwn.never rfl (pi_tup (pe_fld (pv 2) (by rfl))) (pg_tup rfl (pgs_cons (pg_name (i := 4) scEnt.nd rfl (Or.inl rfl)) (pgs_cons (pg_name (i := 5) scEnt.nd rfl (Or.inl rfl)) pgs_nil))) (pss_one (ps_expr (pe_bm PySem.F.plainAttrs_list PySem.F.slot_list_extend PySem.F.type_list_extend mt_extend (pv 3) (pa_cons (pe_call GTO hr (by rfl) dTO.m dTO.F.kp dTO.b .nil pass0 (pa_cons (pv 0) (pa_cons (pv 4) (pa_cons (pv 5) pa_nil)))) pa_nil))))) (pss_one (ps_ret (pv 3))))), ?_⟩
    refine ⟨_, rfl, _, rfl, a, cs, ns, o, "self", n, rfl, hL, .inr hm, ok, by decide, fun L1 H1 f1 s1 g1 => ?_⟩
    have hpl : ps.length = m.params.length := by rw [← OhAll.length _ _ MA.op, List.length_map]
    refine ⟨_, rfl, ma, C 1, mx, ms, _, rfl, s1 _ _ MA.ins, M.X.cls 1 (by decide), M.X.no 1 (by decide) _ (by decide), MA.p, vp, rfl, ⟨_, SqT.same s1 MA.sp⟩, for_tup (K := K) (a := vp) (xs := ps) (fun i σ H2 => ∃ w1 w2, σ = [some (.ref a), some (.str n), some (.ref ma), some (.ref L1), w1, w2] ∧ Same H H2 ∧ H2 L1 = some (.lst ((termsO cs o "self" k.name ++ (m.params.take i).flatMap fun p => termsO cs o p.1 p.2).map V.str))) ⟨none, none, rfl, s1, by rw [g1, en, List.take_zero, List.flatMap_nil, List.append_nil]⟩ (fun i σ H2 _ ⟨_, _, _, s, _⟩ => SqT.same s MA.sp) ?_ ?_⟩
    · rintro i x σ H2 hi ⟨w1, w2, rfl, s2, g2⟩
      obtain ⟨d, hd, od⟩ := ohAll_get _ _ _ _ MA.op hi
      rw [List.getElem?_map] at hd
      obtain ⟨p, ep, rfl⟩ := Option.map_eq_some_iff.mp hd
      obtain ⟨t, ts, rfl, ht, ot⟩ := Oh.sm s2 od
      obtain ⟨_, _, rfl, ⟨rfl, _⟩, _, _, rfl, ⟨rfl, _⟩, rfl⟩ := ot
      have hpm : p ∈ m.params := List.mem_of_getElem? ep
      refine ⟨t, _, rfl, ht, rfl, _, _, rfl, _, _, rfl, rfl, ?_⟩
      refine ⟨_, rfl, .inl ⟨rfl, _, SqL.of g2⟩, _, rfl, _, rfl, _, rfl, a, cs, ns, o, p.1, p.2, rfl, hL.same s2, fm.pk p hpm, ok, fm.psh p hpm, fun L2 H3 f3 s3 g3 => ?_⟩
      have hi3 : i ≤ 3 := by have := fm.pl; have := (List.getElem?_eq_some_iff.mp ep).1; omega
      refine ⟨L1, L2, _, _, rfl, rfl, s3 _ _ g2, g3, small1000'' ?_, _, _, rfl, same_D f1 (s2.trans s3), ?_⟩
      · rw [List.length_map, List.length_map, List.length_append]
        have h1 := termsO_len (nm := "self") (kind := k.name) ok (.inr (by rw [en]; exact hm))
        have h2 := termsO_len (nm := p.1) ok (fm.pk p hpm)
        have h3 := ent_len ok (o := o) (m.params.take i) fun p hp => fm.pk p (List.mem_of_mem_take hp)
        have h4 := List.length_take_le i m.params
        omega
      · rw [upd_same, take_snoc ep, List.flatMap_append]
        simp only [List.map_append, List.flatMap_cons, List.flatMap_nil, List.append_nil, List.append_assoc]
    · rintro σ H2 ⟨w1, w2, rfl, s2, g2⟩
      rw [hpl, List.take_length] at g2
      exact ⟨_, rfl, q L1 H2 f1 s2 g2⟩
theorem ok_hwp {g : Addr} {fd : FuncData} (F : Fs K mg "_has_wrong_params" sHWP ["library", "name", "method"] g fd) (dK : ∃ g fd, Fs K mg "_is_kind" sIK ["library", "thing"] g fd) (M : Lm K mg C f CL) (G : Gm mg) (N : Nm K mg) : FnOk P w K mg base CX0 6 g fd ["library", "name", "method"] (SpLM K C f CL RFalse) := by
  have T := M.T
  obtain ⟨_, _, dA, GA⟩ := N.ga (P := P) (w := w) (base := base) T
  obtain ⟨_, hp3⟩ := G.p3
  obtain ⟨_, _, dK⟩ := dK
  have GK : FnOk P w K mg base CX0 2 _ _ ["library", "thing"] (spKind K C f CL) := ok_kind dK M
  refine F.F.ok scHWP (fun vs H Q E h => ?_) (fun cdv A outer s H vs Q E hr h => ?_)
  · obtain ⟨_, _, _, _, _, _, _, _, rfl, _⟩ := h
    rfl
  · obtain ⟨a, cs, ns, o, n, k, m, v, rfl, hL, ok, hk, hmm, fm, ov, q⟩ := h
    have hrK : Room 2 (A.deeper (envOfC "_has_wrong_params" (defScope sHWP) s.heap.objs.size g cdv)) := hr.mono (by decide)
    have hrA : Room 3 (A.deeper (envOfC "_has_wrong_params" (defScope sHWP) s.heap.objs.size g cdv)) := hr.mono (by decide)
    obtain ⟨ma, mx, ms, vp, ps, v1', v2', vb', rfl, MA⟩ := mO_get ov
    have hpl : ps.length = m.params.length := by rw [← OhAll.length _ _ MA.op, List.length_map]
    have hp3' := fm.pl
    have item : ∀ (i : Nat) (x : V) (H4 : Hp), Same H H4 → ps[i]? = some x → ∃ (p : Str × Str) (t : Addr), m.params[i]? = some p ∧ x = .ref t ∧ SqT K H4 t [.str p.1, .str p.2] := fun i x H4 s4 hx => by
      obtain ⟨d, hd, od⟩ := ohAll_get _ _ _ _ MA.op hx
      rw [List.getElem?_map] at hd
      obtain ⟨p, ep, rfl⟩ := Option.map_eq_some_iff.mp hd
      obtain ⟨t, ts, rfl, ht, ot⟩ := Oh.sm s4 od
      obtain ⟨_, _, rfl, ⟨rfl, _⟩, _, _, rfl, ⟨rfl, _⟩, rfl⟩ := ot
      exact ⟨p, t, ep, rfl, ht⟩
    have alltrue : ∀ l : List Nat, (l.map fun _ => true).all id = true := fun l => by rw [List.all_eq_true]; intro b hb; obtain ⟨_, _, rfl⟩ := List.mem_map.mp hb; rfl
    refine ⟨_, (pss_cons (ps_set (i := 3) scHWP.nd rfl (Or.inl rfl) (pe_fld (pv 2) (by rfl))) (pss_cons (ps_if (PW.pt (pw_or (pt_not (pt_val (pe_callB call_isi (by rfl) T.isi boot_isinstance (pa_cons (pv 3) (pa_cons (pe_bltn (v := .ty "tuple") (by rfl) T.tuple (by decide +kernel) rfl) pa_nil))))) (pw_or1 (pt_not (pt_val (pe_callB (cr_all rfl) (by rfl) T.all (by decide +kernel) (pa_cons (pe_lc (own := [("param", 4)]) (g := gName 4) (tt := tYes) rfl scHWP.nd (pi_tup (pv 3)) (blkOk_by (N := nHWP) (sc := defScope sHWP) (by decide +kernel)) (fun _ _ _ _ _ => (pg_name (i := 4) scHWP.nd rfl (Or.inl rfl))) (fun _ _ _ _ _ => pts_nil) (fun _ _ _ _ _ => (pe_and (pe_callB (call_isiK (K := K) rfl) (by rfl) T.isi boot_isinstance (pa_cons (pv 4) (pa_cons (pe_bltn (v := .ty "tuple") (by rfl) T.tuple (by decide +kernel) rfl) pa_nil))) (pe_one (pe_cmpR op_eq (pe_callB (call_lenK (K := K) rfl) (by rfl) T.len PySem.boot_len (pa_cons (pv 4) pa_nil)) pe_int (nomark _)))))) pa_nil))))))) (pss_one (ps_ret pe_bl)) pss_nil) (pss_cons (ps_if (pt_not (pt_val (pe_call GA hrA (by rfl) dA.m dA.F.kp dA.b .nil pass0 (pa_cons (pe_tupleOf (by rfl) T.tuple (pe_lc (own := [("param", 4)]) (g := gName 4) (tt := tYes) rfl scHWP.nd (pi_tup (pv 3)) (blkOk_by (N := nHWP) (sc := defScope sHWP) (by decide +kernel)) (fun _ _ _ _ _ => (pg_name (i := 4) scHWP.nd rfl (Or.inl rfl))) (fun _ _ _ _ _ => pts_nil) (fun _ _ _ _ _ => (pe_ix (ix_tupK (K := K) rfl) (pv 4) pe_int (fun _ _ => rfl))))) (pa_cons (pe_glob (v := .int 3) (by rfl) hp3 ⟨_, rfl⟩) pa_nil))))) (pss_one (ps_ret pe_bl)) pss_nil) (pss_one (ps_ret (pe_not (pe_callB (cr_all rfl) (by rfl) T.all (by decide +kernel) (pa_cons (pe_lc (own := [("param", 4)]) (g := gName 4) (tt := tYes) rfl scHWP.nd (pi_tup (pv 3)) (blkOk_by (N := nHWP) (sc := defScope sHWP) (by decide +kernel)) (fun _ _ _ _ _ => (pg_name (i := 4) scHWP.nd rfl (Or.inl rfl))) (fun _ _ _ _ _ => pts_nil) (fun _ _ _ _ _ => (pe_call GK hrK (by rfl) dK.m dK.F.kp dK.b .nil pass0 (pa_cons (pv 0) (pa_cons (pe_ix (ix_tupK (K := K) rfl) (pv 4) pe_int (fun _ _ => rfl)) pa_nil))))) pa_nil)))))))), ?_⟩
    refine ⟨_, rfl, ma, C 1, mx, ms, _, rfl, MA.ins, M.X.cls 1 (by decide), M.X.no 1 (by decide) _ (by decide), MA.p, ?_⟩
    refine ⟨_, rfl, .ref vp, .ty "tuple", _, _, true, rfl, .ty _, tyT MA.sp, kit_ty (by decide +kernel), true, rfl, iteF ?_⟩
    refine ⟨_, rfl, vp, rfl, ⟨_, MA.sp⟩, fun D hD => ?_⟩
    refine lc_map (walk_tup (xs := ps)) (g := gName 4) (vs := [4]) (σ := [some (.ref a), some (.str n), some (.ref ma), some (.ref vp), none]) (fun _ => .bl true) hD (by omega) (fun H' s' => SqT.same s' MA.sp) (fun i x H2 H6 R hi s2 ⟨e1, hx⟩ kk => ?_) fun H2 s2 gD => ?_
    · subst e1
      obtain ⟨p, t, ep, rfl, ht⟩ := item i x H6 s2 hx
      exact ⟨rfl, _, rfl, .ref t, .ty "tuple", _, _, true, rfl, .ty _, tyT ht, kit_ty (by decide +kernel), true, rfl, iteT ⟨_, rfl, t, _, rfl, .inr ht, rfl, kk _ fun _ _ z => z⟩⟩
    · refine ⟨D, (List.range ps.length).map fun _ => true, rfl, SqL.of (by rw [gD, List.map_map]; rfl), _, rfl, ?_⟩
      rw [alltrue]
      refine iteF ?_
      have sm2 := SqT.same s2 MA.sp
      refine ⟨_, rfl, vp, rfl, ⟨_, sm2⟩, fun D2 hD2 => ?_⟩
      refine lc_map (walk_tup (xs := ps)) (g := gName 4) (vs := [4]) (σ := [some (.ref a), some (.str n), some (.ref ma), some (.ref vp), none]) (fun i => .str ((m.params.map (·.1)).getD i ("" : Str))) hD2 (by omega) (fun H' s' => SqT.same s' sm2) (fun i x H4 H6 R hi s4 ⟨e1, hx⟩ kk => ?_) fun H4 s4 gD2 => ?_
      · subst e1
        obtain ⟨p, t, ep, rfl, ht⟩ := item i x H6 (s2.trans s4) hx
        have e9 : (m.params.map (·.1)).getD i ("" : Str) = p.1 := by simp [List.getD, ep]
        have := kk _ fun _ _ z => z
        rw [e9] at this
        exact ⟨rfl, _, rfl, t, _, _, .str p.1, rfl, rfl, ht, rfl, this⟩
      · rw [hpl] at gD2
        have e8 : (List.range m.params.length).map (fun i => V.str ((m.params.map (·.1)).getD i ("" : Str))) = (m.params.map (·.1)).map V.str := by
          have := range_getD (m.params.map (·.1)) ("" : Str) V.str
          rwa [List.length_map] at this
        rw [e8] at gD2
        refine .inl ⟨D2, _, rfl, SqL.of gD2, fun t ht => ?_⟩
        have s5 := new_same (o := .tup ((m.params.map (·.1)).map V.str)) ht
        refine ⟨t, m.params.map (·.1), 3, rfl, SqT.of upd_same, by rw [List.length_map]; omega, fun x hx => ?_, fun H7 s7 => ⟨_, rfl, ?_⟩⟩
        · obtain ⟨p, hp, rfl⟩ := List.mem_map.mp hx
          exact fm.psh p hp
        · rw [fm.ps]
          refine iteF ?_
          have s27 := (((s2.trans s4).trans s5).trans s7)
          have sm7 := SqT.same s27 MA.sp
          refine ⟨_, rfl, vp, rfl, ⟨_, sm7⟩, fun D3 hD3 => ?_⟩
          refine lc_map (walk_tup (xs := ps)) (g := gName 4) (vs := [4]) (σ := [some (.ref a), some (.str n), some (.ref ma), some (.ref vp), none]) (fun _ => .bl true) hD3 (by omega) (fun H' s' => SqT.same s' sm7) (fun i x H8 H9 R hi s8 ⟨e1, hx⟩ kk => ?_) fun H8 s8 gD3 => ?_
          · subst e1
            obtain ⟨p, t, ep, rfl, ht⟩ := item i x H9 (s27.trans s8) hx
            exact ⟨rfl, _, rfl, _, rfl, t, _, _, .str p.2, rfl, rfl, ht, rfl, a, cs, ns, p.2, rfl, hL.a.same (s27.trans s8), fm.pk p (List.mem_of_getElem? ep), fun H9 s9 => kk H9 s9⟩
          · refine ⟨D3, (List.range ps.length).map fun _ => true, rfl, SqL.of (by rw [gD3, List.map_map]; rfl), _, rfl, ?_⟩
            rw [alltrue]
            exact q H8 (s27.trans s8)
theorem ok_hwr {g : Addr} {fd : FuncData} (F : Fs K mg "_has_wrong_result" sHWR ["library", "name", "method"] g fd) (dK : ∃ g fd, Fs K mg "_is_kind" sIK ["library", "thing"] g fd) (M : Lm K mg C f CL) : FnOk P w K mg base CX0 6 g fd ["library", "name", "method"] (SpLM K C f CL RFalse) := by
  obtain ⟨_, _, dK⟩ := dK
  have GK : FnOk P w K mg base CX0 2 _ _ ["library", "thing"] (spKind K C f CL) := ok_kind dK M
  refine F.F.ok scHWR (fun vs H Q E h => ?_) (fun cdv A outer s H vs Q E hr h => ?_)
  · obtain ⟨_, _, _, _, _, _, _, _, rfl, _⟩ := h
    rfl
  · obtain ⟨a, cs, ns, o, n, k, m, v, rfl, hL, ok, hk, hmm, fm, ov, q⟩ := h
    have hrK : Room 2 (A.deeper (envOfC "_has_wrong_result" (defScope sHWR) s.heap.objs.size g cdv)) := hr.mono (by decide)
    obtain ⟨ma, mx, ms, vp, ps, v1', v2', vb', rfl, MA⟩ := mO_get ov
    refine ⟨_, (pss_one (ps_ret (pe_not (pe_call GK hrK (by rfl) dK.m dK.F.kp dK.b .nil pass0 (pa_cons (pv 0) (pa_cons (pe_fld (pv 2) (by rfl)) pa_nil)))))), ?_⟩
    exact ⟨_, rfl, _, rfl, ma, C 1, mx, ms, _, rfl, MA.ins, M.X.cls 1 (by decide), M.X.no 1 (by decide) _ (by decide), MA.r, a, cs, ns, m.result, rfl, hL.a, fm.rk, fun H5 s5 => ⟨_, rfl, q H5 s5⟩⟩
theorem ok_hpr {g : Addr} {fd : FuncData} (F : Fs K mg "_has_wrong_pre" sHWPr ["library", "name", "method"] g fd) (dE : ∃ g fd, Fs K mg "_entry_terms" sEnt ["library", "name", "method"] g fd) (dTO : ∃ g fd, Fs K mg "terms_of" sTO ["library", "name", "kind"] g fd) (dOv : ∃ g fd, Fs K mg "_is_over" sOv ["cond", "terms"] g fd) (M : Lm K mg C f CL) (gC : mg "Cond" = some (.ref (C 0))) : FnOk P w K mg base CX0 6 g fd ["library", "name", "method"] (SpLM K C f CL RFalse) := by
  obtain ⟨_, _, dE⟩ := dE
  obtain ⟨_, _, dOv⟩ := dOv
  have GE : FnOk P w K mg base CX0 5 _ _ ["library", "name", "method"] (SpLM K C f CL REnt) := ok_ent dE dTO M
  have GOv : FnOk P w K mg base CX0 1 _ _ ["cond", "terms"] (spOv K C f) := ok_ov dOv M gC
  refine F.F.ok scHWPr (fun vs H Q E h => ?_) (fun cdv A outer s H vs Q E hr h => ?_)
  · obtain ⟨_, _, _, _, _, _, _, _, rfl, _⟩ := h
    rfl
  · obtain ⟨a, cs, ns, o, n, k, m, v, rfl, hL, ok, hk, hmm, fm, ov, q⟩ := h
    have hrE : Room 5 (A.deeper (envOfC "_has_wrong_pre" (defScope sHWPr) s.heap.objs.size g cdv)) := hr
    have hrOv : Room 1 (A.deeper (envOfC "_has_wrong_pre" (defScope sHWPr) s.heap.objs.size g cdv)) := hr.mono (by decide)
    obtain ⟨ma, mx, ms, vp, ps, v1', v2', vb', rfl, MA⟩ := mO_get ov
    refine ⟨_, (pss_one (ps_ret (pe_not (pe_call GOv hrOv (by rfl) dOv.m dOv.F.kp dOv.b .nil pass0 (pa_cons (pe_fld (pv 2) (by rfl)) (pa_cons (pe_call GE hrE (by rfl) dE.m dE.F.kp dE.b .nil pass0 (pa_cons (pv 0) (pa_cons (pv 1) (pa_cons (pv 2) pa_nil)))) pa_nil)))))), ?_⟩
    refine ⟨_, rfl, ma, C 1, mx, ms, _, rfl, MA.ins, M.X.cls 1 (by decide), M.X.no 1 (by decide) _ (by decide), MA.pre, ?_⟩
    exact ⟨_, rfl, _, rfl, _, rfl, a, cs, ns, o, n, k, m, _, rfl, hL, ok, hk, hmm, fm, ov, fun L1 H1 f1 s1 g1 => ⟨_, m.pre, L1, _, rfl, Oh.sm s1 MA.opre, SqL.of g1, fm.l1, fm.pre, fun H5 s5 => ⟨_, rfl, q H5 (s1.trans s5)⟩⟩⟩
theorem ok_hpo {g : Addr} {fd : FuncData} (F : Fs K mg "_has_wrong_post" sHWPo ["library", "name", "method"] g fd) (dE : ∃ g fd, Fs K mg "_entry_terms" sEnt ["library", "name", "method"] g fd) (dTO : ∃ g fd, Fs K mg "terms_of" sTO ["library", "name", "kind"] g fd) (dOv : ∃ g fd, Fs K mg "_is_over" sOv ["cond", "terms"] g fd) (M : Lm K mg C f CL) (gC : mg "Cond" = some (.ref (C 0))) : FnOk P w K mg base CX0 6 g fd ["library", "name", "method"] (SpLM K C f CL RFalse) := by
  have dTO' := dTO
  obtain ⟨_, _, dE⟩ := dE
  obtain ⟨_, _, dOv⟩ := dOv
  obtain ⟨_, _, dTO⟩ := dTO
  have GE : FnOk P w K mg base CX0 5 _ _ ["library", "name", "method"] (SpLM K C f CL REnt) := ok_ent dE dTO' M
  have GOv : FnOk P w K mg base CX0 1 _ _ ["cond", "terms"] (spOv K C f) := ok_ov dOv M gC
  have GTO : FnOk P w K mg base CX0 4 _ _ ["library", "name", "kind"] (spTO K C f CL) := ok_to dTO M
  refine F.F.ok scHWPo (fun vs H Q E h => ?_) (fun cdv A outer s H vs Q E hr h => ?_)
  · obtain ⟨_, _, _, _, _, _, _, _, rfl, _⟩ := h
    rfl
  · obtain ⟨a, cs, ns, o, n, k, m, v, rfl, hL, ok, hk, hmm, fm, ov, q⟩ := h
    have hrE : Room 5 (A.deeper (envOfC "_has_wrong_post" (defScope sHWPo) s.heap.objs.size g cdv)) := hr
    have hrOv : Room 1 (A.deeper (envOfC "_has_wrong_post" (defScope sHWPo) s.heap.objs.size g cdv)) := hr.mono (by decide)
    have hrTO : Room 4 (A.deeper (envOfC "_has_wrong_post" (defScope sHWPo) s.heap.objs.size g cdv)) := hr.mono (by decide)
    obtain ⟨ma, mx, ms, vp, ps, v1', v2', vb', rfl, MA⟩ := mO_get ov
    refine ⟨_, (pss_cons (ps_set (i := 3) scHWPo.nd rfl (Or.inl rfl) (pe_op op_cat (pe_call GE hrE (by rfl) dE.m dE.F.kp dE.b .nil pass0 (pa_cons (pv 0) (pa_cons (pv 1) (pa_cons (pv 2) pa_nil)))) (pe_call GTO hrTO (by rfl) dTO.m dTO.F.kp dTO.b .nil pass0 (pa_cons (pv 0) (pa_cons pe_str (pa_cons (pe_fld (pv 2) (by rfl)) pa_nil)))))) (pss_one (ps_ret (pe_not (pe_call GOv hrOv (by rfl) dOv.m dOv.F.kp dOv.b .nil pass0 (pa_cons (pe_fld (pv 2) (by rfl)) (pa_cons (pv 3) pa_nil))))))), ?_⟩
    refine ⟨_, rfl, _, rfl, _, rfl, a, cs, ns, o, n, k, m, _, rfl, hL, ok, hk, hmm, fm, ov, fun L1 H1 f1 s1 g1 => ?_⟩
    refine ⟨_, rfl, _, rfl, ma, C 1, mx, ms, _, rfl, s1 _ _ MA.ins, M.X.cls 1 (by decide), M.X.no 1 (by decide) _ (by decide), MA.r, a, cs, ns, o, "result", m.result, rfl, hL.same s1, fm.rk, ok, by decide, fun L2 H2 f2 s2 g2 => ?_⟩
    have h1 : (entryT cs o k m).length ≤ 240 := by
      unfold entryT
      rw [List.length_append]
      have h1 := termsO_len (nm := "self") (kind := k.name) ok (.inr (List.mem_map.mpr ⟨k, (kd_name hk).2, rfl⟩))
      have h3 := ent_len ok (o := o) m.params fm.pk
      have := fm.pl
      omega
    have h2 := termsO_len (nm := "result") (o := o) ok fm.rk
    refine ⟨L1, L2, _, _, rfl, rfl, s2 _ _ g1, g2, small1000'' (by rw [List.length_map, List.length_map]; omega), fun p hp => ?_⟩
    have s3 := (s1.trans s2).trans (new_same (o := .lst ((entryT cs o k m).map V.str ++ (termsO cs o "result" m.result).map V.str)) hp)
    have gp : (upd H2 p (.lst ((entryT cs o k m).map V.str ++ (termsO cs o "result" m.result).map V.str))) p = some (.lst ((entryT cs o k m ++ termsO cs o "result" m.result).map V.str)) := by rw [upd_same, List.map_append]
    obtain ⟨H3, e3⟩ : ∃ G, upd H2 p (.lst ((entryT cs o k m).map V.str ++ (termsO cs o "result" m.result).map V.str)) = G := ⟨_, rfl⟩
    rw [e3] at s3 gp ⊢
    refine ⟨_, rfl, ma, C 1, mx, ms, _, rfl, s3 _ _ MA.ins, M.X.cls 1 (by decide), M.X.no 1 (by decide) _ (by decide), MA.post, ?_⟩
    exact ⟨_, rfl, _, m.post, p, _, rfl, Oh.sm s3 MA.opost, SqL.of gp, fm.l2, fm.post, fun H5 s5 => ⟨_, rfl, q H5 (s3.trans s5)⟩⟩
end

end Kx
set_option linter.all false
namespace Kx
open PySem L2 PySem.Spec PyProof.Rows
structure MWd (K : PySem.W.Frag) (w : World) (mg : Str → Option Value) (MW : Addr) : Prop where
  at_ : mg "METHOD_WORDS" = some (.ref MW)
  wk : ∃ o es ep, KWalk K MW ["params", "result", "pre", "post"] o es ep
  k0 : ∃ g fd, KDct K w MW "params" (.ref g) ∧ Fs K mg "_has_wrong_params" sHWP ["library", "name", "method"] g fd
  k1 : ∃ g fd, KDct K w MW "result" (.ref g) ∧ Fs K mg "_has_wrong_result" sHWR ["library", "name", "method"] g fd
  k2 : ∃ g fd, KDct K w MW "pre" (.ref g) ∧ Fs K mg "_has_wrong_pre" sHWPr ["library", "name", "method"] g fd
  k3 : ∃ g fd, KDct K w MW "post" (.ref g) ∧ Fs K mg "_has_wrong_post" sHWPo ["library", "name", "method"] g fd
  ik : ∃ g fd, Fs K mg "_is_kind" sIK ["library", "thing"] g fd
  en : ∃ g fd, Fs K mg "_entry_terms" sEnt ["library", "name", "method"] g fd
  ov : ∃ g fd, Fs K mg "_is_over" sOv ["cond", "terms"] g fd
  to : ∃ g fd, Fs K mg "terms_of" sTO ["library", "name", "kind"] g fd
def spWM (K : PySem.W.Frag) (C f : Nat → Addr) (CL : Addr) : Sp := fun vs H Q _ => ∃ (a : Addr) (cs : List KD) (ns : List Str) (o : Ord), vs = [.ref a] ∧ LibO K C f CL H a cs ns o ∧ Lok cs o ∧ (∀ k ∈ cs, ∀ m ∈ k.methods, FineM cs o k m) ∧ Ns cs ns ∧ ∀ H', Same H H' → Q .non H'
section
variable {P : Program} {w : World} {K : PySem.W.Frag} {mg : Str → Option Value} {base : Heap} {C f : Nat → Addr} {CL : Addr}
theorem ok_wm {g MW : Addr} {fd : FuncData} (F : Fs K mg "wrong_method" sWM ["library"] g fd) (W : MWd K w mg MW) (M : Lm K mg C f CL) (G : Gm mg) (N : Nm K mg) (gC : mg "Cond" = some (.ref (C 0))) : FnOk P w K mg base CX0 7 g fd ["library"] (spWM K C f CL) := by
  have hMW := W.at_
  obtain ⟨_, _, _, DW⟩ := W.wk
  obtain ⟨g0, _, kd0, d0⟩ := W.k0
  obtain ⟨g1, _, kd1, d1⟩ := W.k1
  obtain ⟨g2, _, kd2, d2⟩ := W.k2
  obtain ⟨g3, _, kd3, d3⟩ := W.k3
  obtain ⟨gx, fdx, ox, Fx, bx⟩ := M.ix
  have GX : FnOk P w K mg base CX0 2 gx fdx ["self", "name"] (spLix K C f CL) := ok_lix Fx M
  let SM : Addr → Option Sp := fun h => if h = g0 ∨ h = g1 ∨ h = g2 ∨ h = g3 then some (SpLM K C f CL RFalse) else none
  have SY : ∀ h, (h = g0 ∨ h = g1 ∨ h = g2 ∨ h = g3) → SM h = some (SpLM K C f CL RFalse) := fun h y => if_pos y
  have AM : ∀ h sp, SM h = some sp → Held P w K mg base 6 h sp := fun h sp e => by
    by_cases y : h = g0 ∨ h = g1 ∨ h = g2 ∨ h = g3
    · have e' : some (SpLM K C f CL RFalse) = some sp := by rw [← e]; exact (SY h y).symm
      cases e'
      rcases y with rfl | rfl | rfl | rfl
      · exact ⟨_, _, ok_hwp d0 W.ik M G N, d0.F.kp, d0.b⟩
      · exact ⟨_, _, ok_hwr d1 W.ik M, d1.F.kp, d1.b⟩
      · exact ⟨_, _, ok_hpr d2 W.en W.to W.ov M gC, d2.F.kp, d2.b⟩
      · exact ⟨_, _, ok_hpo d3 W.en W.to W.ov M gC, d3.F.kp, d3.b⟩
    · have e1 : SM h = none := if_neg y
      rw [e1] at e
      cases e
  have hw : ∀ (i : Nat) (k : Str), (["params", "result", "pre", "post"] : List Str)[i]? = some k → ∃ h, KDct K w MW k (.ref h) ∧ SM h = some (SpLM K C f CL RFalse) := fun i k e => by
    match i, e with
    | 0, e => cases e; exact ⟨g0, kd0, SY g0 (.inl rfl)⟩
    | 1, e => cases e; exact ⟨g1, kd1, SY g1 (.inr (.inl rfl))⟩
    | 2, e => cases e; exact ⟨g2, kd2, SY g2 (.inr (.inr (.inl rfl)))⟩
    | 3, e => cases e; exact ⟨g3, kd3, SY g3 (.inr (.inr (.inr rfl)))⟩
    | n + 4, e => simp at e
  refine F.F.ok scWM (fun vs H Q E h => ?_) (fun cdv A outer s H vs Q E hr h => ?_)
  · obtain ⟨_, _, _, _, rfl, _⟩ := h
    rfl
  · obtain ⟨a, cs, ns, o, rfl, hL, ok, fine, hns, q⟩ := h
    have hrM := hr
    have hrX : Room 3 (A.deeper (envOfC "wrong_method" (defScope sWM) s.heap.objs.size g cdv)) := hr.mono (by decide)
    refine ⟨_, (pss_cons (ps_for PassesOwn.never rfl (pi_kd DW (pe_glob (v := .ref MW) (by rfl) hMW rfl)) (pg_name (i := 1) scWM.nd rfl (Or.inl rfl)) (pss_cons (ps_set (i := 2) scWM.nd rfl (Or.inl rfl) (pe_ix ix_kdict (pe_glob (v := .ref MW) (by rfl) hMW rfl) (pv 1) (fun _ _ => rfl))) (pss_one (ps_for PassesOwn.never rfl (pi_tup (pe_fld (pv 0) (by rfl))) (pg_name (i := 3) scWM.nd rfl (Or.inl rfl)) (pss_one (ps_for PassesOwn.never rfl (pi_tup (pe_fld (pe_ownIx (E := E0) ox GX hrX bx pass0 (pv 0) (pv 3)) (by rfl))) (pg_name (i := 4) scWM.nd rfl (Or.inl rfl)) (pss_one (ps_if (pt_val (pe_callA (i := 2) (S := SM) AM hrM rfl (Or.inl rfl) (pa_cons (pv 0) (pa_cons (pv 3) (pa_cons (pv 4) pa_nil))))) (pss_one (ps_ret (pe_tup (pa_cons (pe_tup (pa_cons (pv 3) (pa_cons (pe_fld (pv 4) (by rfl)) pa_nil))) (pa_cons (pv 1) pa_nil))))) pss_nil)))))))) (pss_one (ps_ret pe_non))), ?_⟩
    refine ⟨rfl, for_it walk_kd (fun i σ H2 => ∃ v1 v2 v3 v4, σ = [some (.ref a), v1, v2, v3, v4] ∧ Same H H2) ⟨none, none, none, none, rfl, fun _ _ z => z⟩ (fun _ _ _ _ _ => trivial) ?_ ?_⟩
    · rintro i x σ H2 H3 hi ⟨v1, v2, v3, v4, rfl, s2⟩ ⟨rfl, kw, ek, rfl⟩
      obtain ⟨h, hkd, hS⟩ := hw i kw ek
      obtain ⟨dx, fs, Nn, Tb, us, L⟩ := id (hL.a.same s2)
      refine ⟨_, rfl, MW, kw, .ref h, rfl, rfl, hkd, ?_⟩
      refine ⟨_, rfl, a, CL, dx, fs, .ref Nn, rfl, L.ins, M.cls, M.no _ (by simp), L.nm, Nn, rfl, ⟨_, L.sn⟩, for_tup (K := K) (a := Nn) (xs := ns.map V.str) (fun j σ H4 => ∃ v3 v4, σ = [some (.ref a), some (.str kw), some (.ref h), v3, v4] ∧ Same H3 H4) ⟨v3, v4, rfl, fun _ _ z => z⟩ (fun j σ H4 _ ⟨_, _, _, s⟩ => SqT.same s L.sn) ?_ ?_⟩
      · rintro j y σ H4 hj ⟨w3, w4, rfl, s4⟩
        obtain ⟨rfl, hm⟩ := get_str hj
        obtain ⟨k', hk'⟩ := kd_some ((hns.mem _).mp hm)
        obtain ⟨dx4, fs4, N4, Tb4, us4, L4⟩ := id (hL.a.same (s2.trans s4))
        refine ⟨_, rfl, _, rfl, a, dx4, fs4, rfl, L4.ins, a, cs, ns, _, k', rfl, hL.a.same (s2.trans s4), hk', fun u H5 s5 ov => ?_⟩
        obtain ⟨b, bx', bs, vb, vf, vm, vw, xs, rfl, KA⟩ := kO_get ov
        refine ⟨b, C 2, bx', bs, _, rfl, KA.ins, M.X.cls 2 (by decide), M.X.no 2 (by decide) _ (by decide), KA.m, vm, rfl, ⟨_, KA.sm⟩, for_tup (K := K) (a := vm) (xs := xs) (fun j2 σ H6 => ∃ v4, σ = [some (.ref a), some (.str kw), some (.ref h), some (.str (ns.getD j "")), v4] ∧ Same H5 H6) ⟨w4, rfl, fun _ _ z => z⟩ (fun j2 σ H6 _ ⟨_, _, s⟩ => SqT.same s KA.sm) ?_ ?_⟩
        · rintro j2 y2 σ H6 hj2 ⟨w5, rfl, s6⟩
          obtain ⟨d, hd, od⟩ := ohAll_get _ _ _ _ KA.om hj2
          rw [List.getElem?_map] at hd
          obtain ⟨m, em, rfl⟩ := Option.map_eq_some_iff.mp hd
          have hmm := List.mem_of_getElem? em
          refine ⟨h, _, rfl, hS, _, rfl, _, rfl, _, rfl, a, cs, ns, o, _, k', m, y2, rfl, hL.same ((s2.trans s4).trans (s5.trans s6)), ok, hk', hmm, fine k' (kd_name hk').2 m hmm, Oh.sm s6 od, fun H7 s7 => ⟨_, rfl, iteF ⟨_, rfl, s6.trans s7⟩⟩⟩
        · rintro σ H6 ⟨w5, rfl, s6⟩
          exact ⟨_, _, rfl, (s4.trans s5).trans s6⟩
      · rintro σ H4 ⟨w3, w4, rfl, s4⟩
        exact ⟨_, _, _, _, rfl, s2.trans s4⟩
    · rintro σ H2 ⟨v1, v2, v3, v4, rfl, s2⟩
      exact q H2 s2
end

end Kx
set_option linter.all false
namespace Kx
open PySem L2 PySem.Spec PyProof.Rows
abbrev sWA : Stmt := top 128
abbrev nWA : List Str := ["library", "name", "method", "first", "each", "other"]
theorem scWA : FnScope nWA ["library", "name", "method"] (defScope sWA) := ⟨rfl, rfl, rfl, by decide +kernel, rfl, by decide +kernel, by decide +kernel⟩
abbrev sWH_ : Stmt := top 127
abbrev nWH_ : List Str := ["library", "name", "method"]
theorem scWH_ : FnScope nWH_ ["library"] (defScope sWH_) := ⟨rfl, rfl, rfl, by decide +kernel, rfl, by decide +kernel, by decide +kernel⟩
def mAt (cs : List KD) (m e : Str) : Option MD := (kd cs e).bind fun k => wr k m
def firstM (cs : List KD) (l : List Str) (m : Str) : Option MD := (l.find? (hasM cs m)).bind (mAt cs m)
def sameSig (a b : MD) : Bool := decide (a.params = b.params) && decide (a.result = b.result)
def alikeTo (cs : List KD) (m : Str) (md0 : MD) (e : Str) : Bool := match mAt cs m e with
  | none => true
  | some md => sameSig md md0
def alike (cs : List KD) (l : List Str) (m : Str) : Bool := match firstM cs l m with
  | none => true
  | some md0 => l.all (alikeTo cs m md0)
theorem eqo_pairs : ∀ {l m : List (Str × Str)}, eqoAll (l.map pairO) (m.map pairO) = decide (l = m)
  | [], [] => rfl
  | [], _ :: _ => rfl
  | _ :: _, [] => rfl
  | x :: l, y :: m => by
    show (((x.1 == y.1) && ((x.2 == y.2) && true)) && eqoAll (l.map pairO) (m.map pairO)) = _
    rw [eqo_pairs, Bool.eq_iff_iff]
    simp only [Bool.and_eq_true, beq_iff_eq, decide_eq_true_eq, List.cons.injEq, Prod.ext_iff, and_true]
theorem ok_pairs {S : Nat → List OD → Prop} {cl : Nat → OCls} : ∀ (l : List (Str × Str)), okAll S (l.map pairO) ∧ needAll cl (l.map pairO) ≤ 1
  | [] => ⟨trivial, Nat.zero_le _⟩
  | p :: l => let ⟨a, b⟩ := ok_pairs l; ⟨⟨⟨trivial, trivial, trivial⟩, a⟩, Nat.max_le.mpr ⟨Nat.le_refl _, b⟩⟩
def spWA (K : PySem.W.Frag) (C f : Nat → Addr) (CL : Addr) : Sp := fun vs H Q _ => ∃ (a : Addr) (cs : List KD) (ns : List Str) (o : Ord) (n m : Str) (l : List Str), vs = [.ref a, .str n, .str m] ∧ LibO K C f CL H a cs ns o ∧ n ∈ cs.map (·.name) ∧ Lok cs o ∧ o n = some l ∧ (∃ e ∈ l, hasM cs m e = true) ∧ ∀ H', Same H H' → Q (.bl (alike cs l m)) H'
section
variable {P : Program} {w : World} {K : PySem.W.Frag} {mg : Str → Option Value} {base : Heap} {C f : Nat → Addr} {CL : Addr}
theorem ok_wa {g : Addr} {fd : FuncData} (F : Fs K mg "_is_written_alike" sWA ["library", "name", "method"] g fd) (M : Lm K mg C f CL) : FnOk P w K mg base CX0 4 g fd ["library", "name", "method"] (spWA K C f CL) := by
  obtain ⟨go, fdo, mo, Fo, bo⟩ := M.od
  have GO : FnOk P w K mg base CX0 2 go fdo ["self", "name"] (spOd K C f CL) := ok_od Fo M
  obtain ⟨gw, fdw, dWr⟩ := M.wri
  have GWr : FnOk P w K mg base CX0 1 gw fdw ["classdef", "name"] (spWri K C f) := ok_wri dWr M
  obtain ⟨gW, fdW, mw, Fw, bw⟩ := M.wr
  have GW : FnOk P w K mg base CX0 3 gW fdW ["self", "name", "method"] (spWo K C f CL) := ok_wo Fw M
  obtain ⟨gx, fdx, ox, Fx, bx⟩ := M.ix
  have GX : FnOk P w K mg base CX0 2 gx fdx ["self", "name"] (spLix K C f CL) := ok_lix Fx M
  refine F.F.ok scWA (fun vs H Q E h => ?_) (fun cdv A outer s H vs Q E hr h => ?_)
  · obtain ⟨_, _, _, _, _, _, _, rfl, _⟩ := h
    rfl
  · obtain ⟨a, cs, ns, o, n, m, l, rfl, hL, hm, ok, hl, hex, q⟩ := h
    have hrX : Room 3 (A.deeper (envOfC "_is_written_alike" (defScope sWA) s.heap.objs.size g cdv)) := hr
    have hrW : Room 3 (A.deeper (envOfC "_is_written_alike" (defScope sWA) s.heap.objs.size g cdv)) := hr
    have hrO : Room 2 (A.deeper (envOfC "_is_written_alike" (defScope sWA) s.heap.objs.size g cdv)) := hr.mono (by decide)
    have hr2 : Room 2 (A.deeper (envOfC "_is_written_alike" (defScope sWA) s.heap.objs.size g cdv)) := hr.mono (by decide)
    have hrWr : Room 1 (A.deeper (envOfC "_is_written_alike" (defScope sWA) s.heap.objs.size g cdv)) := hr.mono (by decide)
    obtain ⟨dx, fs, Nn, Tb, us, L⟩ := id hL.a
    obtain ⟨e0, he0⟩ : ∃ e, l.find? (hasM cs m) = some e := by
      obtain ⟨e, he, hh⟩ := hex
      exact Option.isSome_iff_exists.mp (List.find?_isSome.mpr ⟨e, he, hh⟩)
    have he0l := List.mem_of_find?_eq_some he0
    have he0m := ok.mem n l hl e0 he0l
    obtain ⟨k0, hk0⟩ := kd_some he0m
    have hh0 : hasM cs m e0 = true := List.find?_some he0
    obtain ⟨md0, hmd0⟩ : ∃ md, wr k0 m = some md := by
      unfold hasM at hh0
      rw [hk0] at hh0
      exact Option.isSome_iff_exists.mp hh0
    have hfirst : firstM cs l m = some md0 := by
      unfold firstM mAt
      rw [he0]
      show (kd cs e0).bind (fun k => wr k m) = _
      rw [hk0]
      exact hmd0
    have hal : alike cs l m = l.all (alikeTo cs m md0) := by unfold alike; rw [hfirst]
    refine ⟨_, (pss_cons (ps_set (i := 3) scWA.nd rfl (Or.inl rfl) (pe_call GWr hrWr (by rfl) dWr.m dWr.F.kp dWr.b .nil pass0 (pa_cons (pe_ownIx (E := E0) ox GX hrX bx pass0 (pv 0) (pe_meth (pv 0) M.cls mw GW hrW bw .nil pass0 (pa_cons (pv 1) (pa_cons (pv 2) pa_nil)))) (pa_cons (pv 2) pa_nil)))) (pss_cons (ps_for PassesOwn.never rfl (pi_list (pe_meth (pv 0) M.cls mo GO hrO bo .nil pass0 (pa_cons (pv 1) pa_nil))) (pg_name (i := 4) scWA.nd rfl (Or.inl rfl)) (pss_cons (ps_set (i := 5) scWA.nd rfl (Or.inl rfl) (pe_call GWr hrWr (by rfl) dWr.m dWr.F.kp dWr.b .nil pass0 (pa_cons (pe_ownIx (E := E0) ox GX hrX bx pass0 (pv 0) (pv 4)) (pa_cons (pv 2) pa_nil)))) (pss_one (ps_if (PW.pt (pw_and (pt_cmpR op_notN (pv 5) pe_non (nomark _)) (pw_and1 (PW.pt (pw_or (pt_cmpR (op_neOT (cl := clk C f) (S := Sn) (n := 2) (own_up M.X.W (fun _ _ h => h.elim)) (givesN _ rfl rfl rfl rfl rfl) hr2) (pe_fld (pv 5) (by rfl)) (pe_fld (pv 3) (by rfl)) (nomark _)) (pw_or1 (pt_cmpR op_ne (pe_fld (pv 5) (by rfl)) (pe_fld (pv 3) (by rfl)) (nomark _)))))))) (pss_one (ps_ret pe_bl)) pss_nil)))) (pss_one (ps_ret pe_bl)))), ?_⟩
    refine ⟨_, rfl, _, rfl, a, dx, fs, rfl, L.ins, L.no _ (by decide +kernel), _, rfl, _, rfl, a, cs, ns, o, n, m, l, e0, rfl, hL, hm, ok, hl, he0, fun H1 s1 => ?_⟩
    obtain ⟨dx1, fs1, N1, Tb1, us1, L1⟩ := id (hL.a.same s1)
    refine ⟨a, dx1, fs1, rfl, L1.ins, a, cs, ns, e0, k0, rfl, hL.a.same s1, hk0, fun v H2 s2 ov => ?_⟩
    refine ⟨_, rfl, v, k0, m, rfl, ov, (fun z => by rw [hmd0] at z; cases z), fun md u hw ou => ?_⟩
    rw [hmd0] at hw
    cases hw
    have s12 := s1.trans s2
    obtain ⟨fa, fx, fsm, fp, fxs, f1, f2, fb, rfl, FA⟩ := mO_get ou
    obtain ⟨dx2, fs2, N2, Tb2, us2, L2'⟩ := id (hL.a.same s12)
    refine ⟨_, rfl, a, dx2, fs2, rfl, L2'.ins, L2'.no _ (by decide +kernel), _, rfl, a, cs, ns, o, n, l, rfl, hL.same s12, hm, hl, fun X H3 f3 s3 g3 => ?_⟩
    refine ⟨X, rfl, ⟨_, SqL.of g3⟩, for_list (K := K) (a := X) (xs := l.map V.str) (fun i σ H4 => ∃ v4 v5, σ = [some (.ref a), some (.str n), some (.str m), some (.ref fa), v4, v5] ∧ Same H3 H4 ∧ ∀ e ∈ l.take i, alikeTo cs m md0 e = true) ⟨none, none, rfl, fun _ _ z => z, fun _ z => nomatch z⟩ (fun i σ H4 _ ⟨_, _, _, s, _⟩ => SqL.same s (SqL.of g3)) ?_ ?_⟩
    · rintro i x σ H4 hi ⟨v4, v5, rfl, s4, hb⟩
      obtain ⟨rfl, hm2⟩ := get_str hi
      have hi2 : i < l.length := by
        have := (List.getElem?_eq_some_iff.mp hi).1
        rwa [List.length_map] at this
      have egd : l[i]? = some (l.getD i "") := by simp only [List.getD, List.getElem?_eq_getElem hi2, Option.getD_some]
      have hin2 := ok.mem n l hl _ hm2
      obtain ⟨k, hk⟩ := kd_some hin2
      have s24 := s12.trans (s3.trans s4)
      obtain ⟨dx4, fs4, N4, Tb4, us4, L4⟩ := id (hL.a.same s24)
      have emAt : mAt cs m (l.getD i "") = wr k m := by unfold mAt; rw [hk]; rfl
      have step : ∀ b, alikeTo cs m md0 (l.getD i "") = b → b = true → ∀ e ∈ l.take (i + 1), alikeTo cs m md0 e = true := fun b e1 e2 e he => by
        rw [take_snoc egd] at he
        rcases List.mem_append.mp he with z | z
        · exact hb e z
        · rw [List.mem_singleton.mp z, e1, e2]
      refine ⟨_, rfl, _, rfl, a, dx4, fs4, rfl, L4.ins, a, cs, ns, _, k, rfl, hL.a.same s24, hk, fun v H5 s5 ov5 => ?_⟩
      refine ⟨_, rfl, v, k, m, rfl, ov5, (fun hw => ?_), fun md u hw ou5 => ?_⟩
      · refine ⟨_, rfl, rfl, _, rfl, iteF ⟨_, _, rfl, s4.trans s5, step _ rfl ?_⟩⟩
        unfold alikeTo
        rw [emAt, hw]
      · obtain ⟨ga, gx', gs, gp, gxs, g1', g2', gb, rfl, GA⟩ := mO_get ou5
        have sF := (s3.trans s4).trans s5
        have ea : alikeTo cs m md0 (l.getD i "") = sameSig md md0 := by unfold alikeTo; rw [emAt, hw]
        have oP : Oh K (clk C f) H5 (.tup (md.params.map pairO)) (.ref gp) := oh_tup GA.sp GA.op
        have oP0 : Oh K (clk C f) H5 (.tup (md0.params.map pairO)) (.ref fp) := Oh.sm sF (oh_tup FA.sp FA.op)
        have fins := sF _ _ FA.ins
        obtain ⟨z1, z2⟩ := ok_pairs (S := Sn) (cl := clk C f) md.params
        obtain ⟨y1, y2⟩ := ok_pairs (S := Sn) (cl := clk C f) md0.params
        refine ⟨_, rfl, rfl, _, rfl, iteT ?_⟩
        refine ⟨_, rfl, ga, C 1, gx', gs, _, rfl, GA.ins, M.X.cls 1 (by decide), M.X.no 1 (by decide) _ (by decide), GA.p, _, rfl, fa, C 1, fx, fsm, _, rfl, fins, M.X.cls 1 (by decide), M.X.no 1 (by decide) _ (by decide), FA.p, _, _, oP, oP0, z1, y1, Nat.succ_le_succ z2, Nat.succ_le_succ y2, fun H6 s6 => ⟨_, rfl, ?_⟩⟩
        have s6' : Same H5 H6 := s6
        rw [eqo_pairs]
        have nal : sameSig md md0 = false → alike cs l m = false := fun z => by
          rw [hal, List.all_eq_false]
          exact ⟨_, hm2, by rw [ea, z]; exact Bool.false_ne_true⟩
        by_cases hp : md.params = md0.params
        · rw [decide_eq_true hp]
          refine iteF ⟨_, rfl, ga, C 1, gx', gs, _, rfl, s6' _ _ GA.ins, M.X.cls 1 (by decide), M.X.no 1 (by decide) _ (by decide), GA.r, _, rfl, fa, C 1, fx, fsm, _, rfl, s6' _ _ fins, M.X.cls 1 (by decide), M.X.no 1 (by decide) _ (by decide), FA.r, rfl, _, rfl, ?_⟩
          by_cases hr : md.result = md0.result
          · rw [decide_eq_true (by rw [hr])]
            refine iteF ⟨_, _, rfl, (s4.trans s5).trans s6', step _ ea ?_⟩
            unfold sameSig
            rw [decide_eq_true hp, decide_eq_true hr]
            rfl
          · rw [decide_eq_false (fun z => hr (by injection z))]
            refine iteT ?_
            have := q H6 (s12.trans (sF.trans s6'))
            rw [nal (by unfold sameSig; rw [decide_eq_false hr, Bool.and_false])] at this
            exact this
        · rw [decide_eq_false hp]
          refine iteT (iteT ?_)
          have := q H6 (s12.trans (sF.trans s6'))
          rw [nal (by unfold sameSig; rw [decide_eq_false hp, Bool.false_and])] at this
          exact this
    · rintro σ H4 ⟨v4, v5, rfl, s4, hb⟩
      rw [List.length_map, List.take_length] at hb
      have := q H4 (s12.trans (s3.trans s4))
      rw [hal, List.all_eq_true.mpr hb] at this
      exact this
def ordOf (o : Ord) (n : Str) : List Str := (o n).getD []
def spWH (K : PySem.W.Frag) (C f : Nat → Addr) (CL : Addr) : Sp := fun vs H Q _ => ∃ (a : Addr) (cs : List KD) (ns : List Str) (o : Ord), vs = [.ref a] ∧ LibO K C f CL H a cs ns o ∧ Lok cs o ∧ Ns cs ns ∧
  ((∀ n ∈ ns, ∀ m ∈ mnames cs (ordOf o n), alike cs (ordOf o n) m = true) → ∀ H', Same H H' → Q .non H') ∧
  ∀ i n ys m, ns[i]? = some n → (∀ n' ∈ ns.take i, ∀ m ∈ mnames cs (ordOf o n'), alike cs (ordOf o n') m = true) → sortedS ys = true → ys.Nodup → (∀ x, x ∈ ys ↔ x ∈ mnames cs (ordOf o n)) → ys.find? (fun m => !alike cs (ordOf o n) m) = some m →
    ∀ p t H', Same H H' → H' t = some (.tup [.str n, .str m]) → H' p = some (.tup [.ref t, .str "inherited"]) → Q (.ref p) H'
theorem mnames_has {cs : List KD} {l : List Str} {m : Str} (h : m ∈ mnames cs l) : ∃ e ∈ l, hasM cs m e = true := by
  unfold mnames at h
  obtain ⟨e, he, hm⟩ := List.mem_flatMap.mp h
  refine ⟨e, he, ?_⟩
  unfold hasM
  cases hk : kd cs e with
  | none => rw [hk] at hm; cases hm
  | some k =>
    rw [hk] at hm
    obtain ⟨md, hmd, e2⟩ := List.mem_map.mp (show m ∈ k.methods.map (·.name) from hm)
    show (wr k m).isSome = true
    unfold wr
    exact List.find?_isSome.mpr ⟨md, hmd, decide_eq_true e2⟩
theorem ok_wh {g : Addr} {fd : FuncData} (F : Fs K mg "wrong_heritage" sWH_ ["library"] g fd) (dWA : ∃ g fd, Fs K mg "_is_written_alike" sWA ["library", "name", "method"] g fd) (M : Lm K mg C f CL) : FnOk P w K mg base CX0 5 g fd ["library"] (spWH K C f CL) := by
  obtain ⟨_, _, dWA⟩ := dWA
  have GWA : FnOk P w K mg base CX0 4 _ _ ["library", "name", "method"] (spWA K C f CL) := ok_wa dWA M
  obtain ⟨gm, fdm, mm, Fm, bmo⟩ := M.me
  have GMO : FnOk P w K mg base CX0 3 gm fdm ["self", "name"] (spMo K C f CL) := ok_mo Fm M
  refine F.F.ok scWH_ (fun vs H Q E h => ?_) (fun cdv A outer s H vs Q E hr h => ?_)
  · obtain ⟨_, _, _, _, rfl, _⟩ := h
    rfl
  · obtain ⟨a, cs, ns, o, rfl, hL, ok, hns, q0, q1⟩ := h
    have hrWA : Room 4 (A.deeper (envOfC "wrong_heritage" (defScope sWH_) s.heap.objs.size g cdv)) := hr
    have hrMO : Room 3 (A.deeper (envOfC "wrong_heritage" (defScope sWH_) s.heap.objs.size g cdv)) := hr.mono (by decide)
    obtain ⟨dx, fs, Nn, Tb, us, L⟩ := id hL.a
    refine ⟨_, (pss_cons (ps_for PassesOwn.never rfl (pi_tup (pe_fld (pv 0) (by rfl))) (pg_name (i := 1) scWH_.nd rfl (Or.inl rfl)) (pss_one (ps_for PassesOwn.never rfl (pi_list (pe_meth (pv 0) M.cls mm GMO hrMO bmo .nil pass0 (pa_cons (pv 1) pa_nil))) (pg_name (i := 2) scWH_.nd rfl (Or.inl rfl)) (pss_one (ps_if (pt_not (pt_val (pe_call GWA hrWA (by rfl) dWA.m dWA.F.kp dWA.b .nil pass0 (pa_cons (pv 0) (pa_cons (pv 1) (pa_cons (pv 2) pa_nil)))))) (pss_one (ps_ret (pe_tup (pa_cons (pe_tup (pa_cons (pv 1) (pa_cons (pv 2) pa_nil))) (pa_cons pe_str pa_nil))))) pss_nil))))) (pss_one (ps_ret pe_non))), ?_⟩
    refine ⟨_, rfl, a, CL, dx, fs, .ref Nn, rfl, L.ins, M.cls, M.no _ (by simp), L.nm, Nn, rfl, ⟨_, L.sn⟩, for_tup (K := K) (a := Nn) (xs := ns.map V.str) (fun i σ H2 => ∃ v1 v2, σ = [some (.ref a), v1, v2] ∧ Same H H2 ∧ ∀ n' ∈ ns.take i, ∀ m ∈ mnames cs (ordOf o n'), alike cs (ordOf o n') m = true) ⟨none, none, rfl, fun _ _ z => z, fun _ z => nomatch z⟩ (fun i σ H2 _ ⟨_, _, _, s, _⟩ => SqT.same s L.sn) ?_ ?_⟩
    · rintro i x σ H2 hi ⟨v1, v2, rfl, s2, hb⟩
      obtain ⟨rfl, hm⟩ := get_str hi
      have hi2 : i < ns.length := by
        have := (List.getElem?_eq_some_iff.mp hi).1
        rwa [List.length_map] at this
      have egd : ns[i]? = some (ns.getD i "") := by simp only [List.getD, List.getElem?_eq_getElem hi2, Option.getD_some]
      have hcs := (hns.mem _).mp hm
      obtain ⟨l, hl⟩ := ok.all _ hcs
      have hlo : ordOf o (ns.getD i "") = l := by unfold ordOf; rw [hl]; rfl
      obtain ⟨dx2, fs2, N2, Tb2, us2, L2'⟩ := id (hL.a.same s2)
      refine ⟨_, rfl, a, dx2, fs2, rfl, L2'.ins, L2'.no _ (by decide +kernel), _, rfl, a, cs, ns, o, _, l, rfl, hL.same s2, hcs, ok, hl, fun ys X H3 so nd mem le f3 s3 g3 => ?_⟩
      refine ⟨X, rfl, ⟨_, SqL.of g3⟩, for_list (K := K) (a := X) (xs := ys.map V.str) (fun j σ H4 => ∃ v2, σ = [some (.ref a), some (.str (ns.getD i "")), v2] ∧ Same H3 H4 ∧ ∀ m ∈ ys.take j, alike cs l m = true) ⟨v2, rfl, fun _ _ z => z, fun _ z => nomatch z⟩ (fun j σ H4 _ ⟨_, _, s, _⟩ => SqL.same s (SqL.of g3)) ?_ ?_⟩
      · rintro j y σ H4 hj ⟨w2, rfl, s4, hb4⟩
        obtain ⟨rfl, hm4⟩ := get_str hj
        have hj2 : j < ys.length := by
          have := (List.getElem?_eq_some_iff.mp hj).1
          rwa [List.length_map] at this
        have egj : ys[j]? = some (ys.getD j "") := by simp only [List.getD, List.getElem?_eq_getElem hj2, Option.getD_some]
        refine ⟨_, rfl, _, rfl, _, rfl, a, cs, ns, o, _, _, l, rfl, hL.same (s2.trans (s3.trans s4)), hcs, ok, hl, mnames_has ((mem _).mp hm4), fun H5 s5 => ⟨_, rfl, ?_⟩⟩
        cases hal : alike cs l (ys.getD j "") with
        | true =>
          refine iteF ⟨_, rfl, s4.trans s5, fun m hm => ?_⟩
          rw [take_snoc egj] at hm
          rcases List.mem_append.mp hm with z | z
          · exact hb4 m z
          · rw [List.mem_singleton.mp z]; exact hal
        | false =>
          refine iteT ⟨_, rfl, _, rfl, le_sz (Nat.le_of_ble_eq_true rfl), fun t ht => ⟨le_sz (Nat.le_of_ble_eq_true rfl), fun p hp => ?_⟩⟩
          have s6 := new_same (o := .tup [.str (ns.getD i ""), .str (ys.getD j "")]) ht
          have s7 := new_same (o := .tup [.ref t, .str "inherited"]) hp
          refine q1 i _ ys _ egd hb so nd (fun x => by rw [hlo]; exact mem x) ?_ p t _ ((((s2.trans s3).trans s4).trans s5).trans (s6.trans s7)) (s7 _ _ upd_same) upd_same
          rw [hlo, List.find?_eq_some_iff_getElem]
          refine ⟨by rw [hal]; rfl, j, hj2, by simp [List.getD, hj2], fun j2 hj3 => ?_⟩
          have hj4 : j2 < ys.length := by omega
          have := hb4 ys[j2] (List.mem_take_iff_getElem.mpr ⟨j2, by omega, rfl⟩)
          rw [this]
          rfl
      · rintro σ H4 ⟨w2, rfl, s4, hb4⟩
        rw [List.length_map, List.take_length] at hb4
        refine ⟨_, _, rfl, s2.trans (s3.trans s4), fun n' hn' m hm' => ?_⟩
        rw [take_snoc egd] at hn'
        rcases List.mem_append.mp hn' with z | z
        · exact hb n' z m hm'
        · rw [List.mem_singleton.mp z] at hm' ⊢
          rw [hlo] at hm' ⊢
          exact hb4 m ((mem m).mpr hm')
    · rintro σ H2 ⟨v1, v2, rfl, s2, hb⟩
      rw [List.length_map, List.take_length] at hb
      exact q0 hb H2 s2
end

end Kx
set_option linter.all false
namespace Kx
open PySem L2 PySem.Spec PyProof.Rows
/-! max(xs, default=d), xs without items -/
def rMaxD0 (K : PySem.W.Frag) : List V → List V → Hp → VK → Prop := fun xs zs H Q => ∃ (a : Addr) (d : V), xs = [.ref a] ∧ zs = [d] ∧ SqL K H a [] ∧ Q d H
theorem cr_maxD0 {X : Cx} (hc : X.calm = true) : CallRK X (.builtin "max") ["default"] (rMaxD0 X.K) := by
  intro pins s σ H xs zs us ws Q I rx rz h
  obtain ⟨a, d, rfl, rfl, ha, q⟩ := h
  rw [Vals.ref1 rx]
  obtain ⟨u, rfl, ru⟩ := vals1 rz
  obtain ⟨its, rv, pl, _⟩ := I.list ha
  have e0 : its = [] := by cases rv; rfl
  subst e0
  have hl := pl.isList
  obtain ⟨ol, hol, hcl, nl, hdl⟩ := id hl
  have hlt : a < s.heap.objs.size := Heap.lt_size hol
  show wpAny _ _ (call (.builtin "max") [.ref a] [(Str.ofString "default", u)]) _ _ s
  refine call_max_walkD (wpAny_pyIter_list hl ?_)
  have ne1 : a ≠ s.heap.objs.size := Nat.ne_of_lt hlt
  refine ⟨s.heap.objs.size, _, _, _, _, _, _, s.heap, fun _ _ => false, rfl, (Walks.list (by simp [I.ok.hd hc]) _ a ne1 ([] : List Value).toArray).toS, ⟨⟨_, Heap.get?_push_size _ rfl, rfl, rfl⟩, hl.push _⟩, fun b hb => ?_, fun b o e hb => ?_, fun b o e => Heap.get?_push_of_some _ e, fun _ s3 m => ?_, fun z => absurd z (Nat.not_lt_zero _)⟩
  · have hsz : (s.heap.push { cls := Value.type "list_iterator", data := Data.fields #[Value.ref a, Value.int 0 0] }).objs.size = s.heap.objs.size + 1 := Heap.size_push ..
    show b < (s.heap.push { cls := Value.type "list_iterator", data := Data.fields #[Value.ref a, Value.int 0 0] }).objs.size
    rw [hsz]
    rcases List.mem_cons.mp hb with z | z
    · rw [z]; exact Nat.lt_succ_self _
    · rw [List.mem_singleton.mp z]; exact Nat.lt_succ_of_lt hlt
  · have h1 := Heap.lt_size e
    rw [List.mem_singleton.mp hb] at h1
    exact Nat.lt_irrefl _ h1
  · obtain ⟨h3, g3, d3, t3, o3⟩ := s3
    obtain rfl : g3 = s.gens := m.gens
    obtain rfl : d3 = s.drawn := m.drawn
    obtain rfl : o3 = s.os := m.os
    refine ⟨d, H, I.kept (t' := t3) (fun b ob e => ?_), ru, q⟩
    refine m.heap b ob (fun z => ?_) (Heap.get?_push_of_some _ e)
    have h1 := Heap.lt_size e
    rw [List.mem_singleton.mp z] at h1
    exact Nat.lt_irrefl _ h1
end Kx
set_option linter.all false
namespace Kx
open PySem L2 PySem.Spec PyProof.Rows
abbrev sFW : Stmt := top 50
abbrev nFW : List Str := ["thing"]
theorem scFW : FnScope nFW ["thing"] (defScope sFW) := ⟨rfl, rfl, rfl, by decide +kernel, rfl, by decide +kernel, by decide +kernel⟩
abbrev sLL : Stmt := top 51
abbrev nLL : List Str := ["thing", "word"]
theorem scLL : FnScope nLL ["thing"] (defScope sLL) := ⟨rfl, rfl, rfl, by decide +kernel, rfl, by decide +kernel, by decide +kernel⟩
abbrev sPO : Stmt := top 52
abbrev nPO : List Str := ["statement", "word"]
theorem scPO : FnScope nPO ["statement"] (defScope sPO) := ⟨rfl, rfl, rfl, by decide +kernel, rfl, by decide +kernel, by decide +kernel⟩
abbrev sHFm : Stmt := top 57
abbrev nHFm : List Str := ["statement", "word"]
theorem scHFm : FnScope nHFm ["statement"] (defScope sHFm) := ⟨rfl, rfl, rfl, by decide +kernel, rfl, by decide +kernel, by decide +kernel⟩
abbrev sAO : Stmt := top 58
abbrev nAO : List Str := ["statement"]
theorem scAO : FnScope nAO ["statement"] (defScope sAO) := ⟨rfl, rfl, rfl, by decide +kernel, rfl, by decide +kernel, by decide +kernel⟩
abbrev sHd : Stmt := top 59
abbrev nHd : List Str := ["act"]
theorem scHd : FnScope nHd ["act"] (defScope sHd) := ⟨rfl, rfl, rfl, by decide +kernel, rfl, by decide +kernel, by decide +kernel⟩
abbrev sTI : Stmt := top 60
abbrev nTI : List Str := ["act", "one"]
theorem scTI : FnScope nTI ["act"] (defScope sTI) := ⟨rfl, rfl, rfl, by decide +kernel, rfl, by decide +kernel, by decide +kernel⟩
abbrev sOI : Stmt := top 61
abbrev nOI : List Str := ["act", "passed", "one"]
theorem scOI : FnScope nOI ["act"] (defScope sOI) := ⟨rfl, rfl, rfl, by decide +kernel, rfl, by decide +kernel, by decide +kernel⟩
abbrev sSts : Stmt := top 62
abbrev nSts : List Str := ["body", "found", "waiting", "statement"]
theorem scSts : FnScope nSts ["body"] (defScope sSts) := ⟨rfl, rfl, rfl, by decide +kernel, rfl, by decide +kernel, by decide +kernel⟩
abbrev sTrs : Stmt := top 63
abbrev nTrs : List Str := ["statement", "deepest", "part"]
theorem scTrs : FnScope nTrs ["statement"] (defScope sTrs) := ⟨rfl, rfl, rfl, by decide +kernel, rfl, by decide +kernel, by decide +kernel⟩
abbrev sCls_ : Stmt := top 64
abbrev nCls_ : List Str := ["statement", "word", "counts", "part"]
theorem scCls_ : FnScope nCls_ ["statement"] (defScope sCls_) := ⟨rfl, rfl, rfl, by decide +kernel, rfl, by decide +kernel, by decide +kernel⟩
abbrev sTL : Stmt := top 65
abbrev nTL : List Str := ["body", "found", "ifs", "statement"]
theorem scTL : FnScope nTL ["body"] (defScope sTL) := ⟨rfl, rfl, rfl, by decide +kernel, rfl, by decide +kernel, by decide +kernel⟩
abbrev sSA : Stmt := top 68
abbrev nSA : List Str := ["kind"]
theorem scSA : FnScope nSA ["kind"] (defScope sSA) := ⟨rfl, rfl, rfl, by decide +kernel, rfl, by decide +kernel, by decide +kernel⟩
abbrev sSIn : Stmt := inClass (top 67) 0
abbrev nSIn : List Str := ["self", "known", "view", "fresh"]
theorem scSIn : FnScope nSIn ["self", "known", "view", "fresh"] (defScope sSIn) := ⟨rfl, rfl, rfl, by decide +kernel, rfl, by decide +kernel, by decide +kernel⟩
abbrev sScI : Stmt := inClass (top 69) 0
abbrev nScI : List Str := ["self", "library", "owner", "method", "variables"]
theorem scScI : FnScope nScI ["self", "library", "owner", "method", "variables"] (defScope sScI) := ⟨rfl, rfl, rfl, by decide +kernel, rfl, by decide +kernel, by decide +kernel⟩
abbrev sBh : Stmt := inClass (top 69) 7
abbrev nBh : List Str := ["self", "statement", "variables"]
theorem scBh : FnScope nBh ["self", "statement"] (defScope sBh) := ⟨rfl, rfl, rfl, by decide +kernel, rfl, by decide +kernel, by decide +kernel⟩
abbrev sMS : Stmt := top 70
abbrev nMS : List Str := ["library", "owner", "method", "variables", "name", "kind"]
theorem scMS : FnScope nMS ["library", "owner", "method"] (defScope sMS) := ⟨rfl, rfl, rfl, by decide +kernel, rfl, by decide +kernel, by decide +kernel⟩
abbrev sW0 : Stmt := top 72
abbrev nW0 : List Str := ["scope", "act", "term"]
theorem scW0 : FnScope nW0 ["scope", "act"] (defScope sW0) := ⟨rfl, rfl, rfl, by decide +kernel, rfl, by decide +kernel, by decide +kernel⟩
abbrev sW1 : Stmt := top 73
abbrev nW1 : List Str := ["scope", "act", "variable"]
theorem scW1 : FnScope nW1 ["scope", "act"] (defScope sW1) := ⟨rfl, rfl, rfl, by decide +kernel, rfl, by decide +kernel, by decide +kernel⟩
abbrev sW2 : Stmt := top 74
abbrev nW2 : List Str := ["scope", "act"]
theorem scW2 : FnScope nW2 ["scope", "act"] (defScope sW2) := ⟨rfl, rfl, rfl, by decide +kernel, rfl, by decide +kernel, by decide +kernel⟩
abbrev sW3 : Stmt := top 75
abbrev nW3 : List Str := ["scope", "act"]
theorem scW3 : FnScope nW3 ["scope", "act"] (defScope sW3) := ⟨rfl, rfl, rfl, by decide +kernel, rfl, by decide +kernel, by decide +kernel⟩
abbrev sW4 : Stmt := top 76
abbrev nW4 : List Str := ["scope", "act"]
theorem scW4 : FnScope nW4 ["scope", "act"] (defScope sW4) := ⟨rfl, rfl, rfl, by decide +kernel, rfl, by decide +kernel, by decide +kernel⟩
abbrev sW5 : Stmt := top 77
abbrev nW5 : List Str := ["scope", "act", "params", "items", "item", "param"]
theorem scW5 : FnScope nW5 ["scope", "act"] (defScope sW5) := ⟨rfl, rfl, rfl, by decide +kernel, rfl, by decide +kernel, by decide +kernel⟩
abbrev sW6 : Stmt := top 78
abbrev nW6 : List Str := ["scope", "act", "found"]
theorem scW6 : FnScope nW6 ["scope", "act"] (defScope sW6) := ⟨rfl, rfl, rfl, by decide +kernel, rfl, by decide +kernel, by decide +kernel⟩
abbrev sW7 : Stmt := top 79
abbrev nW7 : List Str := ["scope", "act"]
theorem scW7 : FnScope nW7 ["scope", "act"] (defScope sW7) := ⟨rfl, rfl, rfl, by decide +kernel, rfl, by decide +kernel, by decide +kernel⟩
abbrev sWHe : Stmt := top 81
abbrev nWHe : List Str := ["scope", "statement", "act", "word", "is_wrong"]
theorem scWHe : FnScope nWHe ["scope", "statement"] (defScope sWHe) := ⟨rfl, rfl, rfl, by decide +kernel, rfl, by decide +kernel, by decide +kernel⟩
abbrev sFWb : Stmt := top 82
abbrev nFWb : List Str := ["scope", "statement", "place", "why", "inner", "at", "part", "found"]
theorem scFWb : FnScope nFWb ["scope", "statement", "place"] (defScope sFWb) := ⟨rfl, rfl, rfl, by decide +kernel, rfl, by decide +kernel, by decide +kernel⟩
abbrev sWBb : Stmt := top 84
abbrev nWBb : List Str := ["scope", "body"]
theorem scWBb : FnScope nWBb ["scope", "body"] (defScope sWBb) := ⟨rfl, rfl, rfl, by decide +kernel, rfl, by decide +kernel, by decide +kernel⟩
abbrev sWMB : Stmt := top 86
abbrev nWMB : List Str := ["library", "owner", "method"]
theorem scWMB : FnScope nWMB ["library", "owner", "method"] (defScope sWMB) := ⟨rfl, rfl, rfl, by decide +kernel, rfl, by decide +kernel, by decide +kernel⟩
abbrev sWBl : Stmt := top 133
abbrev nWBl : List Str := ["library", "name", "method", "found", "place", "why"]
theorem scWBl : FnScope nWBl ["library"] (defScope sWBl) := ⟨rfl, rfl, rfl, by decide +kernel, rfl, by decide +kernel, by decide +kernel⟩
/-- a body that halts -/
def HaltA (K : PySem.W.Frag) (H : Hp) (v : V) : Prop := ∃ b, v = .ref b ∧ SqT K H b [.str "halt"]
theorem HaltA.same {K : PySem.W.Frag} {H H' : Hp} {v : V} (s : Same H H') : HaltA K H v → HaltA K H' v := fun ⟨b, e, q⟩ => ⟨b, e, SqT.same s q⟩
abbrev SpH (K : PySem.W.Frag) (R : VK → Hp → Prop) : Sp := fun vs H Q _ => ∃ v, vs = [v] ∧ HaltA K H v ∧ R Q H
abbrev RV (u : V) : VK → Hp → Prop := fun Q H => ∀ H', Same H H' → Q u H'
section
variable {P : Program} {w : World} {K : PySem.W.Frag} {mg : Str → Option Value} {base : Heap}
theorem ok_fw {g : Addr} {fd : FuncData} (F : Fs K mg "_first_word" sFW ["thing"] g fd) (T : Bx mg) : FnOk P w K mg base CX0 1 g fd ["thing"] (SpH K (RV (.str "halt"))) := by
  refine F.F.ok scFW (fun vs H Q E h => ?_) (fun cdv A outer s H vs Q E hr h => ?_)
  · obtain ⟨_, rfl, _⟩ := h
    rfl
  · obtain ⟨v, rfl, ⟨b, rfl, hb⟩, q⟩ := h
    refine ⟨_, (pss_cons (ps_if (PW.pt (pw_and (pt_val (pe_callB call_isi (by rfl) T.isi boot_isinstance (pa_cons (pv 0) (pa_cons (pe_bltn (v := .ty "tuple") (by rfl) T.tuple (by decide +kernel) rfl) pa_nil)))) (pw_and (pt_cmpR (op_neD hr.units) (pv 0) (pe_tup pa_nil) (nomark _)) (pw_and1 (pt_val (pe_callB call_isi (by rfl) T.isi boot_isinstance (pa_cons (pe_ix ix_tup (pv 0) pe_int (fun _ _ => rfl)) (pa_cons (pe_bltn (v := .ty "str") (by rfl) T.str (by decide +kernel) rfl) pa_nil)))))))) (pss_one (ps_ret (pe_ix ix_tup (pv 0) pe_int (fun _ _ => rfl)))) pss_nil) (pss_one (ps_ret pe_str))), ?_⟩
    refine ⟨_, rfl, .ref b, .ty "tuple", _, _, true, rfl, .ty _, tyT hb, kit_ty (by decide +kernel), true, rfl, iteT ?_⟩
    refine ⟨_, rfl, le_sz (Nat.le_of_ble_eq_true rfl), fun p hp => ?_⟩
    have s1 := new_same (o := .tup []) hp
    have hb1 := SqT.same s1 hb
    refine ⟨.tuple [.str "halt"], .tuple [], .tup hb1 (.cons (.str _) .nil), .tup (SqT.of upd_same) .nil, by decide +kernel, by decide +kernel, _, rfl, iteT ?_⟩
    refine ⟨_, rfl, b, _, _, .str "halt", rfl, rfl, hb1, at0, .str "halt", .ty "str", _, _, true, rfl, .ty _, .base (.str "halt"), kit_ty (by decide +kernel), true, rfl, iteT ?_⟩
    exact ⟨_, rfl, b, _, _, .str "halt", rfl, rfl, hb1, at0, q _ s1⟩
/-- the words of statements -/
structure Sw (K : PySem.W.Frag) (w : World) (mg : Str → Option Value) (ST : Addr) : Prop where
  at_ : mg "STATEMENTS" = some (.ref ST)
  d : ∃ es n, KDict K w ST es n ∧ ∃ u, PySem.W.nsIn K ST "halt" = some (some u)
  k : KDct K w ST "halt" (.int 1)
  fw : ∃ g fd, Fs K mg "_first_word" sFW ["thing"] g fd
  ll : ∃ g fd, Fs K mg "_looks_like" sLL ["thing"] g fd
  po : ∃ g fd, Fs K mg "parts_of" sPO ["statement"] g fd
  hf : ∃ g fd, Fs K mg "has_form" sHFm ["statement"] g fd
  ao : ∃ g fd, Fs K mg "act_of" sAO ["statement"] g fd
  hd : ∃ g fd, Fs K mg "handed" sHd ["act"] g fd
  ti : ∃ g fd, Fs K mg "terms_in" sTI ["act"] g fd
  oi : ∃ g fd, Fs K mg "objects_in" sOI ["act"] g fd
  sts : ∃ g fd, Fs K mg "_statements" sSts ["body"] g fd
  trs : ∃ g fd, Fs K mg "_tries" sTrs ["statement"] g fd
  cls : ∃ g fd, Fs K mg "_calls" sCls_ ["statement"] g fd
  tl : ∃ g fd, Fs K mg "is_too_large" sTL ["body"] g fd
  T : Bx mg
  c40 : ∃ k, mg "MOST_STATEMENTS" = some (.int 40 k)
  c4 : ∃ k, mg "MOST_IFS" = some (.int 4 k)
  c2 : ∃ k, mg "MOST_TRIES" = some (.int 2 k)
  c4c : ∃ k, mg "MOST_CALLS" = some (.int 4 k)
  mx : mg "max" = none
  sm : mg "sum" = none
abbrev REmp : VK → Hp → Prop := fun Q H => ∀ H' p, Same H H' → H p = none → H' p = some (.tup []) → Q (.ref p) H'
abbrev REmL : VK → Hp → Prop := fun Q H => ∀ H' p, Same H H' → H p = none → H' p = some (.lst []) → Q (.ref p) H'
theorem ok_ll {g ST : Addr} {fd : FuncData} (F : Fs K mg "_looks_like" sLL ["thing"] g fd) (W : Sw K w mg ST) : FnOk P w K mg base CX0 2 g fd ["thing"] (SpH K (RV (.str "halt"))) := by
  have T := W.T
  have hST := W.at_
  obtain ⟨es, n, DS, u, hu⟩ := W.d
  obtain ⟨_, _, dFW⟩ := W.fw
  have GFW : FnOk P w K mg base CX0 1 _ _ ["thing"] (SpH K (RV (.str "halt"))) := ok_fw dFW T
  refine F.F.ok scLL (fun vs H Q E h => ?_) (fun cdv A outer s H vs Q E hr h => ?_)
  · obtain ⟨_, rfl, _⟩ := h
    rfl
  · obtain ⟨v, rfl, hv, q⟩ := h
    have hrFW := hr
    refine ⟨_, (pss_cons (ps_set (i := 1) scLL.nd rfl (Or.inl rfl) (pe_call GFW hrFW (by rfl) dFW.m dFW.F.kp dFW.b .nil pass0 (pa_cons (pv 0) pa_nil))) (pss_one (ps_ret (pe_ifExp (PW.pt (pw_and (pt_cmpR (op_in_kd DS) (pv 1) (pe_glob (v := .ref ST) (by rfl) hST rfl) (by with_unfolding_all rfl)) (pw_and1 (pt_cmpR op_eq (pe_callB call_len_seq (by rfl) T.len PySem.boot_len (pa_cons (pv 0) pa_nil)) (pe_ix ix_kdict (pe_glob (v := .ref ST) (by rfl) hST rfl) (pv 1) (fun _ _ => rfl)) (nomark _))))) (pv 1) pe_str)))), ?_⟩
    refine ⟨_, rfl, v, rfl, hv, fun H1 s1 => ?_⟩
    obtain ⟨b, rfl, hb⟩ := hv.same s1
    refine ⟨_, rfl, "halt", some u, rfl, rfl, hu, _, rfl, iteT ?_⟩
    refine ⟨_, rfl, b, _, rfl, .inr hb, _, rfl, ST, "halt", .int 1, rfl, rfl, W.k, rfl, _, rfl, iteT ?_⟩
    exact ⟨_, rfl, q H1 s1⟩
theorem nE {a b : Str} (h : (a == b) = false) : V.bl (decide (V.str a = V.str b)) = V.bl false := by
  rw [decide_eq_false]
  intro z
  injection z with z
  rw [z, beq_self_eq_true] at h
  cases h
theorem nN {a b : Str} (h : (a == b) = false) : V.bl (!decide (V.str a = V.str b)) = V.bl true := by
  rw [decide_eq_false]
  · rfl
  · intro z
    injection z with z
    rw [z, beq_self_eq_true] at h
    cases h
theorem ok_po {g ST : Addr} {fd : FuncData} (F : Fs K mg "parts_of" sPO ["statement"] g fd) (W : Sw K w mg ST) : FnOk P w K mg base CX0 3 g fd ["statement"] (SpH K REmp) := by
  obtain ⟨_, _, dLL⟩ := W.ll
  have GLL : FnOk P w K mg base CX0 2 _ _ ["thing"] (SpH K (RV (.str "halt"))) := ok_ll dLL W
  refine F.F.ok scPO (fun vs H Q E h => ?_) (fun cdv A outer s H vs Q E hr h => ?_)
  · obtain ⟨_, rfl, _⟩ := h
    rfl
  · obtain ⟨v, rfl, hv, q⟩ := h
    have hrLL := hr
    refine ⟨_, (pss_cons (ps_set (i := 1) scPO.nd rfl (Or.inl rfl) (pe_call GLL hrLL (by rfl) dLL.m dLL.F.kp dLL.b .nil pass0 (pa_cons (pv 0) pa_nil))) (pss_cons (ps_if (pt_cmpR op_eq (pv 1) pe_str (nomark _)) (pss_one ps_dead) pss_nil) (pss_cons (ps_if (pt_cmpR op_eq (pv 1) pe_str (nomark _)) (pss_one ps_dead) pss_nil) (pss_cons (ps_if (pt_cmpR op_eq (pv 1) pe_str (nomark _)) (pss_one ps_dead) pss_nil) (pss_one (ps_ret (pe_tup pa_nil))))))), ?_⟩
    refine ⟨_, rfl, v, rfl, hv, fun H1 s1 => ?_⟩
    refine ⟨_, rfl, rfl, false, nE (by decide +kernel), iteF ⟨_, rfl, rfl, false, nE (by decide +kernel), iteF ⟨_, rfl, rfl, false, nE (by decide +kernel), iteF ⟨le_sz (Nat.le_of_ble_eq_true rfl), fun p hp => ?_⟩⟩⟩⟩
    exact q _ p (s1.trans (new_same hp)) (Same.free s1 hp) upd_same
theorem ok_hfm {g ST : Addr} {fd : FuncData} (F : Fs K mg "has_form" sHFm ["statement"] g fd) (W : Sw K w mg ST) : FnOk P w K mg base CX0 3 g fd ["statement"] (SpH K (RV (.bl true))) := by
  obtain ⟨_, _, dLL⟩ := W.ll
  have GLL : FnOk P w K mg base CX0 2 _ _ ["thing"] (SpH K (RV (.str "halt"))) := ok_ll dLL W
  refine F.F.ok scHFm (fun vs H Q E h => ?_) (fun cdv A outer s H vs Q E hr h => ?_)
  · obtain ⟨_, rfl, _⟩ := h
    rfl
  · obtain ⟨v, rfl, hv, q⟩ := h
    have hrLL := hr
    refine ⟨_, (pss_cons (ps_set (i := 1) scHFm.nd rfl (Or.inl rfl) (pe_call GLL hrLL (by rfl) dLL.m dLL.F.kp dLL.b .nil pass0 (pa_cons (pv 0) pa_nil))) (pss_cons (ps_if (pt_cmpR op_eq (pv 1) pe_str (nomark _)) (pss_one ps_dead) pss_nil) (pss_cons (ps_if (pt_cmpR op_eq (pv 1) pe_str (nomark _)) (pss_one ps_dead) pss_nil) (pss_cons (ps_if (pt_cmpR op_eq (pv 1) pe_str (nomark _)) (pss_one ps_dead) pss_nil) (pss_one (ps_ret (pe_cmpR op_ne (pv 1) pe_str (nomark _)))))))), ?_⟩
    refine ⟨_, rfl, v, rfl, hv, fun H1 s1 => ?_⟩
    refine ⟨_, rfl, rfl, false, nE (by decide +kernel), iteF ⟨_, rfl, rfl, false, nE (by decide +kernel), iteF ⟨_, rfl, rfl, false, nE (by decide +kernel), iteF ⟨_, rfl, rfl, ?_⟩⟩⟩⟩
    rw [nN (by decide +kernel)]
    exact q H1 s1
theorem ok_ao {g : Addr} {fd : FuncData} (F : Fs K mg "act_of" sAO ["statement"] g fd) : FnOk P w K mg base CX0 1 g fd ["statement"] (fun vs H Q _ => ∃ v, vs = [v] ∧ HaltA K H v ∧ Q v H) := by
  refine F.F.ok scAO (fun vs H Q E h => ?_) (fun cdv A outer s H vs Q E hr h => ?_)
  · obtain ⟨_, rfl, _⟩ := h
    rfl
  · obtain ⟨v, rfl, ⟨b, rfl, hb⟩, q⟩ := h
    refine ⟨_, (pss_one (ps_ret (pe_ifExp (pt_cmpR op_eq (pe_ix ix_tup (pv 0) pe_int (fun _ _ => rfl)) pe_str (nomark _)) pe_dead (pv 0)))), ?_⟩
    exact ⟨_, rfl, b, _, _, .str "halt", rfl, rfl, hb, at0, rfl, false, nE (by decide +kernel), iteF ⟨_, rfl, q⟩⟩
theorem ok_hnd {g : Addr} {fd : FuncData} (F : Fs K mg "handed" sHd ["act"] g fd) : FnOk P w K mg base CX0 1 g fd ["act"] (SpH K REmp) := by
  refine F.F.ok scHd (fun vs H Q E h => ?_) (fun cdv A outer s H vs Q E hr h => ?_)
  · obtain ⟨_, rfl, _⟩ := h
    rfl
  · obtain ⟨v, rfl, ⟨b, rfl, hb⟩, q⟩ := h
    refine ⟨_, (pss_cons (ps_if (pt_cmpR op_eq (pe_ix ix_tup (pv 0) pe_int (fun _ _ => rfl)) pe_str (nomark _)) (pss_one ps_dead) pss_nil) (pss_cons (ps_if (pt_cmpR op_eq (pe_ix ix_tup (pv 0) pe_int (fun _ _ => rfl)) pe_str (nomark _)) (pss_one ps_dead) pss_nil) (pss_cons (ps_if (pt_cmpR op_eq (pe_ix ix_tup (pv 0) pe_int (fun _ _ => rfl)) pe_str (nomark _)) (pss_one ps_dead) pss_nil) (pss_cons (ps_if (pt_cmpR op_eq (pe_ix ix_tup (pv 0) pe_int (fun _ _ => rfl)) pe_str (nomark _)) (pss_one ps_dead) pss_nil) (pss_one (ps_ret (pe_tup pa_nil))))))), ?_⟩
    refine ⟨_, rfl, b, _, _, .str "halt", rfl, rfl, hb, at0, rfl, false, nE (by decide +kernel), iteF ?_⟩
    refine ⟨_, rfl, b, _, _, .str "halt", rfl, rfl, hb, at0, rfl, false, nE (by decide +kernel), iteF ?_⟩
    refine ⟨_, rfl, b, _, _, .str "halt", rfl, rfl, hb, at0, rfl, false, nE (by decide +kernel), iteF ?_⟩
    refine ⟨_, rfl, b, _, _, .str "halt", rfl, rfl, hb, at0, rfl, false, nE (by decide +kernel), iteF ⟨le_sz (Nat.le_of_ble_eq_true rfl), fun p hp => ?_⟩⟩
    exact q _ p (new_same hp) hp upd_same
theorem emp_go {J : It} {Y : Nat → Hp → V → Hp → Prop} {G : Hp → Prop} (wk : Walk J 0 G Y) {g : TG} {tt : TT} {te : TE} {vs : List Nat} {σ : L2.St} {H1 : Hp} {D : Addr} {Qd : Hp → Prop} (hD : H1 D = none) (hG : G (upd H1 D (.lst []))) (hd : Qd (upd H1 D (.lst []))) :
    ∃ W : Nat → Nat → Hp → Prop, (∃ m, W 0 m (upd H1 D (.lst []))) ∧ ∀ i m H, W i m H →
      (J.stop i H ∧ Qd H) ∨ (J.go i H ∧ ∃ Nx : Hp → Prop, (∀ H', Nx H' → ∃ m', m' < m ∧ W (i + 1) m' H') ∧ ∀ x H', J.yld i H x H' → g x (wipe σ vs) H' fun σ2 H2 => wipe σ2 vs = wipe σ vs ∧ tt σ2 H2 fun b H3 =>
        if b = true then te σ2 H3 fun y H4 => ∃ acc, H4 D = some (.lst acc) ∧ acc.length < sizeLine ∧ Nx (upd H4 D (.lst (acc ++ [y]))) else Nx H3) :=
  lc_it wk (fun _ H => H = upd H1 D (.lst [])) rfl (fun _ H _ e => by rw [e]; exact hG) (fun i x H H' hi => absurd hi (Nat.not_lt_zero _)) (fun H e => by rw [e]; exact hd)
theorem ok_ti {g ST : Addr} {fd : FuncData} (F : Fs K mg "terms_in" sTI ["act"] g fd) (W : Sw K w mg ST) : FnOk P w K mg base CX0 2 g fd ["act"] (SpH K REmL) := by
  obtain ⟨_, _, dHd⟩ := W.hd
  have GHd : FnOk P w K mg base CX0 1 _ _ ["act"] (SpH K REmp) := ok_hnd dHd
  refine F.F.ok scTI (fun vs H Q E h => ?_) (fun cdv A outer s H vs Q E hr h => ?_)
  · obtain ⟨_, rfl, _⟩ := h
    rfl
  · obtain ⟨v, rfl, ⟨b, rfl, hb⟩, q⟩ := h
    have hrHd := hr
    refine ⟨_, (pss_cons (ps_if (pt_cmpR op_eq (pe_ix ix_tup (pv 0) pe_int (fun _ _ => rfl)) pe_str (nomark _)) (pss_one ps_dead) pss_nil) (pss_cons (ps_if (pt_cmpR op_eq (pe_ix ix_tup (pv 0) pe_int (fun _ _ => rfl)) pe_str (nomark _)) (pss_one ps_dead) pss_nil) (pss_one (ps_ret (pe_lc (own := [("one", 1)]) (g := gName 1) rfl scTI.nd (pi_tup (pe_call GHd hrHd (by rfl) dHd.m dHd.F.kp dHd.b .nil pass0 (pa_cons (pv 0) pa_nil))) (blkOk_by (N := nTI) (sc := defScope sTI) (by decide +kernel)) (fun _ _ _ _ _ => (pg_name (i := 1) scTI.nd rfl (Or.inl rfl))) (fun _ _ _ _ _ => (pts_one pt_dead)) (fun _ _ _ _ _ => pe_dead)))))), ?_⟩
    refine ⟨_, rfl, b, _, _, .str "halt", rfl, rfl, hb, at0, rfl, false, nE (by decide +kernel), iteF ?_⟩
    refine ⟨_, rfl, b, _, _, .str "halt", rfl, rfl, hb, at0, rfl, false, nE (by decide +kernel), iteF ?_⟩
    refine ⟨_, rfl, _, rfl, ⟨b, rfl, hb⟩, fun H1 p s1 hp gp => ?_⟩
    refine ⟨p, rfl, ⟨_, SqT.of gp⟩, fun D hD => ?_⟩
    refine emp_go (walk_tup (xs := [])) (g := gName 1) (vs := [1]) (σ := [some (.ref b), none]) (tt := fun _ _ _ => False) (te := fun _ _ _ => False) hD (SqT.of ((new_same hD) _ _ gp)) ?_
    exact q _ D (s1.trans (new_same hD)) (Same.free s1 hD) upd_same
theorem ok_oi {g ST : Addr} {fd : FuncData} (F : Fs K mg "objects_in" sOI ["act"] g fd) (W : Sw K w mg ST) : FnOk P w K mg base CX0 2 g fd ["act"] (SpH K REmL) := by
  obtain ⟨_, _, dHd⟩ := W.hd
  have GHd : FnOk P w K mg base CX0 1 _ _ ["act"] (SpH K REmp) := ok_hnd dHd
  refine F.F.ok scOI (fun vs H Q E h => ?_) (fun cdv A outer s H vs Q E hr h => ?_)
  · obtain ⟨_, rfl, _⟩ := h
    rfl
  · obtain ⟨v, rfl, ⟨b, rfl, hb⟩, q⟩ := h
    have hrHd := hr
    refine ⟨_, (pss_cons (ps_setLc (i := 1) (own := [("one", 2)]) (g := gName 2) rfl scOI.nd rfl rfl (sw_true rfl rfl rfl rfl) (pi_tup (pe_call GHd hrHd (by rfl) dHd.m dHd.F.kp dHd.b .nil pass0 (pa_cons (pv 0) pa_nil))) (blkOk_by (N := nOI) (sc := defScope sOI) (by decide +kernel)) (fun _ _ _ _ _ => (pg_name (i := 2) scOI.nd rfl (Or.inl rfl))) (fun _ _ _ _ _ => (pts_one pt_dead)) (fun _ _ _ _ _ => (pv 2))) (pss_one (ps_ret (pe_ifExp (pt_cmpR op_in_seq (pe_ix ix_tup (pv 0) pe_int (fun _ _ => rfl)) (pe_tup (pa_cons pe_str (pa_cons pe_str pa_nil))) (by with_unfolding_all rfl)) pe_dead (pv 1))))), ?_⟩
    refine ⟨_, rfl, _, rfl, ⟨b, rfl, hb⟩, fun H1 p s1 hp gp => ?_⟩
    refine ⟨p, rfl, ⟨_, SqT.of gp⟩, fun D hD => ?_⟩
    refine emp_go (walk_tup (xs := [])) (g := gName 2) (vs := [2]) (σ := [some (.ref b), none, none]) (tt := fun _ _ _ => False) (te := tVar 2) hD (SqT.of ((new_same hD) _ _ gp)) ?_
    have s2 := s1.trans (new_same (o := .lst []) hD)
    have gD : (upd H1 D (.lst [])) D = some (.lst []) := upd_same
    obtain ⟨H2, e2⟩ : ∃ G, upd H1 D (.lst []) = G := ⟨_, rfl⟩
    rw [e2] at s2 gD ⊢
    refine ⟨_, rfl, b, _, _, .str "halt", rfl, rfl, SqT.same s2 hb, at0, le_sz (Nat.le_of_ble_eq_true rfl), fun t ht => ?_⟩
    refine ⟨t, _, rfl, .inr (SqT.of upd_same), rfl, rfl, false, by decide +kernel, iteF ⟨_, rfl, ?_⟩⟩
    exact q _ D (s2.trans (new_same ht)) (Same.free s1 hD) ((new_same ht) _ _ gD)
theorem ok_sts {g ST : Addr} {fd : FuncData} (F : Fs K mg "_statements" sSts ["body"] g fd) (W : Sw K w mg ST) : FnOk P w K mg base CX0 4 g fd ["body"] (fun vs H Q _ => ∃ v, vs = [v] ∧ HaltA K H v ∧ ∀ H' p, Same H H' → H p = none → H' p = some (.lst [v]) → Q (.ref p) H') := by
  obtain ⟨_, _, dPO⟩ := W.po
  obtain ⟨_, h40⟩ := W.c40
  have T := W.T
  have GPO : FnOk P w K mg base CX0 3 _ _ ["statement"] (SpH K REmp) := ok_po dPO W
  refine F.F.ok scSts (fun vs H Q E h => ?_) (fun cdv A outer s H vs Q E hr h => ?_)
  · obtain ⟨_, rfl, _⟩ := h
    rfl
  · obtain ⟨v, rfl, hv, q⟩ := h
    have hrPO := hr
    refine ⟨_, (pss_cons (ps_set (i := 1) scSts.nd rfl (Or.inl rfl) (pe_lst pa_nil)) (pss_cons (ps_set (i := 2) scSts.nd rfl (Or.inl rfl) (pe_lst (pa_cons (pv 0) pa_nil))) (pss_cons (ps_while PassesOwn.never (PW.pt (pw_and (pt_truth (pv 2) (by intro _; rfl)) (pw_and1 (pt_cmpR op_le (pe_callB call_len_seq (by rfl) T.len PySem.boot_len (pa_cons (pv 1) pa_nil)) (pe_glob (v := .int 40) (by rfl) h40 ⟨_, rfl⟩) (nomark _))))) (pss_cons (ps_set (i := 3) scSts.nd rfl (Or.inl rfl) (pe_bm0 PySem.F.plainAttrs_list PySem.F.slot_list_pop PySem.F.type_list_pop mt_pop (pv 2))) (pss_cons (ps_expr (pe_bm PySem.F.plainAttrs_list PySem.F.slot_list_append PySem.F.type_list_append mt_append (pv 1) (pa_cons (pv 3) pa_nil))) (pss_one (ps_expr (pe_bm PySem.F.plainAttrs_list PySem.F.slot_list_extend PySem.F.type_list_extend mt_extendT (pv 2) (pa_cons (pe_call GPO hrPO (by rfl) dPO.m dPO.F.kp dPO.b .nil pass0 (pa_cons (pv 3) pa_nil)) pa_nil))))))) (pss_one (ps_ret (pv 1)))))), ?_⟩
    refine ⟨le_sz (Nat.le_of_ble_eq_true rfl), fun L hL => ?_⟩
    have s1 := new_same (o := .lst []) hL
    have gL : (upd H L (.lst [])) L = some (.lst []) := upd_same
    obtain ⟨H1, e1⟩ : ∃ G, upd H L (.lst []) = G := ⟨_, rfl⟩
    rw [e1] at s1 gL ⊢
    refine ⟨_, rfl, le_sz (Nat.le_of_ble_eq_true rfl), fun W' hW => ?_⟩
    have s2 := s1.trans (new_same (o := .lst [v]) hW)
    have gL2 := new_same (o := .lst [v]) hW _ _ gL
    have gW : (upd H1 W' (.lst [v])) W' = some (.lst [v]) := upd_same
    have nLW : L ≠ W' := fun z => by rw [z, hW] at gL; cases gL
    have hW0 := Same.free s1 hW
    obtain ⟨H2, e2⟩ : ∃ G, upd H1 W' (.lst [v]) = G := ⟨_, rfl⟩
    rw [e2] at s2 gL2 gW ⊢
    refine ⟨fun m σ H' => ∃ u, Same H H' ∧ ((m = 1 ∧ σ = [some v, some (.ref L), some (.ref W'), none] ∧ H' L = some (.lst []) ∧ H' W' = some (.lst [v])) ∨ (m = 0 ∧ σ = [some v, some (.ref L), some (.ref W'), u] ∧ H' L = some (.lst [v]) ∧ H' W' = some (.lst []))), ⟨1, none, s2, .inl ⟨rfl, rfl, gL2, gW⟩⟩, ?_⟩
    rintro m σ H3 ⟨u, s3, ⟨rfl, rfl, gL3, gW3⟩ | ⟨rfl, rfl, gL3, gW3⟩⟩
    · refine ⟨_, rfl, true, .inl ⟨_, SqL.of gW3, rfl⟩, iteT ?_⟩
      refine ⟨_, rfl, L, _, rfl, .inl (SqL.of gL3), _, _, rfl, rfl, _, rfl, ?_⟩
      refine iteT ⟨fun σ' H' => Same H H' ∧ σ' = [some v, some (.ref L), some (.ref W'), some v] ∧ H' L = some (.lst [v]) ∧ H' W' = some (.lst []), fun σ' H' h => ⟨0, Nat.zero_lt_one, _, h.1, .inr ⟨rfl, h.2.1, h.2.2.1, h.2.2.2⟩⟩, ?_⟩
      refine ⟨_, rfl, .inl ⟨rfl, _, SqL.of gW3⟩, W', [v], v, rfl, rfl, gW3, rfl, ?_⟩
      have g4L : (upd H3 W' (.lst [v].dropLast)) L = some (.lst []) := (upd_ne nLW).trans gL3
      have s4 := same_upd (o := .lst [v].dropLast) hW0 s3
      have g4W : (upd H3 W' (.lst [v].dropLast)) W' = some (.lst []) := upd_same
      obtain ⟨H4, e4⟩ : ∃ G, upd H3 W' (.lst [v].dropLast) = G := ⟨_, rfl⟩
      rw [e4] at s4 g4L g4W ⊢
      refine ⟨_, rfl, .inl ⟨rfl, _, SqL.of g4L⟩, v, rfl, L, [], v, rfl, rfl, g4L, le_sz (Nat.le_of_ble_eq_true rfl), ?_⟩
      have s5 := same_upd (o := .lst ([] ++ [v])) hL s4
      have g5L : (upd H4 L (.lst ([] ++ [v]))) L = some (.lst [v]) := upd_same
      have g5W : (upd H4 L (.lst ([] ++ [v]))) W' = some (.lst []) := (upd_ne nLW.symm).trans g4W
      obtain ⟨H5, e5⟩ : ∃ G, upd H4 L (.lst ([] ++ [v])) = G := ⟨_, rfl⟩
      rw [e5] at s5 g5L g5W ⊢
      refine ⟨_, rfl, .inl ⟨rfl, _, SqL.of g5W⟩, _, rfl, _, rfl, hv.same s5, fun H6 p s6 hp gp => ?_⟩
      refine ⟨W', p, [], [], rfl, rfl, s6 _ _ g5W, SqT.of gp, le_sz (Nat.le_of_ble_eq_true rfl), ?_⟩
      exact ⟨same_upd hW0 (s5.trans s6), rfl, (upd_ne nLW).trans (s6 _ _ g5L), upd_same⟩
    · refine ⟨_, rfl, false, .inl ⟨_, SqL.of gW3, rfl⟩, iteF ?_⟩
      exact iteF ⟨_, rfl, q _ L s3 hL gL3⟩
theorem ok_trs {g ST : Addr} {fd : FuncData} (F : Fs K mg "_tries" sTrs ["statement"] g fd) (W : Sw K w mg ST) : FnOk P w K mg base CX0 4 g fd ["statement"] (SpH K (RV (.int 0))) := by
  obtain ⟨_, _, dPO⟩ := W.po
  obtain ⟨_, _, dLL⟩ := W.ll
  have hmx := W.mx
  have GPO : FnOk P w K mg base CX0 3 _ _ ["statement"] (SpH K REmp) := ok_po dPO W
  have GLL : FnOk P w K mg base CX0 2 _ _ ["thing"] (SpH K (RV (.str "halt"))) := ok_ll dLL W
  refine F.F.ok scTrs (fun vs H Q E h => ?_) (fun cdv A outer s H vs Q E hr h => ?_)
  · obtain ⟨_, rfl, _⟩ := h
    rfl
  · obtain ⟨v, rfl, hv, q⟩ := h
    have hrPO := hr
    have hrLL : Room 2 (A.deeper (envOfC "_tries" (defScope sTrs) s.heap.objs.size g cdv)) := hr.mono (by decide)
    refine ⟨_, (pss_cons (ps_set (i := 1) scTrs.nd rfl (Or.inl rfl) (pe_callBK (cr_maxD0 rfl) (by rfl) hmx (by decide +kernel) (pa_cons (pe_lc (own := [("part", 2)]) (g := gName 2) (tt := tYes) rfl scTrs.nd (pi_tup (pe_call GPO hrPO (by rfl) dPO.m dPO.F.kp dPO.b .nil pass0 (pa_cons (pv 0) pa_nil))) (blkOk_by (N := nTrs) (sc := defScope sTrs) (by decide +kernel)) (fun _ _ _ _ _ => (pg_name (i := 2) scTrs.nd rfl (Or.inl rfl))) (fun _ _ _ _ _ => pts_nil) (fun _ _ _ _ _ => pe_dead)) pa_nil) (pk_cons pe_int pk_nil))) (pss_one (ps_ret (pe_ifExp (pt_cmpR op_eq (pe_call GLL hrLL (by rfl) dLL.m dLL.F.kp dLL.b .nil pass0 (pa_cons (pv 0) pa_nil)) pe_str (nomark _)) pe_dead (pv 1))))), ?_⟩
    refine ⟨_, rfl, _, rfl, hv, fun H1 p s1 hp gp => ?_⟩
    refine ⟨p, rfl, ⟨_, SqT.of gp⟩, fun D hD => ?_⟩
    refine emp_go (walk_tup (xs := [])) (g := gName 2) (vs := [2]) (σ := [some v, none, none]) (tt := tYes) (te := fun _ _ _ => False) hD (SqT.of ((new_same hD) _ _ gp)) ?_
    have s2 := s1.trans (new_same (o := .lst []) hD)
    have gD : (upd H1 D (.lst [])) D = some (.lst []) := upd_same
    obtain ⟨H2, e2⟩ : ∃ G, upd H1 D (.lst []) = G := ⟨_, rfl⟩
    rw [e2] at s2 gD ⊢
    refine ⟨D, .int 0, rfl, rfl, SqL.of gD, ?_⟩
    refine ⟨_, rfl, v, rfl, hv.same s2, fun H3 s3 => ?_⟩
    exact ⟨rfl, false, nE (by decide +kernel), iteF ⟨_, rfl, q _ (s2.trans s3)⟩⟩
theorem ok_calls {g ST : Addr} {fd : FuncData} (F : Fs K mg "_calls" sCls_ ["statement"] g fd) (W : Sw K w mg ST) : FnOk P w K mg base CX0 4 g fd ["statement"] (SpH K (RV (.int 0))) := by
  obtain ⟨_, _, dPO⟩ := W.po
  obtain ⟨_, _, dLL⟩ := W.ll
  have hsm := W.sm
  have GPO : FnOk P w K mg base CX0 3 _ _ ["statement"] (SpH K REmp) := ok_po dPO W
  have GLL : FnOk P w K mg base CX0 2 _ _ ["thing"] (SpH K (RV (.str "halt"))) := ok_ll dLL W
  refine F.F.ok scCls_ (fun vs H Q E h => ?_) (fun cdv A outer s H vs Q E hr h => ?_)
  · obtain ⟨_, rfl, _⟩ := h
    rfl
  · obtain ⟨v, rfl, hv, q⟩ := h
    have hrPO := hr
    have hrLL : Room 2 (A.deeper (envOfC "_calls" (defScope sCls_) s.heap.objs.size g cdv)) := hr.mono (by decide)
    refine ⟨_, (pss_cons (ps_set (i := 1) scCls_.nd rfl (Or.inl rfl) (pe_call GLL hrLL (by rfl) dLL.m dLL.F.kp dLL.b .nil pass0 (pa_cons (pv 0) pa_nil))) (pss_cons (ps_setLc (i := 2) (own := [("part", 3)]) (g := gName 3) (tt := tYes) rfl scCls_.nd rfl rfl (sw_true rfl rfl rfl rfl) (pi_tup (pe_call GPO hrPO (by rfl) dPO.m dPO.F.kp dPO.b .nil pass0 (pa_cons (pv 0) pa_nil))) (blkOk_by (N := nCls_) (sc := defScope sCls_) (by decide +kernel)) (fun _ _ _ _ _ => (pg_name (i := 3) scCls_.nd rfl (Or.inl rfl))) (fun _ _ _ _ _ => pts_nil) (fun _ _ _ _ _ => pe_dead)) (pss_cons (ps_if (PW.pt (pw_and (pt_cmpR op_eq (pv 1) pe_str (nomark _)) (pw_and1 pt_dead))) (pss_one ps_dead) pss_nil) (pss_one (ps_ret (pe_ifExp (pt_cmpR op_eq (pv 1) pe_str (nomark _)) pe_dead (pe_callB (cr_sum rfl) (by rfl) hsm (by decide +kernel) (pa_cons (pv 2) pa_nil)))))))), ?_⟩
    refine ⟨_, rfl, v, rfl, hv, fun H0 s0 => ?_⟩
    refine ⟨_, rfl, _, rfl, hv.same s0, fun H1 p s1 hp gp => ?_⟩
    refine ⟨p, rfl, ⟨_, SqT.of gp⟩, fun D hD => ?_⟩
    refine emp_go (walk_tup (xs := [])) (g := gName 3) (vs := [3]) (tt := tYes) (te := fun _ _ _ => False) hD (SqT.of ((new_same hD) _ _ gp)) ?_
    have s2 := (s0.trans s1).trans (new_same (o := .lst []) hD)
    have gD : (upd H1 D (.lst [])) D = some (.lst []) := upd_same
    obtain ⟨H2, e2⟩ : ∃ G, upd H1 D (.lst []) = G := ⟨_, rfl⟩
    rw [e2] at s2 gD ⊢
    refine ⟨_, rfl, rfl, false, nE (by decide +kernel), iteF (iteF ?_)⟩
    refine ⟨_, rfl, rfl, false, nE (by decide +kernel), iteF ?_⟩
    exact ⟨_, rfl, D, [], rfl, SqL.of gD, q _ s2⟩
theorem ok_tl {g ST : Addr} {fd : FuncData} (F : Fs K mg "is_too_large" sTL ["body"] g fd) (W : Sw K w mg ST) : FnOk P w K mg base CX0 5 g fd ["body"] (SpH K (RV (.bl false))) := by
  obtain ⟨_, _, dSts⟩ := W.sts
  obtain ⟨_, _, dTrs⟩ := W.trs
  obtain ⟨_, _, dCls⟩ := W.cls
  obtain ⟨_, _, dLL⟩ := W.ll
  obtain ⟨_, h40⟩ := W.c40
  obtain ⟨_, h4⟩ := W.c4
  obtain ⟨_, h2t⟩ := W.c2
  obtain ⟨_, h4c⟩ := W.c4c
  have T := W.T
  have GSts : FnOk P w K mg base CX0 4 _ _ ["body"] _ := ok_sts dSts W
  have GTrs : FnOk P w K mg base CX0 4 _ _ ["statement"] (SpH K (RV (.int 0))) := ok_trs dTrs W
  have GCls : FnOk P w K mg base CX0 4 _ _ ["statement"] (SpH K (RV (.int 0))) := ok_calls dCls W
  have GLL : FnOk P w K mg base CX0 2 _ _ ["thing"] (SpH K (RV (.str "halt"))) := ok_ll dLL W
  refine F.F.ok scTL (fun vs H Q E h => ?_) (fun cdv A outer s H vs Q E hr h => ?_)
  · obtain ⟨_, rfl, _⟩ := h
    rfl
  · obtain ⟨v, rfl, hv, q⟩ := h
    have hrSts := hr
    have hrTrs := hr
    have hrCls := hr
    have hrLL : Room 2 (A.deeper (envOfC "is_too_large" (defScope sTL) s.heap.objs.size g cdv)) := hr.mono (by decide)
    refine ⟨_, (pss_cons (ps_set (i := 1) scTL.nd rfl (Or.inl rfl) (pe_call GSts hrSts (by rfl) dSts.m dSts.F.kp dSts.b .nil pass0 (pa_cons (pv 0) pa_nil))) (pss_cons (ps_if (pt_cmpR op_gt (pe_callB call_len_seq (by rfl) T.len PySem.boot_len (pa_cons (pv 1) pa_nil)) (pe_glob (v := .int 40) (by rfl) h40 ⟨_, rfl⟩) (nomark _)) (pss_one ps_dead) pss_nil) (pss_cons (ps_set (i := 2) scTL.nd rfl (Or.inl rfl) (pe_callB call_len_seq (by rfl) T.len PySem.boot_len (pa_cons (pe_lc (own := [("statement", 3)]) (g := gName 3) rfl scTL.nd (pi_list (pv 1)) (blkOk_by (N := nTL) (sc := defScope sTL) (by decide +kernel)) (fun _ _ _ _ _ => (pg_name (i := 3) scTL.nd rfl (Or.inl rfl))) (fun _ _ _ _ _ => (pts_one (pt_cmpR op_eq (pe_call GLL hrLL (by rfl) dLL.m dLL.F.kp dLL.b .nil pass0 (pa_cons (pv 3) pa_nil)) pe_str (nomark _)))) (fun _ _ _ _ _ => (pv 3))) pa_nil))) (pss_one (ps_ret (pe_or (pe_cmpR op_gt (pv 2) (pe_glob (v := .int 4) (by rfl) h4 ⟨_, rfl⟩) (nomark _)) (pe_or (pe_cmpR op_gt (pe_call GTrs hrTrs (by rfl) dTrs.m dTrs.F.kp dTrs.b .nil pass0 (pa_cons (pv 0) pa_nil)) (pe_glob (v := .int 2) (by rfl) h2t ⟨_, rfl⟩) (nomark _)) (pe_one (pe_cmpR op_gt (pe_call GCls hrCls (by rfl) dCls.m dCls.F.kp dCls.b .nil pass0 (pa_cons (pv 0) pa_nil)) (pe_glob (v := .int 4) (by rfl) h4c ⟨_, rfl⟩) (nomark _)))))))))), ?_⟩
    refine ⟨_, rfl, v, rfl, hv, fun H1 p s1 hp gp => ?_⟩
    refine ⟨_, rfl, p, _, rfl, .inl (SqL.of gp), _, _, rfl, rfl, false, rfl, iteF ?_⟩
    refine ⟨_, rfl, p, rfl, ⟨_, SqL.of gp⟩, fun D hD => ?_⟩
    refine lc_it (walk_list (xs := [v])) (g := gName 3) (vs := [3]) (σ := [some v, some (.ref p), none, none]) (te := tVar 3) (fun _ H2 => Same H1 H2 ∧ H2 D = some (.lst [])) ⟨new_same hD, upd_same⟩ (fun i H2 _ h => SqL.same h.1 (SqL.of gp)) ?_ ?_
    · rintro i x H2 H3 hi ⟨s2, gD⟩ ⟨rfl, hx⟩
      obtain rfl : i = 0 := Nat.lt_one_iff.mp hi
      obtain rfl : v = x := Option.some.inj hx
      refine ⟨rfl, v, rfl, v, rfl, hv.same (s1.trans s2), fun H4 s4 => ?_⟩
      exact ⟨rfl, false, nE (by decide +kernel), iteF ⟨s2.trans s4, s4 _ _ gD⟩⟩
    · rintro H2 ⟨s2, gD⟩
      refine ⟨D, _, rfl, .inl (SqL.of gD), ?_⟩
      refine ⟨_, rfl, _, _, rfl, rfl, false, rfl, iteF ?_⟩
      have s12 := s1.trans s2
      refine ⟨v, rfl, v, rfl, hv.same s12, fun H3 s3 => ?_⟩
      refine ⟨_, _, rfl, rfl, false, rfl, iteF ?_⟩
      refine ⟨v, rfl, v, rfl, hv.same (s12.trans s3), fun H4 s4 => ?_⟩
      exact ⟨_, _, rfl, rfl, q _ ((s12.trans s3).trans s4)⟩
end

end Kx
set_option linter.all false
namespace Kx
open PySem L2 PySem.Spec PyProof.Rows
section
variable {P : Program} {w : World} {K : PySem.W.Frag} {mg : Str → Option Value} {base : Heap}
/-- what the checks of statements say of halt, in any scope: nothing is wrong -/
abbrev SpW (K : PySem.W.Frag) : Sp := fun vs H Q _ => ∃ x v, vs = [x, v] ∧ HaltA K H v ∧ RV (.bl false) Q H
theorem ok_w0 {g ST : Addr} {fd : FuncData} (F : Fs K mg "_wrong_term" sW0 ["scope", "act"] g fd) (W : Sw K w mg ST) : FnOk P w K mg base CX0 3 g fd ["scope", "act"] (SpW K) := by
  obtain ⟨_, _, dTI⟩ := W.ti
  have T := W.T
  have GTI : FnOk P w K mg base CX0 2 _ _ ["act"] (SpH K REmL) := ok_ti dTI W
  refine F.F.ok scW0 (fun vs H Q E h => ?_) (fun cdv A outer s H vs Q E hr h => ?_)
  · obtain ⟨_, _, rfl, _⟩ := h
    rfl
  · obtain ⟨x, v, rfl, hv, q⟩ := h
    have hrTI := hr
    refine ⟨_, (pss_one (ps_ret (pe_not (pe_callB (cr_all rfl) (by rfl) T.all (by decide +kernel) (pa_cons (pe_lc (own := [("term", 2)]) (g := gName 2) (tt := tYes) rfl scW0.nd (pi_list (pe_call GTI hrTI (by rfl) dTI.m dTI.F.kp dTI.b .nil pass0 (pa_cons (pv 1) pa_nil))) (blkOk_by (N := nW0) (sc := defScope sW0) (by decide +kernel)) (fun _ _ _ _ _ => (pg_name (i := 2) scW0.nd rfl (Or.inl rfl))) (fun _ _ _ _ _ => pts_nil) (fun _ _ _ _ _ => pe_dead)) pa_nil))))), ?_⟩
    refine ⟨_, rfl, v, rfl, hv, fun H1 p s1 hp gp => ?_⟩
    refine ⟨p, rfl, ⟨_, SqL.of gp⟩, fun D hD => ?_⟩
    refine emp_go (walk_list (xs := [])) (g := gName 2) (vs := [2]) (σ := [some x, some v, none]) (tt := tYes) (te := fun _ _ _ => False) hD (SqL.of ((new_same hD) _ _ gp)) ?_
    have s2 := s1.trans (new_same (o := .lst []) hD)
    have gD : (upd H1 D (.lst [])) D = some (.lst []) := upd_same
    obtain ⟨H2, e2⟩ : ∃ G, upd H1 D (.lst []) = G := ⟨_, rfl⟩
    rw [e2] at s2 gD ⊢
    exact ⟨D, [], rfl, SqL.of gD, _, rfl, q _ s2⟩
theorem ok_w1 {g ST : Addr} {fd : FuncData} (F : Fs K mg "_wrong_object" sW1 ["scope", "act"] g fd) (W : Sw K w mg ST) : FnOk P w K mg base CX0 3 g fd ["scope", "act"] (SpW K) := by
  obtain ⟨_, _, dOI⟩ := W.oi
  have GOI : FnOk P w K mg base CX0 2 _ _ ["act"] (SpH K REmL) := ok_oi dOI W
  refine F.F.ok scW1 (fun vs H Q E h => ?_) (fun cdv A outer s H vs Q E hr h => ?_)
  · obtain ⟨_, _, rfl, _⟩ := h
    rfl
  · obtain ⟨x, v, rfl, hv, q⟩ := h
    have hrOI := hr
    have hu65 : (A.deeper (envOfC "_wrong_object" (defScope sW1) s.heap.objs.size g cdv)).units + 65 < cLine := by have := hr.un; omega
    refine ⟨_, (pss_one (ps_ret (pe_cmpR (op_inD hu65) pe_non (pe_lc (own := [("variable", 2)]) (g := gName 2) (tt := tYes) rfl scW1.nd (pi_list (pe_call GOI hrOI (by rfl) dOI.m dOI.F.kp dOI.b .nil pass0 (pa_cons (pv 1) pa_nil))) (blkOk_by (N := nW1) (sc := defScope sW1) (by decide +kernel)) (fun _ _ _ _ _ => (pg_name (i := 2) scW1.nd rfl (Or.inl rfl))) (fun _ _ _ _ _ => pts_nil) (fun _ _ _ _ _ => pe_dead)) (by with_unfolding_all rfl)))), ?_⟩
    refine ⟨_, rfl, _, rfl, hv, fun H1 p s1 hp gp => ?_⟩
    refine ⟨p, rfl, ⟨_, SqL.of gp⟩, fun D hD => ?_⟩
    refine emp_go (walk_list (xs := [])) (g := gName 2) (vs := [2]) (σ := [some x, some v, none]) (tt := tYes) (te := fun _ _ _ => False) hD (SqL.of ((new_same hD) _ _ gp)) ?_
    have s2 := s1.trans (new_same (o := .lst []) hD)
    have gD : (upd H1 D (.lst [])) D = some (.lst []) := upd_same
    obtain ⟨H2, e2⟩ : ∃ G, upd H1 D (.lst []) = G := ⟨_, rfl⟩
    rw [e2] at s2 gD ⊢
    exact ⟨_, _, .non, .lst (SqL.of gD) .nil, by decide +kernel, by decide +kernel, q _ s2⟩
theorem ok_w2 {g : Addr} {fd : FuncData} (F : Fs K mg "_wrong_class" sW2 ["scope", "act"] g fd) : FnOk P w K mg base CX0 3 g fd ["scope", "act"] (SpW K) := by
  refine F.F.ok scW2 (fun vs H Q E h => ?_) (fun cdv A outer s H vs Q E hr h => ?_)
  · obtain ⟨_, _, rfl, _⟩ := h
    rfl
  · obtain ⟨x, v, rfl, ⟨b, rfl, hb⟩, q⟩ := h
    refine ⟨_, (pss_cons (ps_if (pt_cmpR op_eq (pe_ix ix_tup (pv 1) pe_int (fun _ _ => rfl)) pe_str (nomark _)) (pss_one ps_dead) pss_nil) (pss_one (ps_ret (pe_and (pe_cmpR op_eq (pe_ix ix_tup (pv 1) pe_int (fun _ _ => rfl)) pe_str (nomark _)) (pe_one pe_dead))))), ?_⟩
    refine ⟨_, rfl, b, _, _, .str "halt", rfl, rfl, hb, at0, rfl, false, nE (by decide +kernel), iteF ?_⟩
    exact ⟨_, rfl, b, _, _, .str "halt", rfl, rfl, hb, at0, rfl, false, nE (by decide +kernel), iteF (q H (Same.refl H))⟩
theorem ok_w3 {g : Addr} {fd : FuncData} (F : Fs K mg "_wrong_method" sW3 ["scope", "act"] g fd) : FnOk P w K mg base CX0 3 g fd ["scope", "act"] (SpW K) := by
  refine F.F.ok scW3 (fun vs H Q E h => ?_) (fun cdv A outer s H vs Q E hr h => ?_)
  · obtain ⟨_, _, rfl, _⟩ := h
    rfl
  · obtain ⟨x, v, rfl, ⟨b, rfl, hb⟩, q⟩ := h
    refine ⟨_, (pss_one (ps_ret (pe_and (pe_cmpR op_eq (pe_ix ix_tup (pv 1) pe_int (fun _ _ => rfl)) pe_str (nomark _)) (pe_one pe_dead)))), ?_⟩
    exact ⟨_, rfl, b, _, _, .str "halt", rfl, rfl, hb, at0, rfl, false, nE (by decide +kernel), iteF (q H (Same.refl H))⟩
theorem ok_w4 {g : Addr} {fd : FuncData} (F : Fs K mg "_wrong_next" sW4 ["scope", "act"] g fd) : FnOk P w K mg base CX0 3 g fd ["scope", "act"] (SpW K) := by
  refine F.F.ok scW4 (fun vs H Q E h => ?_) (fun cdv A outer s H vs Q E hr h => ?_)
  · obtain ⟨_, _, rfl, _⟩ := h
    rfl
  · obtain ⟨x, v, rfl, ⟨b, rfl, hb⟩, q⟩ := h
    refine ⟨_, (pss_cons (ps_if (pt_cmpR op_ne (pe_ix ix_tup (pv 1) pe_int (fun _ _ => rfl)) pe_str (nomark _)) (pss_one (ps_ret pe_bl)) pss_nil) (pss_one ps_dead)), ?_⟩
    exact ⟨_, rfl, b, _, _, .str "halt", rfl, rfl, hb, at0, rfl, true, nN (by decide +kernel), iteT (q H (Same.refl H))⟩
theorem ok_w5 {g : Addr} {fd : FuncData} (F : Fs K mg "_wrong_arguments" sW5 ["scope", "act"] g fd) : FnOk P w K mg base CX0 3 g fd ["scope", "act"] (SpW K) := by
  refine F.F.ok scW5 (fun vs H Q E h => ?_) (fun cdv A outer s H vs Q E hr h => ?_)
  · obtain ⟨_, _, rfl, _⟩ := h
    rfl
  · obtain ⟨x, v, rfl, ⟨b, rfl, hb⟩, q⟩ := h
    refine ⟨_, (pss_cons (ps_if (pt_cmpR op_eq (pe_ix ix_tup (pv 1) pe_int (fun _ _ => rfl)) pe_str (nomark _)) (pss_one ps_dead) pss_nil) (pss_cons (ps_if (pt_cmpR op_notIn_seq (pe_ix ix_tup (pv 1) pe_int (fun _ _ => rfl)) (pe_tup (pa_cons pe_str (pa_cons pe_str pa_nil))) (by with_unfolding_all rfl)) (pss_one (ps_ret pe_bl)) pss_nil) (pss_cons ps_dead (pss_cons ps_dead (pss_cons ps_dead (pss_one ps_dead)))))), ?_⟩
    refine ⟨_, rfl, b, _, _, .str "halt", rfl, rfl, hb, at0, rfl, false, nE (by decide +kernel), iteF ?_⟩
    refine ⟨_, rfl, b, _, _, .str "halt", rfl, rfl, hb, at0, le_sz (Nat.le_of_ble_eq_true rfl), fun p hp => ?_⟩
    refine ⟨p, _, rfl, .inr (SqT.of upd_same), rfl, rfl, true, by decide +kernel, iteT ?_⟩
    exact q _ (new_same hp)
theorem ok_w6 {g : Addr} {fd : FuncData} (F : Fs K mg "_wrong_own" sW6 ["scope", "act"] g fd) : FnOk P w K mg base CX0 3 g fd ["scope", "act"] (SpW K) := by
  refine F.F.ok scW6 (fun vs H Q E h => ?_) (fun cdv A outer s H vs Q E hr h => ?_)
  · obtain ⟨_, _, rfl, _⟩ := h
    rfl
  · obtain ⟨x, v, rfl, ⟨b, rfl, hb⟩, q⟩ := h
    refine ⟨_, (pss_cons (ps_if (PW.pt (pw_or (pt_cmpR op_ne (pe_ix ix_tup (pv 1) pe_int (fun _ _ => rfl)) pe_str (nomark _)) (pw_or pt_dead (pw_or1 pt_dead)))) (pss_one (ps_ret pe_bl)) pss_nil) (pss_cons ps_dead (pss_one ps_dead))), ?_⟩
    exact ⟨_, rfl, b, _, _, .str "halt", rfl, rfl, hb, at0, rfl, true, nN (by decide +kernel), iteT (iteT (q H (Same.refl H)))⟩
theorem ok_w7 {g : Addr} {fd : FuncData} (F : Fs K mg "_wrong_value" sW7 ["scope", "act"] g fd) : FnOk P w K mg base CX0 3 g fd ["scope", "act"] (SpW K) := by
  refine F.F.ok scW7 (fun vs H Q E h => ?_) (fun cdv A outer s H vs Q E hr h => ?_)
  · obtain ⟨_, _, rfl, _⟩ := h
    rfl
  · obtain ⟨x, v, rfl, ⟨b, rfl, hb⟩, q⟩ := h
    refine ⟨_, (pss_one (ps_ret (pe_and (pe_cmpR op_eq (pe_ix ix_tup (pv 1) pe_int (fun _ _ => rfl)) pe_str (nomark _)) (pe_one pe_dead)))), ?_⟩
    exact ⟨_, rfl, b, _, _, .str "halt", rfl, rfl, hb, at0, rfl, false, nE (by decide +kernel), iteF (q H (Same.refl H))⟩
end

end Kx
set_option linter.all false
namespace Kx
open PySem L2 PySem.Spec PyProof.Rows
/-- the classes and functions of scopes -/
structure Scm (K : PySem.W.Frag) (mg : Str → Option Value) (CS CC fS fC : Addr) : Prop where
  cS : Cls K CS
  nS : ∀ x ∈ (["known", "view", "fresh"] : List Str), NoAttr K CS x
  gS : mg "Seen" = some (.ref CS)
  mS : Mk K CS fS
  iS : ∃ fd, Fun K "__init__" "Seen.__init__" sSIn fS fd ∧ Binds K fd ["self", "known", "view", "fresh"] []
  cC : Cls K CC
  nC : ∀ x ∈ (["library", "owner", "method", "variables"] : List Str), NoAttr K CC x
  gC : mg "Scope" = some (.ref CC)
  mC : Mk K CC fC
  iC : ∃ fd, Fun K "__init__" "Scope.__init__" sScI fC fd ∧ Binds K fd ["self", "library", "owner", "method", "variables"] []
  bh : ∃ g fd, Meth K CC "behind" g ∧ Fun K "behind" "Scope.behind" sBh g fd ∧ Binds K fd ["self", "statement"] []
  sa : ∃ g fd, Fs K mg "seen_as" sSA ["kind"] g fd
  ms : ∃ g fd, Fs K mg "method_scope" sMS ["library", "owner", "method"] g fd
def ScA (CC : Addr) (H : Hp) (v : V) : Prop := ∃ x dx fs, v = .ref x ∧ H x = some (.ins CC dx fs) ∧ fs.lookup ("behind" : Str) = none
theorem ScA.same {CC : Addr} {H H' : Hp} {v : V} (s : Same H H') : ScA CC H v → ScA CC H' v := fun ⟨x, dx, fs, e, g, n⟩ => ⟨x, dx, fs, e, s _ _ g, n⟩
def spI3 (C : Addr) : Sp := fun vs H Q _ => ∃ x dx v1 v2 v3, vs = [.ref x, v1, v2, v3] ∧ H x = some (.ins C dx []) ∧ ∀ H', KeepB x H H' → (∃ fs, H' x = some (.ins C dx fs)) → Q .non H'
def spI4 (C : Addr) : Sp := fun vs H Q _ => ∃ x dx v1 v2 v3 v4, vs = [.ref x, v1, v2, v3, v4] ∧ H x = some (.ins C dx []) ∧ ∀ H', KeepB x H H' → (∃ fs, H' x = some (.ins C dx fs) ∧ fs.lookup ("behind" : Str) = none) → Q .non H'
def spSA : Sp := fun vs H Q _ => ∃ n : Str, vs = [.str n] ∧ ∀ v H', Same H H' → Q v H'
section
variable {P : Program} {w : World} {K : PySem.W.Frag} {mg : Str → Option Value} {base : Heap} {CS CC fS fC : Addr}
theorem ok_sin {fd : FuncData} (F : Fun K "__init__" "Seen.__init__" sSIn fS fd) (M : Scm K mg CS CC fS fC) : FnOk P w K mg base CX0 1 fS fd ["self", "known", "view", "fresh"] (spI3 CS) := by
  refine F.ok scSIn (fun vs H Q E h => ?_) (fun cdv A outer s H vs Q E hr h => ?_)
  · obtain ⟨_, _, _, _, _, rfl, _⟩ := h
    rfl
  · obtain ⟨x, dx, v1, v2, v3, rfl, hx, q⟩ := h
    refine ⟨_, (pss_cons (ps_fld (pv 0) (pv 1) (by rfl)) (pss_cons (ps_fld (pv 0) (pv 2) (by rfl)) (pss_one (ps_fld (pv 0) (pv 3) (by rfl))))), ?_⟩
    refine ⟨_, rfl, _, rfl, x, CS, dx, _, rfl, hx, M.cS, M.nS _ (by simp), Nat.le_of_ble_eq_true rfl, ?_⟩
    refine ⟨_, rfl, _, rfl, x, CS, dx, _, rfl, upd_same, M.cS, M.nS _ (by simp), Nat.le_of_ble_eq_true rfl, ?_⟩
    refine ⟨_, rfl, _, rfl, x, CS, dx, _, rfl, upd_same, M.cS, M.nS _ (by simp), Nat.le_of_ble_eq_true rfl, ?_⟩
    exact q _ ((KeepB.at.trans KeepB.at).trans KeepB.at) ⟨_, upd_same⟩
theorem ok_sci {fd : FuncData} (F : Fun K "__init__" "Scope.__init__" sScI fC fd) (M : Scm K mg CS CC fS fC) : FnOk P w K mg base CX0 1 fC fd ["self", "library", "owner", "method", "variables"] (spI4 CC) := by
  refine F.ok scScI (fun vs H Q E h => ?_) (fun cdv A outer s H vs Q E hr h => ?_)
  · obtain ⟨_, _, _, _, _, _, rfl, _⟩ := h
    rfl
  · obtain ⟨x, dx, v1, v2, v3, v4, rfl, hx, q⟩ := h
    refine ⟨_, (pss_cons (ps_fld (pv 0) (pv 1) (by rfl)) (pss_cons (ps_fld (pv 0) (pv 2) (by rfl)) (pss_cons (ps_fld (pv 0) (pv 3) (by rfl)) (pss_one (ps_fld (pv 0) (pv 4) (by rfl)))))), ?_⟩
    refine ⟨_, rfl, _, rfl, x, CC, dx, _, rfl, hx, M.cC, M.nC _ (by simp), Nat.le_of_ble_eq_true rfl, ?_⟩
    refine ⟨_, rfl, _, rfl, x, CC, dx, _, rfl, upd_same, M.cC, M.nC _ (by simp), Nat.le_of_ble_eq_true rfl, ?_⟩
    refine ⟨_, rfl, _, rfl, x, CC, dx, _, rfl, upd_same, M.cC, M.nC _ (by simp), Nat.le_of_ble_eq_true rfl, ?_⟩
    refine ⟨_, rfl, _, rfl, x, CC, dx, _, rfl, upd_same, M.cC, M.nC _ (by simp), Nat.le_of_ble_eq_true rfl, ?_⟩
    exact q _ (((KeepB.at.trans KeepB.at).trans KeepB.at).trans KeepB.at) ⟨_, upd_same, rfl⟩
theorem ok_sa {g : Addr} {fd : FuncData} (F : Fs K mg "seen_as" sSA ["kind"] g fd) (M : Scm K mg CS CC fS fC) : FnOk P w K mg base CX0 3 g fd ["kind"] spSA := by
  have mkS := M.mS
  have gSn := M.gS
  obtain ⟨_, FI, bSI⟩ := M.iS
  have GSI : FnOk P w K mg base CX0 1 fS _ ["self", "known", "view", "fresh"] (spI3 CS) := ok_sin FI M
  refine F.F.ok scSA (fun vs H Q E h => ?_) (fun cdv A outer s H vs Q E hr h => ?_)
  · obtain ⟨_, rfl, _⟩ := h
    rfl
  · obtain ⟨n, rfl, q⟩ := h
    have hrSI := hr
    refine ⟨_, (pss_one (ps_ret (pe_ifExp (pt_cmpR op_eq (pv 0) pe_str (nomark _)) pe_non (pe_make mkS GSI hrSI (by rfl) gSn bSI .nil pass0 (pa_cons (pv 0) (pa_cons (pv 0) (pa_cons pe_bl pa_nil))))))), ?_⟩
    refine ⟨_, rfl, rfl, decide (V.str n = V.str "int"), rfl, ?_⟩
    cases decide (V.str n = V.str "int") with
    | true => exact iteT (q _ H (Same.refl H))
    | false =>
      refine iteF ⟨_, rfl, _, rfl, fun x dx nx nd ne => ?_⟩
      exact ⟨x, dx, _, _, _, rfl, upd_same, fun H' k _ => ⟨rfl, q _ _ (same_make nx nd k)⟩⟩
theorem ok_beh {g : Addr} {fd : FuncData} (F : Fun K "behind" "Scope.behind" sBh g fd) : FnOk P w K mg base CX0 1 g fd ["self", "statement"] (fun vs H Q _ => ∃ x v, vs = [x, v] ∧ HaltA K H v ∧ Q x H) := by
  refine F.ok scBh (fun vs H Q E h => ?_) (fun cdv A outer s H vs Q E hr h => ?_)
  · obtain ⟨_, _, rfl, _⟩ := h
    rfl
  · obtain ⟨x, v, rfl, ⟨b, rfl, hb⟩, q⟩ := h
    refine ⟨_, (pss_cons (ps_if (pt_cmpR op_ne (pe_ix ix_tup (pv 1) pe_int (fun _ _ => rfl)) pe_str (nomark _)) (pss_one (ps_ret (pv 0))) pss_nil) (pss_cons ps_dead (pss_cons ps_dead (pss_one ps_dead)))), ?_⟩
    exact ⟨_, rfl, b, _, _, .str "halt", rfl, rfl, hb, at0, rfl, true, nN (by decide +kernel), iteT ⟨_, rfl, q⟩⟩
def spMS (K : PySem.W.Frag) (C f : Nat → Addr) (CC : Addr) : Sp := fun vs H Q _ => ∃ (l : V) (o : Str) (m : MD) (v : V), vs = [l, .str o, v] ∧ Oh K (clk C f) H (mO m) v ∧ m.params.length ≤ 60 ∧ ∀ v' H', Same H H' → ScA CC H' v' → Q v' H'
theorem ok_ms {C f : Nat → Addr} {g : Addr} {fd : FuncData} (F : Fs K mg "method_scope" sMS ["library", "owner", "method"] g fd) (M : Scm K mg CS CC fS fC) (X : Txt K mg C f) : FnOk P w K mg base CX0 4 g fd ["library", "owner", "method"] (spMS K C f CC) := by
  have mkSc := M.mC
  have gSc := M.gC
  obtain ⟨_, FI, bSc⟩ := M.iC
  obtain ⟨_, _, dSA⟩ := M.sa
  have GSc : FnOk P w K mg base CX0 1 fC _ ["self", "library", "owner", "method", "variables"] (spI4 CC) := ok_sci FI M
  have GSA : FnOk P w K mg base CX0 3 _ _ ["kind"] spSA := ok_sa dSA M
  refine F.F.ok scMS (fun vs H Q E h => ?_) (fun cdv A outer s H vs Q E hr h => ?_)
  · obtain ⟨_, _, _, _, rfl, _⟩ := h
    rfl
  · obtain ⟨l, o, m, v, rfl, om, hl, q⟩ := h
    have hrSA := hr
    have hrSc : Room 2 (A.deeper (envOfC "method_scope" (defScope sMS) s.heap.objs.size g cdv)) := hr.mono (by decide)
    have hu := hu_of hrSc
    obtain ⟨a, dx, fs, vp, xs, v1, v2, vb, rfl, MA⟩ := mO_get om
    refine ⟨_, (pss_cons (ps_set (i := 3) scMS.nd rfl (Or.inl rfl) (pe_disp (pps_cons pe_str (pe_call GSA hrSA (by rfl) dSA.m dSA.F.kp dSA.b .nil pass0 (pa_cons (pv 1) pa_nil)) pps_nil) (by rfl) (by rfl) (fun z => by cases z) (by decide))) (pss_cons (ps_for PassesOwn.never rfl (pi_tup (pe_fld (pv 2) (by rfl))) (pg_tup rfl (pgs_cons (pg_name (i := 4) scMS.nd rfl (Or.inl rfl)) (pgs_cons (pg_name (i := 5) scMS.nd rfl (Or.inl rfl)) pgs_nil))) (pss_one (ps_asg (pe_call GSA hrSA (by rfl) dSA.m dSA.F.kp dSA.b .nil pass0 (pa_cons (pv 5) pa_nil)) (pg_sub (pv 3) (pv 4) (set_dict hu))))) (pss_one (ps_ret (pe_make mkSc GSc hrSc (by rfl) gSc bSc .nil pass0 (pa_cons (pv 0) (pa_cons (pv 1) (pa_cons (pv 2) (pa_cons (pv 3) pa_nil))))))))), ?_⟩
    refine fun D hD => ⟨_, rfl, o, rfl, fun v5 H5 s5 => ⟨s5 _ _ upd_same, [(.inr "self", v5)], rfl, Nat.le_of_ble_eq_true rfl, ?_⟩⟩
    have s6 : Same H (upd H5 D (.dK (mergeK [] [(.inr "self", v5)]))) := same_upd hD ((new_same hD).trans s5)
    obtain ⟨kv0, ek, l0⟩ : ∃ kv0 : List (Key × V), mergeK [] [(.inr "self", v5)] = kv0 ∧ kv0.length ≤ 1 := ⟨_, rfl, Nat.le_refl _⟩
    rw [ek] at s6 ⊢
    have g6 : (upd H5 D (.dK kv0)) D = some (.dK kv0) := upd_same
    obtain ⟨H6, e6⟩ : ∃ G, upd H5 D (.dK kv0) = G := ⟨_, rfl⟩
    rw [e6] at s6 g6 ⊢
    have lx : xs.length = m.params.length := by rw [← OhAll.length _ _ MA.op, List.length_map]
    refine ⟨_, rfl, a, C 1, dx, fs, _, rfl, s6 _ _ MA.ins, X.cls 1 (by decide), X.no 1 (by decide) _ (by decide), MA.p, vp, rfl, ⟨_, SqT.same s6 MA.sp⟩, for_tup (K := K) (a := vp) (xs := xs) (fun j σ H7 => (∃ v4 v5, σ = [some l, some (V.str o), some (V.ref a), some (V.ref D), v4, v5]) ∧ Same H H7 ∧ ∃ kvs, H7 D = some (.dK kvs) ∧ kvs.length ≤ 1 + j) ⟨⟨none, none, rfl⟩, s6, kv0, g6, l0⟩ (fun j σ H7 _ h => SqT.same h.2.1 MA.sp) ?_ ?_⟩
    · rintro j y σ H7 hj ⟨⟨v4, v5, rfl⟩, s7, kvs, g7, l7⟩
      obtain ⟨d, hd, od⟩ := ohAll_get _ _ _ _ MA.op hj
      rw [List.getElem?_map] at hd
      obtain ⟨p, em, rfl⟩ := Option.map_eq_some_iff.mp hd
      obtain ⟨t, ts, rfl, ht, ot⟩ := od
      obtain ⟨_, _, rfl, ⟨rfl, _⟩, _, _, rfl, ⟨rfl, _⟩, rfl⟩ := ot
      have hj2 := (List.getElem?_eq_some_iff.mp hj).1
      refine ⟨t, _, rfl, SqT.same s7 ht, rfl, _, _, rfl, _, _, rfl, rfl, ?_⟩
      refine ⟨_, rfl, p.2, rfl, fun v8 H8 s8 => ?_⟩
      have lk := length_putK kvs (.inr p.1) v8
      refine ⟨_, rfl, _, rfl, D, _, rfl, DPut.k (k := .inr p.1) (s8 _ _ g7) (Nat.le_trans (show kvs.length + 1 ≤ 100 by omega) (le_sz (Nat.le_of_ble_eq_true rfl))), ?_⟩
      exact ⟨⟨_, _, rfl⟩, same_upd hD (s7.trans s8), _, upd_same, by omega⟩
    · rintro σ H7 ⟨⟨v4, v5, rfl⟩, s7, kvs, g7, l7⟩
      refine ⟨_, rfl, _, rfl, _, rfl, _, rfl, fun x dx' nx nd ne => ?_⟩
      exact ⟨x, dx', _, _, _, _, rfl, upd_same, fun H' k ⟨fs', e, nb⟩ => ⟨rfl, q _ _ (s7.trans (same_make nx nd k)) ⟨x, dx', fs', rfl, e, nb⟩⟩⟩
end

end Kx
set_option linter.all false
namespace Kx
open PySem L2 PySem.Spec PyProof.Rows
/-- the table of the checks of a statement -/
structure Wd (K : PySem.W.Frag) (w : World) (mg : Str → Option Value) (WR : Addr) : Prop where
  at_ : mg "WRONG" = some (.ref WR)
  wk : ∃ o es ep, KWalk K WR ["term", "object", "class", "method", "next", "arguments", "own", "value"] o es ep
  k0 : ∃ g fd, KDct K w WR "term" (.ref g) ∧ Fs K mg "_wrong_term" sW0 ["scope", "act"] g fd
  k1 : ∃ g fd, KDct K w WR "object" (.ref g) ∧ Fs K mg "_wrong_object" sW1 ["scope", "act"] g fd
  k2 : ∃ g fd, KDct K w WR "class" (.ref g) ∧ Fs K mg "_wrong_class" sW2 ["scope", "act"] g fd
  k3 : ∃ g fd, KDct K w WR "method" (.ref g) ∧ Fs K mg "_wrong_method" sW3 ["scope", "act"] g fd
  k4 : ∃ g fd, KDct K w WR "next" (.ref g) ∧ Fs K mg "_wrong_next" sW4 ["scope", "act"] g fd
  k5 : ∃ g fd, KDct K w WR "arguments" (.ref g) ∧ Fs K mg "_wrong_arguments" sW5 ["scope", "act"] g fd
  k6 : ∃ g fd, KDct K w WR "own" (.ref g) ∧ Fs K mg "_wrong_own" sW6 ["scope", "act"] g fd
  k7 : ∃ g fd, KDct K w WR "value" (.ref g) ∧ Fs K mg "_wrong_value" sW7 ["scope", "act"] g fd
def spWHe (K : PySem.W.Frag) (CC : Addr) : Sp := fun vs H Q _ => ∃ x v, vs = [x, v] ∧ ScA CC H x ∧ HaltA K H v ∧ ∀ H', Same H H' → Q .non H'
def spFWb (K : PySem.W.Frag) (CC : Addr) : Sp := fun vs H Q _ => ∃ x v p, vs = [x, v, p] ∧ ScA CC H x ∧ HaltA K H v ∧ ∀ H', Same H H' → Q .non H'
section
variable {P : Program} {w : World} {K : PySem.W.Frag} {mg : Str → Option Value} {base : Heap} {CS CC fS fC : Addr}
theorem ok_whe {g WR ST : Addr} {fd : FuncData} (F : Fs K mg "_wrong_here" sWHe ["scope", "statement"] g fd) (D : Wd K w mg WR) (W : Sw K w mg ST) : FnOk P w K mg base CX0 4 g fd ["scope", "statement"] (spWHe K CC) := by
  have hWR := D.at_
  obtain ⟨_, _, _, DW⟩ := D.wk
  obtain ⟨g0, _, kd0, d0⟩ := D.k0
  obtain ⟨g1, _, kd1, d1⟩ := D.k1
  obtain ⟨g2, _, kd2, d2⟩ := D.k2
  obtain ⟨g3, _, kd3, d3⟩ := D.k3
  obtain ⟨g4, _, kd4, d4⟩ := D.k4
  obtain ⟨g5, _, kd5, d5⟩ := D.k5
  obtain ⟨g6, _, kd6, d6⟩ := D.k6
  obtain ⟨g7, _, kd7, d7⟩ := D.k7
  obtain ⟨_, _, dHF⟩ := W.hf
  obtain ⟨_, _, dAO⟩ := W.ao
  have GHF : FnOk P w K mg base CX0 3 _ _ ["statement"] (SpH K (RV (.bl true))) := ok_hfm dHF W
  have GAO : FnOk P w K mg base CX0 1 _ _ ["statement"] _ := ok_ao dAO
  let SW : Addr → Option Sp := fun h => if h ∈ [g0, g1, g2, g3, g4, g5, g6, g7] then some (SpW K) else none
  have SY : ∀ h, h ∈ [g0, g1, g2, g3, g4, g5, g6, g7] → SW h = some (SpW K) := fun h y => if_pos y
  have AW : ∀ h sp, SW h = some sp → Held P w K mg base 3 h sp := fun h sp e => by
    by_cases y : h ∈ [g0, g1, g2, g3, g4, g5, g6, g7]
    · have e' : some (SpW K) = some sp := by rw [← e]; exact (SY h y).symm
      cases e'
      simp only [List.mem_cons, List.not_mem_nil, or_false] at y
      rcases y with rfl | rfl | rfl | rfl | rfl | rfl | rfl | rfl
      · exact ⟨_, _, ok_w0 d0 W, d0.F.kp, d0.b⟩
      · exact ⟨_, _, ok_w1 d1 W, d1.F.kp, d1.b⟩
      · exact ⟨_, _, ok_w2 d2, d2.F.kp, d2.b⟩
      · exact ⟨_, _, ok_w3 d3, d3.F.kp, d3.b⟩
      · exact ⟨_, _, ok_w4 d4, d4.F.kp, d4.b⟩
      · exact ⟨_, _, ok_w5 d5, d5.F.kp, d5.b⟩
      · exact ⟨_, _, ok_w6 d6, d6.F.kp, d6.b⟩
      · exact ⟨_, _, ok_w7 d7, d7.F.kp, d7.b⟩
    · have e1 : SW h = none := if_neg y
      rw [e1] at e
      cases e
  have hw : ∀ (i : Nat) (k : Str), (["term", "object", "class", "method", "next", "arguments", "own", "value"] : List Str)[i]? = some k → ∃ h, KDct K w WR k (.ref h) ∧ SW h = some (SpW K) := fun i k e => by
    match i, e with
    | 0, e => cases e; exact ⟨g0, kd0, SY g0 (by simp)⟩
    | 1, e => cases e; exact ⟨g1, kd1, SY g1 (by simp)⟩
    | 2, e => cases e; exact ⟨g2, kd2, SY g2 (by simp)⟩
    | 3, e => cases e; exact ⟨g3, kd3, SY g3 (by simp)⟩
    | 4, e => cases e; exact ⟨g4, kd4, SY g4 (by simp)⟩
    | 5, e => cases e; exact ⟨g5, kd5, SY g5 (by simp)⟩
    | 6, e => cases e; exact ⟨g6, kd6, SY g6 (by simp)⟩
    | 7, e => cases e; exact ⟨g7, kd7, SY g7 (by simp)⟩
    | n + 8, e => simp at e
  refine F.F.ok scWHe (fun vs H Q E h => ?_) (fun cdv A outer s H vs Q E hr h => ?_)
  · obtain ⟨_, _, rfl, _⟩ := h
    rfl
  · obtain ⟨x, v, rfl, hx, hv, q⟩ := h
    have hrHF := hr
    have hrW := hr
    have hrAO : Room 1 (A.deeper (envOfC "_wrong_here" (defScope sWHe) s.heap.objs.size g cdv)) := hr.mono (by decide)
    refine ⟨_, (pss_cons (ps_if (pt_not (pt_val (pe_call GHF hrHF (by rfl) dHF.m dHF.F.kp dHF.b .nil pass0 (pa_cons (pv 1) pa_nil)))) (pss_one ps_dead) pss_nil) (pss_cons (ps_if (PW.pt (pw_and (pt_cmpR op_eq (pe_ix ix_tup (pv 1) pe_int (fun _ _ => rfl)) pe_str (nomark _)) (pw_and1 pt_dead))) (pss_one ps_dead) pss_nil) (pss_cons (ps_set (i := 2) scWHe.nd rfl (Or.inl rfl) (pe_call GAO hrAO (by rfl) dAO.m dAO.F.kp dAO.b .nil pass0 (pa_cons (pv 1) pa_nil))) (pss_cons (ps_for PassesOwn.never rfl (pi_kd DW (pe_glob (v := .ref WR) (by rfl) hWR rfl)) (pg_name (i := 3) scWHe.nd rfl (Or.inl rfl)) (pss_cons (ps_set (i := 4) scWHe.nd rfl (Or.inl rfl) (pe_ix ix_kdict (pe_glob (v := .ref WR) (by rfl) hWR rfl) (pv 3) (fun _ _ => rfl))) (pss_one (ps_if (pt_val (pe_callA (i := 4) (S := SW) AW hrW rfl (Or.inl rfl) (pa_cons (pv 0) (pa_cons (pv 2) pa_nil)))) (pss_one ps_dead) pss_nil)))) (pss_one (ps_ret pe_non)))))), ?_⟩
    refine ⟨_, rfl, v, rfl, hv, fun H1 s1 => ⟨_, rfl, iteF ?_⟩⟩
    obtain ⟨b, rfl, hb⟩ := hv.same s1
    refine ⟨_, rfl, b, _, _, .str "halt", rfl, rfl, hb, at0, rfl, false, nE (by decide +kernel), iteF (iteF ?_)⟩
    refine ⟨_, rfl, _, rfl, ⟨b, rfl, hb⟩, ?_⟩
    refine ⟨rfl, for_it walk_kd (fun i σ H2 => ∃ v3 v4, σ = [some x, some (.ref b), some (.ref b), v3, v4] ∧ Same H1 H2) ⟨none, none, rfl, fun _ _ z => z⟩ (fun _ _ _ _ _ => trivial) ?_ ?_⟩
    · rintro i y σ H2 H3 hi ⟨v3, v4, rfl, s2⟩ ⟨rfl, kw, ek, rfl⟩
      obtain ⟨h, hkd, hS⟩ := hw i kw ek
      refine ⟨_, rfl, WR, kw, .ref h, rfl, rfl, hkd, ?_⟩
      refine ⟨h, _, rfl, hS, _, rfl, _, rfl, x, .ref b, rfl, ⟨b, rfl, SqT.same s2 hb⟩, fun H5 s5 => ⟨_, rfl, iteF ⟨_, _, rfl, s2.trans s5⟩⟩⟩
    · rintro σ H2 ⟨v3, v4, rfl, s2⟩
      exact q H2 (s1.trans s2)
theorem ok_fwb {g WR ST : Addr} {fd : FuncData} (F : Fa K mg "first_wrong_bodies" "_first_wrong" sFWb ["scope", "statement", "place"] g fd) (hWh : ∃ g fd, Fs K mg "_wrong_here" sWHe ["scope", "statement"] g fd) (D : Wd K w mg WR) (W : Sw K w mg ST) (M : Scm K mg CS CC fS fC) : FnOk P w K mg base CX0 5 g fd ["scope", "statement", "place"] (spFWb K CC) := by
  have T := W.T
  obtain ⟨_, _, dWHe⟩ := hWh
  obtain ⟨_, _, dPO⟩ := W.po
  obtain ⟨_, _, mBh, FBh, bBh⟩ := M.bh
  have cSc := M.cC
  have GWHe : FnOk P w K mg base CX0 4 _ _ ["scope", "statement"] (spWHe K CC) := ok_whe dWHe D W
  have GPO : FnOk P w K mg base CX0 3 _ _ ["statement"] (SpH K REmp) := ok_po dPO W
  have GBh : FnOk P w K mg base CX0 1 _ _ ["self", "statement"] _ := ok_beh FBh
  refine F.F.ok scFWb (fun vs H Q E h => ?_) (fun cdv A outer s H vs Q E hr h => ?_)
  · obtain ⟨_, _, _, rfl, _⟩ := h
    rfl
  · obtain ⟨x, v, pl, rfl, hx, hv, q⟩ := h
    have hrWHe := hr
    have hrPO : Room 3 (A.deeper (envOfC "_first_wrong" (defScope sFWb) s.heap.objs.size g cdv)) := hr.mono (by decide)
    have hrBh : Room 1 (A.deeper (envOfC "_first_wrong" (defScope sFWb) s.heap.objs.size g cdv)) := hr.mono (by decide)
    refine ⟨_, (pss_cons (ps_set (i := 3) scFWb.nd rfl (Or.inl rfl) (pe_call GWHe hrWHe (by rfl) dWHe.m dWHe.F.kp dWHe.b .nil pass0 (pa_cons (pv 0) (pa_cons (pv 1) pa_nil)))) (pss_cons (ps_if (pt_cmpR op_notN (pv 3) pe_non (nomark _)) (pss_one ps_dead) pss_nil) (pss_cons (ps_set (i := 4) scFWb.nd rfl (Or.inl rfl) (pe_meth (pv 0) cSc mBh GBh hrBh bBh .nil pass0 (pa_cons (pv 1) pa_nil))) (pss_cons (ps_for PassesOwn.never rfl (pi_enumT (by rfl) T.enum (pa_cons (pe_call GPO hrPO (by rfl) dPO.m dPO.F.kp dPO.b .nil pass0 (pa_cons (pv 1) pa_nil)) pa_nil)) (pg_tup rfl (pgs_cons (pg_name (i := 5) scFWb.nd rfl (Or.inl rfl)) (pgs_cons (pg_name (i := 6) scFWb.nd rfl (Or.inl rfl)) pgs_nil))) (pss_cons ps_dead (pss_one ps_dead))) (pss_one (ps_ret pe_non)))))), ?_⟩
    refine ⟨_, rfl, _, rfl, x, v, rfl, hx, hv, fun H1 s1 => ?_⟩
    refine ⟨_, rfl, rfl, false, rfl, iteF ?_⟩
    obtain ⟨y, dx, fs, rfl, gx, nb⟩ := hx.same s1
    refine ⟨_, rfl, y, dx, fs, rfl, gx, nb, v, rfl, _, v, rfl, hv.same s1, ?_⟩
    refine ⟨v, rfl, v, rfl, hv.same s1, fun H2 p s2 hp gp => ?_⟩
    refine ⟨p, [], rfl, SqT.of gp, ?_⟩
    refine for_enumT (xs := []) (fun i σ H3 => (∃ v5 v6 v7, σ = [some (.ref y), some v, some pl, some .non, some (.ref y), v5, v6, v7]) ∧ Same H2 H3) ⟨⟨none, none, none, rfl⟩, Same.refl _⟩ (fun i σ H3 _ h => SqT.of (h.2 _ _ gp)) (fun i x σ H3 t hx => nomatch hx) ?_
    rintro σ H3 ⟨⟨v5, v6, v7, rfl⟩, s3⟩
    exact q H3 ((s1.trans s2).trans s3)
theorem ok_wbb {g WR ST : Addr} {fd : FuncData} (F : Fa K mg "wrong_body_bodies" "_wrong_body" sWBb ["scope", "body"] g fd) (hFw : ∃ g fd, Fa K mg "first_wrong_bodies" "_first_wrong" sFWb ["scope", "statement", "place"] g fd) (hWh : ∃ g fd, Fs K mg "_wrong_here" sWHe ["scope", "statement"] g fd) (D : Wd K w mg WR) (W : Sw K w mg ST) (M : Scm K mg CS CC fS fC) : FnOk P w K mg base CX0 6 g fd ["scope", "body"] (spWHe K CC) := by
  obtain ⟨_, _, dTL⟩ := W.tl
  obtain ⟨_, _, dFWb⟩ := hFw
  have GTL : FnOk P w K mg base CX0 5 _ _ ["body"] (SpH K (RV (.bl false))) := ok_tl dTL W
  have GFWb : FnOk P w K mg base CX0 5 _ _ ["scope", "statement", "place"] (spFWb K CC) := ok_fwb dFWb hWh D W M
  refine F.F.ok scWBb (fun vs H Q E h => ?_) (fun cdv A outer s H vs Q E hr h => ?_)
  · obtain ⟨_, _, rfl, _⟩ := h
    rfl
  · obtain ⟨x, v, rfl, hx, hv, q⟩ := h
    have hrTL := hr
    have hrFWb := hr
    refine ⟨_, (pss_one (ps_ret (pe_ifExp (pt_val (pe_call GTL hrTL (by rfl) dTL.m dTL.F.kp dTL.b .nil pass0 (pa_cons (pv 1) pa_nil))) pe_dead (pe_call GFWb hrFWb (by rfl) dFWb.m dFWb.F.kp dFWb.b .nil pass0 (pa_cons (pv 0) (pa_cons (pv 1) (pa_cons (pe_tup pa_nil) pa_nil))))))), ?_⟩
    refine ⟨_, rfl, v, rfl, hv, fun H1 s1 => ⟨_, rfl, iteF ?_⟩⟩
    have s2 := s1
    refine ⟨_, rfl, _, rfl, le_sz (Nat.le_of_ble_eq_true rfl), fun p hp => ?_⟩
    have s3 := s1.trans (new_same (o := .tup []) hp)
    exact ⟨_, _, _, rfl, hx.same s3, hv.same s3, fun H2 s4 => q H2 (s3.trans s4)⟩
def spWMB (K : PySem.W.Frag) (C f : Nat → Addr) : Sp := fun vs H Q _ => ∃ (l : V) (o : Str) (m : MD) (v : V), vs = [l, .str o, v] ∧ Oh K (clk C f) H (mO m) v ∧ m.params.length ≤ 60 ∧ m.body = .tup [.fl (.str "halt")] ∧ ∀ H', Same H H' → Q .non H'
theorem ok_wmb {C f : Nat → Addr} {g WR ST : Addr} {fd : FuncData} (F : Fs K mg "wrong_method_body" sWMB ["library", "owner", "method"] g fd) (hWb : ∃ g fd, Fa K mg "wrong_body_bodies" "_wrong_body" sWBb ["scope", "body"] g fd) (hFw : ∃ g fd, Fa K mg "first_wrong_bodies" "_first_wrong" sFWb ["scope", "statement", "place"] g fd) (hWh : ∃ g fd, Fs K mg "_wrong_here" sWHe ["scope", "statement"] g fd) (D : Wd K w mg WR) (W : Sw K w mg ST) (M : Scm K mg CS CC fS fC) (X : Txt K mg C f) : FnOk P w K mg base CX0 7 g fd ["library", "owner", "method"] (spWMB K C f) := by
  obtain ⟨_, _, dWBb⟩ := hWb
  obtain ⟨_, _, dMS⟩ := M.ms
  have GWBb : FnOk P w K mg base CX0 6 _ _ ["scope", "body"] (spWHe K CC) := ok_wbb dWBb hFw hWh D W M
  have GMS : FnOk P w K mg base CX0 4 _ _ ["library", "owner", "method"] (spMS K C f CC) := ok_ms dMS M X
  refine F.F.ok scWMB (fun vs H Q E h => ?_) (fun cdv A outer s H vs Q E hr h => ?_)
  · obtain ⟨_, _, _, _, rfl, _⟩ := h
    rfl
  · obtain ⟨l, o, m, v, rfl, om, hl, hb, q⟩ := h
    have hrWBb := hr
    have hrMS : Room 4 (A.deeper (envOfC "wrong_method_body" (defScope sWMB) s.heap.objs.size g cdv)) := hr.mono (by decide)
    obtain ⟨a, dx, fs, vp, xs, v1, v2, vb, rfl, MA⟩ := mO_get om
    have ob := MA.ob
    rw [hb] at ob
    obtain ⟨b, ys, rfl, sb, ot⟩ := ob
    obtain ⟨_, _, rfl, ⟨rfl, _⟩, rfl⟩ := ot
    have hv : HaltA K H (.ref b) := ⟨b, rfl, sb⟩
    refine ⟨_, (pss_one (ps_ret (pe_call GWBb hrWBb (by rfl) dWBb.m dWBb.F.kp dWBb.b .nil pass0 (pa_cons (pe_call GMS hrMS (by rfl) dMS.m dMS.F.kp dMS.b .nil pass0 (pa_cons (pv 0) (pa_cons (pv 1) (pa_cons (pv 2) pa_nil)))) (pa_cons (pe_fld (pv 2) (by rfl)) pa_nil))))), ?_⟩
    refine ⟨_, rfl, _, rfl, _, rfl, l, o, m, _, rfl, om, hl, fun x H1 s1 hx => ?_⟩
    refine ⟨_, rfl, a, C 1, dx, fs, _, rfl, s1 _ _ MA.ins, X.cls 1 (by decide), X.no 1 (by decide) _ (by decide), MA.b, ?_⟩
    exact ⟨_, _, rfl, hx, hv.same s1, fun H2 s2 => q H2 (s1.trans s2)⟩
end

end Kx
set_option linter.all false
namespace Kx
open PySem L2 PySem.Spec PyProof.Rows
/-- the functions of bodies that a library asks -/
structure Bd (K : PySem.W.Frag) (w : World) (mg : Str → Option Value) (CS CC fS fC WR ST : Addr) : Prop where
  W : Sw K w mg ST
  D : Wd K w mg WR
  S : Scm K mg CS CC fS fC
  wh : ∃ g fd, Fs K mg "_wrong_here" sWHe ["scope", "statement"] g fd
  fw : ∃ g fd, Fa K mg "first_wrong_bodies" "_first_wrong" sFWb ["scope", "statement", "place"] g fd
  wb : ∃ g fd, Fa K mg "wrong_body_bodies" "_wrong_body" sWBb ["scope", "body"] g fd
  wm : ∃ g fd, Fs K mg "wrong_method_body" sWMB ["library", "owner", "method"] g fd
def BodyOk (m : MD) : Prop := m.params.length ≤ 60 ∧ m.body = .tup [.fl (.str "halt")]
def spWBl (K : PySem.W.Frag) (C f : Nat → Addr) (CL : Addr) : Sp := fun vs H Q _ => ∃ (a : Addr) (cs : List KD) (ns : List Str), vs = [.ref a] ∧ LibA K C f CL H a cs ns ∧ (∀ k ∈ cs, ∀ m ∈ k.methods, BodyOk m) ∧ (∀ n, n ∈ ns ↔ n ∈ cs.map (·.name)) ∧ ∀ H', Same H H' → Q .non H'
section
variable {P : Program} {w : World} {K : PySem.W.Frag} {mg : Str → Option Value} {base : Heap} {CS CC fS fC : Addr} {C f : Nat → Addr} {CL : Addr}
theorem ok_wbl {g WR ST : Addr} {fd : FuncData} (F : Fa K mg "wrong_body_libraries" "_wrong_body" sWBl ["library"] g fd) (B : Bd K w mg CS CC fS fC WR ST) (M : Lm K mg C f CL) : FnOk P w K mg base CX0 8 g fd ["library"] (spWBl K C f CL) := by
  obtain ⟨_, _, dWMB⟩ := B.wm
  obtain ⟨gx, fdx, ox, Fx, bx⟩ := M.ix
  have GX : FnOk P w K mg base CX0 2 gx fdx ["self", "name"] (spLix K C f CL) := ok_lix Fx M
  have GWMB : FnOk P w K mg base CX0 7 _ _ ["library", "owner", "method"] (spWMB K C f) := ok_wmb dWMB B.wb B.fw B.wh B.D B.W B.S M.X
  refine F.F.ok scWBl (fun vs H Q E h => ?_) (fun cdv A outer s H vs Q E hr h => ?_)
  · obtain ⟨_, _, _, rfl, _⟩ := h
    rfl
  · obtain ⟨a, cs, ns, rfl, hL, fine, hns, q⟩ := h
    have hrWMB := hr
    have hrX : Room 3 (A.deeper (envOfC "_wrong_body" (defScope sWBl) s.heap.objs.size g cdv)) := hr.mono (by decide)
    refine ⟨_, (pss_cons (ps_for PassesOwn.never rfl (pi_tup (pe_fld (pv 0) (by rfl))) (pg_name (i := 1) scWBl.nd rfl (Or.inl rfl)) (pss_one (ps_for PassesOwn.never rfl (pi_tup (pe_fld (pe_ownIx (E := E0) ox GX hrX bx pass0 (pv 0) (pv 1)) (by rfl))) (pg_name (i := 2) scWBl.nd rfl (Or.inl rfl)) (pss_cons (ps_set (i := 3) scWBl.nd rfl (Or.inl rfl) (pe_call GWMB hrWMB (by rfl) dWMB.m dWMB.F.kp dWMB.b .nil pass0 (pa_cons (pv 0) (pa_cons (pv 1) (pa_cons (pv 2) pa_nil))))) (pss_one (ps_if (pt_cmpR op_notN (pv 3) pe_non (nomark _)) (pss_cons ps_dead (pss_one ps_dead)) pss_nil)))))) (pss_one (ps_ret pe_non))), ?_⟩
    obtain ⟨dx, fs, Nn, Tb, us, L⟩ := id hL
    refine ⟨_, rfl, a, CL, dx, fs, .ref Nn, rfl, L.ins, M.cls, M.no _ (by simp), L.nm, Nn, rfl, ⟨_, L.sn⟩, for_tup (K := K) (a := Nn) (xs := ns.map V.str) (fun j σ H4 => (∃ v1 v2 v3 v4 v5, σ = [some (.ref a), v1, v2, v3, v4, v5]) ∧ Same H H4) ⟨⟨none, none, none, none, none, rfl⟩, Same.refl H⟩ (fun j σ H4 _ ⟨_, s⟩ => SqT.same s L.sn) ?_ ?_⟩
    · rintro j y σ H4 hj ⟨⟨w1, w2, w3, w4, w5, rfl⟩, s4⟩
      obtain ⟨rfl, hm⟩ := get_str hj
      obtain ⟨k', hk'⟩ := kd_some ((hns _).mp hm)
      obtain ⟨dx4, fs4, N4, Tb4, us4, L4⟩ := id (hL.same s4)
      refine ⟨_, rfl, _, rfl, a, dx4, fs4, rfl, L4.ins, a, cs, ns, _, k', rfl, hL.same s4, hk', fun u H5 s5 ov => ?_⟩
      obtain ⟨b, bx', bs, vb, vf, vm, vw, xs, rfl, KA⟩ := kO_get ov
      refine ⟨b, C 2, bx', bs, _, rfl, KA.ins, M.X.cls 2 (by decide), M.X.no 2 (by decide) _ (by decide), KA.m, vm, rfl, ⟨_, KA.sm⟩, for_tup (K := K) (a := vm) (xs := xs) (fun j2 σ H6 => (∃ v2 v3 v4 v5, σ = [some (.ref a), some (.str (ns.getD j "")), v2, v3, v4, v5]) ∧ Same H5 H6) ⟨⟨_, _, _, _, rfl⟩, Same.refl _⟩ (fun j2 σ H6 _ ⟨_, s⟩ => SqT.same s KA.sm) ?_ ?_⟩
      · rintro j2 y2 σ H6 hj2 ⟨⟨w2, w3, w4, w5, rfl⟩, s6⟩
        obtain ⟨d, hd, od⟩ := ohAll_get _ _ _ _ KA.om hj2
        rw [List.getElem?_map] at hd
        obtain ⟨m, em, rfl⟩ := Option.map_eq_some_iff.mp hd
        have hmm := List.mem_of_getElem? em
        obtain ⟨b1, b2⟩ := fine k' (kd_name hk').2 m hmm
        refine ⟨_, rfl, _, rfl, _, rfl, .ref a, _, m, y2, rfl, Oh.sm s6 od, b1, b2, fun H7 s7 => ?_⟩
        exact ⟨_, rfl, rfl, false, rfl, iteF ⟨⟨_, _, _, _, rfl⟩, s6.trans s7⟩⟩
      · rintro σ H6 ⟨⟨w2, w3, w4, w5, rfl⟩, s6⟩
        exact ⟨⟨_, _, _, _, _, rfl⟩, (s4.trans s5).trans s6⟩
    · rintro σ H2 ⟨_, s2⟩
      exact q H2 s2
end

end Kx
set_option linter.all false
namespace Kx
open PySem L2 PySem.Spec PyProof.Rows
abbrev sBLi : Stmt := inClass (top 5) 0
abbrev nBLi : List Str := ["self", "at", "why"]
theorem scBLi : FnScope nBLi ["self", "at", "why"] (defScope sBLi) := ⟨rfl, rfl, rfl, by decide +kernel, rfl, by decide +kernel, by decide +kernel⟩
abbrev sRf : Stmt := top 131
abbrev nRf : List Str := ["found", "at", "why"]
theorem scRf : FnScope nRf ["found"] (defScope sRf) := ⟨rfl, rfl, rfl, by decide +kernel, rfl, by decide +kernel, by decide +kernel⟩
abbrev sWor : Stmt := top 132
abbrev nWor : List Str := ["library", "name"]
theorem scWor : FnScope nWor ["library"] (defScope sWor) := ⟨rfl, rfl, rfl, by decide +kernel, rfl, by decide +kernel, by decide +kernel⟩
/-- BadLibrary, that at and why are stored in -/
structure BadL (K : PySem.W.Frag) (mg : Str → Option Value) (B CB fB : Addr) (fdB : FuncData) : Prop where
  T : Ct K B CB
  no : ∀ x ∈ (["at", "why"] : List Str), PySem.W.findIn K (.ref CB) x = some none
  iC : PySem.W.findIn K (.ref CB) "__init__" = some (some (.ref fB))
  tI : PySem.W.typeIn K (.ref fB) = some (.type "function")
  F : Fun K "__init__" "BadLibrary.__init__" sBLi fB fdB
  b : Binds K fdB ["self", "at", "why"] []
  gm : mg "BadLibrary" = some (.ref CB)
/-- what is told of a refusal: its class, where and why -/
def refusal2 (CB : Addr) (E : XK) : Hp → V → V → Prop := fun H1 at' why => ∀ d H', Same H1 H' → H' d = some (exd d [("why", why), ("at", at')]) → E (.ref CB) (some d) H'
theorem refusal2.same {CB : Addr} {E : XK} {H H' : Hp} {a y : V} (s : Same H H') (h : refusal2 CB E H a y) : refusal2 CB E H' a y := fun d H2 s2 g => h d H2 (s.trans s2) g
def spRf (K : PySem.W.Frag) (CB : Addr) : Sp := fun vs H Q E => ∃ v, vs = [v] ∧ ((v = .non ∧ Q .non H) ∨ ∃ p a y, v = .ref p ∧ SqT K H p [a, y] ∧ refusal2 CB E H a y)
section
variable {P : Program} {w : World} {K : PySem.W.Frag} {mg : Str → Option Value} {base : Heap} {B CB fB : Addr} {fdB : FuncData}
theorem ok_bli {f : Addr} {fd : FuncData} (F : Fun K "__init__" "BadLibrary.__init__" sBLi f fd) : FnOk P w K mg base CX0 1 f fd ["self", "at", "why"] (spI K ["at", "why"]) := by
  refine F.ok scBLi (fun vs H Q E h => ?_) (fun cdv A outer s H vs Q E hr h => ?_)
  · obtain ⟨a, B, C, ws, rfl, hl, _⟩ := h
    show ws.length + 1 = 3
    rw [hl] <;> rfl
  · obtain ⟨a, B, C, ws, rfl, hl, T, hno, ha, k⟩ := h
    obtain ⟨v0, v1, rfl⟩ : ∃ v0 v1, ws = [v0, v1] := match ws, hl with | [v0, v1], _ => ⟨v0, v1, rfl⟩
    refine ⟨_, pss_cons (ps_ost (pv 0) (pv 1)) (pss_one (ps_ost (pv 0) (pv 2))), ?_⟩
    refine ⟨_, rfl, _, rfl, a, C, rfl, T.oex, hno _ (by simp), .inl ⟨ha, fun dx n1 n2 => ?_⟩⟩
    have n3 := Ne.symm n2
    refine ⟨_, rfl, _, rfl, a, C, rfl, T.oex, hno _ (by simp), .inr ⟨dx, _, upd_same, (by rw [upd_ne n2, upd_same]), (by show 1 ≤ 900; decide), ?_⟩⟩
    refine k dx _ n1 n2 (by rw [upd_ne n3]; rw [upd_same]) upd_same (fun b h1 h2 => by rw [upd_ne h2, upd_ne h1, upd_ne h2])
theorem ok_rf {f : Addr} {fd : FuncData} (F : Fs K mg "_refuse" sRf ["found"] f fd) (W : BadL K mg B CB fB fdB) : FnOk P w K mg base (L2N.CX P w) 3 f fd ["found"] (spRf K CB) := by
  obtain ⟨oc, od, kV, doc, pm, an, cdv, ct, osl, rfl, lk, hcd⟩ := F.F.ex
  refine fn_of lk hcd scRf (fun vs H Q E h => ?_) fun A outer s H vs Q E hr h => ?_
  · obtain ⟨v, rfl, _⟩ := h
    rfl
  · obtain ⟨v, rfl, hv⟩ := h
    have tk : L2N.Takes (cxOf (L2N.CX P w) P w K mg base nRf "_refuse" (defScope sRf) f cdv A outer s H E) (fun cls d _ H => E cls d H) := L2N.takes_of rfl rfl rfl rfl
    have hr1 : Room 2 (A.deeper (envOfC "_refuse" (defScope sRf) s.heap.objs.size f cdv)) := hr.mono (by decide)
    refine ⟨_, pss_one (ps_if (pt_cmpR op_notN (pv 0) pe_non (nomark _)) (pss_cons (ps_asg (pv 0) (pg_tup rfl (pgs_cons (pg_name (i := 1) scRf.nd rfl (Or.inl rfl)) (pgs_cons (pg_name (i := 2) scRf.nd rfl (Or.inl rfl)) pgs_nil))))
      (pss_one (L2N.ps_raise rfl tk (by exact (pmkN_err (X := cxOf (L2N.CX P w) P w K mg base nRf "_refuse" (defScope sRf) f cdv A outer s H E) (K := K) (H0 := H) rfl rfl rfl
          (pe_err (ns := ["at", "why"]) (X := cxOf (L2N.CX P w) P w K mg base nRf "_refuse" (defScope sRf) f cdv A outer s H E) W.T W.no W.iC W.tI (ok_bli W.F) hr1 W.b pass0 W.gm (pa_cons (pv 1) (pa_cons (pv 2) pa_nil)))))))) pss_nil), ?_⟩
    rcases hv with ⟨rfl, q⟩ | ⟨p, a, y, rfl, hp, r⟩
    · exact ⟨_, rfl, rfl, false, rfl, iteF q⟩
    · refine ⟨_, rfl, rfl, true, rfl, iteT ?_⟩
      refine ⟨_, rfl, p, _, rfl, hp, rfl, _, _, rfl, _, _, rfl, rfl, ?_⟩
      refine ⟨_, rfl, _, rfl, rfl, (by show 2 ≤ 100; decide), fun e H2 n2 h2 s2 => ?_⟩
      obtain ⟨d, hne, h2a, h2d⟩ := h2
      exact ⟨e, B, CB, d, rfl, W.T, h2a, fr0_none n2, r d _ (del_keep s2 n2) ((delH_ne hne).trans h2d)⟩
end
section
variable {P : Program} {w : World} {K : PySem.W.Frag} {mg : Str → Option Value} {base : Heap} {C f : Nat → Addr} {CL : Addr}
def spWor (K : PySem.W.Frag) (C f : Nat → Addr) (CL : Addr) : Sp := fun vs H Q _ => ∃ (a : Addr) (cs : List KD) (ns : List Str) (o : Ord), vs = [.ref a] ∧ LibO K C f CL H a cs ns o ∧ Lok cs o ∧ Q .non H
theorem ok_wor {g : Addr} {fd : FuncData} (F : Fs K mg "_without_order" sWor ["library"] g fd) (M : Lm K mg C f CL) : FnOk P w K mg base CX0 3 g fd ["library"] (spWor K C f CL) := by
  refine F.F.ok scWor (fun vs H Q E h => ?_) (fun cdv A outer s H vs Q E hr h => ?_)
  · obtain ⟨_, _, _, _, rfl, _⟩ := h
    rfl
  · obtain ⟨a, cs, ns, o, rfl, hL, ok, q⟩ := h
    have hu := hu_of hr
    refine ⟨_, (pss_cons (ps_for PassesOwn.never rfl (pi_tup (pe_fld (pv 0) (by rfl))) (pg_name (i := 1) scWor.nd rfl (Or.inl rfl)) (pss_one (ps_if (pt_cmpR op_isN (pe_dget hu (pe_fld (pv 0) (by rfl)) (pv 1) (fun _ _ => rfl)) pe_non (nomark _)) (pss_one ps_dead) pss_nil))) (pss_one (ps_ret pe_non))), ?_⟩
    obtain ⟨dx, fs, Nn, Tb, us, O, ns', L, eO, ⟨kvs, gO, en⟩, hin⟩ := id hL
    refine ⟨_, rfl, a, CL, dx, fs, .ref Nn, rfl, L.ins, M.cls, M.no _ (by simp), L.nm, Nn, rfl, ⟨_, L.sn⟩, for_tup (K := K) (a := Nn) (xs := ns.map V.str) (fun j σ H4 => (∃ v1, σ = [some (.ref a), v1]) ∧ H4 = H) ⟨⟨none, rfl⟩, rfl⟩ (fun j σ H4 _ ⟨_, e⟩ => by rw [e]; exact L.sn) ?_ ?_⟩
    · rintro j y σ H4 hj ⟨⟨w1, rfl⟩, rfl⟩
      obtain ⟨rfl, hm⟩ := get_str hj
      have hm2 := (L.mem _).mp hm
      obtain ⟨l, el⟩ := ok.all _ hm2
      obtain ⟨v, ev, hv⟩ := (entO_look en).2 (hin _ hm2)
      rw [el] at hv
      obtain ⟨b, rfl, hb⟩ := hv
      have hg := DGet.k (k := .inr (ns.getD j "")) gO
      rw [ev] at hg
      refine ⟨_, rfl, a, CL, dx, fs, .ref O, rfl, L.ins, M.cls, M.no _ (by simp), eO, _, rfl, O, _, rfl, hg, rfl, false, rfl, iteF ?_⟩
      exact ⟨⟨_, rfl⟩, rfl⟩
    · rintro σ H4 ⟨⟨w1, rfl⟩, rfl⟩
      exact q
end

end Kx
set_option linter.all false
namespace Kx
open PySem L2 PySem.Spec PyProof.Rows
abbrev sLi : Stmt := inClass (top 130) 0
abbrev nLi : List Str := ["self", "classes", "at", "one"]
theorem scLi : FnScope nLi ["self", "classes"] (defScope sLi) := ⟨rfl, rfl, rfl, by decide +kernel, rfl, by decide +kernel, by decide +kernel⟩
open StX (fn_star cxUp_none bind_star1 pe_makeR tMakeR)
/-- what a list of classes must be that the checks find nothing but what the law looks for -/
structure LibFine (cs : List KD) (o : Ord) (rk : Str → Nat) : Prop where
  nm : NamesOk cs
  bs : ∀ k ∈ cs, BasesOk cs k.bases
  b1 : ∀ ns : List Str, ns.Perm (cs.map (·.name)) → BsOk (bsOf cs ns) ∧ ∀ n, ¬ Up (bsOf cs ns) n n
  b2 : BsOk (cs.map fun k => (k.name, k.bases))
  od : OrdOk (cs.map fun k => (k.name, k.bases)) o rk
  rk : ∀ n, rk n < 32
  ok : Lok cs o
  fc : ∀ k ∈ cs, FineC cs o k
  fm : ∀ k ∈ cs, ∀ m ∈ k.methods, FineM cs o k m
  bo : ∀ k ∈ cs, ∀ m ∈ k.methods, BodyOk m
/-- all that making a library asks -/
structure LiF (K : PySem.W.Frag) (w : World) (mg : Str → Option Value) (C f : Nat → Addr) (CL : Addr) : Prop where
  M : Lm K mg C f CL
  G : Gm mg
  N : Nm K mg
  gC0 : mg "Cond" = some (.ref (C 0))
  gC1 : mg "Method" = some (.ref (C 1))
  gC2 : mg "ClassDef" = some (.ref (C 2))
  any : mg "any" = none
  fnc : ∃ g fd, Fs K mg "first_no_class" sFNC ["classes"] g fd
  wb : ∃ g fd, Fs K mg "wrong_bases" sWBs ["library"] g fd
  ac : ∃ g fd, Fs K mg "_are_classes" sAC ["library", "bases"] g fd
  ab : ∃ g fd, Fs K mg "is_above_itself" sAbv ["bases", "name"] g fd
  ao : ∃ g fd, Fs K mg "all_orders" sAllO ["bases"] g fd
  po : ∃ g fd, Fs K mg "_put_order" sPut ["bases", "name", "orders"] g fd
  mer : ∃ g fd, Fs K mg "_merged" sMg ["rows"] g fd
  nx : ∃ g fd, Fs K mg "_next_of" sNx ["rows"] g fd
  rf : ∃ g fd, Fs K mg "_refuse" sRf ["found"] g fd
  wo : ∃ g fd, Fs K mg "_without_order" sWor ["library"] g fd
  wc : ∃ g fd, Fs K mg "wrong_class" sWC ["library"] g fd
  cw : ∃ CW g0 g1 g2 g3, CWd K w mg CW g0 g1 g2 g3
  wm : ∃ g fd, Fs K mg "wrong_method" sWM ["library"] g fd
  mw : ∃ MW, MWd K w mg MW
  wh : ∃ g fd, Fs K mg "wrong_heritage" sWH_ ["library"] g fd
  wa : ∃ g fd, Fs K mg "_is_written_alike" sWA ["library", "name", "method"] g fd
  wl : ∃ g fd, Fa K mg "wrong_body_libraries" "_wrong_body" sWBl ["library"] g fd
  bd : ∃ CS CC fS fC WR ST, Bd K w mg CS CC fS fC WR ST
abbrev allAl (cs : List KD) (o : Ord) (ns : List Str) : Prop := ∀ n ∈ ns, ∀ m ∈ mnames cs (ordOf o n), alike cs (ordOf o n) m = true
def spLi (K : PySem.W.Frag) (C f : Nat → Addr) (CL CB : Addr) : Sp := fun vs H Q E => ∃ (x dx p : Addr) (xs : List V) (cs : List KD) (o : Ord) (rk : Str → Nat) (H0 : Hp), vs = [.ref x, .ref p] ∧ H x = some (.ins CL dx []) ∧ H0 x = none ∧ Same H0 H ∧ SqT K H0 p xs ∧ OhAll K (clk C f) H0 (cs.map kO) xs ∧ LibFine cs o rk ∧
  ∀ ns : List Str, ns.Perm (cs.map (·.name)) → sortedS ns = true →
   (fdbl cs o ns = none → allAl cs o ns → ∀ H', Same H0 H' → LibO K C f CL H' x cs ns o → Q .non H') ∧
   (∀ n, fdbl cs o ns = some n → ∀ d H', Same H0 H' → H' d = some (exd d [("why", .str "double"), ("at", .str n)]) → E (.ref CB) (some d) H') ∧
   (fdbl cs o ns = none → ∀ i n ys m, ns[i]? = some n → allAl cs o (ns.take i) → sortedS ys = true → ys.Nodup → (∀ x, x ∈ ys ↔ x ∈ mnames cs (ordOf o n)) → ys.find? (fun m => !alike cs (ordOf o n) m) = some m →
     ∀ d t H', Same H0 H' → H' t = some (.tup [.str n, .str m]) → H' d = some (exd d [("why", .str "inherited"), ("at", .ref t)]) → E (.ref CB) (some d) H')
theorem SqL.updI {K : PySem.W.Frag} {H : Hp} {D a C dx : Addr} {fs : List (Str × V)} {o : HO} {xs : List V} (hD : H D = some (.ins C dx fs)) (h : SqL K H a xs) : SqL K (upd H D o) a xs := by
  rcases h with (h | ⟨z, h⟩) | h
  · exact .inl (.inl (by rw [upd_ne (fun e => by rw [e, hD] at h; cases h)]; exact h))
  · exact .inl (.inr ⟨z, by rw [upd_ne (fun e => by rw [e, hD] at h; cases h)]; exact h⟩)
  · exact .inr h
theorem ValO.updI {K : PySem.W.Frag} {H : Hp} {D C dx : Addr} {fs : List (Str × V)} {o : HO} {v : V} {r : Option (List Str)} (hD : H D = some (.ins C dx fs)) (h : ValO K H v r) : ValO K (upd H D o) v r := by
  cases r with
  | none => exact h
  | some l => obtain ⟨a, e, q⟩ := h; exact ⟨a, e, SqL.updI hD q⟩
theorem OrdAt.updI {K : PySem.W.Frag} {H : Hp} {D O C dx : Addr} {fs : List (Str × V)} {u : HO} {o : Ord} {ns : List Str} (hD : H D = some (.ins C dx fs)) (h : OrdAt K H O o ns) : OrdAt K (upd H D u) O o ns := by
  obtain ⟨kvs, a, b⟩ := h
  exact ⟨kvs, (upd_ne (fun e => by rw [e, hD] at a; cases a)).trans a, L2.Paired.mapP b fun _ _ ⟨e, q⟩ => ⟨e, q.updI hD⟩⟩
theorem lk_ne {y k : Str} {v : V} {r : List (Str × V)} (h : y ≠ k) : List.lookup y ((k, v) :: r) = List.lookup y r := by
  rw [List.lookup_cons, beq_eq_false_iff_ne.mpr h]
theorem putK_new {kvs : List (Key × V)} {k : Key} {v : V} (h : ∀ kv ∈ kvs, kv.1 ≠ k) : putK kvs k v = kvs ++ [(k, v)] := by
  unfold putK
  rw [if_neg]
  intro z
  obtain ⟨kv, hk, e⟩ := List.any_eq_true.mp z
  exact h kv hk (of_decide_eq_true e)
section
variable {P : Program} {w : World} {K : PySem.W.Frag} {mg : Str → Option Value} {base : Heap} {C f : Nat → Addr} {CL B CB fB : Addr} {fdB : FuncData}
theorem body_li {fa : Addr} (L : LiF K w mg C f CL) (W : BadL K mg B CB fB fdB) (cdv : Value) (A : Around) (outer : List Env) (s : Shared) (H : Hp) (vs : List V) (Q : VK) (E : XK) (hr : Room 36 (A.deeper (envOfC "Library.__init__" (defScope sLi) s.heap.objs.size fa cdv))) (h : spLi K C f CL CB vs H Q E) :
    ∃ t, PSs (cxOf (L2N.CX P w) P w K mg base nLi "Library.__init__" (defScope sLi) fa cdv A outer s H E) (defBody sLi) t ∧ t { nx := fun _ H' => Q .non H', rt := Q } (L2.start nLi vs) H := by
  have M := L.M
  have T := M.T
  obtain ⟨_, _, dFNC⟩ := L.fnc
  obtain ⟨_, _, dWB⟩ := L.wb
  obtain ⟨_, _, dAO⟩ := L.ao
  obtain ⟨_, _, dRf⟩ := L.rf
  obtain ⟨_, _, dWor⟩ := L.wo
  obtain ⟨_, _, dWC⟩ := L.wc
  obtain ⟨_, _, dWM⟩ := L.wm
  obtain ⟨_, _, dWH⟩ := L.wh
  obtain ⟨_, _, dWBl⟩ := L.wl
  obtain ⟨_, _, dPo⟩ := L.po
  obtain ⟨_, _, dMe⟩ := L.mer
  obtain ⟨_, _, dNx⟩ := L.nx
  obtain ⟨_, _, _, _, _, cw⟩ := L.cw
  obtain ⟨_, mw⟩ := L.mw
  obtain ⟨_, _, _, _, _, _, bd⟩ := L.bd
  have GFNC : FnOk P w K mg base CX0 3 _ _ ["classes"] (spFNC K C f) := ok_fnc dFNC M L.G L.N L.gC2
  have GWB : FnOk P w K mg base CX0 5 _ _ ["library"] (spWB K C f CL) := ok_wb dWB L.ac L.ab M L.G L.N
  have GAO : FnOk P w K mg base CX0 36 _ _ ["bases"] (spAllO K) := ok_allO dAO dPo dMe dNx L.any M.ls
  have GRf : FnOk P w K mg base (L2N.CX P w) 3 _ _ ["found"] (spRf K CB) := ok_rf dRf W
  have GWor : FnOk P w K mg base CX0 3 _ _ ["library"] (spWor K C f CL) := ok_wor dWor M
  have GWC : FnOk P w K mg base CX0 6 _ _ ["library"] (spWC K C f CL) := ok_wc dWC cw M L.G L.N L.gC0 L.gC1
  have GWM : FnOk P w K mg base CX0 7 _ _ ["library"] (spWM K C f CL) := ok_wm dWM mw M L.G L.N L.gC0
  have GWH : FnOk P w K mg base CX0 5 _ _ ["library"] (spWH K C f CL) := ok_wh dWH L.wa M
  have GWBl : FnOk P w K mg base CX0 8 _ _ ["library"] (spWBl K C f CL) := ok_wbl dWBl bd M
  have tk : L2N.Takes (cxOf (L2N.CX P w) P w K mg base nLi "Library.__init__" (defScope sLi) fa cdv A outer s H E) (fun cls d _ H => E cls d H) := L2N.takes_of rfl rfl rfl rfl
  have hx : Passes (L2N.CX P w) (cxOf (L2N.CX P w) P w K mg base nLi "Library.__init__" (defScope sLi) fa cdv A outer s H E) E := L2N.passes_call tk (fun _ _ _ _ z => z)
  have rm : ∀ n, n ≤ 36 → Room n (A.deeper (envOfC "Library.__init__" (defScope sLi) s.heap.objs.size fa cdv)) := fun n hn => hr.mono hn
  have hrFNC := rm 3 (by decide)
  have hrWB := rm 5 (by decide)
  have hrAO := rm 36 (by decide)
  have hrRf := rm 3 (by decide)
  have hrWor := rm 3 (by decide)
  have hrWC := rm 6 (by decide)
  have hrWM := rm 7 (by decide)
  have hrWH := rm 5 (by decide)
  have hrWBl := rm 8 (by decide)
  obtain ⟨x, dx, p, xs, cs, o, rk, H0, rfl, hxo, x0, s0, hp, ho, fine, q⟩ := h
  refine ⟨_, (pss_cons (ps_set (i := 2) scLi.nd rfl (Or.inl rfl) (pe_call GFNC hrFNC (by rfl) dFNC.m dFNC.F.kp dFNC.b .nil pass0 (pa_cons (pv 1) pa_nil))) (pss_cons (ps_if (pt_cmpR op_notN (pv 2) pe_non (nomark _)) (pss_one ps_dead) pss_nil) (pss_cons (ps_fld (pv 0) (pv 1) (by rfl)) (pss_cons (ps_fld (pv 0) (pe_tupleOf (by rfl) T.tuple (pe_callB cr_sortedS (by rfl) T.sorted (by decide +kernel) (pa_cons (pe_lc (own := [("one", 3)]) (g := gName 3) (tt := tYes) rfl scLi.nd (pi_tup (pv 1)) (blkOk_by (N := nLi) (sc := defScope sLi) (by decide +kernel)) (fun _ _ _ _ _ => (pg_name (i := 3) scLi.nd rfl (Or.inl rfl))) (fun _ _ _ _ _ => pts_nil) (fun _ _ _ _ _ => (pe_fldK (K := K) rfl (pv 3) (by rfl)))) pa_nil))) (by rfl)) (pss_cons (ps_fld (pv 0) (pe_dc (own := [("one", 3)]) (g := gName 3) (tt := tYes) rfl scLi.nd (pi_tup (pv 1)) (blkOk_by (N := nLi) (sc := defScope sLi) (by decide +kernel)) (fun _ _ _ _ _ => (pg_name (i := 3) scLi.nd rfl (Or.inl rfl))) (fun _ _ _ _ _ => pts_nil) (fun _ _ _ _ _ => (pe_fldK (K := K) rfl (pv 3) (by rfl))) (fun _ _ _ _ _ => (pv 3))) (by rfl)) (pss_cons (ps_expr (pe_call GRf hrRf (by rfl) dRf.m dRf.F.kp dRf.b .nil hx (pa_cons (pe_call GWB hrWB (by rfl) dWB.m dWB.F.kp dWB.b .nil pass0 (pa_cons (pv 0) pa_nil)) pa_nil))) (pss_cons (ps_fld (pv 0) (pe_call GAO hrAO (by rfl) dAO.m dAO.F.kp dAO.b .nil pass0 (pa_cons (pe_dc (own := [("one", 3)]) (g := gName 3) (tt := tYes) rfl scLi.nd (pi_tup (pv 1)) (blkOk_by (N := nLi) (sc := defScope sLi) (by decide +kernel)) (fun _ _ _ _ _ => (pg_name (i := 3) scLi.nd rfl (Or.inl rfl))) (fun _ _ _ _ _ => pts_nil) (fun _ _ _ _ _ => (pe_fldK (K := K) rfl (pv 3) (by rfl))) (fun _ _ _ _ _ => (pe_fldK (K := K) rfl (pv 3) (by rfl)))) pa_nil)) (by rfl)) (pss_cons (ps_expr (pe_call GRf hrRf (by rfl) dRf.m dRf.F.kp dRf.b .nil hx (pa_cons (pe_call GWor hrWor (by rfl) dWor.m dWor.F.kp dWor.b .nil pass0 (pa_cons (pv 0) pa_nil)) pa_nil))) (pss_cons (ps_expr (pe_call GRf hrRf (by rfl) dRf.m dRf.F.kp dRf.b .nil hx (pa_cons (pe_call GWC hrWC (by rfl) dWC.m dWC.F.kp dWC.b .nil pass0 (pa_cons (pv 0) pa_nil)) pa_nil))) (pss_cons (ps_expr (pe_call GRf hrRf (by rfl) dRf.m dRf.F.kp dRf.b .nil hx (pa_cons (pe_call GWM hrWM (by rfl) dWM.m dWM.F.kp dWM.b .nil pass0 (pa_cons (pv 0) pa_nil)) pa_nil))) (pss_cons (ps_expr (pe_call GRf hrRf (by rfl) dRf.m dRf.F.kp dRf.b .nil hx (pa_cons (pe_call GWH hrWH (by rfl) dWH.m dWH.F.kp dWH.b .nil pass0 (pa_cons (pv 0) pa_nil)) pa_nil))) (pss_one (ps_expr (pe_call GRf hrRf (by rfl) dRf.m dRf.F.kp dRf.b .nil hx (pa_cons (pe_call GWBl hrWBl (by rfl) dWBl.m dWBl.F.kp dWBl.b .nil pass0 (pa_cons (pv 0) pa_nil)) pa_nil))))))))))))))), ?_⟩
  refine ⟨_, rfl, p, xs, cs, rfl, SqT.same s0 hp, OhAll.sm s0 ho, fine.nm, fun H1 s1 => ?_⟩
  refine ⟨_, rfl, rfl, false, rfl, iteF ?_⟩
  have lx : xs.length = cs.length := by rw [← OhAll.length _ _ ho, List.length_map]
  have l30 := fine.nm.few
  have item : ∀ (i : Nat) (v : V), xs[i]? = some v → ∃ k, cs[i]? = some k ∧ Oh K (clk C f) H0 (kO k) v := fun i v hv => by
    obtain ⟨d, hd, od⟩ := ohAll_get _ _ _ _ ho hv
    rw [List.getElem?_map] at hd
    obtain ⟨k, ek, rfl⟩ := Option.map_eq_some_iff.mp hd
    exact ⟨k, ek, od⟩
  -- classes
  refine ⟨_, rfl, _, rfl, x, CL, dx, _, rfl, s1 _ _ hxo, M.cls, M.no _ (by simp), Nat.le_of_ble_eq_true rfl, ?_⟩
  have s2 : Same H0 (upd H1 x (.ins CL dx (putF "classes" (.ref p) []))) := same_upd x0 (s0.trans s1)
  have g2 : (upd H1 x (.ins CL dx (putF "classes" (.ref p) []))) x = some (.ins CL dx [("classes", .ref p)]) := upd_same
  obtain ⟨H2, e2⟩ : ∃ G, upd H1 x (.ins CL dx (putF "classes" (.ref p) [])) = G := ⟨_, rfl⟩
  rw [e2] at s2 g2 ⊢
  -- names
  refine ⟨_, rfl, p, rfl, ⟨_, SqT.same s2 hp⟩, fun D hD => ?_⟩
  refine lc_map (walk_tup (xs := xs)) (g := gName 3) (vs := [3]) (σ := [some (.ref x), some (.ref p), some .non, none]) (te := tFld K (tVar 3) "name") (fun i => .str ((cs.map (·.name)).getD i ("" : Str))) hD (by omega) (fun H' s' => SqT.same (s2.trans s') hp) (fun i y H3 H4 R hi s3 ⟨e4, hy⟩ k => ?_) fun H3 s3 gD => ?_
  · subst e4
    obtain ⟨kd', ek, od⟩ := item i y hy
    obtain ⟨a, ax, fs, vb, vf, vm, vw, ys, rfl, KA⟩ := kO_get (Oh.sm (s2.trans s3) od)
    refine ⟨rfl, _, rfl, a, C 2, ax, fs, _, rfl, KA.ins, M.X.cls 2 (by decide), M.X.no 2 (by decide) _ (by decide), KA.nm, ?_⟩
    have : kd'.name = (cs.map (·.name)).getD i ("" : Str) := by simp [List.getD, ek]
    rw [this]
    exact k _ (Same.refl _)
  have hl : (List.range xs.length).map (fun i => V.str ((cs.map (·.name)).getD i ("" : Str))) = (cs.map (·.name)).map V.str := by
    rw [lx, ← List.length_map (f := fun k : KD => k.name) (as := cs), range_getD]
  rw [hl] at gD
  have s3' := s2.trans s3
  refine ⟨D, cs.map (·.name), rfl, SqL.of gD, by rw [List.length_map]; omega, fun ns Ls perm srt hLs => ?_⟩
  have hq := q ns perm srt
  have mem : ∀ n, n ∈ ns ↔ n ∈ cs.map (·.name) := fun n => perm.mem_iff
  have nd : ns.Nodup := perm.nodup_iff.mpr fine.nm.nd
  have nl : ns.length = cs.length := by rw [perm.length_eq, List.length_map]
  have s4 := s3'.trans (new_same (o := .lst (ns.map V.str)) hLs)
  have g4 : (upd H3 Ls (.lst (ns.map V.str))) Ls = some (.lst (ns.map V.str)) := upd_same
  have gx4 := (s3.trans (new_same (o := .lst (ns.map V.str)) hLs)) _ _ g2
  obtain ⟨H4, e4⟩ : ∃ G, upd H3 Ls (.lst (ns.map V.str)) = G := ⟨_, rfl⟩
  rw [e4] at s4 g4 gx4 ⊢
  refine .inl ⟨Ls, _, rfl, SqL.of g4, fun N hN => ?_⟩
  have s5 := s4.trans (new_same (o := .tup (ns.map V.str)) hN)
  have gx5 := (new_same (o := .tup (ns.map V.str)) hN) _ _ gx4
  have gN5 : (upd H4 N (.tup (ns.map V.str))) N = some (.tup (ns.map V.str)) := upd_same
  have nNx : N ≠ x := fun z => by rw [z, gx4] at hN; cases hN
  obtain ⟨H5, e5⟩ : ∃ G, upd H4 N (.tup (ns.map V.str)) = G := ⟨_, rfl⟩
  rw [e5] at s5 gx5 gN5 ⊢
  refine ⟨_, rfl, x, CL, dx, _, rfl, gx5, M.cls, M.no _ (by simp), Nat.le_of_ble_eq_true rfl, ?_⟩
  have s6 : Same H0 (upd H5 x (.ins CL dx (putF "names" (.ref N) [("classes", .ref p)]))) := same_upd x0 s5
  have g6 : (upd H5 x (.ins CL dx (putF "names" (.ref N) [("classes", .ref p)]))) x = some (.ins CL dx [("classes", .ref p), ("names", .ref N)]) := upd_same
  have gN6 : (upd H5 x (.ins CL dx (putF "names" (.ref N) [("classes", .ref p)]))) N = some (.tup (ns.map V.str)) := (upd_ne nNx).trans gN5
  obtain ⟨H6, e6⟩ : ∃ G, upd H5 x (.ins CL dx (putF "names" (.ref N) [("classes", .ref p)])) = G := ⟨_, rfl⟩
  rw [e6] at s6 g6 gN6 ⊢
  -- the table
  let tb : Nat → List (Key × V) := fun i => ((cs.take i).zip (xs.take i)).map fun kv => (.inr kv.1.name, kv.2)
  have tbl : ∀ i, i ≤ xs.length → (tb i).length = i := fun i hi => by
    simp only [tb, List.length_map, List.length_zip, List.length_take]
    omega
  have tbs : ∀ i k v, cs[i]? = some k → xs[i]? = some v → putK (tb i) (.inr k.name) v = tb (i + 1) := fun i k v hk hv => by
    rw [putK_new]
    · simp only [tb]
      rw [take_snoc hk, take_snoc hv, List.zip_append (by simp [List.length_take]; omega), List.map_append]
      rfl
    · intro kv hkv z
      obtain ⟨⟨k', v'⟩, hz, rfl⟩ := List.mem_map.mp hkv
      have z : k'.name = k.name := by injection z
      obtain ⟨j, hj, ej⟩ := List.getElem_of_mem (List.of_mem_zip hz).1
      rw [List.length_take] at hj
      rw [List.getElem_take] at ej
      have hi2 := (List.getElem?_eq_some_iff.mp hk).1
      have := List.pairwise_iff_getElem.mp fine.nm.nd j i (by rw [List.length_map]; omega) (by rw [List.length_map]; omega) (by omega)
      refine this ?_
      rw [List.getElem_map, List.getElem_map, ej, (List.getElem?_eq_some_iff.mp hk).2, z]
  refine ⟨_, rfl, p, rfl, ⟨_, SqT.same s6 hp⟩, fun D2 hD2 => ?_⟩
  refine dc_tup (K := K) (a := p) (xs := xs) (g := gName 3) (vs := [3]) (σ := [some (.ref x), some (.ref p), some .non, none]) (tt := tYes) (tk := tFld K (tVar 3) "name") (tv := tVar 3) (fun i H7 => Same H6 H7 ∧ H7 D2 = some (.dK (tb i))) ⟨new_same hD2, upd_same⟩ (fun i H7 _ h => SqT.same (s6.trans h.1) hp) ?_ ?_
  · rintro i y H7 hy ⟨s7, gD⟩
    obtain ⟨kd', ek, od⟩ := item i y hy
    obtain ⟨a, ax, fs, vb, vf, vm, vw, ys, rfl, KA⟩ := kO_get (Oh.sm (s6.trans s7) od)
    have hi := (List.getElem?_eq_some_iff.mp hy).1
    refine ⟨rfl, yes_of ⟨_, rfl, a, C 2, ax, fs, _, rfl, KA.ins, M.X.cls 2 (by decide), M.X.no 2 (by decide) _ (by decide), KA.nm, _, rfl, tb i, .inr kd'.name, rfl, gD, le_sz' (by rw [tbl i (by omega)]; omega), ?_⟩⟩
    rw [tbs i kd' _ ek hy]
    exact ⟨same_D hD2 s7, upd_same⟩
  rintro H7 ⟨s7, gD7⟩
  have gx7 := s7 _ _ g6
  have gN7 := s7 _ _ gN6
  have nDx : D2 ≠ x := fun z => by rw [z, g6] at hD2; cases hD2
  refine ⟨_, rfl, x, CL, dx, _, rfl, gx7, M.cls, M.no _ (by simp), Nat.le_of_ble_eq_true rfl, ?_⟩
  have s8 : Same H0 (upd H7 x (.ins CL dx (putF "_table" (.ref D2) [("classes", .ref p), ("names", .ref N)]))) := same_upd x0 (s6.trans s7)
  have g8 : (upd H7 x (.ins CL dx (putF "_table" (.ref D2) [("classes", .ref p), ("names", .ref N)]))) x = some (.ins CL dx [("classes", .ref p), ("names", .ref N), ("_table", .ref D2)]) := upd_same
  have gN8 : (upd H7 x (.ins CL dx (putF "_table" (.ref D2) [("classes", .ref p), ("names", .ref N)]))) N = some (.tup (ns.map V.str)) := (upd_ne nNx).trans gN7
  have gD8 : (upd H7 x (.ins CL dx (putF "_table" (.ref D2) [("classes", .ref p), ("names", .ref N)]))) D2 = some (.dK (tb xs.length)) := (upd_ne nDx).trans gD7
  obtain ⟨H8, e8⟩ : ∃ G, upd H7 x (.ins CL dx (putF "_table" (.ref D2) [("classes", .ref p), ("names", .ref N)])) = G := ⟨_, rfl⟩
  rw [e8] at s8 g8 gN8 gD8 ⊢
  have tbe : tb xs.length = (cs.zip xs).map fun kv => (.inr kv.1.name, kv.2) := by
    simp only [tb]
    rw [List.take_length, lx, List.take_length]
  rw [tbe] at gD8
  have lib8 : LibAt K C f CL H8 x dx [("classes", .ref p), ("names", .ref N), ("_table", .ref D2)] N D2 xs cs ns :=
    ⟨g8, rfl, SqT.of gN8, rfl, gD8, OhAll.sm s8 ho, mem, fun y hy => by
      simp only [List.mem_cons, List.not_mem_nil, or_false, not_or] at hy
      obtain ⟨h1, h2, h3, h4⟩ := hy
      rw [lk_ne h1, lk_ne h2, lk_ne h3]
      rfl⟩
  refine ⟨_, rfl, x, cs, ns, rfl, ⟨_, _, _, _, _, lib8⟩, nd, by omega, fine.bs, (fine.b1 ns perm).1, (fine.b1 ns perm).2, fun H9 s9 => ?_⟩
  refine ⟨_, rfl, .inl ⟨rfl, ?_⟩⟩
  have s9' := s8.trans s9
  -- the orders
  have bget : ∀ (i : Nat) (k : KD), cs[i]? = some k → (cs.map fun k : KD => (k.name, k.bases))[i]? = some (k.name, k.bases) := fun i k h => by rw [List.getElem?_map, h]; rfl
  refine ⟨_, rfl, p, rfl, ⟨_, SqT.same s9' hp⟩, fun D3 hD3 => ?_⟩
  refine dc_tup (K := K) (a := p) (xs := xs) (g := gName 3) (vs := [3]) (σ := [some (.ref x), some (.ref p), some .non, none]) (tt := tYes) (tk := tFld K (tVar 3) "name") (tv := tFld K (tVar 3) "bases") (fun i Hi => Same H9 Hi ∧ ∃ kvs, Hi D3 = some (.dK kvs) ∧ Paired (fun (kv : Key × V) (b : Str × List Str) => kv.1 = .inr b.1 ∧ ∃ a, kv.2 = .ref a ∧ SqT K H0 a (b.2.map V.str)) kvs ((cs.map fun k => (k.name, k.bases)).take i)) ⟨new_same hD3, [], upd_same, .nil⟩ (fun i Hi _ h => SqT.same (s9'.trans h.1) hp) ?_ ?_
  · rintro i y Hi hy ⟨si, kvs, gD, pk⟩
    obtain ⟨kd', ek, od⟩ := item i y hy
    obtain ⟨a, ax, fs, vb, vf, vm, vw, ys, rfl, KA⟩ := kO_get od
    have hi := (List.getElem?_eq_some_iff.mp hy).1
    have ga := (s9'.trans si) _ _ KA.ins
    have hkl : kvs.length = i := by
      rw [Paired.length pk, List.length_take, List.length_map]
      omega
    refine ⟨rfl, yes_of ⟨_, rfl, a, C 2, ax, fs, _, rfl, ga, M.X.cls 2 (by decide), M.X.no 2 (by decide) _ (by decide), KA.nm, _, rfl, a, C 2, ax, fs, _, rfl, ga, M.X.cls 2 (by decide), M.X.no 2 (by decide) _ (by decide), KA.b, kvs, .inr kd'.name, rfl, gD, le_sz' (by omega), same_D hD3 si, _, upd_same, ?_⟩⟩
    rw [putK_new, take_snoc (bget i kd' ek)]
    · exact paired_snoc pk ⟨rfl, vb, rfl, KA.sb⟩
    · intro kv hkv z
      obtain ⟨j, hj, ej⟩ := List.getElem_of_mem hkv
      obtain ⟨m, em, e3, _⟩ := paired_get pk (show kvs[j]? = some kv by rw [List.getElem?_eq_getElem hj, ej])
      rw [e3] at z
      have z : m.1 = kd'.name := by injection z
      rw [List.getElem?_take, if_pos (by omega), List.getElem?_map] at em
      obtain ⟨k', ek', rfl⟩ := Option.map_eq_some_iff.mp em
      have hi2 := (List.getElem?_eq_some_iff.mp ek).1
      have := List.pairwise_iff_getElem.mp fine.nm.nd j i (by rw [List.length_map]; omega) (by rw [List.length_map]; omega) (by omega)
      refine this ?_
      rw [List.getElem_map, List.getElem_map, (List.getElem?_eq_some_iff.mp ek').2, (List.getElem?_eq_some_iff.mp ek).2]
      exact z
  rintro H10 ⟨s10, kvs, gD10, pk⟩
  rw [List.take_of_length_le (by rw [List.length_map]; omega)] at pk
  have s10' := s9'.trans s10
  refine ⟨D3, _, kvs, o, rk, rfl, gD10, L2.Paired.mapP pk fun _ _ ⟨e, a, e2, z⟩ => ⟨e, a, e2, SqT.same s10' z⟩, fine.b2, fine.od, fine.rk, fun H11 O ns' hO hin hO0 s11 => ?_⟩
  have gx11 := s11 _ _ (s10 _ _ (s9 _ _ g8))
  have gN11 := s11 _ _ (s10 _ _ (s9 _ _ gN8))
  have gD11 := s11 _ _ (s10 _ _ (s9 _ _ gD8))
  refine ⟨_, rfl, x, CL, dx, _, rfl, gx11, M.cls, M.no _ (by simp), Nat.le_of_ble_eq_true rfl, ?_⟩
  have s12 : Same H0 (upd H11 x (.ins CL dx (putF "_orders" (.ref O) [("classes", .ref p), ("names", .ref N), ("_table", .ref D2)]))) := same_upd x0 (s10'.trans s11)
  have g12 : (upd H11 x (.ins CL dx (putF "_orders" (.ref O) [("classes", .ref p), ("names", .ref N), ("_table", .ref D2)]))) x = some (.ins CL dx [("classes", .ref p), ("names", .ref N), ("_table", .ref D2), ("_orders", .ref O)]) := upd_same
  have gN12 : (upd H11 x (.ins CL dx (putF "_orders" (.ref O) [("classes", .ref p), ("names", .ref N), ("_table", .ref D2)]))) N = some (.tup (ns.map V.str)) := (upd_ne nNx).trans gN11
  have gD12 : (upd H11 x (.ins CL dx (putF "_orders" (.ref O) [("classes", .ref p), ("names", .ref N), ("_table", .ref D2)]))) D2 = some (.dK ((cs.zip xs).map fun kv => (.inr kv.1.name, kv.2))) := (upd_ne nDx).trans gD11
  have hO12 := hO.updI (u := .ins CL dx (putF "_orders" (.ref O) [("classes", .ref p), ("names", .ref N), ("_table", .ref D2)])) gx11
  obtain ⟨H12, e12⟩ : ∃ G, upd H11 x (.ins CL dx (putF "_orders" (.ref O) [("classes", .ref p), ("names", .ref N), ("_table", .ref D2)])) = G := ⟨_, rfl⟩
  rw [e12] at s12 g12 gN12 gD12 hO12 ⊢
  have lib12 : LibO K C f CL H12 x cs ns o :=
    ⟨dx, _, N, D2, xs, O, ns', ⟨g12, rfl, SqT.of gN12, rfl, gD12, OhAll.sm s12 ho, mem, fun y hy => by
      simp only [List.mem_cons, List.not_mem_nil, or_false, not_or] at hy
      obtain ⟨h1, h2, h3, h4⟩ := hy
      rw [lk_ne h1, lk_ne h2, lk_ne h3, lk_ne h4]
      rfl⟩, rfl, hO12, fun n hn => hin n (by
      obtain ⟨k, hk, rfl⟩ := List.mem_map.mp hn
      unfold look
      rw [Option.isSome_map, List.find?_isSome]
      exact ⟨_, List.mem_map.mpr ⟨k, hk, rfl⟩, by simp⟩)⟩
  have nsok : Ns cs ns := ⟨mem, fun n hn => by
    obtain ⟨k, hk, rfl⟩ := List.mem_map.mp ((mem n).mp hn)
    exact (fine.nm.nm k hk).2⟩
  refine ⟨_, rfl, x, cs, ns, o, rfl, lib12, fine.ok, ?_⟩
  refine ⟨_, rfl, .inl ⟨rfl, ?_⟩⟩
  refine ⟨_, rfl, x, cs, ns, o, rfl, lib12, fine.ok, fine.fc, nsok, fun hnone H13 s13 => ?_, fun n hn p' H13 s13 g13 => ?_⟩
  · refine ⟨_, rfl, .inl ⟨rfl, ?_⟩⟩
    refine ⟨_, rfl, x, cs, ns, o, rfl, lib12.same s13, fine.ok, fine.fm, nsok, fun H14 s14 => ?_⟩
    refine ⟨_, rfl, .inl ⟨rfl, ?_⟩⟩
    have s14' := s13.trans s14
    refine ⟨_, rfl, x, cs, ns, o, rfl, lib12.same s14', fine.ok, nsok, fun hall H15 s15 => ?_, fun i n ys m h1 h2 h3 h4 h5 h6 p' t H15 s15 gt gp => ?_⟩
    · refine ⟨_, rfl, .inl ⟨rfl, ?_⟩⟩
      refine ⟨_, rfl, x, cs, ns, rfl, (lib12.same (s14'.trans s15)).a, fine.bo, mem, fun H16 s16 => ?_⟩
      exact ⟨_, rfl, .inl ⟨rfl, hq.1 hnone hall H16 (s12.trans ((s14'.trans s15).trans s16)) (lib12.same ((s14'.trans s15).trans s16))⟩⟩
    · exact ⟨_, rfl, .inr ⟨p', _, _, rfl, SqT.of gp, fun d H' sd gd => hq.2.2 hnone i n ys m h1 h2 h3 h4 h5 h6 d t H' (s12.trans ((s14'.trans s15).trans sd)) (sd _ _ gt) gd⟩⟩
  · exact ⟨_, rfl, .inr ⟨p', _, _, rfl, SqT.of g13, fun d H' sd gd => hq.2.1 n hn d H' (s12.trans (s13.trans sd)) gd⟩⟩
def spLiR (K : PySem.W.Frag) (C f : Nat → Addr) (CL CB : Addr) : Sp := fun vs H Q E => ∃ ws rest, vs = ws ++ rest ∧ ws.length = ([("self" : PySem.Str)] : List PySem.Str).length ∧ rest.length ≤ sizeLine ∧ ∀ p, H p = Option.none → spLi K C f CL CB (ws ++ [V.ref p]) (upd H p (.tup rest)) Q E
theorem fnR_li {fi : Addr} {fd : FuncData} (F : Fun K "__init__" "Library.__init__" sLi fi fd) (L : LiF K w mg C f CL) (W : BadL K mg B CB fB fdB) : FnR P w K mg base (L2N.CX P w) 37 fi (spLiR K C f CL CB) := by
  obtain ⟨oc, od, kV, doc, pm, an, cdv, ct, osl, rfl, lk, hcd⟩ := F.ex
  refine fn_star (sp := fun vs H Q E => spLi K C f CL CB vs H Q E) lk hcd scLi cxUpN (bind_star1 (B := fun xs => bindArgs (PySem.W.fnOf "__init__" "Library.__init__" (defArgs sLi) (defBody sLi) (defScope sLi) .none kV doc pm an cdv ct) ⟨xs, []⟩) (p1 := "self") (pv := "classes") (fun a => by rfl) (fun a r rs => by rfl)) (fun A outer s H vs Q E hr h => ?_)
  exact body_li L W cdv A outer s H vs Q E hr h
end

end Kx
set_option linter.all false
namespace Kx
open PySem L2 PySem.Spec PyProof.Rows
/-! answers: what is reckoned, with nothing of Python in it -/
abbrev RES : Str := "result"
abbrev Rg := Option Int × Option Int
def picks (cs : List (List Lit)) : List (List Lit) := cs.foldl (fun acc c => acc.flatMap fun p => c.map fun l => p ++ [l]) [[]]
def maxO (o : Option Int) (x : Int) : Int := match o with | none => x | some y => if x > y then x else y
def minO (o : Option Int) (x : Int) : Int := match o with | none => x | some y => if x < y then x else y
def stepR (f : Str → Int) (s : Rg) (l : Lit) : Option Rg :=
  if l.1 ≠ RES ∧ l.2.1 = RES then some (some (maxO s.1 (f l.1 - l.2.2)), s.2)
  else if l.1 = RES ∧ l.2.1 ≠ RES then some (s.1, some (minO s.2 (f l.2.1 + l.2.2)))
  else if f l.1 > f l.2.1 + l.2.2 then none else some s
def goR (f : Str → Int) : Rg → List Lit → Option Rg
  | s, [] => some s
  | s, l :: r => match stepR f s l with
    | none => none
    | some t => goR f t r
def closeR : Rg → Option Rg
  | (some lo, some hi) => if lo > hi then none else some (some lo, some hi)
  | s => some s
def rangeOf (f : Str → Int) (p : List Lit) : Option Rg := (goR f (none, none) p).bind closeR
def z0 (o : Option Int) : Int := match o with | none => 0 | some lo => if 0 > lo then 0 else lo
def fz (x : Rg) : Option Int := match x.2 with
  | none => some (z0 x.1)
  | some hi => if z0 x.1 ≤ hi then some (z0 x.1) else none
theorem z0_ge (o : Option Int) : 0 ≤ z0 o ∧ ∀ lo, o = some lo → lo ≤ z0 o := by
  cases o with
  | none => exact ⟨Int.le_refl _, fun _ z => (by cases z)⟩
  | some a =>
    show 0 ≤ (if 0 > a then 0 else a) ∧ ∀ lo, some a = some lo → lo ≤ (if 0 > a then 0 else a)
    by_cases h : 0 > a
    · rw [if_pos h]
      exact ⟨Int.le_refl _, fun lo z => by cases z; omega⟩
    · rw [if_neg h]
      exact ⟨by omega, fun lo z => by cases z; exact Int.le_refl _⟩
/-- what an answer is, of ranges -/
def IsAns (R : Rg → Prop) : Option Int → Prop
  | none => ∀ x, ¬ R x
  | some m =>
    ((∀ x, R x → x.1 ≠ none) ∧ (∃ x, R x ∧ x.1 = some m) ∧ ∀ x y, R x → x.1 = some y → m ≤ y) ∨
    ((∃ x, R x ∧ x.1 = none) ∧ (∀ x, R x → x.2 ≠ none) ∧ (∃ x, R x ∧ x.2 = some m) ∧ ∀ x y, R x → x.2 = some y → y ≤ m) ∨
    ((∃ x, R x ∧ x.1 = none) ∧ (∃ x, R x ∧ x.2 = none) ∧ (∃ x, R x ∧ fz x = some m) ∧ ∀ x y, R x → fz x = some y → m ≤ y)
theorem IsAns.congr {R R' : Rg → Prop} (h : ∀ x, R x ↔ R' x) {a : Option Int} (q : IsAns R a) : IsAns R' a := by
  have e : R = R' := funext fun x => propext (h x)
  rw [← e]
  exact q
theorem IsAns.uniq {R : Rg → Prop} {a b : Option Int} (h : IsAns R a) (g : IsAns R b) : a = b := by
  cases a with
  | none =>
    cases b with
    | none => rfl
    | some m =>
      rcases g with ⟨_, ⟨x, r, _⟩, _⟩ | ⟨⟨x, r, _⟩, _⟩ | ⟨⟨x, r, _⟩, _⟩ <;> exact absurd r (h x)
  | some m =>
    cases b with
    | none => rcases h with ⟨_, ⟨x, r, _⟩, _⟩ | ⟨⟨x, r, _⟩, _⟩ | ⟨⟨x, r, _⟩, _⟩ <;> exact absurd r (g x)
    | some n =>
      congr 1
      rcases h with ⟨a1, ⟨x, r, e⟩, l⟩ | ⟨⟨z, rz, ez⟩, a2, ⟨x, r, e⟩, l⟩ | ⟨⟨z, rz, ez⟩, ⟨y, ry, ey⟩, ⟨x, r, e⟩, l⟩
      · rcases g with ⟨_, ⟨x', r', e'⟩, l'⟩ | ⟨⟨z, rz, ez⟩, _⟩ | ⟨⟨z, rz, ez⟩, _⟩
        · exact Int.le_antisymm (l _ _ r' e') (l' _ _ r e)
        · exact absurd ez (a1 z rz)
        · exact absurd ez (a1 z rz)
      · rcases g with ⟨b1, _⟩ | ⟨_, _, ⟨x', r', e'⟩, l'⟩ | ⟨_, ⟨y, ry, ey⟩, _⟩
        · exact absurd ez (b1 z rz)
        · exact Int.le_antisymm (l' _ _ r e) (l _ _ r' e')
        · exact absurd ey (a2 y ry)
      · rcases g with ⟨b1, _⟩ | ⟨_, b2, _⟩ | ⟨_, _, ⟨x', r', e'⟩, l'⟩
        · exact absurd ez (b1 z rz)
        · exact absurd ey (b2 y ry)
        · exact Int.le_antisymm (l _ _ r' e') (l' _ _ r e)
/-- a number lies in a range -/
def inR (x : Rg) (m : Int) : Prop := (∀ lo, x.1 = some lo → lo ≤ m) ∧ ∀ hi, x.2 = some hi → m ≤ hi
theorem fz_in {x : Rg} {m : Int} (h : fz x = some m) : inR x m ∧ 0 ≤ m := by
  obtain ⟨lo, hi⟩ := x
  have g := z0_ge lo
  cases hi with
  | none =>
    have e : z0 lo = m := Option.some.inj h
    rw [e] at g
    exact ⟨⟨g.2, fun _ z => (by cases z)⟩, g.1⟩
  | some b =>
    have h : (if z0 lo ≤ b then some (z0 lo) else none) = some m := h
    by_cases z : z0 lo ≤ b
    · rw [if_pos z] at h
      have e : z0 lo = m := Option.some.inj h
      rw [e] at g z
      exact ⟨⟨g.2, fun _ y => (by cases y; exact z)⟩, g.1⟩
    · rw [if_neg z] at h
      cases h
theorem closeR_ss (a b : Int) : closeR (some a, some b) = if a > b then none else some (some a, some b) := rfl
theorem closeR_eq {s x : Rg} (h : closeR s = some x) : x = s ∧ ∀ lo hi, s.1 = some lo → s.2 = some hi → lo ≤ hi := by
  obtain ⟨lo, hi⟩ := s
  cases lo with
  | none =>
    have h : some (none, hi) = some x := h
    cases h
    exact ⟨rfl, fun _ _ z => (by cases z)⟩
  | some a =>
    cases hi with
    | none =>
      have h : some (some a, none) = some x := h
      cases h
      exact ⟨rfl, fun _ _ _ z => (by cases z)⟩
    | some b =>
      rw [closeR_ss] at h
      by_cases z : a > b
      · rw [if_pos z] at h
        cases h
      · rw [if_neg z] at h
        cases h
        exact ⟨rfl, fun _ _ y1 y2 => by cases y1; cases y2; omega⟩
/-- some m in a range -/
theorem IsAns.in {R : Rg → Prop} (hc : ∀ x, R x → ∀ lo hi, x.1 = some lo → x.2 = some hi → lo ≤ hi) {m : Int} (h : IsAns R (some m)) : ∃ x, R x ∧ inR x m := by
  rcases h with ⟨_, ⟨x, r, e⟩, _⟩ | ⟨_, _, ⟨x, r, e⟩, _⟩ | ⟨_, _, ⟨x, r, e⟩, _⟩
  · exact ⟨x, r, fun lo z => (by rw [e] at z; cases z; exact Int.le_refl _), fun hi z => hc x r _ _ e z⟩
  · exact ⟨x, r, fun lo z => hc x r _ _ z e, fun hi z => (by rw [e] at z; cases z; exact Int.le_refl _)⟩
  · exact ⟨x, r, (fz_in e).1⟩
/-- a literal at values with a result -/
def upR (f : Str → Int) (m : Int) (t : Str) : Int := if t = RES then m else f t
def litAt (f : Str → Int) (l : Lit) : Bool := decide (f l.1 ≤ f l.2.1 + l.2.2)
theorem stepR_in {f : Str → Int} {s t : Rg} {l : Lit} {m : Int} (hf : f RES = 0) (h : stepR f s l = some t) : inR t m ↔ inR s m ∧ litAt (upR f m) l = true := by
  obtain ⟨a, b, n⟩ := l
  obtain ⟨lo, hi⟩ := s
  unfold litAt
  rw [decide_eq_true_iff]
  unfold stepR at h
  dsimp only at h ⊢
  unfold upR
  split at h
  · rename_i z
    obtain ⟨z1, z2⟩ := z
    cases h
    rw [if_neg z1, if_pos z2]
    unfold inR
    constructor
    · rintro ⟨h1, h2⟩
      have h3 := h1 _ rfl
      refine ⟨⟨fun lo' e => ?_, h2⟩, ?_⟩
      · cases e
        unfold maxO at h3
        dsimp only at h3
        split at h3 <;> omega
      · unfold maxO at h3
        split at h3
        · omega
        · split at h3 <;> omega
    · rintro ⟨⟨h1, h2⟩, h3⟩
      refine ⟨fun lo' e => ?_, h2⟩
      cases e
      unfold maxO
      split
      · omega
      · have := h1 _ rfl
        split <;> omega
  · rename_i z0
    split at h
    · rename_i z
      obtain ⟨z1, z2⟩ := z
      cases h
      rw [if_pos z1, if_neg z2]
      unfold inR
      constructor
      · rintro ⟨h1, h2⟩
        have h3 := h2 _ rfl
        refine ⟨⟨h1, fun hi' e => ?_⟩, ?_⟩
        · cases e
          unfold minO at h3
          dsimp only at h3
          split at h3 <;> omega
        · unfold minO at h3
          split at h3
          · omega
          · split at h3 <;> omega
      · rintro ⟨⟨h1, h2⟩, h3⟩
        refine ⟨h1, fun hi' e => ?_⟩
        cases e
        unfold minO
        split
        · omega
        · have := h2 _ rfl
          split <;> omega
    · rename_i z1
      split at h
      · cases h
      · rename_i z2
        cases h
        by_cases ea : a = RES
        · have eb : b = RES := Classical.byContradiction fun y => z1 ⟨ea, y⟩
          rw [if_pos ea, if_pos eb]
          rw [ea, eb, hf] at z2
          exact ⟨fun y => ⟨y, by omega⟩, fun y => y.1⟩
        · have eb : b ≠ RES := fun y => z0 ⟨ea, y⟩
          rw [if_neg ea, if_neg eb]
          exact ⟨fun y => ⟨y, by omega⟩, fun y => y.1⟩
theorem stepR_none {f : Str → Int} {s : Rg} {l : Lit} (m : Int) (hf : f RES = 0) (h : stepR f s l = none) : litAt (upR f m) l = false := by
  obtain ⟨a, b, n⟩ := l
  unfold litAt
  rw [decide_eq_false_iff_not]
  unfold stepR at h
  dsimp only at h ⊢
  unfold upR
  split at h
  · cases h
  · rename_i z0
    split at h
    · cases h
    · rename_i z1
      split at h
      · rename_i z2
        by_cases ea : a = RES
        · have eb : b = RES := Classical.byContradiction fun y => z1 ⟨ea, y⟩
          rw [if_pos ea, if_pos eb]
          rw [ea, eb, hf] at z2
          omega
        · have eb : b ≠ RES := fun y => z0 ⟨ea, y⟩
          rw [if_neg ea, if_neg eb]
          omega
      · cases h
theorem goR_in {f : Str → Int} (m : Int) (hf : f RES = 0) : ∀ {p : List Lit} {s : Rg}, (∀ t, goR f s p = some t → (inR t m ↔ inR s m ∧ p.all (litAt (upR f m)) = true)) ∧ (goR f s p = none → p.all (litAt (upR f m)) = false)
  | [], s => ⟨(fun t h => by cases h; simp), (fun h => by cases h)⟩
  | l :: r, s => by
    cases e : stepR f s l with
    | none =>
      have g : goR f s (l :: r) = none := by unfold goR; rw [e]
      refine ⟨(fun t h => by rw [g] at h; cases h), fun _ => ?_⟩
      rw [List.all_cons, stepR_none m hf e, Bool.false_and]
    | some u =>
      have g : goR f s (l :: r) = goR f u r := by rw [goR, e]
      obtain ⟨i1, i2⟩ := goR_in m hf (p := r) (s := u)
      rw [g]
      have st := stepR_in (m := m) hf e
      refine ⟨fun t h => ?_, fun h => ?_⟩
      · rw [i1 t h, st, List.all_cons, Bool.and_eq_true, and_assoc]
      · rw [List.all_cons, i2 h, Bool.and_false]
theorem inR_nn (m : Int) : inR (none, none) m := ⟨fun _ z => (by cases z), fun _ z => (by cases z)⟩
/-- a pick holds at a result just if the result lies in its range -/
theorem range_in {f : Str → Int} (m : Int) (hf : f RES = 0) {p : List Lit} : p.all (litAt (upR f m)) = true ↔ ∃ x, rangeOf f p = some x ∧ inR x m := by
  obtain ⟨i1, i2⟩ := goR_in m hf (p := p) (s := (none, none))
  unfold rangeOf
  cases e : goR f (none, none) p with
  | none =>
    rw [i2 e]
    exact ⟨fun z => (by cases z), fun ⟨x, z, _⟩ => (by cases z)⟩
  | some t =>
    have h := i1 t e
    constructor
    · intro z
      have hi := h.mpr ⟨inR_nn m, z⟩
      refine ⟨t, ?_, hi⟩
      show closeR t = some t
      obtain ⟨lo, hi'⟩ := t
      cases lo with
      | none => rfl
      | some a =>
        cases hi' with
        | none => rfl
        | some b =>
          have h1 := hi.1 _ rfl
          have h2 := hi.2 _ rfl
          rw [closeR_ss, if_neg (by omega)]
    · rintro ⟨x, z, hx⟩
      have z : closeR t = some x := z
      obtain ⟨rfl, _⟩ := closeR_eq z
      exact (h.mp hx).2
theorem range_ok {f : Str → Int} {p : List Lit} {x : Rg} (h : rangeOf f p = some x) : ∀ lo hi, x.1 = some lo → x.2 = some hi → lo ≤ hi := by
  unfold rangeOf at h
  obtain ⟨s, _, e⟩ := Option.bind_eq_some_iff.mp h
  obtain ⟨rfl, z⟩ := closeR_eq e
  exact z
/-- picks -/
theorem picks_snoc (cs : List (List Lit)) (c : List Lit) : picks (cs ++ [c]) = (picks cs).flatMap fun p => c.map fun l => p ++ [l] := by
  unfold picks
  rw [List.foldl_append]
  rfl
theorem picks_all {P : Lit → Bool} (cs : List (List Lit)) : ∀ n, n ≤ cs.length → ((∃ p ∈ picks (cs.take n), p.all P = true) ↔ (cs.take n).all (fun c => c.any P) = true)
  | 0, _ => by simp [picks]
  | n + 1, h => by
    have ih := picks_all (P := P) cs n (by omega)
    have e : cs.take (n + 1) = cs.take n ++ [cs[n]'(by omega)] := by rw [List.take_succ_eq_append_getElem (by omega)]
    rw [e, picks_snoc, List.all_append, Bool.and_eq_true, ← ih]
    simp only [List.mem_flatMap, List.mem_map, List.all_cons, List.all_nil, Bool.and_true, List.any_eq_true]
    constructor
    · rintro ⟨q, ⟨p, hp, l, hl, rfl⟩, hq⟩
      rw [List.all_append, Bool.and_eq_true] at hq
      exact ⟨⟨p, hp, hq.1⟩, l, hl, by simpa using hq.2⟩
    · rintro ⟨⟨p, hp, hq⟩, l, hl, hl2⟩
      exact ⟨p ++ [l], ⟨p, hp, l, hl, rfl⟩, by rw [List.all_append, hq]; simpa using hl2⟩
theorem picks_holds {P : Lit → Bool} (cs : List (List Lit)) : (∃ p ∈ picks cs, p.all P = true) ↔ cs.all (fun c => c.any P) = true := by
  have := picks_all (P := P) cs cs.length (Nat.le_refl _)
  rwa [List.take_length] at this
abbrev AnsR (f : Str → Int) (cs : List (List Lit)) (x : Rg) : Prop := ∃ p ∈ picks cs, rangeOf f p = some x
/-- clauses hold at a result just if it lies in one of the ranges -/
theorem ans_holds {f : Str → Int} (hf : f RES = 0) (cs : List (List Lit)) (m : Int) : cs.all (fun c => c.any (litAt (upR f m))) = true ↔ ∃ x, AnsR f cs x ∧ inR x m := by
  rw [← picks_holds]
  constructor
  · rintro ⟨p, hp, h⟩
    obtain ⟨x, e, i⟩ := (range_in m hf).mp h
    exact ⟨x, ⟨p, hp, e⟩, i⟩
  · rintro ⟨x, ⟨p, hp, e⟩, i⟩
    exact ⟨p, hp, (range_in m hf).mpr ⟨x, e, i⟩⟩
theorem ans_is {f : Str → Int} (hf : f RES = 0) {cs : List (List Lit)} {m : Int} (h : IsAns (AnsR f cs) (some m)) : cs.all (fun c => c.any (litAt (upR f m))) = true := by
  obtain ⟨x, r, i⟩ := h.in fun x ⟨_, _, e⟩ => range_ok e
  exact (ans_holds hf cs m).mpr ⟨x, r, i⟩

end Kx
set_option linter.all false
namespace Kx
open PySem L2 PySem.Spec PyProof.Rows
abbrev sWMt : Stmt := top 88
abbrev nWMt : List Str := ["library", "name", "method", "found"]
theorem scWMt : FnScope nWMt ["library", "name", "method"] (defScope sWMt) := ⟨rfl, rfl, rfl, by decide +kernel, rfl, by decide +kernel, by decide +kernel⟩
abbrev sAMt : Stmt := top 91
abbrev nAMt : List Str := ["library", "name", "method", "found"]
theorem scAMt : FnScope nAMt ["library", "name", "method"] (defScope sAMt) := ⟨rfl, rfl, rfl, by decide +kernel, rfl, by decide +kernel, by decide +kernel⟩
/-! a library's method as it is written -/
def spWMt (K : PySem.W.Frag) (C f : Nat → Addr) (CL : Addr) (R : MD → Prop) : Sp := fun vs H Q _ => ∃ (a : Addr) (cs : List KD) (ns : List Str) (n m : Str) (k : KD) (mm : MD), vs = [.ref a, .str n, .str m] ∧ LibA K C f CL H a cs ns ∧ kd cs n = some k ∧ wr k m = some mm ∧ R mm ∧ ∀ v H', Same H H' → Oh K (clk C f) H' (mO mm) v → Q v H'
section
variable {P : Program} {w : World} {K : PySem.W.Frag} {mg : Str → Option Value} {base : Heap} {C f : Nat → Addr} {CL : Addr}
theorem ok_wmt {g : Addr} {fd : FuncData} (F : Fs K mg "written_method" sWMt ["library", "name", "method"] g fd) (M : Lm K mg C f CL) : FnOk P w K mg base CX0 4 g fd ["library", "name", "method"] (spWMt K C f CL fun _ => True) := by
  obtain ⟨gw, fdw, dWr⟩ := M.wri
  have GWr : FnOk P w K mg base CX0 1 gw fdw ["classdef", "name"] (spWri K C f) := ok_wri dWr M
  obtain ⟨gx, fdx, ox, Fx, bx⟩ := M.ix
  have GX : FnOk P w K mg base CX0 2 gx fdx ["self", "name"] (spLix K C f CL) := ok_lix Fx M
  refine F.F.ok scWMt (fun vs H Q E h => ?_) (fun cdv A outer s H vs Q E hr h => ?_)
  · obtain ⟨_, _, _, _, _, _, _, rfl, _⟩ := h
    rfl
  · obtain ⟨a, cs, ns, n, m, k, mm, rfl, hL, hk, hw, _, q⟩ := h
    have hrX : Room 3 (A.deeper (envOfC "written_method" (defScope sWMt) s.heap.objs.size g cdv)) := hr
    have hrWr : Room 1 (A.deeper (envOfC "written_method" (defScope sWMt) s.heap.objs.size g cdv)) := hr.mono (by decide)
    refine ⟨_, (pss_cons (ps_set (i := 3) scWMt.nd rfl (Or.inl rfl) (pe_call GWr hrWr (by rfl) dWr.m dWr.F.kp dWr.b .nil pass0 (pa_cons (pe_ownIx (E := E0) ox GX hrX bx pass0 (pv 0) (pv 1)) (pa_cons (pv 2) pa_nil)))) (pss_cons (ps_if (pt_cmpR op_isN (pv 3) pe_non (nomark _)) (pss_one ps_dead) pss_nil) (pss_one (ps_ret (pv 3))))), ?_⟩
    obtain ⟨dx, fs, N, Tb, us, LL⟩ := id hL
    refine ⟨_, rfl, _, rfl, a, dx, fs, rfl, LL.ins, a, cs, ns, n, k, rfl, hL, hk, fun v H1 s1 ov => ⟨_, rfl, v, k, m, rfl, ov, (fun z => by rw [hw] at z; cases z), fun md u hw' ou => ?_⟩⟩
    rw [hw] at hw'
    cases hw'
    obtain ⟨fa, fx, fsm, fp, fxs, f1, f2, fb, rfl, FA⟩ := mO_get ou
    exact ⟨_, rfl, rfl, false, rfl, iteF ⟨_, rfl, q _ _ s1 ou⟩⟩
theorem ok_amt {g : Addr} {fd : FuncData} (F : Fs K mg "_asked_method" sAMt ["library", "name", "method"] g fd) (M : Lm K mg C f CL) (dWM : ∃ g fd, Fs K mg "written_method" sWMt ["library", "name", "method"] g fd) : FnOk P w K mg base CX0 5 g fd ["library", "name", "method"] (spWMt K C f CL fun m => m.result = "int") := by
  obtain ⟨_, _, dWM⟩ := dWM
  have GWM : FnOk P w K mg base CX0 4 _ _ ["library", "name", "method"] (spWMt K C f CL fun _ => True) := ok_wmt dWM M
  refine F.F.ok scAMt (fun vs H Q E h => ?_) (fun cdv A outer s H vs Q E hr h => ?_)
  · obtain ⟨_, _, _, _, _, _, _, rfl, _⟩ := h
    rfl
  · obtain ⟨a, cs, ns, n, m, k, mm, rfl, hL, hk, hw, hi, q⟩ := h
    have hrWM : Room 4 (A.deeper (envOfC "_asked_method" (defScope sAMt) s.heap.objs.size g cdv)) := hr
    refine ⟨_, (pss_cons (ps_set (i := 3) scAMt.nd rfl (Or.inl rfl) (pe_call GWM hrWM (by rfl) dWM.m dWM.F.kp dWM.b .nil pass0 (pa_cons (pv 0) (pa_cons (pv 1) (pa_cons (pv 2) pa_nil))))) (pss_cons (ps_if (pt_cmpR op_ne (pe_fld (pv 3) (by rfl)) pe_str (nomark _)) (pss_one ps_dead) pss_nil) (pss_one (ps_ret (pv 3))))), ?_⟩
    refine ⟨_, rfl, _, rfl, _, rfl, a, cs, ns, n, m, k, mm, rfl, hL, hk, hw, trivial, fun v H1 s1 ov => ?_⟩
    obtain ⟨fa, fx, fsm, fp, fxs, f1, f2, fb, rfl, FA⟩ := mO_get ov
    refine ⟨_, rfl, fa, C 1, fx, fsm, .str mm.result, rfl, FA.ins, M.X.cls 1 (by decide), M.X.no 1 (by decide) _ (by decide), FA.r, rfl, _, rfl, ?_⟩
    rw [hi, decide_eq_true rfl]
    exact iteF ⟨_, rfl, q _ _ s1 ov⟩
end

end Kx
set_option linter.all false
namespace Kx
open PySem L2 PySem.Spec PyProof.Rows
/-! list comprehensions of several clauses -/
section
variable {P : Program} {w : World} {A : Around} {R : Result → Shared → Prop} {s : Shared} {elt tg : Expr} {gs : List Comprehension} {scope : Scope} {cp : Pos} {j : Nat} {ifs : List Expr} {pos : Pos} {it acc : Value} {env : Env} {body : Sem Unit}
theorem loop_genL (hturn : compTurn (.ListComp elt gs scope cp) j it acc env = turnOf tg pos ifs body (.ListComp elt gs scope cp) j it acc env) (I : Nat → Shared → Prop)
    (turn : ∀ n s, I n s → wpAny (model P w) A (pyNext it) (fun r s1 => match r with
      | none => R (.ok .next) s1
      | some v => wpAny (model P w) A (letOwnedTupleGo tg it v) (fun _ s2 => wpAny (model P w) A (assign tg env v) (fun _ s3 => wpAny (model P w) A (testsOf ifs env) (fun ok s4 =>
          if ok = true then wpAny (model P w) A body (fun _ s5 => ∃ m, m < n ∧ I m s5) NoE s4 else ∃ m, m < n ∧ I m s4) NoE s3) NoE s2) NoE s1) NoE s)
    (n : Nat) (h : I n s) : codeAny (model P w) A (.compLoop (.ListComp elt gs scope cp) j it acc env) R s := by
  refine codeAny_loop rfl I (fun n s hI => ?_) n h
  show wpAny _ A ((compTurn (.ListComp elt gs scope cp) j it acc env).onRaise (fun x => do noteFrame x env; theTreesLotGoes x)) _ _ s
  refine wpAny_noted ?_
  rw [hturn]
  unfold turnOf
  refine wpAny_bind (wpAny_standAt (wpAny_bind (thnF (turn n s hI) fun r s1 h1 => ?_)))
  cases r with
  | none => exact wpAny_pure h1
  | some v =>
    refine wpAny_bind (thnF h1 fun _ s2 h2 => ?_)
    refine wpAny_bind (thnF h2 fun _ s3 h3 => wpAny_bind (thnF h3 fun ok s4 h4 => ?_))
    cases ok with
    | false => exact wpAny_pure ⟨rfl, h4⟩
    | true => exact wpAny_bind (thnF h4 fun _ s5 h5 => wpAny_pure ⟨rfl, h5⟩)
end
def tEltL (te : TE) (D : Addr) : TB := fun σ H Q => te σ H fun y H1 => ∃ acc : List V, H1 D = some (.lst acc) ∧ acc.length < sizeLine ∧ Q (upd H1 D (.lst (acc ++ [y])))
section
variable {Y : Cx} {elt tg iter ee : Expr} {gs : List Comprehension} {scope : Scope} {cp : Pos} {ifs : List Expr} {te : TE} {D : Addr} {wi : TI} {g : TG} {tt : TT} {tb : TB} {vs vs' : List Nat} {j : Nat} {acc : Value} {body : Sem Unit}
theorem pb_eltL (hx : Y.xe = NoE) (he : PE Y elt te) : PB Y (do let v ← eval elt Y.env; let _ ← call (.builtin "list.append") [.ref D, v]) [] (tEltL te D) := by
  refine ⟨fun pins s σ H Q I h => ?_⟩
  have z := he.run pins s σ H _ I h
  rw [hx] at z
  refine wpAny_bind (thnF z fun u s1 ⟨y, H1, I1, r, l, hD, room, q⟩ => ?_)
  exact wpAny_bind (app_ok I1 hD room r fun s2 I2 => wpAny_pure ⟨_, I2, q⟩)
theorem pb_nestL (sub : ∀ i ∈ vs', i ∈ vs) (hc : Y.calm = true) (hx : Y.xe = NoE) (hi : PI Y tg iter wi) (hg : PG Y tg g) (ht : PTs Y ifs tt) (hb : PB Y body vs' tb) (hs : ∀ x, foldedSetIterable iter Y.env x = pure x)
    (hturn : ∀ it, compTurn (.ListComp ee gs scope cp) j (.ref it) acc Y.env = turnOf tg iter.pos ifs body (.ListComp ee gs scope cp) j (.ref it) acc Y.env) (hst : StartOk (.ListComp ee gs scope cp) j acc Y.env) :
    PB Y (do let x ← eval iter Y.env; standAt iter.pos; let x ← foldedSetIterable iter Y.env x; let _ ← runOwn (.compStart (.ListComp ee gs scope cp) j (← holding [x] (pyIter x)) acc Y.env) Y.env) vs (tNest wi g tt tb vs) := by
  refine ⟨fun pins s σ H Q I h => ?_⟩
  have z := hi.run pins s σ H _ I h
  rw [hx] at z
  refine wpAny_bind (thnF z fun xv s1 hv => ?_)
  refine wpAny_bind (wpAny_standAt (wpAny_bind (wpAny_of_eq (hs xv) (wpAny_bind (wpAny_holding (thnF hv fun itv s2 h2 => ?_))))))
  obtain ⟨it, fp, tn, J, H1, e, I1, T, st, fo, W, ⟨m0, w0⟩, turn⟩ := h2
  subst e
  refine wpAny_bind (wpAny_runOwn ?_)
  rw [Around.mark_none]
  have stat : ∀ {H' : Hp}, (∀ b ∈ fp, H' b = none) → ∀ b ∈ fp, FpOk Y pins H' b := fun hn b hb => ⟨hn b hb, (fo b hb).2⟩
  have loop : codeAny (model Y.prog Y.w) Y.A (.compLoop (.ListComp ee gs scope cp) j (.ref it) acc Y.env) (fun r s' => match r with
      | .ok _ => ∃ H', Inv Y pins (wipe σ vs) H' s' ∧ Q H'
      | .error _ => False) s2 := by
    refine loop_genL (hturn it) (fun k s' => ∃ i H', Inv Y pins (wipe σ vs) H' s' ∧ tn i s'.heap ∧ (∀ b ∈ fp, H' b = none) ∧ W i k H') ?_ m0 ⟨0, H1, I1.weak (wipe_length _ _) (fun j v e => (wipe_some e).1), st, fun b hb => (fo b hb).1, w0⟩
    rintro k s3 ⟨i, H3, I3, st3, n3, w3⟩
    rcases turn i k H3 w3 with ⟨stop, q⟩ | ⟨go, Nx, hNx, step⟩
    · refine thnF (T.done Y rfl rfl rfl hc i _ s3 (wipe σ vs) H3 NoE I3 (stat n3) st3 stop) fun r s4 ⟨hr, I4⟩ => ?_
      subst hr
      exact ⟨H3, I4, q⟩
    · refine thnF (T.item Y rfl rfl rfl hc i _ s3 (wipe σ vs) H3 NoE I3 (stat n3) st3 go) fun r s4 ⟨u, hr, h4⟩ => ?_
      subst hr
      refine thnF h4 fun _ s5 ⟨x, H5, I5, r5, y5, st5, n5⟩ => ?_
      have I5' := I5.pinned (stat n5) (T.obj _ _ st5)
      have z6 := hg.run _ s5 (wipe σ vs) H5 x u _ I5' r5 (step x H5 y5)
      rw [hx] at z6
      refine thnF z6 fun _ s6 ⟨σ6, H6, I6, hw, q6⟩ => ?_
      have z7 := ht.run _ s6 σ6 H6 _ I6 q6
      rw [hx] at z7
      refine thnF z7 fun b s7 ⟨H7, I7, q7⟩ => ?_
      have fin : ∀ {vs1 : List Nat} {s' : Shared} {H' : Hp}, (∀ i ∈ vs1, i ∈ vs) → Inv Y (pins ++ pinsAt fp s5.heap) (wipe σ6 vs1) H' s' → Nx H' → ∃ m, m < k ∧ ∃ i H', Inv Y pins (wipe σ vs) H' s' ∧ tn i s'.heap ∧ (∀ b ∈ fp, H' b = none) ∧ W i m H' := fun {vs1 s' H'} hv I' nx => by
        obtain ⟨m', hm, w'⟩ := hNx H' nx
        have pin' : ∀ b ∈ fp, ∀ o, s5.heap.get? b = some o → s'.heap.get? b = some o ∧ H' b = none := fun b hb o e =>
          let z := I'.pin (b, o) (List.mem_append_right _ (List.mem_append_right _ (mem_pinsAt hb e)))
          ⟨z.1, z.2.1⟩
        refine ⟨m', hm, i + 1, H', I'.unpinned.weak (by rw [← hw, wipe_length, wipe_length]) (fun j v e => ?_), T.keep _ _ _ st5 fun b hb o e => (pin' b hb o e).1, fun b hb => ?_, w'⟩
        · rw [← hw] at e
          obtain ⟨e1, e2⟩ := wipe_some e
          rw [wipe_out fun z => e2 (hv j z)]
          exact e1
        · obtain ⟨o, e, _⟩ := T.obj _ _ st5 b hb
          exact (pin' b hb o e).2
      cases b with
      | false =>
        simp only [Bool.false_eq_true, if_false] at q7 ⊢
        exact fin (vs1 := []) (fun i z => nomatch z) I7 q7
      | true =>
        simp only [if_true] at q7 ⊢
        exact thnF (hb.run _ s7 σ6 H7 _ I7 q7) fun _ s8 ⟨H8, I8, q8⟩ => fin sub I8 q8
  refine codeAny_mono (hst _ _ _ _ _ _ loop fun E => T.self Y.A 0 _ _ _ st loop) fun r s' hr => ?_
  cases r with
  | ok f =>
    first
      | exact wpAny_pure hr
      | exact wpAny_bind (wpAny_pure (wpAny_pure hr))
  | error e => exact hr.elim
end
def tLcN (wi : TI) (g : TG) (tt : TT) (tb : Addr → TB) (vs : List Nat) : TE := fun σ H Q => wi σ H fun J H1 => ∀ D, H1 D = none → ∃ W : Nat → Nat → Hp → Prop, (∃ m, W 0 m (upd H1 D (.lst []))) ∧ ∀ i m H, W i m H →
  (J.stop i H ∧ Q (.ref D) H) ∨ (J.go i H ∧ ∃ Nx : Hp → Prop, (∀ H', Nx H' → ∃ m', m' < m ∧ W (i + 1) m' H') ∧ ∀ x H', J.yld i H x H' → g x (wipe σ vs) H' fun σ2 H2 => wipe σ2 vs = wipe σ vs ∧ tt σ2 H2 fun b H3 => if b = true then tb D σ2 H3 Nx else Nx H3)
section
variable {X : Cx} {elt tg iter : Expr} {ifs : List Expr} {gs : List Comprehension} {scope : Scope} {own : List (PySem.Str × Nat)} {cp : Pos} {wi : TI} {g : TG} {tt : TT} {tb : Addr → TB} {body : Addr → Env → Sem Unit} {vs' : List Nat}
theorem lcN_core {pins : List (Addr × Obj)} {s : Shared} {σ : L2.St} {H : Hp} {Q : VK} {use : Option (Value → Sem Unit)} {Qf : Value → Shared → Prop} {cp2 : Pos} (hc : X.calm = true) (hN : X.N.Nodup) (I : Inv X pins σ H s) (hi : PI X tg iter wi) (ok : BlkOk X.N X.env.scope scope own) (sub : ∀ i ∈ vs', i ∈ own.map (·.2))
    (hg : ∀ (s : Shared) (H : Hp) (C : Addr) (cl : List (PySem.Str × Addr)) (fp : List Addr), PG (X.blk s H scope (compEnvC scope cl C X.env) fp) tg g)
    (ht : ∀ (s : Shared) (H : Hp) (C : Addr) (cl : List (PySem.Str × Addr)) (fp : List Addr), PTs (X.blk s H scope (compEnvC scope cl C X.env) fp) ifs tt)
    (hb : ∀ (s : Shared) (H : Hp) (C : Addr) (cl : List (PySem.Str × Addr)) (fp : List Addr) (D : Addr), PB (X.blk s H scope (compEnvC scope cl C X.env) fp) (body D (compEnvC scope cl C X.env)) vs' (tb D))
    (hturn : ∀ it D env, compTurn (.ListComp elt (⟨tg, iter, ifs, 0⟩ :: gs) scope cp) 0 (.ref it) (.ref D) env = turnOf tg iter.pos ifs (body D env) (.ListComp elt (⟨tg, iter, ifs, 0⟩ :: gs) scope cp) 0 (.ref it) (.ref D) env)
    (hs : ∀ x, foldedSetIterable iter X.env x = pure x) (h : tLcN wi g tt tb (own.map (·.2)) σ H Q)
    (hRR : ∀ D C s' m H', Inv X pins σ H' s' → Q (.ref D) H' → s'.heap.Ns C m → FpOk X pins H' C → compPost (model X.prog X.w) X.A X.xe use Qf (.ref D) C (.ok .next) s') :
    wpAny (model X.prog X.w) X.A (comprehension (.ListComp elt (⟨tg, iter, ifs, 0⟩ :: gs) scope cp) scope X.env cp2 (newList []) false (eval iter X.env) use) Qf X.xe s := by
  have fr : ∀ y ∈ scope.names, y.2 = .free → ∃ c, X.env.cells.lookup y.1 = some c := fun y hy e => I.ok.has _ (ok.free y hy e)
  refine wpAny_comprehension_free (use := use) rfl hs (closure_ok fr) ok.kind (fun y hy e => by rw [ok.uniq y hy, e]) (thn (hi.run pins s σ H _ I h) fun xv sa hx => thn hx fun itv sb hb' => ?_)
  obtain ⟨it, fp, tn, J, Hb, e, Ib, T, stb, fb, q⟩ := hb'
  subst e
  refine wpAny_newObj_type (newEnv_comp ?_) (by show 0 ≤ sizeLine; decide)
  obtain ⟨D, hD⟩ : ∃ D, sb.heap.objs.size = D := ⟨_, rfl⟩
  have hDn : Hb D = none := Ib.hok.fresh (Nat.le_of_eq hD)
  obtain ⟨W, ⟨m0, w0⟩, turn⟩ := q D hDn
  obtain ⟨sc, hsc⟩ : ∃ sc : Shared, ({ sb with heap := sb.heap.push { cls := .type "list", data := .seq ([] : List Value).toArray } } : Shared) = sc := ⟨_, rfl⟩
  have hch : sc.heap = sb.heap.push { cls := .type "list", data := .seq ([] : List Value).toArray } := by rw [← hsc]
  have Ic : Inv X pins σ (upd Hb D (.lst [])) sc := by
    rw [← hsc]
    refine Ib.laid (t' := sb.toks) (fun b o z => Heap.get?_push_of_some _ z) (Nat.le_of_eq hD) ?_
    rw [← hD]
    exact ⟨Nat.zero_le _, [], 0, .nil, Heap.get?_push_size _ rfl⟩
  have lt : ∀ b ∈ fp, b < sb.heap.objs.size := fun b hb => let ⟨o, z, _⟩ := T.obj _ _ stb b hb; Heap.lt_size z
  have fc : ∀ b ∈ fp, FpOk X pins (upd Hb D (.lst [])) b ∧ b < sc.heap.objs.size := fun b hb =>
    ⟨⟨by rw [upd_ne (by rw [← hD]; exact Nat.ne_of_lt (lt b hb))]; exact (fb b hb).1, (fb b hb).2⟩, by rw [hch, Heap.size_push]; exact Nat.lt_succ_of_lt (lt b hb)⟩
  have stc : tn 0 sc.heap := T.keep _ _ _ stb fun b _ o z => by rw [hch]; exact Heap.get?_push_of_some _ z
  have Id0 := block_start Ic ok hN fc
  rw [hD]
  have pg := hg sc (upd Hb D (.lst [])) sc.heap.objs.size (cellsFrom (sc.heap.objs.size + 1) scope.names (cloFrom X.env.cells scope.names [])) fp
  have pt := ht sc (upd Hb D (.lst [])) sc.heap.objs.size (cellsFrom (sc.heap.objs.size + 1) scope.names (cloFrom X.env.cells scope.names [])) fp
  have pb := hb sc (upd Hb D (.lst [])) sc.heap.objs.size (cellsFrom (sc.heap.objs.size + 1) scope.names (cloFrom X.env.cells scope.names [])) fp D
  rw [show ({ sb with heap := sb.heap.push { cls := .type "list", data := .seq ([] : List Value).toArray } } : Shared) = sc from hsc]
  obtain ⟨ce, hce⟩ : ∃ ce, compEnvC scope (cellsFrom (sc.heap.objs.size + 1) scope.names (cloFrom X.env.cells scope.names [])) sc.heap.objs.size X.env = ce := ⟨_, rfl⟩
  have cL : ce.locals = sc.heap.objs.size := by rw [← hce] <;> rfl
  obtain ⟨Hc, hHc⟩ : ∃ Hc, upd Hb D (.lst []) = Hc := ⟨_, rfl⟩
  obtain ⟨sd, hsd⟩ : ∃ sd : Shared, ({ sc with heap := pushCells (sc.heap.push { cls := .type "dict", data := .dict #[] }) scope.names } : Shared) = sd := ⟨_, rfl⟩
  have kd : ∀ b o, sc.heap.get? b = some o → sd.heap.get? b = some o := fun b o z => by rw [← hsd]; exact pushCells_keeps _ _ _ _ (Heap.get?_push_of_some _ z)
  rw [hce] at Id0 pg pt pb
  rw [hHc] at Id0 pg pt pb w0 Ic fc
  rw [hsd] at Id0
  have std : tn 0 sd.heap := T.keep _ _ _ stc fun b _ o z => kd b o z
  have stat : ∀ {σ' : L2.St} {H' : Hp} {s' : Shared}, Inv (X.blk sc Hc scope ce fp) [] σ' H' s' → (∀ b ∈ fp, H' b = none) → ∀ b ∈ fp, FpOk (X.blk sc Hc scope ce fp) [] H' b := fun {σ' H' s'} I' hn b hb =>
    ⟨hn b hb, (I'.ok.exf b hb).1, I'.ok.exfs b hb, .inl hb, fun x c z => (I'.ok.exf b hb).2 x c z, fun p hp => absurd (show p ∈ ([] : List (Addr × Obj)) ++ [] from hp) (by simp)⟩
  have loop : codeAny (model X.prog X.w) X.A (.compLoop (.ListComp elt (⟨tg, iter, ifs, 0⟩ :: gs) scope cp) 0 (.ref it) (.ref D) ce) (compPost (model X.prog X.w) X.A X.xe use Qf (.ref D) sc.heap.objs.size) sd := by
    refine loop_genL (hturn it D ce) (fun n s' => ∃ i H', Inv (X.blk sc Hc scope ce fp) [] (wipe σ (own.map (·.2))) H' s' ∧ tn i s'.heap ∧ (∀ b ∈ fp, H' b = none) ∧ W i n H') ?_ m0 ⟨0, Hc, Id0, std, fun b hb => (fc b hb).1.1, w0⟩
    rintro n s5 ⟨i, H5, I5, st5, n5, w5⟩
    rcases turn i n H5 w5 with ⟨stop, qq⟩ | ⟨go, Nx, hNx, step⟩
    · refine thnF (T.done (X.blk sc Hc scope ce fp) rfl rfl rfl hc i [] s5 _ H5 NoE I5 (stat I5 n5) st5 stop) fun r s6 ⟨hr, I6⟩ => ?_
      subst hr
      have I7 : Inv X pins σ H5 s6 := Ic.call' (ch := fp) I6.os I6.base I6.hok I6.bare fun b hb => ⟨(fc b hb).1.2.2.2.1, (fc b hb).1.2.1, (fc b hb).1.2.2.2.2.1, (fc b hb).1.2.2.2.2.2⟩
      have nC : H5 sc.heap.objs.size = none := by
        have z : H5 ce.locals = none := I6.free
        rw [cL] at z
        exact z
      obtain ⟨m, hn, _⟩ := I6.loc
      have hn : s6.heap.Ns ce.locals m := hn
      rw [cL] at hn
      exact hRR D _ _ m H5 I7 qq hn (Ic.fpOk (Nat.le_refl _) nC)
    · refine thnF (T.item (X.blk sc Hc scope ce fp) rfl rfl rfl hc i [] s5 _ H5 NoE I5 (stat I5 n5) st5 go) fun r s6 ⟨u, hr, h6⟩ => ?_
      subst hr
      refine thnF h6 fun _ s7 ⟨x, H7, I7, r7, y7, st7, n7⟩ => ?_
      have J7 := I7.pinned (stat I7 n7) (T.obj _ _ st7)
      refine thnF (pg.run _ s7 _ H7 x u _ J7 r7 (step x H7 y7)) fun _ s8 ⟨σ8, H8, I8, hw8, q8⟩ => ?_
      refine thnF (pt.run _ s8 σ8 H8 _ I8 q8) fun b s9 ⟨H9, I9, q9⟩ => ?_
      have fin : ∀ {vs1 : List Nat} {s' : Shared} {H' : Hp}, (∀ i ∈ vs1, i ∈ own.map (·.2)) → Inv (X.blk sc Hc scope ce fp) ([] ++ pinsAt fp s7.heap) (wipe σ8 vs1) H' s' → Nx H' → ∃ m, m < n ∧ ∃ i H', Inv (X.blk sc Hc scope ce fp) [] (wipe σ (own.map (·.2))) H' s' ∧ tn i s'.heap ∧ (∀ b ∈ fp, H' b = none) ∧ W i m H' := fun {vs1 s' H'} hv I' nx => by
        obtain ⟨m', hm, w'⟩ := hNx H' nx
        have pin' : ∀ b ∈ fp, ∀ o, s7.heap.get? b = some o → s'.heap.get? b = some o ∧ H' b = none := fun b hb o z =>
          let k := I'.pin (b, o) (List.mem_append_right _ (List.mem_append_right _ (mem_pinsAt hb z)))
          ⟨k.1, k.2.1⟩
        refine ⟨m', hm, i + 1, H', (I'.unpinned (pins := [])).weak (by rw [← hw8, wipe_length, wipe_length]) (fun j v z => ?_), T.keep _ _ _ st7 fun b hb o z => (pin' b hb o z).1, fun b hb => ?_, w'⟩
        · rw [← hw8] at z
          obtain ⟨e1, e2⟩ := wipe_some z
          rw [wipe_out fun k => e2 (hv j k)]
          exact e1
        · obtain ⟨o, z, _⟩ := T.obj _ _ st7 b hb
          exact (pin' b hb o z).2
      cases b with
      | false =>
        simp only [Bool.false_eq_true, if_false] at q9 ⊢
        exact fin (vs1 := []) (fun i z => nomatch z) I9 q9
      | true =>
        simp only [if_true] at q9 ⊢
        exact thnF (pb.run _ s9 σ8 H9 _ I9 q9) fun _ s10 ⟨H10, I10, q10⟩ => fin sub I10 q10
  rw [← hce] at loop
  rw [← hsd] at loop
  exact codeAny_compStart_list loop (T.self X.A 0 _ _ _ (by rw [hsd]; exact std) loop)
end
/-! three clauses -/
section
variable {elt t0 i0 t1 i1 t2 i2 : Expr} {f0 f1 f2 : List Expr} {scope : Scope} {cp : Pos}
theorem start1L (acc : Value) (env : Env) : StartOk (.ListComp elt [⟨t0, i0, f0, 0⟩, ⟨t1, i1, f1, 0⟩, ⟨t2, i2, f2, 0⟩] scope cp) 1 acc env := by
  intro P w A R s it h0 h
  refine codeAny_of_tree ?_
  show wpAny _ _ ((compStart (.ListComp elt [⟨t0, i0, f0, 0⟩, ⟨t1, i1, f1, 0⟩, ⟨t2, i2, f2, 0⟩] scope cp) 1 it acc env).onRaise (fun x => do noteFrame x env; standAt theWindowsPlace)) _ _ s
  refine wpAny_notedAt ?_
  unfold compStart
  show wpAny _ _ (ask >>= _) _ _ s
  refine wpAny_bind (wpAny_askSetting (wpAny_ite ?_))
  split
  · first
      | exact wpAny_bind (wpAny_pure (wpAny_pure (And.intro rfl h0)))
      | exact wpAny_pure (And.intro rfl h0)
  · refine wpAny_bind (wpAny_rule ?_)
    show wpAny _ _ (standAt i1.pos >>= _) _ _ s
    exact wpAny_bind (wpAny_standAt (wpAny_bind (thn (h _) fun it' s' h' => wpAny_pure (And.intro rfl h'))))
theorem start2L (acc : Value) (env : Env) : StartOk (.ListComp elt [⟨t0, i0, f0, 0⟩, ⟨t1, i1, f1, 0⟩, ⟨t2, i2, f2, 0⟩] scope cp) 2 acc env := by
  intro P w A R s it h0 h
  refine codeAny_of_tree ?_
  show wpAny _ _ ((compStart (.ListComp elt [⟨t0, i0, f0, 0⟩, ⟨t1, i1, f1, 0⟩, ⟨t2, i2, f2, 0⟩] scope cp) 2 it acc env).onRaise (fun x => do noteFrame x env; standAt theWindowsPlace)) _ _ s
  refine wpAny_notedAt ?_
  unfold compStart
  show wpAny _ _ (ask >>= _) _ _ s
  refine wpAny_bind (wpAny_askSetting (wpAny_ite ?_))
  split
  · first
      | exact wpAny_bind (wpAny_pure (wpAny_pure (And.intro rfl h0)))
      | exact wpAny_pure (And.intro rfl h0)
  · refine wpAny_bind (wpAny_rule ?_)
    show wpAny _ _ (standAt i2.pos >>= _) _ _ s
    exact wpAny_bind (wpAny_standAt (wpAny_bind (thn (h _) fun it' s' h' => wpAny_pure (And.intro rfl h'))))
abbrev c3L (elt t0 i0 t1 i1 t2 i2 : Expr) (f0 f1 f2 : List Expr) (scope : Scope) (cp : Pos) : Expr := .ListComp elt [⟨t0, i0, f0, 0⟩, ⟨t1, i1, f1, 0⟩, ⟨t2, i2, f2, 0⟩] scope cp
abbrev bEltL (elt : Expr) (D : Addr) (env : Env) : Sem Unit := do let v ← eval elt env; let _ ← call (.builtin "list.append") [.ref D, v]
abbrev bNestL (c : Expr) (j : Nat) (iter : Expr) (D : Addr) (env : Env) : Sem Unit := do let x ← eval iter env; standAt iter.pos; let x ← foldedSetIterable iter env x; let _ ← runOwn (.compStart c j (← holding [x] (pyIter x)) (.ref D) env) env
theorem turn3L_0 (it D : Addr) (env : Env) : compTurn (c3L elt t0 i0 t1 i1 t2 i2 f0 f1 f2 scope cp) 0 (.ref it) (.ref D) env = turnOf t0 i0.pos f0 (bNestL (c3L elt t0 i0 t1 i1 t2 i2 f0 f1 f2 scope cp) 1 i1 D env) (c3L elt t0 i0 t1 i1 t2 i2 f0 f1 f2 scope cp) 0 (.ref it) (.ref D) env := by
  have e : compTurn (c3L elt t0 i0 t1 i1 t2 i2 f0 f1 f2 scope cp) 0 (.ref it) (.ref D) env = (do
      standAt i0.pos
      match ← pyNext (.ref it) with
      | none => pure (.done .next)
      | some v =>
        letOwnedTupleGo t0 (.ref it) v
        assign t0 env v
        let mut ok := true
        for c in f0 do
          if ok then ok ← isTrue c env (eval c env)
        if ok then
          let x ← eval i1 env
          standAt i1.pos
          let x ← foldedSetIterable i1 env x
          let _ ← runOwn (.compStart (c3L elt t0 i0 t1 i1 t2 i2 f0 f1 f2 scope cp) 1 (← holding [x] (pyIter x)) (.ref D) env) env
        again (.compLoop (c3L elt t0 i0 t1 i1 t2 i2 f0 f1 f2 scope cp) 0 (.ref it) (.ref D) env)) := by rfl
  rw [e]
  unfold turnOf
  simp only [bind_assoc, pure_bind]
  all_goals rfl
theorem turn3L_1 (it D : Addr) (env : Env) : compTurn (c3L elt t0 i0 t1 i1 t2 i2 f0 f1 f2 scope cp) 1 (.ref it) (.ref D) env = turnOf t1 i1.pos f1 (bNestL (c3L elt t0 i0 t1 i1 t2 i2 f0 f1 f2 scope cp) 2 i2 D env) (c3L elt t0 i0 t1 i1 t2 i2 f0 f1 f2 scope cp) 1 (.ref it) (.ref D) env := by
  have e : compTurn (c3L elt t0 i0 t1 i1 t2 i2 f0 f1 f2 scope cp) 1 (.ref it) (.ref D) env = (do
      standAt i1.pos
      match ← pyNext (.ref it) with
      | none => pure (.done .next)
      | some v =>
        letOwnedTupleGo t1 (.ref it) v
        assign t1 env v
        let mut ok := true
        for c in f1 do
          if ok then ok ← isTrue c env (eval c env)
        if ok then
          let x ← eval i2 env
          standAt i2.pos
          let x ← foldedSetIterable i2 env x
          let _ ← runOwn (.compStart (c3L elt t0 i0 t1 i1 t2 i2 f0 f1 f2 scope cp) 2 (← holding [x] (pyIter x)) (.ref D) env) env
        again (.compLoop (c3L elt t0 i0 t1 i1 t2 i2 f0 f1 f2 scope cp) 1 (.ref it) (.ref D) env)) := by rfl
  rw [e]
  unfold turnOf
  simp only [bind_assoc, pure_bind]
  all_goals rfl
theorem turn3L_2 (it D : Addr) (env : Env) : compTurn (c3L elt t0 i0 t1 i1 t2 i2 f0 f1 f2 scope cp) 2 (.ref it) (.ref D) env = turnOf t2 i2.pos f2 (bEltL elt D env) (c3L elt t0 i0 t1 i1 t2 i2 f0 f1 f2 scope cp) 2 (.ref it) (.ref D) env := by rfl
end
section
variable {X : Cx} {elt t0 i0 t1 i1 t2 i2 : Expr} {f0 f1 f2 : List Expr} {scope : Scope} {own : List (PySem.Str × Nat)} {cp : Pos} {w0 w1 w2 : TI} {g0 g1 g2 : TG} {tt0 tt1 tt2 : TT} {te : TE} {vs1 vs2 : List Nat}
theorem ps_setLc3 {i : Nat} {y : PySem.Str} {py spos : Pos} (hc : X.calm = true) (hN : X.N.Nodup) (hy : X.N[i]? = some y) (hyl : X.env.scope.names.lookup y = some .local)
    (hsw : swapsWith (c3L elt t0 i0 t1 i1 t2 i2 f0 f1 f2 scope cp) (some (.Name y py)) spos.line X.env = pure true) (hi : PI X t0 i0 w0) (ok : BlkOk X.N X.env.scope scope own) (h1 : ∀ i ∈ vs1, i ∈ own.map (·.2)) (h2 : ∀ i ∈ vs2, i ∈ vs1)
    (hg0 : ∀ (s : Shared) (H : Hp) (C : Addr) (cl : List (PySem.Str × Addr)) (fp : List Addr), PG (X.blk s H scope (compEnvC scope cl C X.env) fp) t0 g0)
    (ht0 : ∀ (s : Shared) (H : Hp) (C : Addr) (cl : List (PySem.Str × Addr)) (fp : List Addr), PTs (X.blk s H scope (compEnvC scope cl C X.env) fp) f0 tt0)
    (hi1 : ∀ (s : Shared) (H : Hp) (C : Addr) (cl : List (PySem.Str × Addr)) (fp : List Addr), PI (X.blk s H scope (compEnvC scope cl C X.env) fp) t1 i1 w1)
    (hg1 : ∀ (s : Shared) (H : Hp) (C : Addr) (cl : List (PySem.Str × Addr)) (fp : List Addr), PG (X.blk s H scope (compEnvC scope cl C X.env) fp) t1 g1)
    (ht1 : ∀ (s : Shared) (H : Hp) (C : Addr) (cl : List (PySem.Str × Addr)) (fp : List Addr), PTs (X.blk s H scope (compEnvC scope cl C X.env) fp) f1 tt1)
    (hi2 : ∀ (s : Shared) (H : Hp) (C : Addr) (cl : List (PySem.Str × Addr)) (fp : List Addr), PI (X.blk s H scope (compEnvC scope cl C X.env) fp) t2 i2 w2)
    (hg2 : ∀ (s : Shared) (H : Hp) (C : Addr) (cl : List (PySem.Str × Addr)) (fp : List Addr), PG (X.blk s H scope (compEnvC scope cl C X.env) fp) t2 g2)
    (ht2 : ∀ (s : Shared) (H : Hp) (C : Addr) (cl : List (PySem.Str × Addr)) (fp : List Addr), PTs (X.blk s H scope (compEnvC scope cl C X.env) fp) f2 tt2)
    (he : ∀ (s : Shared) (H : Hp) (C : Addr) (cl : List (PySem.Str × Addr)) (fp : List Addr), PE (X.blk s H scope (compEnvC scope cl C X.env) fp) elt te)
    (hs : ∀ x, foldedSetIterable i0 X.env x = pure x := by intro _; rfl) (hs1 : ∀ env x, foldedSetIterable i1 env x = pure x := by intro _ _; rfl) (hs2 : ∀ env x, foldedSetIterable i2 env x = pure x := by intro _ _; rfl) :
    PS X (.Assign [.Name y py] (c3L elt t0 i0 t1 i1 t2 i2 f0 f1 f2 scope cp) spos) (tAsg (tLcN w0 g0 tt0 (fun D => tNest w1 g1 tt1 (tNest w2 g2 tt2 (tEltL te D) vs2) vs1) (own.map (·.2))) (gName i)) := by
  refine ⟨fun pins s σ H D I h => ?_⟩
  rw [exec_Assign_Name_used _ _ _ _ hsw]
  refine wpAny_bind (wpAny_standAt (wpAny_bind ?_))
  show wpAny _ X.A (do let _ ← comprehension (c3L elt t0 i0 t1 i1 t2 i2 f0 f1 f2 scope cp) scope X.env (firstIterPos [⟨t0, i0, f0, 0⟩, ⟨t1, i1, f1, 0⟩, ⟨t2, i2, f2, 0⟩] cp) (newList []) false (eval i0 X.env) (some (assign (.Name y py) X.env))) _ _ s
  have h : tLcN w0 g0 tt0 (fun D => tNest w1 g1 tt1 (tNest w2 g2 tt2 (tEltL te D) vs2) vs1) (own.map (·.2)) σ H (fun x H1 => gName i x σ H1 D.nx) := h
  refine wpAny_bind (thn (lcN_core (gs := [⟨t1, i1, f1, 0⟩, ⟨t2, i2, f2, 0⟩]) (Qf := fun _ s' => SP X pins D .next s') (body := fun D env => bNestL (c3L elt t0 i0 t1 i1 t2 i2 f0 f1 f2 scope cp) 1 i1 D env) hc hN I hi ok h1 hg0 ht0
    (fun s H C cl fp D => pb_nestL (ee := elt) (gs := [⟨t0, i0, f0, 0⟩, ⟨t1, i1, f1, 0⟩, ⟨t2, i2, f2, 0⟩]) (scope := scope) (cp := cp) (Y := X.blk s H scope (compEnvC scope cl C X.env) fp) h2 hc rfl (hi1 s H C cl fp) (hg1 s H C cl fp) (ht1 s H C cl fp)
      (pb_nestL (ee := elt) (gs := [⟨t0, i0, f0, 0⟩, ⟨t1, i1, f1, 0⟩, ⟨t2, i2, f2, 0⟩]) (scope := scope) (cp := cp) (Y := X.blk s H scope (compEnvC scope cl C X.env) fp) (vs' := []) (fun i z => nomatch z) hc rfl (hi2 s H C cl fp) (hg2 s H C cl fp) (ht2 s H C cl fp)
        (pb_eltL (Y := X.blk s H scope (compEnvC scope cl C X.env) fp) rfl (he s H C cl fp)) (hs2 _) (fun it => turn3L_2 it D _) (start2L _ _))
      (hs1 _) (fun it => turn3L_1 it D _) (start1L _ _))
    (fun it D env => turn3L_0 it D env) hs h fun L C s' m H' I' q hn fr => ?_) fun _ s' hq => wpAny_pure (wpAny_pure hq))
  show wpAny _ _ (assign (.Name y py) X.env (.ref L)) _ _ _
  obtain ⟨e0, e1, e2, e3, e4, e5⟩ := fr
  refine wpAny_assign_Name (store_ok2 (v := V.ref L) I' hN hy (.inl hyl) rfl (fun s2 I2 ⟨a, sb, ha⟩ => ?_) (.inr hyl))
  have nCa : C ≠ a := by
    rcases ha with z | z
    · rw [z]
      exact e1
    · exact fun e => e4 y a z e.symm
  refine ⟨m, hn.sameBut sb nCa, fun h3 sb3 => ⟨_, H', I2.turned (t' := s2.toks) (fun b o hb z => (sb3.2 b hb).trans z) e0 e1 e3 e4 e5, q⟩⟩
end
end Kx
namespace Kx
open PySem L2 PySem.Spec PyProof.Rows
abbrev sWorth : Stmt := top 28
abbrev sHolds : Stmt := top 29
/-- what the dict tells of a term, "" being 0 -/
def Worth (kvs : List (Key × V)) (f : Str → Int) (t : Str) : Prop := (t = "" ∧ f t = 0) ∨ (t ≠ "" ∧ valV kvs (.inr t) = some (.int (f t)))
def spWorth : Sp := fun vs H Q _ => ∃ (t : Str) (d : Addr) (kvs : List (Key × V)) (f : Str → Int), vs = [.str t, .ref d] ∧ H d = some (.dK kvs) ∧ Worth kvs f t ∧ Q (.int (f t)) H
def holds (f : Str → Int) (c : List Lit) : Bool := c.any fun l => decide (f l.1 ≤ f l.2.1 + l.2.2)
def spHolds (K : PySem.W.Frag) : Sp := fun vs H Q _ => ∃ (a d : Addr) (xs : List V) (c : List Lit) (kvs : List (Key × V)) (f : Str → Int), vs = [.ref a, .ref d] ∧ Cl K H a xs c ∧ H d = some (.dK kvs) ∧ (∀ l ∈ c, Worth kvs f l.1 ∧ Worth kvs f l.2.1) ∧ ∀ H', Same H H' → Q (.bl (holds f c)) H'
section
variable {P : Program} {w : World} {K : PySem.W.Frag} {mg : Str → Option Value} {base : Heap}
theorem scWorth : FnScope ["term", "values"] ["term", "values"] (defScope sWorth) := ⟨rfl, rfl, rfl, by decide +kernel, rfl, by decide +kernel, by decide +kernel⟩
theorem ok_worth {f : Addr} {fd : FuncData} (F : Fun K "_worth" "_worth" sWorth f fd) : FnOk P w K mg base CX0 1 f fd ["term", "values"] spWorth := by
  refine F.ok scWorth (fun vs H Q E h => ?_) (fun cdv A outer s H vs Q E hr h => ?_)
  · obtain ⟨t, d, kvs, f, rfl, _⟩ := h
    rfl
  · obtain ⟨t, d, kvs, f, rfl, hd, hw, q⟩ := h
    have hu := hu_of hr
    refine ⟨_, pss_one (ps_ret (pe_ifExp (pt_cmpR op_eq (pv 0) pe_str (nomark _)) pe_int (pe_dget hu (pv 1) (pv 0) (fun _ _ => rfl)))), ?_⟩
    refine ⟨_, rfl, rfl, _, rfl, ?_⟩
    rcases hw with ⟨e, e0⟩ | ⟨e, e1⟩
    · rw [e0] at q
      rw [show decide (V.str t = V.str "") = true from by rw [e]; exact decide_eq_true rfl]
      exact iteT q
    · rw [show decide (V.str t = V.str "") = false from decide_eq_false fun z => e (V.str.inj z)]
      refine iteF ⟨_, rfl, _, rfl, d, .int (f t), rfl, ?_, q⟩
      have g := DGet.k (k := .inr t) hd
      rw [e1] at g
      exact g
theorem scHolds : FnScope ["clause", "values", "left", "right", "number"] ["clause", "values"] (defScope sHolds) := ⟨rfl, rfl, rfl, by decide +kernel, rfl, by decide +kernel, by decide +kernel⟩
theorem ok_holds {f g : Addr} {fd fdW : FuncData} (F : Fun K "_holds" "_holds" sHolds f fd) (W : Fs K mg "_worth" sWorth ["term", "values"] g fdW) (hany : mg "any" = none) : FnOk P w K mg base CX0 2 f fd ["clause", "values"] (spHolds K) := by
  have GW : FnOk P w K mg base CX0 1 g fdW ["term", "values"] spWorth := ok_worth W.F
  refine F.ok scHolds (fun vs H Q E h => ?_) (fun cdv A outer s H vs Q E hr h => ?_)
  · obtain ⟨a, d, xs, c, kvs, f, rfl, _⟩ := h
    rfl
  · obtain ⟨a, d, xs, c, kvs, f, rfl, hc, hd, hw, q⟩ := h
    refine ⟨_, pss_one (ps_ret (pe_callB (cr_any rfl) (by rfl) hany (by decide +kernel) (pa_cons
      (pe_lc (own := [("left", 2), ("right", 3), ("number", 4)]) (g := gTup K 3 (gCons (gName 2) (gCons (gName 3) (gCons (gName 4) gNil)))) (tt := tYes) rfl scHolds.nd (pi_tup (pv 0)) (blkOk_by (N := ["clause", "values", "left", "right", "number"]) (sc := defScope sHolds) (by decide +kernel))
        (fun _ _ _ _ _ => pg_tup rfl (pgs_cons (pg_name (i := 2) scHolds.nd rfl (Or.inl rfl)) (pgs_cons (pg_name (i := 3) scHolds.nd rfl (Or.inl rfl)) (pgs_cons (pg_name (i := 4) scHolds.nd rfl (Or.inl rfl)) pgs_nil)))) (fun _ _ _ _ _ => pts_nil)
        (fun _ _ _ _ _ => pe_cmpR op_le (pe_call GW hr (by rfl) W.m W.F.kp W.b .nil pass0 (pa_cons (pv 2) (pa_cons (pv 1) pa_nil))) (pe_op op_add (pe_call GW hr (by rfl) W.m W.F.kp W.b .nil pass0 (pa_cons (pv 3) (pa_cons (pv 1) pa_nil))) (pv 4)) (nomark _))) pa_nil))), ?_⟩
    have hl := hc.len
    refine ⟨_, rfl, a, rfl, ⟨_, hc.sq⟩, fun D hD => ?_⟩
    refine lc_it (walk_tup (xs := xs)) (fun i H2 => Same H H2 ∧ H2 D = some (.lst ((c.take i).map fun l => .bl (decide (f l.1 ≤ f l.2.1 + l.2.2))))) ⟨new_same hD, upd_same⟩ (fun i H2 _ h => SqT.same h.1 hc.sq) ?_ ?_
    · rintro i x H2 H3 hi ⟨s2, gD⟩ ⟨rfl, hx⟩
      obtain ⟨l, hcl, hx'⟩ := paired_get hc.p hx
      obtain ⟨b, rfl, hb⟩ := IsLit.same s2 hx'
      obtain ⟨w1, w2⟩ := hw l (List.mem_of_getElem? hcl)
      refine ⟨b, _, rfl, hb, rfl, _, _, rfl, _, _, rfl, _, _, rfl, rfl, ?_⟩
      refine ⟨rfl, yes_of ?_⟩
      refine ⟨_, rfl, _, rfl, l.1, d, kvs, f, rfl, s2 _ _ hd, w1, _, rfl, _, rfl, l.2.1, d, kvs, f, rfl, s2 _ _ hd, w2, _, rfl, _, _, rfl, rfl, _, _, rfl, rfl, ?_⟩
      refine ⟨_, gD, small1000 (by rw [List.length_map, List.length_take]; have := hc.l2; omega), same_upd hD s2, ?_⟩
      rw [upd_same, List.take_add_one, hcl, List.map_append]
      rfl
    · rintro H2 ⟨s2, gD⟩
      refine ⟨D, c.map fun l => decide (f l.1 ≤ f l.2.1 + l.2.2), rfl, SqL.of ?_, ?_⟩
      · rw [gD, hl, List.take_of_length_le (Nat.le_refl _), List.map_map]
        rfl
      · have e : holds f c = (c.map fun l => decide (f l.1 ≤ f l.2.1 + l.2.2)).any id := by
          unfold holds
          rw [List.any_map]
          rfl
        rw [← e]
        exact q H2 s2
end
end Kx
namespace Kx
open PySem L2 PySem.Spec PyProof.Rows
abbrev sBroken : Stmt := top 30
/-- the index of the first clause that does not hold -/
def broken (f : Str → Int) : Nat → List (List Lit) → Option Nat
  | _, [] => none
  | i, c :: cs => if holds f c = true then broken f (i + 1) cs else some i
def vOpt : Option Nat → V
  | none => .non
  | some i => .int (i : Nat)
theorem broken_all {f : Str → Int} {cs : List (List Lit)} {i : Nat} : (broken f i cs).isNone = cs.all (holds f) := by
  induction cs generalizing i with
  | nil => rfl
  | cons c cs ih =>
    unfold broken
    cases hc : holds f c with
    | true => rw [if_pos rfl, ih, List.all_cons, hc, Bool.true_and]
    | false => rw [if_neg (by simp), List.all_cons, hc, Bool.false_and]; rfl
def spBroken (K : PySem.W.Frag) : Sp := fun vs H Q _ => ∃ (p d : Addr) (xs : List V) (cs : List (List Lit)) (kvs : List (Key × V)) (f : Str → Int), vs = [.ref p, .ref d] ∧ Cs K H p xs cs ∧ H d = some (.dK kvs) ∧ (∀ c ∈ cs, ∀ l ∈ c, Worth kvs f l.1 ∧ Worth kvs f l.2.1) ∧ ∀ H', Same H H' → Q (vOpt (broken f 0 cs)) H'
section
variable {P : Program} {w : World} {K : PySem.W.Frag} {mg : Str → Option Value} {base : Heap}
abbrev nBk : List Str := ["clauses", "values", "at", "clause"]
theorem scBroken : FnScope nBk ["clauses", "values"] (defScope sBroken) := ⟨rfl, rfl, rfl, by decide +kernel, rfl, by decide +kernel, by decide +kernel⟩
theorem ok_broken {f g g2 : Addr} {fd fdH fdW : FuncData} (F : Fs K mg "first_broken" sBroken ["clauses", "values"] f fd) (Hd : Fs K mg "_holds" sHolds ["clause", "values"] g fdH) (Wd : Fs K mg "_worth" sWorth ["term", "values"] g2 fdW) (hany : mg "any" = none) (henum : mg "enumerate" = none) : FnOk P w K mg base CX0 3 f fd ["clauses", "values"] (spBroken K) := by
  have GH : FnOk P w K mg base CX0 2 g fdH ["clause", "values"] (spHolds K) := ok_holds Hd.F Wd hany
  refine F.F.ok scBroken (fun vs H Q E h => ?_) (fun cdv A outer s H vs Q E hr h => ?_)
  · obtain ⟨p, d, xs, cs, kvs, f, rfl, _⟩ := h
    rfl
  · obtain ⟨p, d, xs, cs, kvs, f, rfl, hc, hd, hw, q⟩ := h
    have hl : xs.length = cs.length := Paired.length hc.p
    obtain ⟨R, hR⟩ : ∃ R, broken f 0 cs = R := ⟨_, rfl⟩
    rw [hR] at q
    refine ⟨_, pss_cons (ps_for PassesOwn.never rfl (pi_enumT (by rfl) henum (pa_cons (pv 0) pa_nil)) (pg_tup rfl (pgs_cons (pg_name (i := 2) scBroken.nd rfl (Or.inl rfl)) (pgs_cons (pg_name (i := 3) scBroken.nd rfl (Or.inl rfl)) pgs_nil)))
        (pss_one (ps_if (pt_not (pt_val (pe_call GH hr (by rfl) Hd.m Hd.F.kp Hd.b .nil pass0 (pa_cons (pv 3) (pa_cons (pv 1) pa_nil))))) (pss_one (ps_ret (pv 2))) pss_nil)))
      (pss_one (ps_ret pe_non)), ?_⟩
    refine ⟨_, rfl, p, xs, rfl, hc.sq, ?_⟩
    refine for_enumT (xs := xs) (fun i σ H2 => Same H H2 ∧ ∃ (v2 v3 : Option V), σ = [some (.ref p), some (.ref d), v2, v3] ∧ broken f i (cs.drop i) = R) ⟨fun _ _ z => z, none, none, rfl, hR⟩
      (fun i σ H2 _ h => SqT.same h.1 hc.sq) ?_ ?_
    · rintro i x σ H2 t hx ⟨s2, v2, v3, rfl, hb⟩ ht
      obtain ⟨c, hcl, y, ys, rfl, hy⟩ := paired_get hc.p hx
      have hdrop : cs.drop i = c :: cs.drop (i + 1) := (List.drop_eq_getElem?_toList_append).trans (by rw [hcl]; rfl)
      rw [hdrop] at hb
      have s3 : Same H (upd H2 t (.tup [.int (i : Nat), .ref y])) := fun b u z => new_same ht b u (s2 b u z)
      have hy3 := Cl.same s3 hy
      refine ⟨t, _, rfl, SqT.of upd_same, rfl, _, _, rfl, _, _, rfl, rfl, ?_⟩
      refine ⟨_, rfl, _, rfl, y, d, ys, c, kvs, f, rfl, hy3, s3 _ _ hd, fun l hm => hw c (List.mem_of_getElem? hcl) l hm, fun H4 s4 => ⟨_, rfl, ?_⟩⟩
      have s14 : Same H H4 := fun b u z => s4 b u (s3 b u z)
      unfold broken at hb
      cases hst : holds f c with
      | false =>
        rw [hst, if_neg Bool.false_ne_true] at hb
        rw [← hb] at q
        exact iteT ⟨_, rfl, q H4 s14⟩
      | true =>
        rw [hst, if_pos rfl] at hb
        exact iteF ⟨s14, _, _, rfl, hb⟩
    · rintro σ H2 ⟨s2, v2, v3, rfl, hb⟩
      rw [List.drop_of_length_le (by rw [hl]; exact Nat.le_refl _)] at hb
      rw [← hb] at q
      exact q H2 s2
end
end Kx
namespace Kx
open PySem L2 PySem.Spec PyProof.Rows
abbrev sCall : Stmt := mth 1
abbrev nCl : List Str := ["self", "values", "clause", "left", "right", "_", "term"]
section
variable {P : Program} {w : World} {K : PySem.W.Frag} {mg : Str → Option Value} {base : Heap}
theorem sc_NoValue : FnScope ["self", "term"] ["self", "term"] (defScope (inClass (top 4) 0)) := ⟨rfl, rfl, rfl, by decide +kernel, rfl, by decide +kernel, by decide +kernel⟩
theorem ok_NoValue {f : Addr} {fd : FuncData} (F : Fun K "__init__" "NoValue.__init__" (inClass (top 4) 0) f fd) : FnOk P w K mg base CX0 1 f fd ["self", "term"] (spI K ["term"]) := by
  refine F.ok sc_NoValue (fun vs H Q E h => ?_) (fun cdv A outer s H vs Q E hr h => ?_)
  · obtain ⟨a, B, C, ws, rfl, hl, _⟩ := h
    show ws.length + 1 = 2
    rw [hl] <;> rfl
  · obtain ⟨a, B, C, ws, rfl, hl, T, hno, ha, k⟩ := h
    obtain ⟨v0, rfl⟩ : ∃ v0, ws = [v0] := match ws, hl with | [v0], _ => ⟨v0, rfl⟩
    refine ⟨_, pss_one (ps_ost (pv 0) (pv 1)), ?_⟩
    refine ⟨_, rfl, _, rfl, a, C, rfl, T.oex, hno _ (by simp), .inl ⟨ha, fun dx n1 n2 => ?_⟩⟩
    exact k dx _ n1 n2 upd_same (by rw [upd_ne n2, upd_same]; rfl) (fun b h1 h2 => by rw [upd_ne h1, upd_ne h2])
end
structure NoV (K : PySem.W.Frag) (mg : Str → Option Value) (B CN f : Addr) (fd : FuncData) : Prop where
  T : Ct K B CN
  no : ∀ x ∈ ([("term" : Str)] : List Str), PySem.W.findIn K (.ref CN) x = some none
  iC : PySem.W.findIn K (.ref CN) "__init__" = some (some (.ref f))
  tI : PySem.W.typeIn K (.ref f) = some (.type "function")
  F : Fun K "__init__" "NoValue.__init__" (inClass (top 4) 0) f fd
  b : Binds K fd ["self", "term"] []
  gm : mg "NoValue" = some (.ref CN)
/-- the terms in the order in which they are asked -/
def asked (cs : List (List Lit)) : List Str := cs.flatMap fun c => c.flatMap fun l => [l.1, l.2.1]
def okT (kvs : List (Key × V)) (t : Str) : Prop := t = "" ∨ (valV kvs (.inr t)).isSome = true
def missing (CN : Addr) (E : XK) : Hp → Str → Prop := fun H1 t => ∀ d H', Same H1 H' → H' d = some (exd d [("term", .str t)]) → E (.ref CN) (some d) H'
def spCall (K : PySem.W.Frag) (C CN : Addr) : Sp := fun vs H Q E => ∃ (a d dx p q : Addr) (cs : List (List Lit)) (ys : List Str) (kvs : List (Key × V)) (f : Str → Int), vs = [.ref a, .ref d] ∧ CondF K H a C dx p q cs ys ∧ H d = some (.dK kvs) ∧ (∀ t ∈ asked cs, okT kvs t → Worth kvs f t) ∧
  ((∀ t ∈ asked cs, okT kvs t) → ∀ H', Same H H' → Q (.bl (cs.all (holds f))) H') ∧ ∀ pre t rest, asked cs = pre ++ t :: rest → (∀ x ∈ pre, okT kvs x) → ¬ okT kvs t → missing CN E H t
abbrev asC (c : List Lit) : List Str := c.flatMap fun l => [l.1, l.2.1]
theorem split_at {α : Type} {l : List α} {i : Nat} {x : α} (h : l[i]? = some x) : l = l.take i ++ x :: l.drop (i + 1) := by
  obtain ⟨hi, e⟩ := List.getElem?_eq_some_iff.mp h
  rw [← e, List.getElem_cons_drop, List.take_append_drop]
theorem asked_split {cs : List (List Lit)} {c : List Lit} {l : Lit} {t : Str} {i j k : Nat} (h1 : cs[i]? = some c) (h2 : c[j]? = some l) (h3 : [l.1, l.2.1][k]? = some t) : ∃ rest, asked cs = (asked (cs.take i) ++ asC (c.take j) ++ [l.1, l.2.1].take k) ++ t :: rest := by
  refine ⟨[l.1, l.2.1].drop (k + 1) ++ asC (c.drop (j + 1)) ++ asked (cs.drop (i + 1)), ?_⟩
  have e3 := split_at h3
  have e2 : asC c = asC (c.take j) ++ ([l.1, l.2.1] ++ asC (c.drop (j + 1))) := by
    have z := congrArg asC (split_at h2)
    rw [show asC (c.take j ++ l :: c.drop (j + 1)) = asC (c.take j) ++ ([l.1, l.2.1] ++ asC (c.drop (j + 1))) from List.flatMap_append] at z
    exact z
  have e1 : asked cs = asked (cs.take i) ++ (asC c ++ asked (cs.drop (i + 1))) := by
    have z := congrArg asked (split_at h1)
    rw [show asked (cs.take i ++ c :: cs.drop (i + 1)) = asked (cs.take i) ++ (asC c ++ asked (cs.drop (i + 1))) from List.flatMap_append] at z
    exact z
  rw [e1, e2]
  simp only [List.append_assoc]
  congr 2
  rw [← List.append_assoc, ← List.append_assoc]
  conv => lhs; rw [e3]
  simp only [List.append_assoc, List.cons_append]
theorem asked_app (a b : List (List Lit)) : asked (a ++ b) = asked a ++ asked b := List.flatMap_append
section
variable {P : Program} {w : World} {K : PySem.W.Frag} {mg : Str → Option Value} {base : Heap} {B CN fN C : Addr} {fdN : FuncData}
theorem scCall : FnScope nCl ["self", "values"] (defScope sCall) := ⟨rfl, rfl, rfl, by decide +kernel, rfl, by decide +kernel, by decide +kernel⟩
theorem ok_call {f g g2 g3 : Addr} {fd fdH fdW fdB : FuncData} (F : Fun K "__call__" "Cond.__call__" sCall f fd) (hcl : Cls K C) (hnc : NoAttr K C "clauses") (N : NoV K mg B CN fN fdN) (Hd : Fs K mg "_holds" sHolds ["clause", "values"] g fdH) (Wd : Fs K mg "_worth" sWorth ["term", "values"] g2 fdW) (Bd : Fs K mg "first_broken" sBroken ["clauses", "values"] g3 fdB) (hany : mg "any" = none) (henum : mg "enumerate" = none) :
    FnOk P w K mg base (L2N.CX P w) 4 f fd ["self", "values"] (spCall K C CN) := by
  obtain ⟨oc, od, kV, doc, pm, an, cdv, ct, osl, rfl, lk, hcd⟩ := F.ex
  have GB : FnOk P w K mg base CX0 3 g3 fdB ["clauses", "values"] (spBroken K) := ok_broken Bd Hd Wd hany henum
  refine fn_of lk hcd scCall (fun vs H Q E h => ?_) fun A outer s H vs Q E hr h => ?_
  · obtain ⟨a, d, dx, p, q, cs, ys, kvs, f, rfl, _⟩ := h
    rfl
  · obtain ⟨a, d, dx, p, q, cs, ys, kvs, f0, rfl, ha, hd, hwo, qn, qf⟩ := h
    have tk : L2N.Takes (cxOf (L2N.CX P w) P w K mg base nCl "Cond.__call__" (defScope sCall) f cdv A outer s H E) (fun cls d _ H => E cls d H) := L2N.takes_of rfl rfl rfl rfl
    have hu : (cxOf (L2N.CX P w) P w K mg base nCl "Cond.__call__" (defScope sCall) f cdv A outer s H E).A.units + 1 < cLine := hu_of hr
    refine ⟨_, pss_cons (ps_for (passes_of rfl) rfl (pi_tup (pe_fld (pv 0) (by rfl))) (pg_name (i := 2) scCall.nd rfl (Or.inl rfl))
        (pss_one (ps_for (passes_of rfl) rfl (pi_tup (pv 2)) (pg_tup rfl (pgs_cons (pg_name (i := 3) scCall.nd rfl (Or.inl rfl)) (pgs_cons (pg_name (i := 4) scCall.nd rfl (Or.inl rfl)) (pgs_cons (pg_name (i := 5) scCall.nd rfl (Or.inl rfl)) pgs_nil))))
          (pss_one (ps_for (passes_of rfl) rfl (pi_tup (pe_tup (pa_cons (pv 3) (pa_cons (pv 4) pa_nil)))) (pg_name (i := 6) scCall.nd rfl (Or.inl rfl))
            (pss_one (ps_if (PW.pt (pw_and (pt_cmpR op_ne (pv 6) pe_str (nomark _)) (pw_and1 (pt_cmp (pc_dnotin hu (pv 6) (pv 1)) (by with_unfolding_all rfl)))))
              (pss_one (L2N.ps_raise rfl tk (by exact (pmkN_err (X := cxOf (L2N.CX P w) P w K mg base nCl "Cond.__call__" (defScope sCall) f cdv A outer s H E) (K := K) (H0 := H) rfl rfl rfl
                (pe_err (ns := ["term"]) (X := cxOf (L2N.CX P w) P w K mg base nCl "Cond.__call__" (defScope sCall) f cdv A outer s H E) N.T N.no N.iC N.tI (ok_NoValue N.F) (hr.mono (by decide)) N.b pass0 N.gm (pa_cons (pv 6) pa_nil)))))) pss_nil)))))))
      (pss_one (ps_ret (pe_cmpR op_isN (pe_call GB hr (by rfl) Bd.m Bd.F.kp Bd.b .nil pass0 (pa_cons (pe_fld (pv 0) (by rfl)) (pa_cons (pv 1) pa_nil))) pe_non (nomark _)))), ?_⟩
    obtain ⟨xs, hc⟩ := ha.cl
    have hl : xs.length = cs.length := Paired.length hc.p
    refine ⟨_, rfl, a, C, dx, _, .ref p, rfl, ha.ins, hcl, hnc, rfl, p, rfl, ⟨_, hc.sq⟩, ?_⟩
    refine for_tup (xs := xs) (fun i σ H3 => (∃ o2 o3 o4 o5 o6, σ = [some (.ref a), some (.ref d), o2, o3, o4, o5, o6]) ∧ Same H H3 ∧ ∀ t ∈ asked (cs.take i), okT kvs t) ⟨⟨_, _, _, _, _, rfl⟩, fun _ _ z => z, fun t ht => nomatch ht⟩ (fun i σ H3 _ h => SqT.same h.2.1 hc.sq) ?_ ?_
    · rintro i x σ H3 hx ⟨⟨o2, o3, o4, o5, o6, rfl⟩, s3, hok⟩
      obtain ⟨c, hci, b, zs, rfl, hb⟩ := paired_get hc.p hx
      have hzl : zs.length = c.length := hb.len
      refine ⟨_, rfl, b, rfl, ⟨_, SqT.same s3 hb.sq⟩, ?_⟩
      refine for_tup (xs := zs) (fun j σ H4 => (∃ o3 o4 o5 o6, σ = [some (.ref a), some (.ref d), some (.ref b), o3, o4, o5, o6]) ∧ Same H H4 ∧ ∀ t ∈ asked (cs.take i) ++ asC (c.take j), okT kvs t) ⟨⟨_, _, _, _, rfl⟩, s3, fun t ht => hok t (by rw [show asC (c.take 0) = [] from rfl, List.append_nil] at ht; exact ht)⟩ (fun j σ H4 _ h => SqT.same h.2.1 hb.sq) ?_ ?_
      · rintro j x σ H4 hx4 ⟨⟨o3, o4, o5, o6, rfl⟩, s4, hok4⟩
        obtain ⟨l, hlj, e, rfl, he⟩ := paired_get hb.p hx4
        refine ⟨e, _, rfl, SqT.same s4 he, rfl, _, _, rfl, _, _, rfl, _, _, rfl, rfl, ?_⟩
        refine ⟨_, rfl, _, rfl, by show 2 ≤ sizeLine; decide, fun q5 h5 => ⟨q5, rfl, ⟨_, SqT.of upd_same⟩, ?_⟩⟩
        refine for_tup (xs := [V.str l.1, V.str l.2.1]) (fun k σ H6 => (∃ o6, σ = [some (.ref a), some (.ref d), some (.ref b), some (.str l.1), some (.str l.2.1), some (.int l.2.2), o6]) ∧ Same H H6 ∧ H6 q5 = some (.tup [.str l.1, .str l.2.1]) ∧ ∀ t ∈ asked (cs.take i) ++ asC (c.take j) ++ [l.1, l.2.1].take k, okT kvs t)
          ⟨⟨_, rfl⟩, fun b u z => new_same h5 _ _ (s4 _ _ z), upd_same, fun t ht => hok4 t (by rw [show [l.1, l.2.1].take 0 = ([] : List Str) from rfl, List.append_nil] at ht; exact ht)⟩ (fun k σ H6 _ h => SqT.of h.2.2.1) ?_ ?_
        · rintro k x σ H6 hx6 ⟨⟨o6, rfl⟩, s6, g6, hok6⟩
          obtain ⟨t, ht, rfl⟩ : ∃ t, [l.1, l.2.1][k]? = some t ∧ x = .str t := by
            have e : [V.str l.1, V.str l.2.1] = [l.1, l.2.1].map V.str := rfl
            rw [e, List.getElem?_map] at hx6
            obtain ⟨t, h1, h2⟩ := Option.map_eq_some_iff.mp hx6
            exact ⟨t, h1, h2.symm⟩
          have more : okT kvs t → ∀ x ∈ asked (cs.take i) ++ asC (c.take j) ++ [l.1, l.2.1].take (k + 1), okT kvs x := fun h x hx => by
            rw [List.take_add_one, ht, ← List.append_assoc] at hx
            rcases List.mem_append.mp hx with z | z
            · exact hok6 x z
            · rw [List.mem_singleton.mp (show x ∈ [t] from z)]
              exact h
          refine ⟨_, rfl, rfl, _, rfl, ?_⟩
          by_cases hz : t = ""
          · rw [show (!decide (V.str t = V.str "")) = false from by rw [hz]; decide]
            exact iteF (iteF ⟨⟨_, rfl⟩, s6, g6, more (.inl hz)⟩)
          rw [show (!decide (V.str t = V.str "")) = true from by rw [decide_eq_false fun z => hz (V.str.inj z)]; rfl]
          refine iteT ⟨_, rfl, _, rfl, d, valV kvs (.inr t), rfl, DGet.k (k := .inr t) (s6 _ _ hd), _, rfl, ?_⟩
          by_cases hs : (valV kvs (.inr t)).isSome = true
          · rw [hs]
            exact iteF ⟨⟨_, rfl⟩, s6, g6, more (.inr hs)⟩
          · rw [Bool.not_eq_true] at hs
            rw [hs]
            refine iteT ⟨_, rfl, rfl, (by show 1 ≤ 100; decide), fun e' H7 n7 h7 s7 => ?_⟩
            obtain ⟨d', hne, h7a, h7d⟩ := h7
            obtain ⟨rest, hr'⟩ := asked_split hci hlj ht
            refine ⟨e', B, CN, d', rfl, N.T, h7a, fr0_none (Same.free s6 n7), qf _ t rest hr' hok6 (fun z => z.elim hz fun y => by rw [hs] at y; cases y) d' _ (fun b u z => del_keep s7 n7 _ _ (s6 _ _ z)) ((delH_ne hne).trans h7d)⟩
        · rintro σ H6 ⟨⟨o6, rfl⟩, s6, g6, hok6⟩
          refine ⟨⟨_, _, _, _, rfl⟩, s6, fun t ht => hok6 t ?_⟩
          rw [List.take_add_one, hlj] at ht
          have e : asC (c.take j ++ (some l).toList) = asC (c.take j) ++ [l.1, l.2.1] := List.flatMap_append
          rw [e, ← List.append_assoc] at ht
          exact ht
      · rintro σ H4 ⟨⟨o3, o4, o5, o6, rfl⟩, s4, hok4⟩
        refine ⟨⟨_, _, _, _, _, rfl⟩, s4, fun t ht => hok4 t ?_⟩
        rw [hzl, List.take_of_length_le (Nat.le_refl _)]
        rw [List.take_add_one, hci] at ht
        have e : asked (cs.take i ++ (some c).toList) = asked (cs.take i) ++ (asC c ++ []) := List.flatMap_append
        rw [e, List.append_nil] at ht
        exact ht
    · rintro σ H3 ⟨⟨o2, o3, o4, o5, o6, rfl⟩, s3, hok⟩
      rw [hl, List.take_of_length_le (Nat.le_refl _)] at hok
      have hin : ∀ c ∈ cs, ∀ l ∈ c, l.1 ∈ asked cs ∧ l.2.1 ∈ asked cs := fun c hcm l hl => ⟨List.mem_flatMap.mpr ⟨c, hcm, List.mem_flatMap.mpr ⟨l, hl, by simp⟩⟩, List.mem_flatMap.mpr ⟨c, hcm, List.mem_flatMap.mpr ⟨l, hl, by simp⟩⟩⟩
      refine ⟨_, rfl, a, C, dx, _, .ref p, rfl, s3 _ _ ha.ins, hcl, hnc, rfl, _, rfl, p, d, xs, cs, kvs, f0, rfl, Cs.same s3 hc, s3 _ _ hd, fun c hc l hl => ⟨hwo _ (hin c hc l hl).1 (hok _ (hin c hc l hl).1), hwo _ (hin c hc l hl).2 (hok _ (hin c hc l hl).2)⟩, fun H4 s4 => ?_⟩
      have e : decide (vOpt (broken f0 0 cs) = V.non) = cs.all (holds f0) := by
        rw [← broken_all (i := 0)]
        cases broken f0 0 cs with
        | none => rfl
        | some i => rfl
      refine ⟨rfl, ?_⟩
      show Q (V.bl (decide (vOpt (broken f0 0 cs) = V.non))) H4
      rw [e]
      exact qn hok H4 fun b u z => s4 _ _ (s3 _ _ z)
end
end Kx
set_option linter.all false
namespace Kx
open PySem L2 PySem.Spec PyProof.Rows
abbrev sTms : Stmt := top 92
abbrev nTms : List Str := ["clauses", "terms", "clause", "literal", "term"]
theorem scTms : FnScope nTms ["clauses"] (defScope sTms) := ⟨rfl, rfl, rfl, by decide +kernel, rfl, by decide +kernel, by decide +kernel⟩
/-! the terms of clauses, and their picks -/
structure SmC (cs : List (List Lit)) : Prop where
  n : cs.length ≤ 4
  l : ∀ c ∈ cs, 1 ≤ c.length ∧ c.length ≤ 2
abbrev noRE (t : Str) : Bool := !inV (.str t) [.str "", .str RES]
def tmsOf (cs : List (List Lit)) : List Str := (asked cs).filter noRE
theorem noRE_eq (t : Str) : noRE t = (!decide (t = "") && !decide (t = RES)) := by
  unfold noRE inV
  rw [Bool.eq_iff_iff]
  simp only [List.any_cons, List.any_nil, Bool.or_false, Bool.not_or, Bool.and_eq_true, Bool.not_eq_true', eqV, decide_eq_false_iff_not]
  constructor
  · rintro ⟨a, b⟩
    exact ⟨fun z => by rw [z] at a; simp at a, fun z => by rw [z] at b; simp at b⟩
  · rintro ⟨a, b⟩
    exact ⟨by simpa using fun z => a z.symm, by simpa using fun z => b z.symm⟩
def spTms (K : PySem.W.Frag) : Sp := fun vs H Q _ => ∃ (p : Addr) (xs : List V) (cs : List (List Lit)), vs = [.ref p] ∧ Cs K H p xs cs ∧ SmC cs ∧ ∀ L H', H L = none → Same H H' → H' L = some (.lst ((tmsOf cs).map V.str)) → Q (.ref L) H'
section
variable {P : Program} {w : World} {K : PySem.W.Frag} {mg : Str → Option Value} {base : Heap}
theorem asked_take (cs : List (List Lit)) (h : ∀ c ∈ cs, c.length ≤ 2) : (asked cs).length ≤ 4 * cs.length := by
  induction cs with
  | nil => exact Nat.le_refl _
  | cons c r ih =>
    have h1 := h c List.mem_cons_self
    have h2 := ih fun d hd => h d (List.mem_cons_of_mem _ hd)
    have e : asked (c :: r) = asC c ++ asked r := rfl
    have e2 : (asC c).length = 2 * c.length := by
      clear h1 e h2 ih h
      induction c with
      | nil => rfl
      | cons l r2 ih2 =>
        have : asC (l :: r2) = [l.1, l.2.1] ++ asC r2 := rfl
        rw [this, List.length_append, ih2, List.length_cons]
        simp only [List.length_cons, List.length_nil]
        omega
    rw [e, List.length_append, e2, List.length_cons]
    omega
theorem ok_tms {g : Addr} {fd : FuncData} (F : Fs K mg "_terms" sTms ["clauses"] g fd) (hRES : ∃ t, mg "RESULT" = some (.str RES t)) : FnOk P w K mg base CX0 1 g fd ["clauses"] (spTms K) := by
  obtain ⟨tR, hRES⟩ := hRES
  refine F.F.ok scTms (fun vs H Q E h => ?_) (fun cdv A outer s H vs Q E hr h => ?_)
  · obtain ⟨_, _, _, rfl, _⟩ := h
    rfl
  · obtain ⟨p, xs, cs, rfl, hC, sm, q⟩ := h
    have hRr : RelV (.str RES) (Value.str RES tR) := ⟨_, rfl⟩
    refine ⟨_, (pss_cons (ps_setLc3 (g0 := gName 2) (g1 := gName 3) (g2 := gName 4) (tt0 := tYes) (tt1 := tYes) (tt2 := tYes) (w1 := iTup K (tVar 2)) (w2 := iTup K (tSl (rSlA K) (tVar 3) tNoPart (tPart (tC (.int 2))))) (te := tVar 4) (i := 1) (own := [("clause", 2), ("literal", 3), ("term", 4)]) (vs1 := [3, 4]) (vs2 := [4]) rfl scTms.nd rfl rfl (sw_true rfl rfl rfl rfl) (pi_tup (pv 0)) (blkOk_by (N := nTms) (sc := defScope sTms) (by decide +kernel)) (by decide) (by decide) (fun _ _ _ _ _ => (pg_name (i := 2) scTms.nd rfl (Or.inl rfl))) (fun _ _ _ _ _ => pts_nil) (fun _ _ _ _ _ => (pi_tup (pv 2))) (fun _ _ _ _ _ => (pg_name (i := 3) scTms.nd rfl (Or.inl rfl))) (fun _ _ _ _ _ => pts_nil) (fun _ _ _ _ _ => (pi_tup (pe_slice sl_tupA (pv 3) po_none (po_some pe_int)))) (fun _ _ _ _ _ => (pg_name (i := 4) scTms.nd rfl (Or.inl rfl))) (fun _ _ _ _ _ => pts_nil) (fun _ _ _ _ _ => (pv 4))) (pss_one (ps_ret (pe_lc (own := [("term", 4)]) (g := gName 4) rfl scTms.nd (pi_list (pv 1)) (blkOk_by (N := nTms) (sc := defScope sTms) (by decide +kernel)) (fun _ _ _ _ _ => (pg_name (i := 4) scTms.nd rfl (Or.inl rfl))) (fun _ _ _ _ _ => (pts_one (pt_cmpR (op_notIn_seqK (K := K) rfl) (pv 4) (pe_tup (pa_cons pe_str (pa_cons (pe_glob (v := .str RES) (by rfl) hRES hRr) pa_nil))) (by with_unfolding_all rfl)))) (fun _ _ _ _ _ => (pv 4)))))), ?_⟩
    refine ⟨_, rfl, p, rfl, ⟨_, hC.sq⟩, fun D hD => ?_⟩
    have hl : xs.length = cs.length := Paired.length hC.p
    refine walk_it (walk_tup (xs := xs)) (fun i H3 => Same H H3 ∧ H3 D = some (.lst ((asked (cs.take i)).map V.str))) ⟨new_same hD, upd_same⟩ (fun i H3 _ h => SqT.same h.1 hC.sq) ?_ ?_
    · rintro i x H3 H4 hi ⟨s3, gD⟩ ⟨rfl, hx⟩
      obtain ⟨c, hcl, b, ys, rfl, hb⟩ := paired_get hC.p hx
      have hcm : c ∈ cs := List.mem_of_getElem? hcl
      have c2 := (sm.l c hcm).2
      have hyl : ys.length = c.length := hb.len
      have la : (asked (cs.take i)).length ≤ 16 := by
        have := asked_take (cs.take i) fun d hd => (sm.l d (List.mem_of_mem_take hd)).2
        have := sm.n
        rw [List.length_take] at *
        omega
      refine ⟨rfl, yes_of ⟨_, rfl, b, rfl, ⟨_, SqT.same s3 hb.sq⟩, ?_⟩⟩
      refine walk_it (walk_tup (xs := ys)) (fun j H5 => Same H H5 ∧ H5 D = some (.lst ((asked (cs.take i) ++ asC (c.take j)).map V.str))) ⟨s3, by rw [gD]; simp⟩ (fun j H5 _ h => SqT.same h.1 hb.sq) ?_ ?_
      · rintro j x H5 H6 hj ⟨s5, g5⟩ ⟨rfl, hx5⟩
        obtain ⟨lt, hlt, e, rfl, he⟩ := paired_get hb.p hx5
        obtain ⟨t1, t2, n⟩ := lt
        have he5 := SqT.same s5 he
        refine ⟨rfl, yes_of ?_⟩
        refine ⟨_, rfl, _, rfl, e, _, rfl, he5, fun z => absurd z.2 (by show ¬ HT.sIx 3 3 (some 2) = 3; decide), fun _ q5 hq5 => ?_⟩
        have s6 : Same H6 (upd H6 q5 (.tup [.str t1, .str t2])) := new_same hq5
        have nq : q5 ≠ D := fun z => by
          rw [z, g5] at hq5
          cases hq5
        have lj : (asC (c.take j)).length ≤ 2 * j := by
          have : ∀ d : List Lit, (asC d).length = 2 * d.length := fun d => by
            induction d with
            | nil => rfl
            | cons l r2 ih2 =>
              have : asC (l :: r2) = [l.1, l.2.1] ++ asC r2 := rfl
              rw [this, List.length_append, ih2, List.length_cons]
              simp only [List.length_cons, List.length_nil]
              omega
          rw [this, List.length_take]
          omega
        refine ⟨q5, rfl, ⟨_, SqT.of upd_same⟩, ?_⟩
        refine walk_it (walk_tup (xs := [V.str t1, V.str t2])) (fun k H7 => Same H H7 ∧ H7 q5 = some (.tup [.str t1, .str t2]) ∧ H7 D = some (.lst ((asked (cs.take i) ++ asC (c.take j) ++ [t1, t2].take k).map V.str)))
          ⟨s5.trans s6, upd_same, (by rw [upd_ne (Ne.symm nq), g5]; simp)⟩ (fun k H7 _ h => SqT.of h.2.1) ?_ ?_
        · rintro k x H7 H8 hk ⟨s7, g7, gD7⟩ ⟨rfl, hx7⟩
          obtain ⟨t, ht, rfl⟩ : ∃ t, [t1, t2][k]? = some t ∧ x = .str t := by
            have e : [V.str t1, V.str t2] = [t1, t2].map V.str := rfl
            rw [e, List.getElem?_map] at hx7
            obtain ⟨t, h1, h2⟩ := Option.map_eq_some_iff.mp hx7
            exact ⟨t, h1, h2.symm⟩
          have hk2 : k < 2 := hk
          have et : [t1, t2].take (k + 1) = [t1, t2].take k ++ [t] := take_snoc ht
          refine ⟨rfl, yes_of ⟨_, rfl, _, gD7, ?_, ?_, ?_, ?_⟩⟩
          · rw [List.length_map, List.length_append, List.length_append, List.length_take]
            have : 40 ≤ sizeLine := le_sz (by decide)
            simp only [List.length_cons, List.length_nil]
            omega
          · exact same_upd hD s7
          · rw [upd_ne nq]; exact g7
          · rw [upd_same, et]
            simp
        · rintro H7 ⟨s7, g7, gD7⟩
          refine ⟨s7, ?_⟩
          rw [gD7, take_snoc hlt]
          congr 3
          show _ ++ [t1, t2] = _
          unfold asC
          rw [List.flatMap_append, List.append_assoc]
          rfl
      · rintro H5 ⟨s5, g5⟩
        refine ⟨s5, ?_⟩
        rw [g5, hyl, List.take_of_length_le (Nat.le_refl _), take_snoc hcl]
        congr 3
        unfold asked
        rw [List.flatMap_append]
        simp
    · rintro H3 ⟨s3, gD⟩
      rw [hl, List.take_of_length_le (Nat.le_refl _)] at gD
      have la : (asked cs).length ≤ 16 := by
        have := asked_take cs fun d hd => (sm.l d hd).2
        have := sm.n
        omega
      refine ⟨_, rfl, D, rfl, ⟨_, SqL.of gD⟩, fun L hL => ?_⟩
      have nLD : L ≠ D := fun z => by rw [z, gD] at hL; cases hL
      refine lc_list (K := K) (a := D) (xs := (asked cs).map V.str) (g := gName 4) (fun i H5 => Same H3 H5 ∧ H5 L = some (.lst ((((asked cs).take i).filter noRE).map V.str))) ⟨new_same hL, upd_same⟩ (fun i H5 _ h => SqL.same h.1 (SqL.of gD)) ?_ ?_
      · rintro i x H5 hi ⟨s5, g5⟩
        obtain ⟨rfl, hm⟩ := get_str hi
        have hi2 : i < (asked cs).length := by
          have := (List.getElem?_eq_some_iff.mp hi).1
          rwa [List.length_map] at this
        have ex : (asked cs)[i]? = some ((asked cs).getD i "") := by simp only [List.getD, List.getElem?_eq_getElem hi2, Option.getD_some]
        obtain ⟨t, ht⟩ : ∃ t, (asked cs).getD i "" = t := ⟨_, rfl⟩
        rw [ht] at ex ⊢
        have e6 : (((asked cs).take (i + 1)).filter noRE) = ((asked cs).take i).filter noRE ++ (if noRE t = true then [t] else []) := by
          rw [take_snoc ex, List.filter_append, List.filter_cons, List.filter_nil]
        refine ⟨rfl, _, rfl, le_sz (Nat.le_of_ble_eq_true rfl), fun p6 hp6 => ?_⟩
        have s6 : Same H5 (upd H5 p6 (.tup [.str "", .str RES])) := new_same hp6
        refine ⟨p6, _, rfl, .inr (SqT.of upd_same), rfl, rfl, noRE t, rfl, ?_⟩
        have gL := s6 _ _ g5
        obtain ⟨H6, e66⟩ : ∃ G, upd H5 p6 (.tup [.str "", .str RES]) = G := ⟨_, rfl⟩
        rw [e66] at s6 gL ⊢
        by_cases hz : noRE t = true
        · rw [if_pos hz] at e6
          rw [hz]
          refine iteT ⟨_, rfl, _, gL, ?_, same_D hL (s5.trans s6), ?_⟩
          · have h16 : (((asked cs).take i).filter noRE).length ≤ 16 := Nat.le_trans (List.length_filter_le _ _) (by rw [List.length_take]; omega)
            rw [List.length_map]
            have : 40 ≤ sizeLine := le_sz (by decide)
            omega
          · rw [upd_same, e6, List.map_append]
            rfl
        · rw [if_neg hz, List.append_nil] at e6
          rw [Bool.eq_false_iff.mpr hz, e6]
          exact iteF ⟨s5.trans s6, gL⟩
      · rintro H5 ⟨s5, g5⟩
        rw [List.length_map, List.take_of_length_le (Nat.le_refl _)] at g5
        exact q L H5 (Same.free s3 hL) (s3.trans s5) g5
end

end Kx
set_option linter.all false
namespace Kx
open PySem L2 PySem.Spec PyProof.Rows
abbrev sPck : Stmt := top 93
abbrev nPck : List Str := ["clauses", "found", "clause", "pick", "literal"]
theorem scPck : FnScope nPck ["clauses"] (defScope sPck) := ⟨rfl, rfl, rfl, by decide +kernel, rfl, by decide +kernel, by decide +kernel⟩
/-- a pick: a tuple of literals -/
def IsP (K : PySem.W.Frag) (H : Hp) (x : V) (p : List Lit) : Prop := ∃ a ys, x = .ref a ∧ SqT K H a ys ∧ Paired (IsLit K H) ys p
theorem IsP.same {K : PySem.W.Frag} {H H' : Hp} {x : V} {p : List Lit} (s : Same H H') (h : IsP K H x p) : IsP K H' x p := let ⟨a, ys, e, q, r⟩ := h; ⟨a, ys, e, SqT.same s q, paired_same s r⟩
theorem pairedP_same {K : PySem.W.Frag} {H H' : Hp} (s : Same H H') {vs : List V} {ps : List (List Lit)} (h : Paired (IsP K H) vs ps) : Paired (IsP K H') vs ps := L2.Paired.mapP h fun _ _ z => IsP.same s z
theorem IsLit.lst {K : PySem.W.Frag} {H : Hp} {a : Addr} {ms : List V} {u : HO} {x : V} {l : Lit} (ha : H a = some (.lst ms)) (h : IsLit K H x l) : IsLit K (upd H a u) x l := let ⟨b, e, q⟩ := h; ⟨b, e, SqT.lst ha q⟩
theorem IsP.lst {K : PySem.W.Frag} {H : Hp} {a : Addr} {ms : List V} {u : HO} {x : V} {p : List Lit} (ha : H a = some (.lst ms)) (h : IsP K H x p) : IsP K (upd H a u) x p :=
  let ⟨b, ys, e, q, r⟩ := h; ⟨b, ys, e, SqT.lst ha q, L2.Paired.mapP r fun _ _ z => IsLit.lst ha z⟩
theorem picks_len (cs : List (List Lit)) (h : ∀ c ∈ cs, c.length ≤ 2) : ∀ n, n ≤ cs.length → (picks (cs.take n)).length ≤ 2 ^ n
  | 0, _ => by simp [picks]
  | n + 1, hn => by
    have ih := picks_len cs h n (by omega)
    have e : cs.take (n + 1) = cs.take n ++ [cs[n]'(by omega)] := by rw [List.take_succ_eq_append_getElem (by omega)]
    have hc := h (cs[n]'(by omega)) (List.getElem_mem _)
    rw [e, picks_snoc]
    have : ∀ l : List (List Lit), (l.flatMap fun p => (cs[n]'(by omega)).map fun x => p ++ [x]).length ≤ 2 * l.length := fun l => by
      induction l with
      | nil => exact Nat.le_refl _
      | cons a r ih2 =>
        rw [List.flatMap_cons, List.length_append, List.length_map, List.length_cons]
        omega
    have := this (picks (cs.take n))
    rw [Nat.pow_succ]
    omega
theorem picks_each (cs : List (List Lit)) : ∀ n, n ≤ cs.length → ∀ p ∈ picks (cs.take n), p.length = n
  | 0, _ => by simp [picks]
  | n + 1, hn => by
    have ih := picks_each cs n (by omega)
    have e : cs.take (n + 1) = cs.take n ++ [cs[n]'(by omega)] := by rw [List.take_succ_eq_append_getElem (by omega)]
    rw [e, picks_snoc]
    intro p hp
    obtain ⟨q, hq, hp⟩ := List.mem_flatMap.mp hp
    obtain ⟨l, _, rfl⟩ := List.mem_map.mp hp
    rw [List.length_append, ih q hq]
    rfl
def spPck (K : PySem.W.Frag) : Sp := fun vs H Q _ => ∃ (p : Addr) (xs : List V) (cs : List (List Lit)), vs = [.ref p] ∧ Cs K H p xs cs ∧ SmC cs ∧ ∀ L us H', H L = none → Same H H' → H' L = some (.lst us) → Paired (IsP K H') us (picks cs) → Q (.ref L) H'
section
variable {P : Program} {w : World} {K : PySem.W.Frag} {mg : Str → Option Value} {base : Heap}
theorem ok_pck {g : Addr} {fd : FuncData} (F : Fs K mg "_picks" sPck ["clauses"] g fd) : FnOk P w K mg base CX0 1 g fd ["clauses"] (spPck K) := by
  refine F.F.ok scPck (fun vs H Q E h => ?_) (fun cdv A outer s H vs Q E hr h => ?_)
  · obtain ⟨_, _, _, rfl, _⟩ := h
    rfl
  · obtain ⟨p, xs, cs, rfl, hC, sm, q⟩ := h
    refine ⟨_, (pss_cons (ps_set (i := 1) scPck.nd rfl (Or.inl rfl) (pe_lst (pa_cons (pe_tup pa_nil) pa_nil))) (pss_cons (ps_for PassesOwn.never rfl (pi_tup (pv 0)) (pg_name (i := 2) scPck.nd rfl (Or.inr rfl)) (pss_one (ps_setLc2 (i := 1) (own := [("pick", 3), ("literal", 4)]) (vs1 := [4]) rfl scPck.nd rfl rfl (sw_true rfl rfl rfl rfl) (pi_list (pv 1)) (blkOk_by (N := nPck) (sc := defScope sPck) (by decide +kernel)) (by decide) (fun _ _ _ _ _ => (pg_name (i := 3) scPck.nd rfl (Or.inl rfl))) (fun _ _ _ _ _ => pts_nil) (fun _ _ _ _ _ => (pi_tupK (K := K) rfl (pv 2))) (fun _ _ _ _ _ => (pg_name (i := 4) scPck.nd rfl (Or.inl rfl))) (fun _ _ _ _ _ => pts_nil) (fun _ _ _ _ _ => (pe_op (op_catAK (K := K) rfl) (pv 3) (pe_tup (pa_cons (pv 4) pa_nil))))))) (pss_one (ps_ret (pv 1))))), ?_⟩
    have hl : xs.length = cs.length := Paired.length hC.p
    have lim : 40 ≤ sizeLine := le_sz (by decide)
    refine ⟨le_sz (Nat.le_of_ble_eq_true rfl), fun u hu => ⟨le_sz (Nat.le_of_ble_eq_true rfl), fun L0 hL0 => ?_⟩⟩
    have s0 : Same H (upd H u (.tup [])) := new_same hu
    have s1 : Same H (upd (upd H u (.tup [])) L0 (.lst [.ref u])) := s0.trans (new_same hL0)
    have g1 : (upd (upd H u (.tup [])) L0 (.lst [.ref u])) L0 = some (.lst [.ref u]) := upd_same
    have gu : (upd (upd H u (.tup [])) L0 (.lst [.ref u])) u = some (.tup []) := (new_same hL0) _ _ upd_same
    obtain ⟨H1, e1⟩ : ∃ G, upd (upd H u (.tup [])) L0 (.lst [.ref u]) = G := ⟨_, rfl⟩
    rw [e1] at s1 g1 gu ⊢
    have nL0 : H L0 = none := Same.free s0 hL0
    refine ⟨_, rfl, p, rfl, ⟨_, SqT.same s1 hC.sq⟩, for_tup (K := K) (a := p) (xs := xs) (fun i σ H2 => ∃ L us v2, σ = [some (.ref p), some (.ref L), v2, none, none] ∧ H L = none ∧ Same H H2 ∧ H2 L = some (.lst us) ∧ Paired (IsP K H2) us (picks (cs.take i))) ⟨L0, [.ref u], none, rfl, nL0, s1, g1, .cons ⟨u, [], rfl, SqT.of gu, .nil⟩ .nil⟩ (fun i σ H2 _ ⟨_, _, _, _, _, s, _⟩ => SqT.same s hC.sq) ?_ ?_⟩
    · rintro i x σ H2 hi ⟨L, us, v2, rfl, nL, s2, gL, hp⟩
      obtain ⟨c, hcl, b, ys, rfl, hb⟩ := paired_get hC.p hi
      have hcm : c ∈ cs := List.mem_of_getElem? hcl
      have c2 := (sm.l c hcm).2
      have hi2 : i < cs.length := (List.getElem?_eq_some_iff.mp hcl).1
      have n4 := sm.n
      have tk : cs.take (i + 1) = cs.take i ++ [c] := take_snoc hcl
      have pl := picks_len cs (fun c hc => (sm.l c hc).2) i (by omega)
      have pl16 : (picks (cs.take i)).length ≤ 8 := Nat.le_trans pl (Nat.le_trans (Nat.pow_le_pow_right (by decide) (show i ≤ 3 by omega)) (by decide))
      have hyl : ys.length = c.length := hb.len
      have ul : us.length = (picks (cs.take i)).length := Paired.length hp
      refine ⟨_, rfl, L, rfl, ⟨_, SqL.of gL⟩, fun D hD => ?_⟩
      have nDL : D ≠ L := fun z => by rw [z, gL] at hD; cases hD
      refine walk_it (walk_list (xs := us)) (fun j H3 => Same H2 H3 ∧ ∃ ws, H3 D = some (.lst ws) ∧ Paired (IsP K H3) ws (((picks (cs.take i)).take j).flatMap fun p => c.map fun l => p ++ [l])) ⟨new_same hD, [], upd_same, .nil⟩ (fun j H3 _ h => SqL.of (h.1 _ _ gL)) ?_ ?_
      · rintro j x H3 H4 hj ⟨s3, ws, gD, hw⟩ ⟨rfl, hx⟩
        obtain ⟨pk, hpk, e, zs, rfl, he, hz⟩ := paired_get hp hx
        have tj : ((picks (cs.take i)).take (j + 1)) = (picks (cs.take i)).take j ++ [pk] := take_snoc hpk
        have hb3 := Cl.same s2 hb
        have zl : zs.length = i := (Paired.length hz).trans (picks_each cs i (by omega) pk (List.mem_of_getElem? hpk))
        refine ⟨rfl, yes_of ⟨_, rfl, b, rfl, ⟨_, SqT.same s3 hb3.sq⟩, ?_⟩⟩
        refine walk_it (walk_tup (xs := ys)) (fun k H5 => Same H2 H5 ∧ ∃ ws, H5 D = some (.lst ws) ∧ Paired (IsP K H5) ws ((((picks (cs.take i)).take j).flatMap fun p => c.map fun l => p ++ [l]) ++ (c.take k).map fun l => pk ++ [l])) ⟨s3, ws, gD, by rw [List.take_zero, List.map_nil, List.append_nil]; exact hw⟩ (fun k H5 _ h => SqT.same h.1 hb3.sq) ?_ ?_
        · rintro k x H5 H6 hk ⟨s5, ws5, g5, hw5⟩ ⟨rfl, hx5⟩
          obtain ⟨lt, hlt, hlit⟩ := paired_get hb3.p hx5
          have hlit5 := IsLit.same s5 hlit
          refine ⟨rfl, yes_of ?_⟩
          obtain ⟨le, tri, rfl, rest⟩ : ∃ a tri, x = V.ref a ∧ SqT K H6 a tri := by
            obtain ⟨a, e, h⟩ := hlit5
            exact ⟨a, _, e, h⟩
          refine ⟨_, rfl, _, rfl, le_sz (Nat.le_of_ble_eq_true rfl), fun t6 ht6 => ?_⟩
          have s6 : Same H6 (upd H6 t6 (.tup [.ref le])) := new_same ht6
          have g6 : (upd H6 t6 (.tup [.ref le])) t6 = some (.tup [.ref le]) := upd_same
          have gD6 := s6 _ _ g5
          obtain ⟨H7, e7⟩ : ∃ G, upd H6 t6 (.tup [.ref le]) = G := ⟨_, rfl⟩
          rw [e7] at s6 g6 gD6 ⊢
          refine catA_of (SqT.same (s5.trans s6) he) (SqT.of g6) (by rw [zl]; simp only [List.length_cons, List.length_nil]; omega) fun t8 H8 s8 ht8 => ?_
          have gD8 := s8 _ _ gD6
          have s38 : Same H2 H8 := s5.trans (s6.trans s8)
          refine ⟨_, gD8, ?_, same_D hD s38, _, upd_same, ?_⟩
          · have hwl : ws5.length = ((((picks (cs.take i)).take j).flatMap fun p => c.map fun l => p ++ [l]) ++ (c.take k).map fun l => pk ++ [l]).length := Paired.length hw5
            have bd : ∀ m : List (List Lit), (m.flatMap fun p => c.map fun l => p ++ [l]).length ≤ 2 * m.length := fun m => by
              induction m with
              | nil => exact Nat.le_refl _
              | cons a r ih2 =>
                rw [List.flatMap_cons, List.length_append, List.length_map, List.length_cons]
                omega
            have b1 := bd ((picks (cs.take i)).take j)
            rw [List.length_append, List.length_map, List.length_take] at hwl
            rw [List.length_take] at b1
            omega
          · have e9 : c.take (k + 1) = c.take k ++ [lt] := take_snoc hlt
            rw [e9, List.map_append, ← List.append_assoc]
            have hw8 := pairedP_same (s6.trans s8) hw5
            refine paired_snoc (L2.Paired.mapP hw8 fun _ _ z => IsP.lst gD8 z) ⟨t8, zs ++ [.ref le], rfl, SqT.lst gD8 ht8, ?_⟩
            refine paired_snoc (L2.Paired.mapP (paired_same (s5.trans (s6.trans s8)) hz) fun _ _ z => IsLit.lst gD8 z) ?_
            exact IsLit.lst gD8 (IsLit.same (s6.trans s8) hlit5)
        · rintro H5 ⟨s5, ws5, g5, hw5⟩
          refine ⟨s5, ws5, g5, ?_⟩
          rw [hyl, List.take_of_length_le (Nat.le_refl _)] at hw5
          rw [tj, List.flatMap_append]
          simpa using hw5
      · rintro H3 ⟨s3, ws, gD, hw⟩
        rw [ul, List.take_of_length_le (Nat.le_refl _), ← picks_snoc, ← tk] at hw
        exact ⟨D, ws, _, rfl, Same.free s2 hD, s2.trans s3, gD, hw⟩
    · rintro σ H2 ⟨L, us, v2, rfl, nL, s2, gL, hp⟩
      rw [hl, List.take_of_length_le (Nat.le_refl _)] at hp
      exact ⟨_, rfl, q L us H2 nL s2 gL hp⟩
end

end Kx
set_option linter.all false
namespace Kx
open PySem L2 PySem.Spec PyProof.Rows
abbrev sRng : Stmt := top 94
abbrev nRng : List Str := ["pick", "values", "low", "high", "left", "right", "number", "least", "most"]
theorem scRng : FnScope nRng ["pick", "values"] (defScope sRng) := ⟨rfl, rfl, rfl, by decide +kernel, rfl, by decide +kernel, by decide +kernel⟩
/-! the range of a pick -/
def Got (kvs : List (Key × V)) (f : Str → Int) (t : Str) : Prop := (valV kvs (.inr t)).getD (.int 0) = .int (f t)
theorem goR_cons {f : Str → Int} {s : Rg} {l : Lit} {r : List Lit} : goR f s (l :: r) = (stepR f s l).bind fun t => goR f t r := by
  cases e : stepR f s l with
  | none => rw [goR, e]; rfl
  | some t => rw [goR, e]; rfl
def spRng (K : PySem.W.Frag) : Sp := fun vs H Q _ => ∃ (p d : Addr) (xs : List V) (pk : List Lit) (kvs : List (Key × V)) (f : Str → Int), vs = [.ref p, .ref d] ∧ SqT K H p xs ∧ Paired (IsLit K H) xs pk ∧ H d = some (.dK kvs) ∧ (∀ l ∈ pk, Got kvs f l.1 ∧ Got kvs f l.2.1) ∧
  (rangeOf f pk = none → Q .non H) ∧ ∀ x, rangeOf f pk = some x → ∀ t H', Same H H' → H' t = some (.tup [optV x.1, optV x.2]) → Q (.ref t) H'
section
variable {P : Program} {w : World} {K : PySem.W.Frag} {mg : Str → Option Value} {base : Heap}
theorem ok_rng {g : Addr} {fd : FuncData} (F : Fs K mg "_range" sRng ["pick", "values"] g fd) (hRES : ∃ t, mg "RESULT" = some (.str RES t)) (hmax : mg "max" = none) (hmin : mg "min" = none) : FnOk P w K mg base CX0 1 g fd ["pick", "values"] (spRng K) := by
  obtain ⟨tR, hRES⟩ := hRES
  refine F.F.ok scRng (fun vs H Q E h => ?_) (fun cdv A outer s H vs Q E hr h => ?_)
  · obtain ⟨_, _, _, _, _, _, rfl, _⟩ := h
    rfl
  · obtain ⟨p, d, xs, pk, kvs, f, rfl, hp, hq, hd, hg, q0, q1⟩ := h
    have hu := hu_of hr
    have hRr : RelV (.str RES) (Value.str RES tR) := ⟨_, rfl⟩
    refine ⟨_, (pss_cons (ps_set (i := 2) scRng.nd rfl (Or.inl rfl) pe_non) (pss_cons (ps_set (i := 3) scRng.nd rfl (Or.inl rfl) pe_non) (pss_cons (ps_for PassesOwn.never rfl (pi_tup (pv 0)) (pg_tup rfl (pgs_cons (pg_name (i := 4) scRng.nd rfl (Or.inl rfl)) (pgs_cons (pg_name (i := 5) scRng.nd rfl (Or.inl rfl)) (pgs_cons (pg_name (i := 6) scRng.nd rfl (Or.inl rfl)) pgs_nil)))) (pss_cons (ps_set (i := 7) scRng.nd rfl (Or.inl rfl) (pe_op op_sub (pe_dget2 hu (pv 1) (pv 4) pe_int ⟨by rfl, by rfl, by rfl, by rfl⟩) (pv 6))) (pss_cons (ps_set (i := 8) scRng.nd rfl (Or.inl rfl) (pe_op op_add (pe_dget2 hu (pv 1) (pv 5) pe_int ⟨by rfl, by rfl, by rfl, by rfl⟩) (pv 6))) (pss_one (ps_if (PW.pt (pw_and (pt_cmpR op_ne (pv 4) (pe_glob (v := .str RES) (by rfl) hRES hRr) (nomark _)) (pw_and1 (pt_cmpR op_eq (pv 5) (pe_glob (v := .str RES) (by rfl) hRES hRr) (nomark _))))) (pss_one (ps_set (i := 2) scRng.nd rfl (Or.inl rfl) (pe_ifExp (pt_cmpR op_isN (pv 2) pe_non (nomark _)) (pv 7) (pe_callB (call_max2 rfl) (by rfl) hmax (by decide +kernel) (pa_cons (pv 2) (pa_cons (pv 7) pa_nil)))))) (pss_one (ps_if (PW.pt (pw_and (pt_cmpR op_eq (pv 4) (pe_glob (v := .str RES) (by rfl) hRES hRr) (nomark _)) (pw_and1 (pt_cmpR op_ne (pv 5) (pe_glob (v := .str RES) (by rfl) hRES hRr) (nomark _))))) (pss_one (ps_set (i := 3) scRng.nd rfl (Or.inl rfl) (pe_ifExp (pt_cmpR op_isN (pv 3) pe_non (nomark _)) (pv 8) (pe_callB (call_min2 rfl) (by rfl) hmin (by decide +kernel) (pa_cons (pv 3) (pa_cons (pv 8) pa_nil)))))) (pss_one (ps_if (pt_cmpR op_gt (pe_dget2 hu (pv 1) (pv 4) pe_int ⟨by rfl, by rfl, by rfl, by rfl⟩) (pv 8) (nomark _)) (pss_one (ps_ret pe_non)) pss_nil))))))))) (pss_one (ps_ret (pe_ifExp (PW.pt (pw_and (pt_cmpR op_notN (pv 2) pe_non (nomark _)) (pw_and (pt_cmpR op_notN (pv 3) pe_non (nomark _)) (pw_and1 (pt_cmpR op_gt (pv 2) (pv 3) (nomark _)))))) pe_non (pe_tup (pa_cons (pv 2) (pa_cons (pv 3) pa_nil))))))))), ?_⟩
    refine ⟨_, rfl, p, rfl, ⟨_, hp⟩, for_tup (K := K) (a := p) (xs := xs) (fun i σ H2 => ∃ (s : Rg) (v4 v5 v6 v7 v8 : Option V), σ = [some (.ref p), some (.ref d), some (optV s.1), some (optV s.2), v4, v5, v6, v7, v8] ∧ H2 = H ∧ goR f (none, none) pk = goR f s (pk.drop i)) ⟨(none, none), none, none, none, none, none, rfl, rfl, rfl⟩ (fun i σ H2 _ ⟨_, _, _, _, _, _, _, e, _⟩ => by rw [e]; exact hp) ?_ ?_⟩
    · rintro i x σ H2 hi ⟨⟨lo, hi'⟩, v4, v5, v6, v7, v8, rfl, rfl, hgo⟩
      obtain ⟨l, hl, e, rfl, he⟩ := paired_get hq hi
      obtain ⟨a, b, n⟩ := l
      have hd1 : pk.drop i = (a, b, n) :: pk.drop (i + 1) := by
        obtain ⟨h1, h2⟩ := List.getElem?_eq_some_iff.mp hl
        rw [List.drop_eq_getElem_cons h1, h2]
      obtain ⟨ga, gb⟩ := hg _ (List.mem_of_getElem? hl)
      rw [hd1, goR_cons] at hgo
      refine ⟨e, _, rfl, he, rfl, _, _, rfl, _, _, rfl, _, _, rfl, rfl, ?_⟩
      have isd : IsD H2 d := .inl ⟨_, .inl hd⟩
      refine ⟨_, rfl, d, rfl, isd, _, rfl, _, DGet.k (k := .inr a) hd, _, rfl, f a, n, ga, rfl, ?_⟩
      refine ⟨_, rfl, d, rfl, isd, _, rfl, _, DGet.k (k := .inr b) hd, _, rfl, f b, n, gb, rfl, ?_⟩
      refine ⟨_, rfl, rfl, _, rfl, ?_⟩
      by_cases za : a = RES
      · rw [show (!decide (V.str a = V.str RES)) = false from by rw [za]; decide]
        refine iteF ?_
        refine iteF ?_
        refine ⟨_, rfl, rfl, _, rfl, ?_⟩
        rw [show (decide (V.str a = V.str RES)) = true from by rw [za]; decide]
        refine iteT ⟨_, rfl, rfl, _, rfl, ?_⟩
        by_cases zb : b = RES
        · rw [show (!decide (V.str b = V.str RES)) = false from by rw [zb]; decide]
          refine iteF ?_
          have st : stepR f (lo, hi') (a, b, n) = if f a > f b + n then none else some (lo, hi') := by
            unfold stepR
            rw [if_neg (fun z => z.1 za), if_neg (fun z => z.2 zb)]
          refine ⟨_, rfl, d, rfl, isd, _, rfl, _, DGet.k (k := .inr a) hd, _, rfl, f a, f b + n, ga, rfl, _, rfl, ?_⟩
          by_cases z : f a > f b + n
          · rw [decide_eq_true (show f b + n < f a from z)]
            refine iteT (q0 ?_)
            unfold rangeOf
            rw [hgo, st, if_pos z]
            rfl
          · rw [decide_eq_false (show ¬ f b + n < f a from z)]
            exact iteF ⟨(lo, hi'), _, _, _, _, _, rfl, rfl, by rw [hgo, st, if_neg z]; rfl⟩
        · rw [show (!decide (V.str b = V.str RES)) = true from by rw [decide_eq_false fun z => zb (V.str.inj z)]; rfl]
          refine iteT ?_
          have st : stepR f (lo, hi') (a, b, n) = some (lo, some (minO hi' (f b + n))) := by
            unfold stepR
            rw [if_neg (fun z => z.1 za), if_pos ⟨za, zb⟩]
          cases hi' with
          | none => exact ⟨_, rfl, rfl, true, rfl, iteT ⟨_, rfl, (lo, some (f b + n)), _, _, _, _, _, rfl, rfl, by rw [hgo, st]; rfl⟩⟩
          | some h0 => exact ⟨_, rfl, rfl, false, rfl, iteF ⟨_, rfl, _, rfl, h0, f b + n, rfl, (lo, some (minO (some h0) (f b + n))), _, _, _, _, _, rfl, rfl, by rw [hgo, st]; rfl⟩⟩
      · rw [show (!decide (V.str a = V.str RES)) = true from by rw [decide_eq_false fun z => za (V.str.inj z)]; rfl]
        refine iteT ⟨_, rfl, rfl, _, rfl, ?_⟩
        by_cases zb : b = RES
        · rw [show (decide (V.str b = V.str RES)) = true from by rw [zb]; decide]
          refine iteT ?_
          have st : stepR f (lo, hi') (a, b, n) = some (some (maxO lo (f a - n)), hi') := by
            unfold stepR
            rw [if_pos ⟨za, zb⟩]
          cases lo with
          | none => exact ⟨_, rfl, rfl, true, rfl, iteT ⟨_, rfl, (some (f a - n), hi'), _, _, _, _, _, rfl, rfl, by rw [hgo, st]; rfl⟩⟩
          | some l0 => exact ⟨_, rfl, rfl, false, rfl, iteF ⟨_, rfl, _, rfl, l0, f a - n, rfl, (some (maxO (some l0) (f a - n)), hi'), _, _, _, _, _, rfl, rfl, by rw [hgo, st]; rfl⟩⟩
        · rw [show (decide (V.str b = V.str RES)) = false from decide_eq_false fun z => zb (V.str.inj z)]
          refine iteF ?_
          refine ⟨_, rfl, rfl, _, rfl, ?_⟩
          rw [show (decide (V.str a = V.str RES)) = false from decide_eq_false fun z => za (V.str.inj z)]
          refine iteF ?_
          refine iteF ?_
          have st : stepR f (lo, hi') (a, b, n) = if f a > f b + n then none else some (lo, hi') := by
            unfold stepR
            rw [if_neg (fun z => zb z.2), if_neg (fun z => za z.1)]
          refine ⟨_, rfl, d, rfl, isd, _, rfl, _, DGet.k (k := .inr a) hd, _, rfl, f a, f b + n, ga, rfl, _, rfl, ?_⟩
          by_cases z : f a > f b + n
          · rw [decide_eq_true (show f b + n < f a from z)]
            refine iteT (q0 ?_)
            unfold rangeOf
            rw [hgo, st, if_pos z]
            rfl
          · rw [decide_eq_false (show ¬ f b + n < f a from z)]
            exact iteF ⟨(lo, hi'), _, _, _, _, _, rfl, rfl, by rw [hgo, st, if_neg z]; rfl⟩
    · rintro σ H2 ⟨⟨lo, hi'⟩, v4, v5, v6, v7, v8, rfl, rfl, hgo⟩
      have hl : xs.length = pk.length := Paired.length hq
      rw [hl, List.drop_length] at hgo
      have hgo : goR f (none, none) pk = some (lo, hi') := hgo
      have hr0 : rangeOf f pk = closeR (lo, hi') := by
        unfold rangeOf
        rw [hgo]
        rfl
      have fin : rangeOf f pk = some (lo, hi') → ∀ t, H2 t = none → Q (.ref t) (upd H2 t (.tup [optV lo, optV hi'])) := fun e t ht => q1 (lo, hi') e t _ (new_same ht) upd_same
      cases lo with
      | none => exact ⟨_, rfl, rfl, false, rfl, iteF (iteF ⟨_, rfl, _, rfl, le_sz (Nat.le_of_ble_eq_true rfl), fun t ht => fin (by rw [hr0]; rfl) t ht⟩)⟩
      | some l0 =>
        refine ⟨_, rfl, rfl, true, rfl, iteT ?_⟩
        cases hi' with
        | none => exact ⟨_, rfl, rfl, false, rfl, iteF (iteF ⟨_, rfl, _, rfl, le_sz (Nat.le_of_ble_eq_true rfl), fun t ht => fin (by rw [hr0]; rfl) t ht⟩)⟩
        | some h0 =>
          refine ⟨_, rfl, rfl, true, rfl, iteT ⟨_, rfl, _, rfl, l0, h0, rfl, rfl, _, rfl, ?_⟩⟩
          rw [closeR_ss] at hr0
          by_cases z : l0 > h0
          · rw [decide_eq_true (show h0 < l0 from z)]
            exact iteT (q0 (by rw [hr0, if_pos z]))
          · rw [decide_eq_false (show ¬ h0 < l0 from z)]
            exact iteF ⟨_, rfl, _, rfl, le_sz (Nat.le_of_ble_eq_true rfl), fun t ht => fin (by rw [hr0, if_neg z]) t ht⟩
end

end Kx
set_option linter.all false
namespace Kx
open PySem L2 PySem.Spec PyProof.Rows
abbrev sLfz : Stmt := top 95
abbrev nLfz : List Str := ["ranges", "found", "low", "high", "least"]
theorem scLfz : FnScope nLfz ["ranges"] (defScope sLfz) := ⟨rfl, rfl, rfl, by decide +kernel, rfl, by decide +kernel, by decide +kernel⟩
/-! the least result from 0 on -/
def IsR (K : PySem.W.Frag) (H : Hp) (x : V) (r : Rg) : Prop := ∃ a, x = .ref a ∧ SqT K H a [optV r.1, optV r.2]
theorem IsR.same {K : PySem.W.Frag} {H H' : Hp} {x : V} {r : Rg} (s : Same H H') (h : IsR K H x r) : IsR K H' x r := let ⟨a, e, q⟩ := h; ⟨a, e, SqT.same s q⟩
theorem pairedR_same {K : PySem.W.Frag} {H H' : Hp} (s : Same H H') {vs : List V} {ps : List Rg} (h : Paired (IsR K H) vs ps) : Paired (IsR K H') vs ps := L2.Paired.mapP h fun _ _ z => IsR.same s z
def spLfz (K : PySem.W.Frag) : Sp := fun vs H Q _ => ∃ (p : Addr) (us : List V) (rs : List Rg), vs = [.ref p] ∧ SqL K H p us ∧ Paired (IsR K H) us rs ∧ rs.length ≤ 60 ∧ (∃ x ∈ rs, ∃ m, fz x = some m) ∧
  ∀ m, (∃ x ∈ rs, fz x = some m) → (∀ x ∈ rs, ∀ y, fz x = some y → m ≤ y) → ∀ H', Same H H' → Q (.int m) H'
section
variable {P : Program} {w : World} {K : PySem.W.Frag} {mg : Str → Option Value} {base : Heap}
theorem ok_lfz {g : Addr} {fd : FuncData} (F : Fs K mg "_least_from_zero" sLfz ["ranges"] g fd) (hmax : mg "max" = none) (hmin : mg "min" = none) : FnOk P w K mg base CX0 1 g fd ["ranges"] (spLfz K) := by
  refine F.F.ok scLfz (fun vs H Q E h => ?_) (fun cdv A outer s H vs Q E hr h => ?_)
  · obtain ⟨_, _, _, rfl, _⟩ := h
    rfl
  · obtain ⟨p, us, rs, rfl, hp, hq, hn, hex, q⟩ := h
    refine ⟨_, (pss_cons (ps_set (i := 1) scLfz.nd rfl (Or.inl rfl) (pe_lst pa_nil)) (pss_cons (ps_for PassesOwn.never rfl (pi_list (pv 0)) (pg_tup rfl (pgs_cons (pg_name (i := 2) scLfz.nd rfl (Or.inl rfl)) (pgs_cons (pg_name (i := 3) scLfz.nd rfl (Or.inl rfl)) pgs_nil))) (pss_cons (ps_set (i := 4) scLfz.nd rfl (Or.inl rfl) (pe_ifExp (pt_cmpR op_isN (pv 2) pe_non (nomark _)) pe_int (pe_callB (call_max2 rfl) (by rfl) hmax (by decide +kernel) (pa_cons (pv 2) (pa_cons pe_int pa_nil))))) (pss_one (ps_if (PW.pt (pw_or (pt_cmpR op_isN (pv 3) pe_non (nomark _)) (pw_or1 (pt_cmpR op_le (pv 4) (pv 3) (nomark _))))) (pss_one (ps_expr (pe_bm PySem.F.plainAttrs_list PySem.F.slot_list_append PySem.F.type_list_append mt_append (pv 1) (pa_cons (pv 4) pa_nil)))) pss_nil)))) (pss_one (ps_ret (pe_callB (cr_min rfl) (by rfl) hmin (by decide +kernel) (pa_cons (pv 1) pa_nil)))))), ?_⟩
    have lim : 100 ≤ sizeLine := le_sz (by decide)
    refine ⟨le_sz (Nat.le_of_ble_eq_true rfl), fun D hD => ?_⟩
    have s0 : Same H (upd H D (.lst [])) := new_same hD
    have g0 : (upd H D (.lst [])) D = some (.lst []) := upd_same
    obtain ⟨H0, e0⟩ : ∃ G, upd H D (.lst []) = G := ⟨_, rfl⟩
    rw [e0] at s0 g0 ⊢
    have ul : us.length = rs.length := Paired.length hq
    refine ⟨_, rfl, p, rfl, ⟨_, SqL.same s0 hp⟩, for_list (K := K) (a := p) (xs := us) (fun i σ H2 => ∃ v2 v3 v4, σ = [some (.ref p), some (.ref D), v2, v3, v4] ∧ Same H H2 ∧ H2 D = some (.lst (((rs.take i).filterMap fz).map V.int))) ⟨none, none, none, rfl, s0, g0⟩ (fun i σ H2 _ ⟨_, _, _, _, s, _⟩ => SqL.same s hp) ?_ ?_⟩
    · rintro i x σ H2 hi ⟨v2, v3, v4, rfl, s2, gD⟩
      obtain ⟨⟨lo, hh⟩, hl, e, rfl, he⟩ := paired_get hq hi
      have he2 := SqT.same s2 he
      have tk : rs.take (i + 1) = rs.take i ++ [(lo, hh)] := take_snoc hl
      have hil : i < rs.length := (List.getElem?_eq_some_iff.mp hl).1
      have fl : ((rs.take i).filterMap fz).length ≤ i := Nat.le_trans (List.length_filterMap_le _ _) (by rw [List.length_take]; omega)
      refine ⟨e, _, rfl, he2, rfl, _, _, rfl, _, _, rfl, rfl, ?_⟩
      have go1 : fz (lo, hh) = some (z0 lo) → ∀ H3, H3 = upd H2 D (.lst (((rs.take i).filterMap fz).map V.int ++ [.int (z0 lo)])) → Same H H3 ∧ H3 D = some (.lst (((rs.take (i + 1)).filterMap fz).map V.int)) := fun z H3 e => by
        subst e
        refine ⟨same_upd hD s2, ?_⟩
        rw [upd_same, tk, List.filterMap_append, List.filterMap_cons, z, List.map_append]
        rfl
      have go0 : fz (lo, hh) = none → H2 D = some (.lst (((rs.take (i + 1)).filterMap fz).map V.int)) := fun z => by
        rw [gD, tk, List.filterMap_append, List.filterMap_cons, z]
        simp
      have room : (((rs.take i).filterMap fz).map V.int).length < sizeLine := by rw [List.length_map]; omega
      cases lo with
      | none =>
        refine ⟨_, rfl, rfl, true, rfl, iteT ?_⟩
        cases hh with
        | none => exact ⟨_, rfl, rfl, true, rfl, iteT (iteT ⟨_, rfl, .inl ⟨rfl, _, SqL.of gD⟩, _, rfl, D, _, .int (z0 none), rfl, rfl, gD, room, _, _, _, rfl, go1 rfl _ rfl⟩)⟩
        | some h0 =>
          refine ⟨_, rfl, rfl, false, rfl, iteF ⟨_, rfl, _, rfl, 0, h0, rfl, rfl, _, rfl, ?_⟩⟩
          have fe : fz (none, some h0) = if z0 none ≤ h0 then some (z0 none) else none := rfl
          by_cases z : z0 none ≤ h0
          · rw [decide_eq_true (show (0 : Int) ≤ h0 from z)]
            exact iteT ⟨_, rfl, .inl ⟨rfl, _, SqL.of gD⟩, _, rfl, D, _, .int (z0 none), rfl, rfl, gD, room, _, _, _, rfl, go1 (by rw [fe, if_pos z]) _ rfl⟩
          · rw [decide_eq_false (show ¬ (0 : Int) ≤ h0 from z)]
            exact iteF ⟨_, _, _, rfl, s2, go0 (by rw [fe, if_neg z])⟩
      | some l0 =>
        refine ⟨_, rfl, rfl, false, rfl, iteF ⟨_, rfl, l0, 0, rfl, ?_⟩⟩
        cases hh with
        | none => exact ⟨_, rfl, rfl, true, rfl, iteT (iteT ⟨_, rfl, .inl ⟨rfl, _, SqL.of gD⟩, _, rfl, D, _, .int (z0 (some l0)), rfl, rfl, gD, room, _, _, _, rfl, go1 rfl _ rfl⟩)⟩
        | some h0 =>
          refine ⟨_, rfl, rfl, false, rfl, iteF ⟨_, rfl, _, rfl, z0 (some l0), h0, rfl, rfl, _, rfl, ?_⟩⟩
          have fe : fz (some l0, some h0) = if z0 (some l0) ≤ h0 then some (z0 (some l0)) else none := rfl
          by_cases z : z0 (some l0) ≤ h0
          · rw [decide_eq_true z]
            exact iteT ⟨_, rfl, .inl ⟨rfl, _, SqL.of gD⟩, _, rfl, D, _, .int (z0 (some l0)), rfl, rfl, gD, room, _, _, _, rfl, go1 (by rw [fe, if_pos z]) _ rfl⟩
          · rw [decide_eq_false z]
            exact iteF ⟨_, _, _, rfl, s2, go0 (by rw [fe, if_neg z])⟩
    · rintro σ H2 ⟨v2, v3, v4, rfl, s2, gD⟩
      rw [ul, List.take_of_length_le (Nat.le_refl _)] at gD
      refine ⟨_, rfl, D, _, rfl, SqL.of gD, ?_, fun m hm hle => ?_⟩
      · obtain ⟨x, hx, m, e⟩ := hex
        exact List.length_pos_of_mem (List.mem_filterMap.mpr ⟨x, hx, e⟩)
      · exact q m (List.mem_filterMap.mp hm) (fun x hx y e => hle y (List.mem_filterMap.mpr ⟨x, hx, e⟩)) H2 s2
end

end Kx
set_option linter.all false
namespace Kx
open PySem L2 PySem.Spec PyProof.Rows
abbrev sAns : Stmt := top 96
abbrev nAns : List Str := ["library", "name", "method", "values", "post", "term", "known", "found", "ranges", "lows", "highs", "pick", "one", "low", "_", "high"]
theorem scAns : FnScope nAns ["library", "name", "method", "values"] (defScope sAns) := ⟨rfl, rfl, rfl, by decide +kernel, rfl, by decide +kernel, by decide +kernel⟩
/-! answer -/
theorem putK_le (kvs : List (Key × V)) (k : Key) (v : V) : (putK kvs k v).length ≤ kvs.length + 1 := by
  unfold putK
  split
  · rw [List.length_map]; omega
  · rw [List.length_append]; exact Nat.le_refl _
theorem od_lit {K : PySem.W.Frag} {cl : Nat → OCls} {H : Hp} {x : V} {l : Lit} (h : Oh K cl H (litO l) x) : IsLit K H x l := by
  obtain ⟨a, xs, rfl, sq, v1, x1, rfl, ⟨e1, _⟩, v2, x2, rfl, ⟨e2, _⟩, v3, x3, rfl, ⟨e3, _⟩, q⟩ := h
  cases q
  rw [e1, e2, e3] at sq
  exact ⟨a, rfl, sq⟩
theorem od_lits {K : PySem.W.Frag} {cl : Nat → OCls} {H : Hp} : ∀ {c : List Lit} {xs : List V}, OhAll K cl H (c.map litO) xs → Paired (IsLit K H) xs c
  | [], _, h => by cases h; exact .nil
  | _ :: _, _, ⟨v, ys, e, h, q⟩ => by subst e; exact .cons (od_lit h) (od_lits q)
theorem od_cl {K : PySem.W.Frag} {cl : Nat → OCls} {H : Hp} {x : V} {c : List Lit} (h : Oh K cl H (clO c) x) (h1 : 1 ≤ c.length) (h2 : c.length ≤ 1000) : IsC K H x c := by
  obtain ⟨a, xs, rfl, sq, q⟩ := h
  exact ⟨a, xs, rfl, sq, od_lits q, h1, h2⟩
theorem od_cls {K : PySem.W.Frag} {cl : Nat → OCls} {H : Hp} : ∀ {cs : List (List Lit)} {xs : List V}, (∀ c ∈ cs, 1 ≤ c.length ∧ c.length ≤ 1000) → OhAll K cl H (cs.map clO) xs → Paired (IsC K H) xs cs
  | [], _, _, h => by cases h; exact .nil
  | c :: _, _, hc, ⟨v, ys, e, h, q⟩ => by subst e; exact .cons (od_cl h (hc c List.mem_cons_self).1 (hc c List.mem_cons_self).2) (od_cls (fun d hd => hc d (List.mem_cons_of_mem _ hd)) q)
theorem CAt.cs {K : PySem.W.Frag} {C f : Nat → Addr} {H : Hp} {c : CDat} {a dx : Addr} {fs : List (Str × V)} {vp vq : Addr} {xs : List V} (h : CAt K C f H c a dx fs vp vq xs) (sm : SmC c.1) : Cs K H vp xs c.1 :=
  ⟨h.sc, od_cls (fun d hd => ⟨(sm.l d hd).1, by have := (sm.l d hd).2; omega⟩) h.oc, by have := sm.n; omega⟩
theorem picks_in (cs : List (List Lit)) : ∀ p ∈ picks cs, ∀ l ∈ p, ∃ c ∈ cs, l ∈ c := by
  have h : ∀ n, n ≤ cs.length → ∀ p ∈ picks (cs.take n), ∀ l ∈ p, ∃ c ∈ cs, l ∈ c := fun n => by
    induction n with
    | zero => intro _ p hp l hl; simp [picks] at hp; subst hp; cases hl
    | succ n ih =>
      intro hn p hp l hl
      have e : cs.take (n + 1) = cs.take n ++ [cs[n]'(by omega)] := by rw [List.take_succ_eq_append_getElem (by omega)]
      rw [e, picks_snoc] at hp
      obtain ⟨q, hq, hp⟩ := List.mem_flatMap.mp hp
      obtain ⟨x, hx, rfl⟩ := List.mem_map.mp hp
      rcases List.mem_append.mp hl with h | h
      · exact ih (by omega) q hq l h
      · rw [List.mem_singleton.mp h]
        exact ⟨_, List.getElem_mem _, hx⟩
  have := h cs.length (Nat.le_refl _)
  rwa [List.take_length] at this
theorem range_getD' (rs : List Rg) (g : Rg → V) : (List.range rs.length).map (fun i => g (rs.getD i (none, none))) = rs.map g := by
  refine List.ext_getElem (by simp) fun i h1 h2 => ?_
  simp only [List.length_map, List.length_range] at h1
  simp [List.getD, List.getElem?_eq_getElem h1]
theorem flat_opt (rs : List Rg) (g : Rg → Option Int) : (rs.map fun x => optV (g x)).all flatV = true := by
  rw [List.all_map, List.all_eq_true]
  intro x _
  show flatV (optV (g x)) = true
  cases g x <;> rfl
theorem inV_opt (rs : List Rg) (g : Rg → Option Int) : inV .non (rs.map fun x => optV (g x)) = true ↔ ∃ x ∈ rs, g x = none := by
  unfold inV
  rw [List.any_map, List.any_eq_true]
  constructor
  · rintro ⟨x, hx, h⟩
    refine ⟨x, hx, ?_⟩
    have h : eqV (optV (g x)) .non = true := h
    cases e : g x with
    | none => rfl
    | some m => rw [e] at h; cases h
  · rintro ⟨x, hx, h⟩
    exact ⟨x, hx, by show eqV (optV (g x)) .non = true; rw [h]; rfl⟩
def spAns (K : PySem.W.Frag) (C f : Nat → Addr) (CL : Addr) : Sp := fun vs H Q _ => ∃ (a d : Addr) (cs : List KD) (ns : List Str) (n m : Str) (k : KD) (mm : MD) (kvs : List (Key × V)) (fv : Str → Int), vs = [.ref a, .str n, .str m, .ref d] ∧ LibA K C f CL H a cs ns ∧ kd cs n = some k ∧ wr k m = some mm ∧ mm.result = "int" ∧ SmC mm.post.1 ∧
  H d = some (.dK kvs) ∧ fv RES = 0 ∧ fv "" = 0 ∧ (∀ t ∈ tmsOf mm.post.1, valV kvs (.inr t) = some (.int (fv t))) ∧ ∀ r, IsAns (AnsR fv mm.post.1) r → ∀ H', Same H H' → Q (optV r) H'
section
variable {P : Program} {w : World} {K : PySem.W.Frag} {mg : Str → Option Value} {base : Heap} {C f : Nat → Addr} {CL : Addr}
structure AnsD (K : PySem.W.Frag) (mg : Str → Option Value) : Prop where
  wm : ∃ g fd, Fs K mg "written_method" sWMt ["library", "name", "method"] g fd
  am : ∃ g fd, Fs K mg "_asked_method" sAMt ["library", "name", "method"] g fd
  te : ∃ g fd, Fs K mg "_terms" sTms ["clauses"] g fd
  pi : ∃ g fd, Fs K mg "_picks" sPck ["clauses"] g fd
  ra : ∃ g fd, Fs K mg "_range" sRng ["pick", "values"] g fd
  lz : ∃ g fd, Fs K mg "_least_from_zero" sLfz ["ranges"] g fd
  res : ∃ t, mg "RESULT" = some (.str RES t)
  mx : mg "max" = none
  mn : mg "min" = none
theorem ok_ans {g : Addr} {fd : FuncData} (F : Fs K mg "answer" sAns ["library", "name", "method", "values"] g fd) (M : Lm K mg C f CL) (Z : AnsD K mg) : FnOk P w K mg base CX0 6 g fd ["library", "name", "method", "values"] (spAns K C f CL) := by
  obtain ⟨_, _, dAM⟩ := Z.am
  obtain ⟨_, _, dTe⟩ := Z.te
  obtain ⟨_, _, dPi⟩ := Z.pi
  obtain ⟨_, _, dRa⟩ := Z.ra
  obtain ⟨_, _, dLz⟩ := Z.lz
  have hmax := Z.mx
  have hmin := Z.mn
  have GAM : FnOk P w K mg base CX0 5 _ _ ["library", "name", "method"] (spWMt K C f CL fun m => m.result = "int") := ok_amt dAM M Z.wm
  have GTe : FnOk P w K mg base CX0 1 _ _ ["clauses"] (spTms K) := ok_tms dTe Z.res
  have GPi : FnOk P w K mg base CX0 1 _ _ ["clauses"] (spPck K) := ok_pck dPi
  have GRa : FnOk P w K mg base CX0 1 _ _ ["pick", "values"] (spRng K) := ok_rng dRa Z.res hmax hmin
  have GLz : FnOk P w K mg base CX0 1 _ _ ["ranges"] (spLfz K) := ok_lfz dLz hmax hmin
  refine F.F.ok scAns (fun vs H Q E h => ?_) (fun cdv A outer s H vs Q E hr h => ?_)
  · obtain ⟨_, _, _, _, _, _, _, _, _, _, rfl, _⟩ := h
    rfl
  · obtain ⟨a, d, cs, ns, n, m, k, mm, kvs, fv, rfl, hL, hk, hw, hi, sm, hd, f0, f1, hv, q⟩ := h
    have hu := hu_of hr
    have hrAM := hr
    have hrTe : Room 1 (A.deeper (envOfC "answer" (defScope sAns) s.heap.objs.size g cdv)) := hr.mono (by decide)
    have hrPi := hrTe
    have hrRa := hrTe
    have hrLz := hrTe
    refine ⟨_, (pss_cons (ps_set (i := 4) scAns.nd rfl (Or.inl rfl) (pe_fld (pe_call GAM hrAM (by rfl) dAM.m dAM.F.kp dAM.b .nil pass0 (pa_cons (pv 0) (pa_cons (pv 1) (pa_cons (pv 2) pa_nil)))) (by rfl))) (pss_cons (ps_for PassesOwn.never rfl (pi_list (pe_call GTe hrTe (by rfl) dTe.m dTe.F.kp dTe.b .nil pass0 (pa_cons (pe_fld (pv 4) (by rfl)) pa_nil))) (pg_name (i := 5) scAns.nd rfl (Or.inl rfl)) (pss_one (ps_if (pt_cmp (pc_dnotin hu (pv 5) (pv 3)) (by with_unfolding_all rfl)) (pss_one ps_dead) pss_nil))) (pss_cons (ps_set (i := 6) scAns.nd rfl (Or.inr rfl) (pe_dc (own := [("term", 5)]) (g := gName 5) (tt := tYes) rfl scAns.nd (pi_list (pe_call GTe hrTe (by rfl) dTe.m dTe.F.kp dTe.b .nil pass0 (pa_cons (pe_fld (pv 4) (by rfl)) pa_nil))) (blkOk_by (N := nAns) (sc := defScope sAns) (by decide +kernel)) (fun _ _ _ _ _ => (pg_name (i := 5) scAns.nd rfl (Or.inl rfl))) (fun _ _ _ _ _ => pts_nil) (fun _ _ _ _ _ => (pv 5)) (fun _ _ _ _ _ => (pe_dget hu (pv 3) (pv 5) (fun _ _ => rfl))))) (pss_cons (ps_setLc (i := 7) (own := [("pick", 11)]) (g := gName 11) (tt := tYes) rfl scAns.nd rfl rfl (sw_true rfl rfl rfl rfl) (pi_list (pe_call GPi hrPi (by rfl) dPi.m dPi.F.kp dPi.b .nil pass0 (pa_cons (pe_fld (pv 4) (by rfl)) pa_nil))) (blkOk_by (N := nAns) (sc := defScope sAns) (by decide +kernel)) (fun _ _ _ _ _ => (pg_name (i := 11) scAns.nd rfl (Or.inl rfl))) (fun _ _ _ _ _ => pts_nil) (fun _ _ _ _ _ => (pe_call GRa hrRa (by rfl) dRa.m dRa.F.kp dRa.b .nil pass0 (pa_cons (pv 11) (pa_cons (pv 6) pa_nil))))) (pss_cons (ps_setLc (i := 8) (own := [("one", 12)]) (g := gName 12) rfl scAns.nd rfl rfl (sw_true rfl rfl rfl rfl) (pi_list (pv 7)) (blkOk_by (N := nAns) (sc := defScope sAns) (by decide +kernel)) (fun _ _ _ _ _ => (pg_name (i := 12) scAns.nd rfl (Or.inl rfl))) (fun _ _ _ _ _ => (pts_one (pt_cmpR op_notN (pv 12) pe_non (nomark _)))) (fun _ _ _ _ _ => (pv 12))) (pss_cons (ps_if (pt_not (pt_truth (pv 8) (by intro _; rfl))) (pss_one (ps_ret pe_non)) pss_nil) (pss_cons (ps_setLc (i := 9) (own := [("low", 13), ("_", 14)]) (g := gTup K 2 (gCons (gName 13) (gCons (gName 14) gNil))) (tt := tYes) rfl scAns.nd rfl rfl (sw_true rfl rfl rfl rfl) (pi_list (pv 8)) (blkOk_by (N := nAns) (sc := defScope sAns) (by decide +kernel)) (fun _ _ _ _ _ => (pg_tup rfl (pgs_cons (pg_name (i := 13) scAns.nd rfl (Or.inl rfl)) (pgs_cons (pg_name (i := 14) scAns.nd rfl (Or.inl rfl)) pgs_nil)))) (fun _ _ _ _ _ => pts_nil) (fun _ _ _ _ _ => (pv 13))) (pss_cons (ps_setLc (i := 10) (own := [("_", 14), ("high", 15)]) (g := gTup K 2 (gCons (gName 14) (gCons (gName 15) gNil))) (tt := tYes) rfl scAns.nd rfl rfl (sw_true rfl rfl rfl rfl) (pi_list (pv 8)) (blkOk_by (N := nAns) (sc := defScope sAns) (by decide +kernel)) (fun _ _ _ _ _ => (pg_tup rfl (pgs_cons (pg_name (i := 14) scAns.nd rfl (Or.inl rfl)) (pgs_cons (pg_name (i := 15) scAns.nd rfl (Or.inl rfl)) pgs_nil)))) (fun _ _ _ _ _ => pts_nil) (fun _ _ _ _ _ => (pv 15))) (pss_cons (ps_if (pt_cmpR op_notIn_seq pe_non (pv 9) (by with_unfolding_all rfl)) (pss_one (ps_ret (pe_callB (cr_min rfl) (by rfl) hmin (by decide +kernel) (pa_cons (pv 9) pa_nil)))) pss_nil) (pss_one (ps_ret (pe_ifExp (pt_cmpR op_notIn_seq pe_non (pv 10) (by with_unfolding_all rfl)) (pe_callB (cr_max rfl) (by rfl) hmax (by decide +kernel) (pa_cons (pv 10) pa_nil)) (pe_call GLz hrLz (by rfl) dLz.m dLz.F.kp dLz.b .nil pass0 (pa_cons (pv 8) pa_nil)))))))))))))), ?_⟩
    refine ⟨_, rfl, _, rfl, _, rfl, a, cs, ns, n, m, k, mm, rfl, hL, hk, hw, hi, fun v H1 s1 ov => ?_⟩
    obtain ⟨fa, fx, fsm, fp, fxs, v1, v2, fb, rfl, FA⟩ := mO_get ov
    obtain ⟨ca, cx, cfs, vp, vq, xs, rfl, CC⟩ := cO_get FA.opost
    have hC := CC.cs sm
    have hd1 := s1 _ _ hd
    refine ⟨fa, C 1, fx, fsm, .ref ca, rfl, FA.ins, M.X.cls 1 (by decide), M.X.no 1 (by decide) _ (by decide), FA.post, ?_⟩
    have clx : ∀ {H' : Hp}, Same H1 H' → H' ca = some (.ins (C 0) cx cfs) := fun s' => s' _ _ CC.ins
    refine ⟨_, rfl, ca, C 0, cx, cfs, .ref vp, rfl, CC.ins, M.X.cls 0 (by decide), M.X.no 0 (by decide) _ (by decide), CC.cl, vp, xs, mm.post.1, rfl, hC, sm, fun L1 H2 nL1 s2 gL1 => ?_⟩
    have tl : (tmsOf mm.post.1).length ≤ 16 := by
      have h1 := asked_take mm.post.1 fun c hc => (sm.l c hc).2
      have h2 := sm.n
      have h3 : (tmsOf mm.post.1).length ≤ (asked mm.post.1).length := List.length_filter_le _ _
      omega
    have lim : 100 ≤ sizeLine := le_sz (by decide)
    refine ⟨L1, rfl, ⟨_, SqL.of gL1⟩, for_list (K := K) (a := L1) (xs := (tmsOf mm.post.1).map V.str) (fun i σ H3 => H3 = H2 ∧ ∃ v5, σ = [some (.ref a), some (.str n), some (.str m), some (.ref d), some (.ref ca), v5, none, none, none, none, none, none, none, none, none, none]) ⟨rfl, none, rfl⟩ (fun i σ H3 _ h => by rw [h.1]; exact SqL.of gL1) ?_ ?_⟩
    · rintro i x σ H3 hx ⟨rfl, v5, rfl⟩
      obtain ⟨rfl, hm⟩ := get_str hx
      have hg := hv _ hm
      refine ⟨_, rfl, _, rfl, d, _, rfl, DGet.k (k := .inr _) (s2 _ _ hd1), _, rfl, ?_⟩
      rw [hg]
      exact iteF ⟨rfl, _, rfl⟩
    rintro σ H3 ⟨rfl, v5, rfl⟩
    refine ⟨_, rfl, ca, C 0, cx, cfs, .ref vp, rfl, clx s2, M.X.cls 0 (by decide), M.X.no 0 (by decide) _ (by decide), CC.cl, vp, xs, mm.post.1, rfl, Cs.same s2 hC, sm, fun LB H4 nL2 s4 gL2 => ⟨LB, rfl, ⟨_, SqL.of gL2⟩, fun D hD => ?_⟩⟩
    refine walk_it (walk_list (xs := (tmsOf mm.post.1).map V.str)) (fun i H5 => Same H4 H5 ∧ ∃ ks, H5 D = some (.dK ks) ∧ ks.length ≤ i ∧ ∀ t, valV ks (.inr t) = if t ∈ (tmsOf mm.post.1).take i then some (.int (fv t)) else none) ⟨new_same hD, [], upd_same, Nat.le_refl _, fun t => by simp [valV_nil]⟩ (fun i H5 _ h => SqL.of (h.1 _ _ gL2)) ?_ ?_
    · rintro i x H5 H6 hx ⟨s5, ks, gD, kl, kv⟩ ⟨rfl, hy⟩
      obtain ⟨rfl, hm⟩ := get_str hy
      have hg := hv _ hm
      have hi2 : i < (tmsOf mm.post.1).length := by rwa [List.length_map] at hx
      have ex : (tmsOf mm.post.1)[i]? = some ((tmsOf mm.post.1).getD i "") := by simp only [List.getD, List.getElem?_eq_getElem hi2, Option.getD_some]
      obtain ⟨t, ht⟩ : ∃ t, (tmsOf mm.post.1).getD i "" = t := ⟨_, rfl⟩
      rw [ht] at ex hg hm ⊢
      have hdg : DGet H6 d (.str t) (some (.int (fv t))) := hg ▸ DGet.k (k := .inr t) (s5 _ _ (s4 _ _ (s2 _ _ hd1)))
      refine ⟨rfl, yes_of ⟨_, rfl, _, rfl, _, rfl, d, _, rfl, hdg, ks, .inr t, rfl, gD, (by rw [List.length_map] at hx; omega), same_D hD s5, _, upd_same, Nat.le_trans (putK_le _ _ _) (by omega), fun t' => ?_⟩⟩
      rw [valV_put, take_snoc ex]
      by_cases e : t' = t
      · subst e
        rw [if_pos rfl, if_pos (by simp)]
      · rw [if_neg (fun z => e (by injection z)), kv t']
        by_cases z : t' ∈ (tmsOf mm.post.1).take i
        · rw [if_pos z, if_pos (by simp [z])]
        · rw [if_neg z, if_neg (by simp [z, e])]
    rintro H5 ⟨s5, ks, gD, kl, kv⟩
    rw [List.length_map, List.take_of_length_le (Nat.le_refl _)] at kv
    have got : ∀ c ∈ mm.post.1, ∀ l ∈ c, Got ks fv l.1 ∧ Got ks fv l.2.1 := fun c hc l hl => by
      have go : ∀ t, t ∈ asked mm.post.1 → Got ks fv t := fun t ht => by
        unfold Got
        rw [kv t]
        by_cases z : t ∈ tmsOf mm.post.1
        · rw [if_pos z]; rfl
        · rw [if_neg z]
          have h1 : noRE t = false := by
            cases y : noRE t with
            | false => rfl
            | true => exact absurd (List.mem_filter.mpr ⟨ht, y⟩) z
          rw [noRE_eq] at h1
          by_cases y1 : t = ""
          · rw [y1, f1]; rfl
          · by_cases y2 : t = RES
            · rw [y2, f0]; rfl
            · simp [y1, y2] at h1
      have hm : ∀ t, t ∈ [l.1, l.2.1] → t ∈ asked mm.post.1 := fun t ht => List.mem_flatMap.mpr ⟨c, hc, List.mem_flatMap.mpr ⟨l, hl, ht⟩⟩
      exact ⟨go _ (hm _ (by simp)), go _ (hm _ (by simp))⟩
    have s25 := s2.trans (s4.trans s5)
    refine ⟨_, rfl, ca, C 0, cx, cfs, .ref vp, rfl, clx s25, M.X.cls 0 (by decide), M.X.no 0 (by decide) _ (by decide), CC.cl, vp, xs, mm.post.1, rfl, Cs.same s25 hC, sm, fun L3 us H6 nL3 s6 gL3 hP => ⟨L3, rfl, ⟨_, SqL.of gL3⟩, fun D2 hD2 => ?_⟩⟩
    have gD6 := s6 _ _ gD
    have pl : (picks mm.post.1).length ≤ 16 := by
      have := picks_len mm.post.1 (fun c hc => (sm.l c hc).2) mm.post.1.length (Nat.le_refl _)
      rw [List.take_length] at this
      exact Nat.le_trans this (Nat.le_trans (Nat.pow_le_pow_right (by decide) sm.n) (by decide))
    have ul : us.length = (picks mm.post.1).length := Paired.length hP
    have pin : ∀ p ∈ picks mm.post.1, ∀ l ∈ p, ∃ c ∈ mm.post.1, l ∈ c := fun p hp l hl => picks_in mm.post.1 p hp l hl
    refine walk_it (walk_list (xs := us)) (fun i H7 => Same H6 H7 ∧ ∃ ws, H7 D2 = some (.lst ws) ∧ Paired (fun x p => (rangeOf fv p = none ∧ x = .non) ∨ ∃ r, rangeOf fv p = some r ∧ x ≠ .non ∧ IsR K H7 x r) ws ((picks mm.post.1).take i)) ⟨new_same hD2, [], upd_same, .nil⟩ (fun i H7 _ h => SqL.of (h.1 _ _ gL3)) ?_ ?_
    · rintro i x H7 H8 hx ⟨s7, ws, gD2, hws⟩ ⟨rfl, hy⟩
      obtain ⟨p, hp, e, zs, rfl, he, hz⟩ := paired_get hP hy
      have hpm : p ∈ picks mm.post.1 := List.mem_of_getElem? hp
      have wl : ws.length ≤ 16 := by rw [Paired.length hws, List.length_take]; omega
      have tk := take_snoc hp
      have keep : ∀ {H9 : Hp} {u : HO}, Same H8 H9 → Paired (fun x p => (rangeOf fv p = none ∧ x = .non) ∨ ∃ r, rangeOf fv p = some r ∧ x ≠ .non ∧ IsR K (upd H9 D2 u) x r) ws ((picks mm.post.1).take i) := fun {H9 u} s9 => L2.Paired.mapP hws fun _ _ z => by
        rcases z with z | ⟨r, z1, z2, b, z3, z4⟩
        · exact .inl z
        · exact .inr ⟨r, z1, z2, b, z3, SqT.lst (s9 _ _ gD2) (SqT.same s9 z4)⟩
      refine ⟨rfl, yes_of ⟨_, rfl, _, rfl, e, D, zs, p, ks, fv, rfl, SqT.same s7 he, paired_same s7 hz, s7 _ _ gD6, (fun l hl => by
        obtain ⟨c, hc, hlc⟩ := pin p hpm l hl
        exact got c hc l hlc), fun hnone => ?_, fun r hr9 t H9 s9 g9 => ?_⟩⟩
      · refine ⟨ws, gD2, by omega, same_D hD2 s7, _, upd_same, ?_⟩
        rw [tk]
        exact paired_snoc (keep (fun _ _ z => z)) (.inl ⟨hnone, rfl⟩)
      · refine ⟨ws, s9 _ _ gD2, by omega, same_D hD2 (s7.trans s9), _, upd_same, ?_⟩
        rw [tk]
        exact paired_snoc (keep s9) (.inr ⟨r, hr9, (fun z => by cases z), t, rfl, SqT.lst (s9 _ _ gD2) (SqT.of g9)⟩)
    rintro H7 ⟨s7, ws, gD2, hws⟩
    rw [ul, List.take_of_length_le (Nat.le_refl _)] at hws
    have wl : ws.length ≤ 16 := by rw [Paired.length hws]; exact pl
    refine ⟨_, rfl, D2, rfl, ⟨_, SqL.of gD2⟩, fun D3 hD3 => ?_⟩
    refine walk_it (walk_list (xs := ws)) (fun i H8 => Same H7 H8 ∧ ∃ vs, H8 D3 = some (.lst vs) ∧ Paired (IsR K H8) vs (((picks mm.post.1).take i).filterMap (rangeOf fv))) ⟨new_same hD3, [], upd_same, .nil⟩ (fun i H8 _ h => SqL.of (h.1 _ _ gD2)) ?_ ?_
    · rintro i x H8 H9 hx ⟨s8, vs, gD3, hvs⟩ ⟨rfl, hy⟩
      obtain ⟨p, hp, hz⟩ := paired_get hws hy
      have tk := take_snoc hp
      have vl : vs.length ≤ 16 := by
        rw [Paired.length hvs]
        exact Nat.le_trans (List.length_filterMap_le _ _) (by rw [List.length_take]; omega)
      rcases hz with ⟨z1, rfl⟩ | ⟨r, z1, z2, z3⟩
      · refine ⟨rfl, _, rfl, rfl, false, rfl, iteF ⟨s8, vs, gD3, ?_⟩⟩
        rw [tk, List.filterMap_append, List.filterMap_cons, z1]
        simpa using hvs
      · obtain ⟨b, rfl, z4⟩ := z3
        refine ⟨rfl, _, rfl, rfl, true, rfl, iteT ⟨_, rfl, vs, gD3, by omega, same_D hD3 s8, _, upd_same, ?_⟩⟩
        rw [tk, List.filterMap_append, List.filterMap_cons, z1]
        refine paired_snoc (L2.Paired.mapP hvs fun _ _ ⟨b', e', z'⟩ => ⟨b', e', SqT.lst gD3 z'⟩) ⟨b, rfl, SqT.lst gD3 (SqT.same s8 z4)⟩
    rintro H8 ⟨s8, vs, gD3, hvs⟩
    rw [Paired.length hws, List.take_of_length_le (Nat.le_refl _)] at hvs
    obtain ⟨rs, hrs⟩ : ∃ rs, (picks mm.post.1).filterMap (rangeOf fv) = rs := ⟨_, rfl⟩
    rw [hrs] at hvs
    have vl : vs.length = rs.length := Paired.length hvs
    have rl : rs.length ≤ 16 := by rw [← hrs]; exact Nat.le_trans (List.length_filterMap_le _ _) pl
    have hmem : ∀ x, AnsR fv mm.post.1 x ↔ x ∈ rs := fun x => by rw [← hrs, List.mem_filterMap]
    have sH : Same H H8 := s1.trans (s25.trans (s6.trans (s7.trans s8)))
    have qq : ∀ r, IsAns (fun x => x ∈ rs) r → ∀ H', Same H8 H' → Q (optV r) H' := fun r hr9 H' s9 => q r (hr9.congr fun x => (hmem x).symm) H' (sH.trans s9)
    refine ⟨_, rfl, !vs.isEmpty, .inl ⟨_, SqL.of gD3, rfl⟩, ?_⟩
    by_cases hv0 : vs = []
    · subst hv0
      have hr0 : rs = [] := List.eq_nil_of_length_eq_zero vl.symm
      exact iteT (qq none (fun x hx => by rw [hr0] at hx; cases hx) H8 (fun _ _ z => z))
    have hvb : vs.isEmpty = false := by cases vs with | nil => exact absurd rfl hv0 | cons _ _ => rfl
    rw [hvb]
    refine iteF ?_
    have pick2 : ∀ {H' : Hp} {i : Nat} {x : V}, Same H8 H' → vs[i]? = some x → ∃ b, x = .ref b ∧ SqT K H' b [optV (rs.getD i (none, none)).1, optV (rs.getD i (none, none)).2] := fun {H' i x} s' hx => by
      obtain ⟨r, hr9, b, e, z⟩ := paired_get hvs hx
      have : rs.getD i (none, none) = r := by simp [List.getD, hr9]
      rw [this]
      exact ⟨b, e, SqT.same s' z⟩
    refine ⟨_, rfl, D3, rfl, ⟨_, SqL.of gD3⟩, fun D4 hD4 => ?_⟩
    refine lc_map (walk_list (xs := vs)) (fun i => optV (rs.getD i (none, none)).1) hD4 (by omega) (fun H' s' => SqL.of (s' _ _ gD3)) (fun i x H9 H9' R hi s9 ⟨e9, hx⟩ kk => ?_) fun H9 s9 gD4 => ?_
    · subst e9
      obtain ⟨b, rfl, zb⟩ := pick2 s9 hx
      exact ⟨b, _, rfl, zb, rfl, _, _, rfl, _, _, rfl, rfl, rfl, _, rfl, kk _ (fun _ _ z => z)⟩
    refine ⟨_, rfl, D3, rfl, ⟨_, SqL.of (s9 _ _ gD3)⟩, fun D5 hD5 => ?_⟩
    have nD5 : H8 D5 = none := Same.free s9 hD5
    refine lc_map (walk_list (xs := vs)) (fun i => optV (rs.getD i (none, none)).2) hD5 (by omega) (fun H' s' => SqL.of (s' _ _ (s9 _ _ gD3))) (fun i x Ha Ha' R hi sa ⟨ea, hx⟩ kk => ?_) fun Ha sa gD5 => ?_
    · subst ea
      obtain ⟨b, rfl, zb⟩ := pick2 (s9.trans sa) hx
      exact ⟨b, _, rfl, zb, rfl, _, _, rfl, _, _, rfl, rfl, rfl, _, rfl, kk _ (fun _ _ z => z)⟩
    have gD4a := sa _ _ gD4
    have sHa := s9.trans sa
    have m1 : (List.range vs.length).map (fun i => optV (rs.getD i (none, none)).1) = rs.map fun x => optV x.1 := by
      rw [vl]
      exact range_getD' rs (fun x => optV x.1)
    have m2 : (List.range vs.length).map (fun i => optV (rs.getD i (none, none)).2) = rs.map fun x => optV x.2 := by
      rw [vl]
      exact range_getD' rs (fun x => optV x.2)
    rw [m1] at gD4a
    rw [m2] at gD5
    have fl1 : (rs.map fun x => optV x.1).all flatV = true := flat_opt rs (·.1)
    have fl2 : (rs.map fun x => optV x.2).all flatV = true := flat_opt rs (·.2)
    refine ⟨_, rfl, D4, _, rfl, .inl (SqL.of gD4a), rfl, fl1, !inV .non (rs.map fun x => optV x.1), rfl, ?_⟩
    have rpos : 0 < rs.length := by rw [← vl]; exact List.length_pos_iff.mpr hv0
    have i1 := inV_opt rs (·.1)
    have i2 := inV_opt rs (·.2)
    by_cases h1 : inV .non (rs.map fun x => optV x.1) = true
    · have e1 := i1.mp h1
      rw [h1]
      refine iteF ⟨_, rfl, D5, _, rfl, .inl (SqL.of gD5), rfl, fl2, !inV .non (rs.map fun x => optV x.2), rfl, ?_⟩
      by_cases h2 : inV .non (rs.map fun x => optV x.2) = true
      · have e2 := i2.mp h2
        rw [h2]
        obtain ⟨y, hy, ey⟩ := e2
        have hfz : ∃ x ∈ rs, ∃ m, fz x = some m := ⟨y, hy, z0 y.1, by unfold fz; rw [ey]⟩
        refine iteF ⟨_, rfl, D3, vs, rs, rfl, SqL.of (sHa _ _ gD3), pairedR_same sHa hvs, by omega, hfz, fun m hm hle H' s' => ?_⟩
        exact qq (some m) (.inr (.inr ⟨e1, ⟨y, hy, ey⟩, hm, fun x z hx => hle x hx z⟩)) H' (sHa.trans s')
      · have n2 : ∀ x ∈ rs, x.2 ≠ none := fun x hx z => h2 (i2.mpr ⟨x, hx, z⟩)
        rw [Bool.eq_false_iff.mpr h2]
        have el : (rs.map fun x => optV x.2) = (rs.map fun x => x.2.getD 0).map V.int := by
          rw [List.map_map]
          refine List.map_congr_left fun x hx => ?_
          show optV x.2 = .int (x.2.getD 0)
          cases e : x.2 with
          | none => exact absurd e (n2 x hx)
          | some m => rfl
        rw [el] at gD5
        refine iteT ⟨_, rfl, D5, _, rfl, SqL.of gD5, by rw [List.length_map]; exact rpos, fun m hm hle => ?_⟩
        obtain ⟨x, hx, em⟩ := List.mem_map.mp hm
        refine qq (some m) (.inr (.inl ⟨e1, n2, ⟨x, hx, ?_⟩, fun z y hz e => ?_⟩)) Ha sHa
        · cases e : x.2 with
          | none => exact absurd e (n2 x hx)
          | some k => rw [e] at em; rw [← em]; rfl
        · exact hle y (List.mem_map.mpr ⟨z, hz, by rw [e]; rfl⟩)
    · have n1 : ∀ x ∈ rs, x.1 ≠ none := fun x hx z => h1 (i1.mpr ⟨x, hx, z⟩)
      rw [Bool.eq_false_iff.mpr h1]
      have el : (rs.map fun x => optV x.1) = (rs.map fun x => x.1.getD 0).map V.int := by
        rw [List.map_map]
        refine List.map_congr_left fun x hx => ?_
        show optV x.1 = .int (x.1.getD 0)
        cases e : x.1 with
        | none => exact absurd e (n1 x hx)
        | some m => rfl
      rw [el] at gD4a
      refine iteT ⟨_, rfl, D4, _, rfl, SqL.of gD4a, by rw [List.length_map]; exact rpos, fun m hm hle => ?_⟩
      obtain ⟨x, hx, em⟩ := List.mem_map.mp hm
      refine qq (some m) (.inl ⟨n1, ⟨x, hx, ?_⟩, fun z y hz e => ?_⟩) Ha sHa
      · cases e : x.1 with
        | none => exact absurd e (n1 x hx)
        | some k => rw [e] at em; rw [← em]; rfl
      · exact hle y (List.mem_map.mpr ⟨z, hz, by rw [e]; rfl⟩)
end

end Kx
set_option linter.all false
namespace Kx
open PySem L2 PySem.Spec PyProof.Rows
open StX (pe_makeR tMakeR)
/-! conditions joined clause by clause -/
abbrev sCond2 : Stmt := top 139
theorem CondF.same {K : PySem.W.Frag} {H H' : Hp} {a C dx p q : Addr} {cs : List (List Lit)} {ys : List PySem.Str} (s : Same H H') (h : CondF K H a C dx p q cs ys) : CondF K H' a C dx p q cs ys :=
  ⟨s _ _ h.ins, Exists.imp (fun _ z => Cs.same s z) h.cl, SqT.same s h.tm, h.so, h.nd, h.mem⟩
theorem make1_go {K : PySem.W.Frag} {H : Hp} {C : Addr} {Q : VK} {E : XK} {σ : L2.St} {i : Nat} {x : V} {c : List Lit} (hσ : σ[i]? = some (some x)) (hx : IsC K H x c) (hs : shortC [c]) (hw : firstWrong [c] = none)
    (k : ∀ r dz p q ys H', CondF K H' r C dz p q [c] ys → Same H H' → H r = none → Q (.ref r) H') : tMakeR C (spInit K C NoF) E (tCons (tVar i) tNil) σ H Q :=
  ⟨x, hσ, init_ok (fun _ _ z => z) (.cons hx .nil) hs (by show 1 ≤ 1000; decide) hw k⟩
theorem passN {X : Cx} : Passes (L2N.CX X.prog X.w) X E0 := fun _ _ _ _ _ _ _ h => by
  obtain ⟨_, _, _, _, _, _, _, _, _, _, _, _, z⟩ := h
  exact z.elim
theorem merge_idem (l : List (List Lit)) : ∀ i, merge [] (merge [] (l.take i)) = merge [] (l.take i)
  | 0 => rfl
  | i + 1 => by
    have ih := merge_idem l i
    rw [List.take_add_one]
    cases e : l[i]? with
    | none => show merge [] (merge [] (l.take i ++ [])) = merge [] (l.take i ++ []); rw [List.append_nil]; exact ih
    | some c =>
      show merge [] (merge [] (l.take i ++ [c])) = merge [] (l.take i ++ [c])
      rw [merge_snoc c (l.take i) []]
      by_cases h : c ∈ merge [] (l.take i)
      · rw [if_pos h]; exact ih
      · rw [if_neg h, merge_snoc c, ih, if_neg h]
theorem merge_step {l : List (List Lit)} {i : Nat} {c : List Lit} (h : l[i]? = some c) : merge [] (merge [] (l.take i) ++ [c]) = merge [] (l.take (i + 1)) := by
  rw [merge_snoc c, merge_idem, List.take_add_one, h]
  show _ = merge [] (l.take i ++ [c])
  rw [merge_snoc c]
/-- clauses that can be joined one by one -/
def spCond2 (K : PySem.W.Frag) (C : Addr) : Sp := fun vs H Q _ => ∃ (l : Addr) (ms : List V) (cs : List (List Lit)), vs = [.ref l] ∧ SqL K H l ms ∧ Paired (IsC K H) ms cs ∧ shortC cs ∧ okC cs ∧ cs.length ≤ 900 ∧ (∀ i, firstWrong (merge [] (cs.take i)) = none) ∧ (∀ c ∈ cs, firstWrong [c] = none) ∧
  ∀ r dz p q ys H', CondF K H' r C dz p q (merge [] cs) ys → Same H H' → H r = none → Q (.ref r) H'
section
variable {P : Program} {w : World} {K : PySem.W.Frag} {mg : PySem.Str → Option Value} {base : Heap} {B CB fB C fI : Addr} {fdB fdI : FuncData}
structure AndOf (K : PySem.W.Frag) (mg : PySem.Str → Option Value) (B CB fB C fI fA : Addr) (fdB fdI fdA : FuncData) : Prop where
  A : CondAll K mg B CB fB C fI fdB fdI
  F : Fun K "__and__" "Cond.__and__" sAnd fA fdA
  b : Binds K fdA ["self", "other"] []
  hc : PySem.W.selfFirst K C = true
  hs : PySem.W.findIn K (.ref C) (PySem.dunder (Operator.info .BitAnd).2) = some (some (.ref fA))
  hf : PySem.W.isFn K (.ref fA) = true
  G : Gt K B
  gB : mg "ContractError" = some (.ref B)
abbrev nC2 : List PySem.Str := ["_law_clauses", "_law_found", "_law_clause"]
theorem scCond2 : FnScope nC2 ["_law_clauses"] (defScope sCond2) := ⟨rfl, rfl, rfl, by decide +kernel, rfl, by decide +kernel, by decide +kernel⟩
theorem ok_cond2 {f fA : Addr} {fd fdA : FuncData} (F : Fun K "_law_joined" "_law_joined" sCond2 f fd) (N : AndOf K mg B CB fB C fI fA fdB fdI fdA) : FnOk P w K mg base CX0 9 f fd ["_law_clauses"] (spCond2 K C) := by
  have M := N.A
  have D := M.D
  have T := D.M.T
  have GI : FnR P w K mg base CX0 6 fI (spInit K C NoF) := fnR_init0 M.I D
  have GA : FnOk P w K mg base (L2N.CX P w) 8 fA fdA ["self", "other"] (spAnd K C CB) := ok_and N.F N.A
  refine F.ok scCond2 (fun vs H Q E h => ?_) (fun cdv A outer s H vs Q E hr h => ?_)
  · obtain ⟨l, ms, cs, rfl, _⟩ := h
    rfl
  · obtain ⟨l, ms, cs, rfl, hl, hp, hsh, hok, h4, hw, hw1, k⟩ := h
    have hml : ms.length = cs.length := Paired.length hp
    have hr7 : Room 7 (A.deeper (envOfC "_law_joined" (defScope sCond2) s.heap.objs.size f cdv)) := hr.mono (by decide)
    refine ⟨_, pss_cons (ps_set (i := 1) scCond2.nd rfl (Or.inl rfl) (pe_makeZ (k := 6) (E := E0) M.mkI GI hr7 (by rfl) D.gC pass0))
      (pss_cons (ps_for PassesOwn.never rfl (pi_list (pv 0)) (pg_name (i := 2) scCond2.nd rfl (Or.inl rfl))
        (pss_one (ps_set (i := 1) scCond2.nd rfl (Or.inl rfl) (pe_op (op_own (E := E0) N.hc N.hs N.hf GA hr N.b passN) (pv 1) (pe_makeR (k := 6) (E := E0) M.mkI GI hr7 (by rfl) D.gC pass0 (pa_cons (pv 2) pa_nil))))))
      (pss_one (ps_ret (pv 1)))), ?_⟩
    refine makeZ_go (E := E0) (σ := []) (Q := fun x H1 => gName 1 x (L2.start nC2 [V.ref l]) H1 _) fun r0 dz0 p0 q0 ys0 H1 hF0 s1 hr0 => ?_
    refine ⟨_, rfl, l, rfl, ⟨ms, Kx.SqL.same s1 hl⟩, ?_⟩
    refine for_list (xs := ms) (fun i σ H3 => (∃ v2 r dz p q ys, σ = [some (.ref l), some (.ref r), v2] ∧ CondF K H3 r C dz p q (merge [] (cs.take i)) ys ∧ H r = none) ∧ Same H H3)
      ⟨⟨none, r0, dz0, p0, q0, ys0, rfl, hF0, hr0⟩, s1⟩ (fun i σ H3 _ h => Kx.SqL.same h.2 hl) ?_ ?_
    · rintro i x σ H3 hx ⟨⟨v2, r, dz, p, q, ys, rfl, hF, hrn⟩, s3⟩
      obtain ⟨c, hcl, hxc⟩ := paired_get hp hx
      have hcm : c ∈ cs := List.mem_of_getElem? hcl
      have hsub : ∀ d ∈ merge [] (cs.take i) ++ [c], d ∈ cs := fun d hd => by
        rcases List.mem_append.mp hd with z | z
        · rcases merge_sub _ _ _ z with z | z
          · cases z
          · exact List.mem_of_mem_take z
        · rw [List.mem_singleton.mp z]
          exact hcm
      refine ⟨_, rfl, ?_⟩
      refine make1_go (E := E0) (C := C) (i := 2) (σ := [some (.ref l), some (.ref r), some x]) (Q := fun y H2 => rOwn C (spAnd K C CB) E0 (.ref r) y H2 _) rfl (IsC.same s3 hxc) (fun d hd => by rw [List.mem_singleton.mp hd]; exact hsh c hcm) (hw1 c hcm) fun r' dz' p' q' ys' H4 hF' s4 hr' => ?_
      have hFk : CondF K H4 r C dz p q (merge [] (cs.take i)) ys := CondF.same s4 hF
      refine ⟨r, r', dz, dz', _, _, rfl, rfl, hFk.ins, hF'.ins, r, r', dz, dz', p, q, p', q', merge [] (cs.take i), [c], ys, ys', rfl, hFk, hF', fun d hd => hsh d (hsub d hd), fun d hd => hok d (hsub d hd), ?_, ?_, ?_⟩
      · have e2 := merge_len (cs.take i) []
        rw [List.length_take] at e2
        have e3 : ([] : List (List Lit)).length = 0 := rfl
        rw [List.length_append]
        show _ + 1 ≤ 1000
        omega
      · rw [merge_step hcl]
        intro _ r5 dz5 p5 q5 ys5 H5 hF5 s5 hr5
        have s35 : Same H H5 := fun b u z => s5 _ _ (s4 _ _ (s3 _ _ z))
        exact ⟨⟨_, r5, dz5, p5, q5, ys5, rfl, hF5, Same.free (show Same H H4 from fun b u z => s4 _ _ (s3 _ _ z)) hr5⟩, s35⟩
      · intro j hj
        rw [merge_step hcl, hw] at hj
        cases hj
    · rintro σ H3 ⟨⟨v2, r, dz, p, q, ys, rfl, hF, hrn⟩, s3⟩
      rw [hml, List.take_of_length_le (Nat.le_refl _)] at hF
      exact ⟨_, rfl, k r dz p q ys H3 hF s3 hrn⟩
end
end Kx
set_option linter.all false
namespace Kx
open PySem L2 PySem.Spec PyProof.Rows
/-! a library of classes without bases -/
def oF (cs : List KD) : Ord := fun n => if n ∈ cs.map (·.name) then some [n] else none
theorem oF_is {cs : List KD} {n : Str} {l : List Str} (h : oF cs n = some l) : n ∈ cs.map (·.name) ∧ l = [n] := by
  unfold oF at h
  split at h
  · rename_i z
    cases h
    exact ⟨z, rfl⟩
  · cases h
structure Flat (cs : List KD) : Prop where
  nd : (cs.map (·.name)).Nodup
  nm : ∀ k ∈ cs, isName k.name = true ∧ k.name.length ≤ 1000 ∧ PyData.strOk k.name = true
  few : cs.length ≤ 4
  bs : ∀ k ∈ cs, k.bases = []
  fs : ∀ k ∈ cs, k.fields.length ≤ 3 ∧ ∀ t ∈ k.fields, t.length ≤ 1000
  ms : ∀ k ∈ cs, k.methods.length ≤ 3
  fc : ∀ k ∈ cs, FineC cs (oF cs) k
  fm : ∀ k ∈ cs, ∀ m ∈ k.methods, FineM cs (oF cs) k m
  bo : ∀ k ∈ cs, ∀ m ∈ k.methods, BodyOk m
theorem flat_row {cs : List KD} (F : Flat cs) {n : Str} {l : List Str} (h : oF cs n = some l) : RowOk l := by
  obtain ⟨hn, rfl⟩ := oF_is h
  obtain ⟨k, hk, rfl⟩ := List.mem_map.mp hn
  exact ⟨(fun z => nomatch z), by simp, (fun x hx => by rw [List.mem_singleton.mp hx]; exact (F.nm k hk).2.2), by show 1 ≤ 100; decide⟩
theorem flat_look {cs : List KD} (F : Flat cs) {n : Str} {l : List Str} (h : look (cs.map fun k => (k.name, k.bases)) n = some l) : l = [] ∧ n ∈ cs.map (·.name) := by
  unfold look at h
  obtain ⟨b, hb, rfl⟩ := Option.map_eq_some_iff.mp h
  obtain ⟨k, hk, rfl⟩ := List.mem_map.mp (List.mem_of_find?_eq_some hb)
  have hn : k.name = n := by simpa using List.find?_some hb
  exact ⟨F.bs k hk, List.mem_map.mpr ⟨k, hk, hn⟩⟩
theorem flat_look2 {cs : List KD} (F : Flat cs) {ns : List Str} (pn : ns.Perm (cs.map (·.name))) {n : Str} {l : List Str} (h : look (bsOf cs ns) n = some l) : l = [] := by
  have hm : n ∈ ns := by
    have := look_mem (bs := bsOf cs ns) (n := n) (by rw [h]; rfl)
    unfold bsOf at this
    rw [List.map_map] at this
    obtain ⟨y, hy, rfl⟩ := List.mem_map.mp this
    exact hy
  rw [bsOf_look hm] at h
  obtain ⟨k, hk⟩ := kd_some (pn.mem_iff.mp hm)
  rw [hk] at h
  cases h
  exact F.bs k (kd_name hk).2
theorem no_up0 {bs : Bs} (h : ∀ n l, look bs n = some l → l = []) : ∀ {x y : Str}, ¬ Up bs x y := fun u => by
  cases u with
  | one e m => rw [h _ _ e] at m; cases m
  | more _ e m => rw [h _ _ e] at m; cases m
theorem flat_fine {cs : List KD} (F : Flat cs) : LibFine cs (oF cs) (fun _ => 0) := by
  have l1 : ∀ n l, look (cs.map fun k => (k.name, k.bases)) n = some l → l = [] := fun n l e => (flat_look F e).1
  have few := F.few
  refine ⟨⟨F.nd, fun k hk => ⟨(F.nm k hk).1, (F.nm k hk).2.1⟩, by omega⟩, fun k hk => ?_, fun ns pn => ⟨⟨fun n l e y hy => ?_, fun n l e => ?_, ?_⟩, fun n => no_up0 fun n l e => flat_look2 F pn e⟩, ⟨fun n l e y hy => ?_, fun n l e => ?_, by rw [List.length_map]; omega⟩, ⟨fun n l e => ?_, fun n l e => flat_row F e, fun n l e ne => absurd (l1 n l e) ne, fun n l e y hy => ?_, fun n e => ?_⟩, fun _ => by decide, ⟨fun n l e x hx => ?_, fun n l e => flat_row F e, fun n hn => ⟨[n], if_pos hn⟩, fun k hk => (F.fs k hk).1, F.ms, fun n l e => ?_, fun k hk => (F.fs k hk).2⟩, F.fc, F.fm, F.bo⟩
  · rw [F.bs k hk]
    exact ⟨by decide +kernel, (fun _ z => nomatch z), Nat.zero_le _, (fun _ z => nomatch z)⟩
  · rw [flat_look2 F pn e] at hy; cases hy
  · rw [flat_look2 F pn e]; exact Nat.zero_le _
  · unfold bsOf; rw [List.length_map, pn.length_eq, List.length_map]; omega
  · rw [l1 n l e] at hy; cases hy
  · rw [l1 n l e]; exact Nat.zero_le _
  · obtain ⟨rfl, hn⟩ := flat_look F e
    have e1 : ordStep (oF cs) n [] = some [n] := by
      unfold ordStep
      simp [merged, mergeF, tot]
    rw [e1]
    exact if_pos hn
  · rw [l1 n l e] at hy; cases hy
  · obtain ⟨l, hl⟩ := Option.isSome_iff_exists.mp e
    obtain ⟨k, hk, rfl⟩ := List.mem_map.mp (flat_look F hl).2
    exact (F.nm k hk).2.2
  · obtain ⟨hn, rfl⟩ := oF_is e
    rw [List.mem_singleton.mp hx]
    exact hn
  · obtain ⟨_, rfl⟩ := oF_is e
    show 1 ≤ 20
    decide
theorem flat_flds {cs : List KD} (F : Flat cs) {k : KD} (hk : k ∈ cs) : fldsOf cs (oF cs) k.name = k.fields := by
  have hn : k.name ∈ cs.map (·.name) := List.mem_map.mpr ⟨k, hk, rfl⟩
  obtain ⟨k', hk'⟩ := kd_some hn
  have e : k' = k := by
    obtain ⟨h1, h2⟩ := kd_name hk'
    have : ∀ {l : List KD}, (l.map (·.name)).Nodup → k ∈ l → k' ∈ l → k' = k := fun {l} nd a b => by
      induction l with
      | nil => cases a
      | cons x r ih =>
        rw [List.map_cons, List.nodup_cons] at nd
        rcases List.mem_cons.mp a with e1 | a2
        · rcases List.mem_cons.mp b with e2 | b2
          · rw [e1, e2]
          · exact absurd (List.mem_map.mpr ⟨k', b2, h1.trans (congrArg KD.name e1)⟩) nd.1
        · rcases List.mem_cons.mp b with e2 | b2
          · exact absurd (List.mem_map.mpr ⟨k, a2, h1.symm.trans (congrArg KD.name e2)⟩) nd.1
          · exact ih nd.2 a2 b2
    exact this F.nd hk h2
  unfold fldsOf oF
  rw [if_pos hn]
  unfold fldsL
  simp [hk', e]
theorem flat_dbl {cs : List KD} (F : Flat cs) (nd : ∀ k ∈ cs, k.fields.Nodup) (ns : List Str) : fdbl cs (oF cs) ns = none := by
  unfold fdbl
  rw [List.find?_eq_none]
  intro n _
  cases e : kd cs n with
  | none => simp
  | some k =>
    have hk := (kd_name e).2
    show ¬ (dbl cs (oF cs) k = true)
    unfold dbl
    rw [flat_flds F hk, decide_eq_true (nd k hk)]
    decide
theorem flat_alike {cs : List KD} (F : Flat cs) (ns : List Str) (hn : ∀ n ∈ ns, n ∈ cs.map (·.name)) : allAl cs (oF cs) ns := fun n h m hm => by
  have e : ordOf (oF cs) n = [n] := by
    unfold ordOf oF
    rw [if_pos (hn n h)]
    rfl
  rw [e]
  unfold alike firstM
  cases q : ([n].find? (hasM cs m)) with
  | none => rfl
  | some e' =>
    have : e' = n := List.mem_singleton.mp (List.mem_of_find?_eq_some q)
    subst this
    show (match mAt cs m e' with | none => true | some md0 => [e'].all (alikeTo cs m md0)) = true
    cases q2 : mAt cs m e' with
    | none => rfl
    | some md =>
      show [e'].all (alikeTo cs m md) = true
      simp [alikeTo, q2, sameSig]

end Kx
set_option linter.all false
namespace Kx
open PySem L2 PySem.Spec PyProof.Rows
theorem wr_none : ∀ (l : List (List Lit)) (i d : Nat), d ≤ 1 → (wrongAt i d l = none ↔ (∀ c ∈ l, stands c = true) ∧ d + l.countP (fun c => decide (c.length = 2)) ≤ 1)
  | [], i, d, hd => by
    refine ⟨fun _ => ⟨fun _ h => (nomatch h), by simpa using hd⟩, fun _ => rfl⟩
  | c :: r, i, d, hd => by
    unfold wrongAt
    by_cases hs : stands c = true
    case neg =>
      rw [if_neg hs]
      refine ⟨fun h => (nomatch h), fun h => absurd (h.1 c List.mem_cons_self) hs⟩
    case pos =>
    rw [if_pos hs, List.countP_cons]
    by_cases h2 : c.length = 2
    · rw [if_pos h2, decide_eq_true h2, if_pos (show true = true from rfl)]
      by_cases h3 : d + 1 = 2
      · rw [if_pos h3]
        refine ⟨fun h => (nomatch h), fun h => ?_⟩
        have := h.2
        omega
      · rw [if_neg h3, wr_none r (i + 1) (d + 1) (by omega)]
        refine ⟨fun h => ⟨fun x hx => ?_, by omega⟩, fun h => ⟨fun x hx => h.1 x (List.mem_cons_of_mem _ hx), by omega⟩⟩
        rcases List.mem_cons.mp hx with rfl | z
        · exact hs
        · exact h.1 x z
    · rw [if_neg h2, decide_eq_false h2, if_neg (show ¬ (d = 2) by omega), wr_none r (i + 1) d hd, if_neg (show ¬ (false = true) by decide), Nat.add_zero]
      refine ⟨fun h => ⟨fun x hx => ?_, by omega⟩, fun h => ⟨fun x hx => h.1 x (List.mem_cons_of_mem _ hx), by omega⟩⟩
      rcases List.mem_cons.mp hx with rfl | z
      · exact hs
      · exact h.1 x z
theorem firstC_none {cs : List (List Lit)} : firstWrong cs = none ↔ cs.length ≤ 4 ∧ (∀ c ∈ cs, stands c = true) ∧ cs.countP (fun c => decide (c.length = 2)) ≤ 1 := by
  unfold firstWrong
  by_cases h : 4 < cs.length
  · rw [if_pos h]
    exact ⟨fun z => (nomatch z), fun z => absurd z.1 (by omega)⟩
  · rw [if_neg h, wr_none cs 0 0 (by decide), Nat.zero_add]
    exact ⟨fun z => ⟨by omega, z⟩, fun z => z.2⟩
theorem first_sub {cs ds : List (List Lit)} (h : firstWrong cs = none) (s : ds.Sublist cs) : firstWrong ds = none := by
  rw [firstC_none] at *
  exact ⟨Nat.le_trans s.length_le h.1, fun c hc => h.2.1 c (s.subset hc), Nat.le_trans s.countP_le h.2.2⟩

open StX (CallO InsC insC_at callO_with)
section
variable {X : Cx}
/-- f(e, ..), f an instance of C, within a try -/
theorem pe_callOX {W : WX} {k : Nat} {g C : Addr} {fd : FuncData} {ps : List PySem.Str} {sp : Sp} {fe e : Expr} {es : List Expr} {tf : TE} {t : TA} {pos : Pos} (tk : L2N.Takes X W) (hf : PE X fe tf) (c : CallO X.K C g)
    (F : FnOk X.prog X.w X.K X.mg X.base (L2N.CX X.prog X.w) k g fd ps sp) (hr : Room k X.A) (hb : Binds X.K fd ps []) (ha : PA X (e :: es) t)
    (ht : eval (.Call fe (e :: es) [] pos) X.env = (do callWith pos (← eval fe X.env) [] (backTo pos (starEach (e :: es) X.env)) (backToKw pos (keywordEach [] X.env))) := by rfl)
    (he : starEach (e :: es) X.env = (false, eval e X.env) :: starEach es X.env := by rfl) (hpl : (backTo pos (starEach es X.env)).any (·.1) = false := by rfl) :
    PE X (.Call fe (e :: es) [] pos) (fun σ H Q => tf σ H fun y H1 => ∃ a, y = V.ref a ∧ t σ H1 fun vs H2 => InsC X H2 a C ∧ sp (V.ref a :: vs) H2 Q (WE W σ)) := by
  refine ⟨fun pins s σ H Q I h => ?_⟩
  refine Call_ (thn (hf.run pins s σ H _ I h) fun u s1 ⟨y, H1, I1, ry, a, ey, q⟩ => ?_) ht
  subst ey
  obtain rfl : u = Value.ref a := ry
  refine callO_with (thn (ha.run pos pins s1 σ H1 _ I1 q) fun us s2 ⟨vs, H2, I2, r, hi, q2⟩ => ?_) he hpl
  obtain ⟨ox, od, J, hd⟩ := insC_at I2 hi
  refine ⟨⟨C, ox, od, J, hd⟩, ?_⟩
  have r2 : Vals (V.ref a :: vs) (Value.ref a :: us) := .cons rfl r
  have hl : (Value.ref a :: us).length = ps.length := by rw [← r2.length]; exact F.len _ _ _ _ q2
  have b := hb s2 (.ref a :: us) I2.kIn (by rw [List.append_nil]; exact hl)
  rw [List.append_nil] at b
  refine wpAny_call (PySem.W.kco_code I2.kIn J hd c.at_ c.fn c.fi (codeAny_mono (F.run X.A X.stack s2 H2 ⟨.ref a :: us, []⟩ (.ref a :: us) (V.ref a :: vs) Q (WE W σ) hr I2.env0 b r2 q2) fun rr s' hq => ?_))
  cases rr with
  | error e => exact L2N.passAt tk σ pins H2 s2 e s' I2 hq
  | ok fl =>
    cases fl with
    | ret u => exact I2.after hq
    | next => exact False.elim hq
    | brk => exact False.elim hq
    | cont => exact False.elim hq
end

/-! clauses as they are drawn -/
def T4 : List Str := ["x", "p.f", "self.g", "", RES]
def LitOk (l : Lit) : Prop := (l.1 ∈ T4 ∧ l.2.1 ∈ T4) ∧ -6 ≤ l.2.2 ∧ l.2.2 ≤ 6
theorem t4_cases {t : Str} (h : t ∈ T4) : t = "x" ∨ t = "p.f" ∨ t = "self.g" ∨ t = "" ∨ t = RES := by simpa [T4] using h
theorem shT : ∀ t ∈ T4, Short t := fun t h => by
  rcases t4_cases h with rfl | rfl | rfl | rfl | rfl <;> exact ⟨by decide +kernel, by decide +kernel, by decide +kernel⟩
theorem okT4 : ∀ t ∈ T4, PyData.strOk t = true ∧ isTerm t = true := by decide +kernel
theorem LitOk.t4 {l : Lit} (h : LitOk l) : l.1 ∈ T4 ∧ l.2.1 ∈ T4 := h.1
structure ClsOk (cs : List (List Lit)) : Prop where
  n : cs.length ≤ 4
  l : ∀ c ∈ cs, 1 ≤ c.length ∧ c.length ≤ 2
  d : cs.countP (fun c => decide (c.length = 2)) ≤ 1
  o : ∀ c ∈ cs, ∀ l ∈ c, LitOk l
theorem ClsOk.sm {cs : List (List Lit)} (h : ClsOk cs) : SmC cs := ⟨h.n, h.l⟩
theorem ClsOk.sub {cs ds : List (List Lit)} (h : ClsOk cs) (s : ds.Sublist cs) : ClsOk ds :=
  ⟨Nat.le_trans s.length_le h.n, fun c hc => h.l c (s.subset hc), Nat.le_trans s.countP_le h.d, fun c hc => h.o c (s.subset hc)⟩
theorem ClsOk.stands {cs : List (List Lit)} (h : ClsOk cs) : ∀ c ∈ cs, stands c = true := fun c hc => by
  unfold Kx.stands
  rw [Bool.and_eq_true, decide_eq_true_iff, List.all_eq_true]
  refine ⟨by have := (h.l c hc).2; omega, fun l hl => ?_⟩
  obtain ⟨a, b⟩ := (h.o c hc l hl).t4
  rw [(okT4 _ a).2, (okT4 _ b).2]
  rfl
theorem ClsOk.first {cs : List (List Lit)} (h : ClsOk cs) : firstWrong cs = none := firstC_none.mpr ⟨h.n, h.stands, h.d⟩
theorem ClsOk.short {cs : List (List Lit)} (h : ClsOk cs) : shortC cs := fun c hc l hl => ⟨shT _ (h.o c hc l hl).t4.1, shT _ (h.o c hc l hl).t4.2⟩
theorem ClsOk.ok {cs : List (List Lit)} (h : ClsOk cs) : okC cs := fun c hc l hl => ⟨(okT4 _ (h.o c hc l hl).t4.1).1, (okT4 _ (h.o c hc l hl).t4.2).1⟩
theorem sub_snoc {α : Type} {a b : List α} {x : α} (h : a.Sublist b) : a.Sublist (b ++ [x]) := h.trans (List.sublist_append_left _ _)
theorem merge_sublist (cs : List (List Lit)) : ∀ n, n ≤ cs.length → (merge [] (cs.take n)).Sublist (cs.take n)
  | 0, _ => List.Sublist.refl _
  | n + 1, h => by
    have ih := merge_sublist cs n (by omega)
    have e : cs.take (n + 1) = cs.take n ++ [cs[n]'(by omega)] := by rw [List.take_succ_eq_append_getElem (by omega)]
    rw [e, merge_snoc]
    split
    · exact sub_snoc ih
    · exact ih.append (List.Sublist.refl _)
theorem merge_sub0 (cs : List (List Lit)) : (merge [] cs).Sublist cs := by
  have := merge_sublist cs cs.length (Nat.le_refl _)
  rwa [List.take_length] at this
theorem merge_subT (cs : List (List Lit)) (n : Nat) : (merge [] (cs.take n)).Sublist cs := by
  by_cases h : n ≤ cs.length
  · exact (merge_sublist cs n h).trans (List.take_sublist _ _)
  · rw [List.take_of_length_le (by omega)]
    exact merge_sub0 cs

end Kx
set_option linter.all false
namespace Kx
open PySem L2 PySem.Spec PyProof.Rows
structure MethMk (K : PySem.W.Frag) (mg : Str → Option Value) (C fM : Addr) (fdM : FuncData) : Prop where
  M : Mk K C fM
  F : FunM K fM fdM
  g : mg "Method" = some (.ref C)
structure ClsMk (K : PySem.W.Frag) (mg : Str → Option Value) (C fC e0 e1 e2 : Addr) (fdC : FuncData) : Prop where
  M : Mk K C fC
  F : FunC K e0 e1 e2 fC fdC
  g : mg "ClassDef" = some (.ref C)
theorem okx_pairs {S : Nat → List OD → Prop} {cl : Nat → OCls} : ∀ (l : List (Str × Str)), okAll S (l.map pairO) ∧ noLs (l.map pairO) ∧ needAll cl (l.map pairO) ≤ 2
  | [] => ⟨trivial, trivial, Nat.zero_le _⟩
  | p :: l => let ⟨a, b, d⟩ := okx_pairs (S := S) (cl := cl) l; ⟨⟨⟨trivial, trivial, trivial⟩, a⟩, ⟨⟨trivial, trivial, trivial⟩, b⟩, Nat.max_le.mpr ⟨Nat.le_of_ble_eq_true rfl, d⟩⟩
theorem partx {cl : Nat → OCls} {S : Nat → List OD → Prop} {n : Nat} : ∀ {ds : List OD}, (∀ d ∈ ds, okO S d ∧ noL d ∧ need cl d ≤ n) → okAll S ds ∧ noLs ds ∧ needAll cl ds ≤ n
  | [], _ => ⟨trivial, trivial, Nat.zero_le _⟩
  | d :: ds, h => let ⟨a, b, c⟩ := h d List.mem_cons_self; let ⟨e, f, g⟩ := partx fun x hx => h x (List.mem_cons_of_mem _ hx); ⟨⟨a, e⟩, ⟨b, f⟩, Nat.max_le.mpr ⟨c, g⟩⟩
theorem keep_upd {p D : Addr} {H H2 : Hp} {o : HO} (hD : H D = none) (k : KeepB p H H2) : KeepB p H (upd H2 D o) := fun b u n e => by
  rw [upd_ne (fun z => by rw [z, hD] at e; cases e)]
  exact k b u n e

abbrev sPost : Stmt := top 141
abbrev nPost : List Str := ["_law_well_here", "_law_terms", "_law_found", "_law_wide", "_law_k", "_law_rows", "_law_turn", "_law_left", "_law_right"]
theorem scPost : FnScope nPost ["_law_well_here"] (defScope sPost) := ⟨rfl, rfl, rfl, by decide +kernel, rfl, by decide +kernel, by decide +kernel⟩
theorem IsLit.keepB {K : PySem.W.Frag} {H H' : Hp} {p : Addr} {ms : List V} {x : V} {l : Lit} (hp : H p = some (.lst ms)) (k : KeepB p H H') (h : IsLit K H x l) : IsLit K H' x l := let ⟨a, e, q⟩ := h; ⟨a, e, SqT.keepB hp k q⟩
theorem IsC.keepB {K : PySem.W.Frag} {H H' : Hp} {p : Addr} {ms : List V} {x : V} {c : List Lit} (hp : H p = some (.lst ms)) (k : KeepB p H H') (h : IsC K H x c) : IsC K H' x c :=
  let ⟨a, ys, e, q⟩ := h; ⟨a, ys, e, SqT.keepB hp k q.sq, L2.Paired.mapP q.p fun _ _ z => IsLit.keepB hp k z, q.l1, q.l2⟩
/-! the drawn postcondition -/
def spPost (K : PySem.W.Frag) (C : Addr) : Sp := fun vs H Q _ => ∃ (p : Addr) (n : Int), vs = [.ref p] ∧ WellAt H p n ∧ n + 100 ≤ 1000000 ∧
  ∀ r dz pp qq ys cs H', CondF K H' r C dz pp qq cs ys → ClsOk cs → KeepB p H H' → WellAt H' p (n + 60) → Q (.ref r) H'
theorem post_turn {K : PySem.W.Frag} {Hc Hx Hu : Hp} {p Lt Lf Lr tt : Addr} {wd n r6 : Int} {i j k2 : Nat} {vs z6 : List V} {c : List Lit} {t1 t2 : Str} (hj : j < k2) (i4 : i ≤ 3) (nLr : Hc Lr = none) (nrp : Lr ≠ p) (ntp : Lt ≠ p)
    (kx : KeepB p Hc Hx) (gtx : Hx Lt = some (.lst (T4.map V.str))) (ntr : Lt ≠ Lr) (k12 : k2 = 1 ∨ k2 = 2) (gx : Hx Lr = some (.lst vs)) (hvs : Paired (IsLit K Hx) vs c) (cl : c.length = j) (hc : ∀ l ∈ c, LitOk l) (Wx : WellAt Hx p (n + 2 + 10 * i + 4 * j)) (k5 : KeepB p Hx Hu)
    (W6 : WellAt (upd Hu p (.lst z6)) p (n + 2 + 10 * i + 4 * j + 4)) (ntt : (upd Hu p (.lst z6)) tt = none) (m1 : t1 ∈ T4) (m2 : t2 ∈ T4) (a6 : 0 ≤ r6) (b6 : r6 < 13) :
    ∃ (D : Addr) (ws : List V) (x : V), V.ref Lr = .ref D ∧ [V.ref tt] = [x] ∧ (upd (upd Hu p (.lst z6)) tt (.tup [.str t1, .str t2, .int (r6 - 6)])) D = some (.lst ws) ∧ ws.length < sizeLine ∧
      ∃ o6 o7 o8 : Option V, ([some (.ref p), some (.ref Lt), some (.ref Lf), some (.int wd), some (.int (0 + (i : Int))), some (.ref Lr), some (.int (0 + (j : Int))), some (.str t1), some (.str t2)] : L2.St) = [some (.ref p), some (.ref Lt), some (.ref Lf), some (.int wd), some (.int (0 + (i : Int))), some (.ref Lr), o6, o7, o8] ∧
        KeepB p Hc (upd (upd (upd Hu p (.lst z6)) tt (.tup [.str t1, .str t2, .int (r6 - 6)])) D (.lst (ws ++ [x]))) ∧ WellAt (upd (upd (upd Hu p (.lst z6)) tt (.tup [.str t1, .str t2, .int (r6 - 6)])) D (.lst (ws ++ [x]))) p (n + 2 + 10 * i + 4 * (j + 1 : Nat)) ∧
        (upd (upd (upd Hu p (.lst z6)) tt (.tup [.str t1, .str t2, .int (r6 - 6)])) D (.lst (ws ++ [x]))) Lt = some (.lst (T4.map V.str)) ∧ ∃ vs' c', (upd (upd (upd Hu p (.lst z6)) tt (.tup [.str t1, .str t2, .int (r6 - 6)])) D (.lst (ws ++ [x]))) Lr = some (.lst vs') ∧
        Paired (IsLit K (upd (upd (upd Hu p (.lst z6)) tt (.tup [.str t1, .str t2, .int (r6 - 6)])) D (.lst (ws ++ [x])))) vs' c' ∧ c'.length = j + 1 ∧ ∀ l ∈ c', LitOk l := by
  obtain ⟨ms, ep⟩ := Wx.lst
  have k6 : KeepB p Hx (upd Hu p (.lst z6)) := k5.trans KeepB.at
  obtain ⟨Hv, ev⟩ : ∃ G, upd Hu p (.lst z6) = G := ⟨_, rfl⟩
  rw [ev] at W6 k6 ntt ⊢
  have st : Same Hv (upd Hv tt (.tup [.str t1, .str t2, .int (r6 - 6)])) := new_same ntt
  have gtt : (upd Hv tt (.tup [.str t1, .str t2, .int (r6 - 6)])) tt = some (.tup [.str t1, .str t2, .int (r6 - 6)]) := upd_same
  have W7 := W6.same st
  obtain ⟨Hw, ew⟩ : ∃ G, upd Hv tt (.tup [.str t1, .str t2, .int (r6 - 6)]) = G := ⟨_, rfl⟩
  rw [ew] at st gtt W7 ⊢
  have kw := k6.trans (KeepB.of st)
  have gw := kw _ _ nrp gx
  have l1 : vs.length = j := (Paired.length hvs).trans cl
  have hvw := L2.Paired.mapP hvs fun _ _ z => IsLit.keepB ep kw z
  refine ⟨Lr, vs, .ref tt, rfl, rfl, gw, (by have : 100 ≤ sizeLine := le_sz (by decide); omega), _, _, _, rfl, keep_upd nLr (kx.trans kw), ?_, (upd_ne ntr).trans (kw _ _ ntp gtx), vs ++ [.ref tt], c ++ [(t1, t2, r6 - 6)], upd_same, ?_, by rw [List.length_append, cl]; rfl, fun l hl => ?_⟩
  · obtain ⟨a, b, c, e, r⟩ := W7
    exact WellAt.mono ⟨a, b, c, (upd_ne nrp.symm).trans e, r⟩ (by push_cast; omega)
  · exact paired_snoc (L2.Paired.mapP hvw fun _ _ z => IsLit.lst gw z) (IsLit.lst gw ⟨tt, rfl, SqT.of gtt⟩)
  · rcases List.mem_append.mp hl with z | z
    · exact hc l z
    · rw [List.mem_singleton.mp z]
      exact ⟨⟨m1, m2⟩, by show -6 ≤ r6 - 6; omega, by show r6 - 6 ≤ 6; omega⟩
section
variable {P : Program} {w : World} {K : PySem.W.Frag} {mg : Str → Option Value} {base : Heap} {CE CD fD C fI fA : Addr} {fdD fdI fdA : FuncData}
theorem ok_post {g : Addr} {fd : FuncData} (F : Fs K mg "_law_post" sPost ["_law_well_here"] g fd) (D : Drw K mg) (T : Bx mg) (rng : mg "range" = none) (J : AndOf K mg CE CD fD C fI fA fdD fdI fdA) (jo : ∃ g fd, Fs K mg "_law_joined" sCond2 ["_law_clauses"] g fd) : FnOk P w K mg base CX0 10 g fd ["_law_well_here"] (spPost K C) := by
  obtain ⟨_, _, dD⟩ := D.draw
  obtain ⟨_, _, dO⟩ := D.one
  obtain ⟨_, _, dJ⟩ := jo
  have GD : FnOk P w K mg base CX0 1 _ _ ["_law_well_here", "_law_base"] spDraw := ok_draw dD.F D.T
  have GO : FnOk P w K mg base CX0 2 _ _ ["_law_well_here", "_law_some"] (spOne K) := ok_one dO.F D.T dD.F dD.b dD.m
  have GJ : FnOk P w K mg base CX0 9 _ _ ["_law_clauses"] (spCond2 K C) := ok_cond2 dJ.F J
  refine F.F.ok scPost (fun vs H Q E h => ?_) (fun cdv A outer s H vs Q E hr h => ?_)
  · obtain ⟨_, _, rfl, _⟩ := h
    rfl
  · obtain ⟨p, n, rfl, W, hn, q⟩ := h
    have hrD : Room 1 (A.deeper (envOfC "_law_post" (defScope sPost) s.heap.objs.size g cdv)) := hr.mono (by decide)
    have hrO : Room 2 (A.deeper (envOfC "_law_post" (defScope sPost) s.heap.objs.size g cdv)) := hr.mono (by decide)
    have hrJ : Room 9 (A.deeper (envOfC "_law_post" (defScope sPost) s.heap.objs.size g cdv)) := hr.mono (by decide)
    have lim : 100 ≤ sizeLine := le_sz (by decide)
    refine ⟨_, (pss_cons (ps_par3 (i := 1) (j := 2) (l := 3) rfl scPost.nd rfl rfl rfl (by decide) (by decide) (by decide) rfl rfl rfl (pa_cons (pe_lst (pa_cons pe_str (pa_cons pe_str (pa_cons pe_str (pa_cons pe_str (pa_cons pe_str pa_nil)))))) (pa_cons (pe_lst pa_nil) (pa_cons (pe_call GD hrD (by rfl) dD.m dD.F.kp dD.b .nil pass0 (pa_cons (pv 0) (pa_cons pe_int pa_nil))) pa_nil))) (by rfl)) (pss_cons (ps_for PassesOwn.never rfl (pi_range1 rfl rng (pa_cons (pe_call GD hrD (by rfl) dD.m dD.F.kp dD.b .nil pass0 (pa_cons (pv 0) (pa_cons pe_int pa_nil))) pa_nil)) (pg_name (i := 4) scPost.nd rfl (Or.inl rfl)) (pss_cons (ps_set (i := 5) scPost.nd rfl (Or.inl rfl) (pe_lst pa_nil)) (pss_cons (ps_for PassesOwn.never rfl (pi_range1 rfl rng (pa_cons (pe_op op_add pe_int (pe_callTy call_int1 (by rfl) D.T.int (by decide +kernel) (pa_cons (pe_cmpR op_eq (pv 4) (pv 3) (nomark _)) pa_nil))) pa_nil)) (pg_name (i := 6) scPost.nd rfl (Or.inl rfl)) (pss_cons (ps_par (i := 7) (j := 8) rfl scPost.nd rfl rfl (by decide) rfl rfl (pa_cons (pe_call GO hrO (by rfl) dO.m dO.F.kp dO.b .nil pass0 (pa_cons (pv 0) (pa_cons (pv 1) pa_nil))) (pa_cons (pe_call GO hrO (by rfl) dO.m dO.F.kp dO.b .nil pass0 (pa_cons (pv 0) (pa_cons (pe_op op_cat (pv 1) (pe_lst (pa_cons pe_str (pa_cons pe_str pa_nil)))) pa_nil))) pa_nil)) (by rfl)) (pss_cons (ps_if (pt_cmpR op_eq (pe_call GD hrD (by rfl) dD.m dD.F.kp dD.b .nil pass0 (pa_cons (pv 0) (pa_cons pe_int pa_nil))) pe_int (nomark _)) (pss_one (ps_par (i := 7) (j := 8) rfl scPost.nd rfl rfl (by decide) rfl rfl (pa_cons (pv 8) (pa_cons (pv 7) pa_nil)) (by rfl))) pss_nil) (pss_one (ps_expr (pe_bm PySem.F.plainAttrs_list PySem.F.slot_list_append PySem.F.type_list_append mt_append (pv 5) (pa_cons (pe_tup (pa_cons (pv 7) (pa_cons (pv 8) (pa_cons (pe_op op_sub (pe_call GD hrD (by rfl) dD.m dD.F.kp dD.b .nil pass0 (pa_cons (pv 0) (pa_cons pe_int pa_nil))) pe_int) pa_nil)))) pa_nil))))))) (pss_one (ps_expr (pe_bm PySem.F.plainAttrs_list PySem.F.slot_list_append PySem.F.type_list_append mt_append (pv 2) (pa_cons (pe_tupleOf (by rfl) T.tuple (pv 5)) pa_nil))))))) (pss_one (ps_ret (pe_call GJ hrJ (by rfl) dJ.m dJ.F.kp dJ.b .nil pass0 (pa_cons (pv 2) pa_nil)))))), ?_⟩
    refine ⟨le_sz (Nat.le_of_ble_eq_true rfl), fun Lt nLt => ⟨le_sz (Nat.le_of_ble_eq_true rfl), fun Lf nLf => ?_⟩⟩
    have s1 : Same H (upd H Lt (.lst (T4.map V.str))) := new_same nLt
    have g1 : (upd H Lt (.lst (T4.map V.str))) Lt = some (.lst (T4.map V.str)) := upd_same
    obtain ⟨H1, e1⟩ : ∃ G, upd H Lt (.lst (T4.map V.str)) = G := ⟨_, rfl⟩
    have nLf : H1 Lf = none := e1 ▸ nLf
    rw [e1] at s1 g1
    show tCall _ _ _ _ _ (upd (upd H Lt (.lst (T4.map V.str))) Lf (.lst [])) _
    rw [e1]
    have s2 : Same H1 (upd H1 Lf (.lst [])) := new_same nLf
    have g2 : (upd H1 Lf (.lst [])) Lf = some (.lst []) := upd_same
    obtain ⟨H2, e2⟩ : ∃ G, upd H1 Lf (.lst []) = G := ⟨_, rfl⟩
    rw [e2] at s2 g2 ⊢
    have W2 := (W.same s1).same s2
    have nfp : Lf ≠ p := (W.same s1).ne nLf
    have ntp : Lt ≠ p := W.ne nLt
    have nft : Lf ≠ Lt := fun z => by rw [z, g1] at nLf; cases nLf
    refine ⟨_, rfl, p, 6, n, rfl, W2, by omega, by decide, by decide, fun wd z3 a3 b3 W3 => ?_⟩
    have k3 : KeepB p H2 (upd H2 p (.lst z3)) := KeepB.at
    obtain ⟨H3, e3⟩ : ∃ G, upd H2 p (.lst z3) = G := ⟨_, rfl⟩
    rw [e3] at W3 k3 ⊢
    refine ⟨_, _, _, rfl, _, rfl, p, 5, _, rfl, W3, by omega, by decide, by decide, fun m z4 a4 b4 W4 => ?_⟩
    have k4 : KeepB p H2 (upd H3 p (.lst z4)) := k3.trans KeepB.at
    obtain ⟨H4, e4⟩ : ∃ G, upd H3 p (.lst z4) = G := ⟨_, rfl⟩
    rw [e4] at W4 k4 ⊢
    have nLf0 : H Lf = none := Same.free s1 nLf
    have kH : KeepB p H H4 := (KeepB.of (s1.trans s2)).trans k4
    have gt4 := k4 _ _ ntp (s2 _ _ g1)
    have gf4 := k4 _ _ nfp g2
    refine ⟨m, rfl, by omega, by omega, for_range (lo := 0) (n := m.toNat) (fun i σ Hc => ∃ o4 o5 o6 o7 o8 : Option V, σ = [some (.ref p), some (.ref Lt), some (.ref Lf), some (.int wd), o4, o5, o6, o7, o8] ∧ KeepB p H Hc ∧ WellAt Hc p (n + 2 + 10 * i) ∧ Hc Lt = some (.lst (T4.map V.str)) ∧ ∃ us cs, Hc Lf = some (.lst us) ∧ Paired (IsC K Hc) us cs ∧ cs.length = i ∧ (∀ c ∈ cs, 1 ≤ c.length ∧ c.length ≤ 2) ∧ cs.countP (fun c => decide (c.length = 2)) ≤ 1 ∧ ((i : Int) ≤ wd → cs.countP (fun c => decide (c.length = 2)) = 0) ∧ ∀ c ∈ cs, ∀ l ∈ c, LitOk l) ⟨none, none, none, none, none, rfl, kH, W4.mono (by omega), gt4, [], [], gf4, .nil, rfl, (fun _ z => nomatch z), (by decide), (fun _ => rfl), (fun _ z => nomatch z)⟩ ?_ ?_⟩
    · rintro i σ Hc hi ⟨o4, o5, o6, o7, o8, rfl, kc, Wc, gt, us, cs, gf, hus, cl, h1, h2, h3, h4⟩
      have i4 : i ≤ 3 := by omega
      refine ⟨le_sz (Nat.le_of_ble_eq_true rfl), fun Lr nLr => ?_⟩
      have sr : Same Hc (upd Hc Lr (.lst [])) := new_same nLr
      have gr : (upd Hc Lr (.lst [])) Lr = some (.lst []) := upd_same
      have nrp : Lr ≠ p := Wc.ne nLr
      have ntr : Lt ≠ Lr := fun z => by rw [← z, gt] at nLr; cases nLr
      obtain ⟨Hd, ed⟩ : ∃ G, upd Hc Lr (.lst []) = G := ⟨_, rfl⟩
      rw [ed] at sr gr ⊢
      obtain ⟨k2, hk, hw⟩ : ∃ k2 : Nat, (1 + (if decide (V.int (0 + (i : Int)) = V.int wd) = true then (1 : Int) else 0)) = (k2 : Int) ∧ (k2 = 1 ∨ (k2 = 2 ∧ (i : Int) = wd)) := by
        by_cases z : V.int (0 + (i : Int)) = V.int wd
        · refine ⟨2, by rw [decide_eq_true z]; rfl, .inr ⟨rfl, ?_⟩⟩
          injection z with z
          omega
        · exact ⟨1, by rw [decide_eq_false z]; rfl, .inl rfl⟩
      have k12 : k2 = 1 ∨ k2 = 2 := by omega
      refine ⟨_, rfl, _, rfl, rfl, .inr ⟨_, rfl, _, _, rfl, rfl, (k2 : Int), (by rw [← hk]), by omega, by omega, ?_⟩⟩
      rw [Int.toNat_natCast]
      have gtd := sr _ _ gt
      refine for_range (lo := 0) (n := k2) (fun j σ Hx => ∃ o6 o7 o8 : Option V, σ = [some (.ref p), some (.ref Lt), some (.ref Lf), some (.int wd), some (.int (0 + (i : Int))), some (.ref Lr), o6, o7, o8] ∧ KeepB p Hc Hx ∧ WellAt Hx p (n + 2 + 10 * i + 4 * j) ∧ Hx Lt = some (.lst (T4.map V.str)) ∧ ∃ vs c, Hx Lr = some (.lst vs) ∧ Paired (IsLit K Hx) vs c ∧ c.length = j ∧ ∀ l ∈ c, LitOk l) ⟨o6, o7, o8, rfl, KeepB.of sr, (Wc.same sr).mono (by omega), gtd, [], [], gr, .nil, rfl, (fun _ z => nomatch z)⟩ ?_ ?_
      · rintro j σ Hx hj ⟨o6, o7, o8, rfl, kx, Wx, gtx, vs, c, gx, hvs, cl', hc⟩
        have T4l : (T4.map V.str).length = 5 := by decide
        refine ⟨_, rfl, _, rfl, p, Lt, _, T4.map V.str, rfl, Wx, by omega, ntp.symm, SqL.of gtx, by decide, by decide, fun r1 v1 z1 hv1 W1 => ?_⟩
        have k1 : KeepB p Hx (upd Hx p (.lst z1)) := KeepB.at
        obtain ⟨Hy, ey⟩ : ∃ G, upd Hx p (.lst z1) = G := ⟨_, rfl⟩
        rw [ey] at W1 k1 ⊢
        obtain ⟨rfl, m1⟩ := get_str hv1
        generalize T4.getD r1 "" = t1 at m1
        refine ⟨_, rfl, _, rfl, le_sz (Nat.le_of_ble_eq_true rfl), fun L2 nL2 => ?_⟩
        have sy : Same Hy (upd Hy L2 (.lst [.str "result", .str "result"])) := new_same nL2
        have gy : (upd Hy L2 (.lst [.str "result", .str "result"])) L2 = some (.lst [.str "result", .str "result"]) := upd_same
        have W1' := W1.same sy
        obtain ⟨Hz, ez⟩ : ∃ G, upd Hy L2 (.lst [.str "result", .str "result"]) = G := ⟨_, rfl⟩
        rw [ez] at sy gy W1' ⊢
        refine ⟨Lt, L2, _, _, rfl, rfl, sy _ _ (k1 _ _ ntp gtx), gy, (by show 7 ≤ sizeLine; omega), fun L3 nL3 => ?_⟩
        have nl3 : L3 ≠ p := W1'.ne nL3
        have e7 : T4.map V.str ++ [V.str "result", V.str "result"] = (T4 ++ [RES, RES]).map V.str := rfl
        have sz : Same Hz (upd Hz L3 (.lst ((T4 ++ [RES, RES]).map V.str))) := new_same nL3
        have gz : (upd Hz L3 (.lst ((T4 ++ [RES, RES]).map V.str))) L3 = some (.lst ((T4 ++ [RES, RES]).map V.str)) := upd_same
        have W1'' := W1'.same sz
        rw [e7]
        obtain ⟨Hw, ew⟩ : ∃ G, upd Hz L3 (.lst ((T4 ++ [RES, RES]).map V.str)) = G := ⟨_, rfl⟩
        rw [ew] at sz gz W1'' ⊢
        refine ⟨p, L3, _, _, rfl, W1'', by omega, nl3.symm, SqL.of gz, by decide, by decide, fun r2 v2 z2 hv2 W2 => ?_⟩
        have k2' : KeepB p Hx (upd Hw p (.lst z2)) := (k1.trans (KeepB.of (sy.trans sz))).trans KeepB.at
        obtain ⟨Hv, ev⟩ : ∃ G, upd Hw p (.lst z2) = G := ⟨_, rfl⟩
        rw [ev] at W2 k2' ⊢
        obtain ⟨rfl, m2⟩ := get_str hv2
        have m2 : (T4 ++ [RES, RES]).getD r2 "" ∈ T4 := by
          rcases List.mem_append.mp m2 with z | z
          · exact z
          · have : ∀ t, t ∈ ([RES, RES] : List Str) → t ∈ T4 := by decide
            exact this _ z
        generalize (T4 ++ [RES, RES]).getD r2 "" = t2 at m2
        refine ⟨_, _, rfl, ?_⟩
        refine ⟨_, rfl, p, 2, _, rfl, W2, by omega, by decide, by decide, fun r5 z5 a5 b5 W5 => ?_⟩
        have k5 : KeepB p Hx (upd Hv p (.lst z5)) := k2'.trans KeepB.at
        obtain ⟨Hu, eu⟩ : ∃ G, upd Hv p (.lst z5) = G := ⟨_, rfl⟩
        rw [eu] at W5 k5 ⊢
        refine ⟨rfl, _, rfl, ?_⟩
        have gxu := k5 _ _ nrp gx
        by_cases z : V.int r5 = V.int 0
        · rw [decide_eq_true z]
          refine iteT ⟨_, rfl, _, rfl, _, _, rfl, ?_⟩
          exact ⟨_, rfl, .inl ⟨rfl, _, SqL.of gxu⟩, _, rfl, _, rfl, _, rfl, p, 13, _, rfl, W5, by omega, by decide, by decide, fun r6 z6 a6 b6 W6 => ⟨_, _, rfl, rfl, le_sz (Nat.le_of_ble_eq_true rfl), fun tt ntt => post_turn hj i4 nLr nrp ntp kx gtx ntr k12 gx hvs cl' hc Wx k5 (W6.mono (by omega)) ntt m2 m1 a6 b6⟩⟩
        · rw [decide_eq_false z]
          exact iteF (⟨_, rfl, .inl ⟨rfl, _, SqL.of gxu⟩, _, rfl, _, rfl, _, rfl, p, 13, _, rfl, W5, by omega, by decide, by decide, fun r6 z6 a6 b6 W6 => ⟨_, _, rfl, rfl, le_sz (Nat.le_of_ble_eq_true rfl), fun tt ntt => post_turn hj i4 nLr nrp ntp kx gtx ntr k12 gx hvs cl' hc Wx k5 (W6.mono (by omega)) ntt m1 m2 a6 b6⟩⟩)
      · rintro σ Hx ⟨o6, o7, o8, rfl, kx, Wx, gtx, vs, c, gx, hvs, cl', hc⟩
        have gfx := kx _ _ nfp gf
        have vl : vs.length = k2 := (Paired.length hvs).trans cl'
        obtain ⟨ms, ep⟩ := Wc.lst
        refine ⟨_, rfl, .inl ⟨rfl, _, SqL.of gfx⟩, _, rfl, .inl ⟨Lr, vs, rfl, SqL.of gx, fun tt ntt => ?_⟩⟩
        have st : Same Hx (upd Hx tt (.tup vs)) := new_same ntt
        have gtt : (upd Hx tt (.tup vs)) tt = some (.tup vs) := upd_same
        have W7 := Wx.same st
        obtain ⟨Hw, ew⟩ : ∃ G, upd Hx tt (.tup vs) = G := ⟨_, rfl⟩
        rw [ew] at st gtt W7 ⊢
        have gfw := st _ _ gfx
        have kw := kx.trans (KeepB.of st)
        have ul : us.length = i := (Paired.length hus).trans cl
        refine ⟨Lf, us, .ref tt, rfl, rfl, gfw, by omega, _, _, _, _, _, rfl, keep_upd nLf0 (kc.trans kw), ?_, (upd_ne (Ne.symm nft)).trans (kw _ _ ntp gt), us ++ [.ref tt], cs ++ [c], upd_same, ?_, by rw [List.length_append, cl]; rfl, fun d hd => ?_, ?_, fun hiw => ?_, fun d hd => ?_⟩
        · obtain ⟨a, b, c', e, r⟩ := W7
          exact WellAt.mono ⟨a, b, c', (upd_ne (Ne.symm nfp)).trans e, r⟩ (by push_cast; omega)
        · refine paired_snoc (L2.Paired.mapP hus fun _ _ z => IsC.lst gfw (IsC.keepB ep kw z)) ⟨tt, vs, rfl, SqT.lst gfw (SqT.of gtt), L2.Paired.mapP hvs fun _ _ z => IsLit.lst gfw (IsLit.same st z), by omega, by omega⟩
        · rcases List.mem_append.mp hd with z | z
          · exact h1 d z
          · rw [List.mem_singleton.mp z]; omega
        · rw [List.countP_append, List.countP_cons, List.countP_nil]
          rcases hw with z | ⟨z, z2⟩
          · rw [decide_eq_false (show ¬ c.length = 2 by omega)]
            simpa using h2
          · rw [h3 (by omega)]
            split <;> omega
        · rw [List.countP_append, List.countP_cons, List.countP_nil, h3 (by push_cast at hiw; omega), decide_eq_false (show ¬ c.length = 2 by push_cast at hiw; omega)]
          rfl
        · rcases List.mem_append.mp hd with z | z
          · exact h4 d z
          · rw [List.mem_singleton.mp z]; exact hc
    · rintro σ Hc ⟨o4, o5, o6, o7, o8, rfl, kc, Wc, gt, us, cs, gf, hus, cl, h1, h2, h3, h4⟩
      have ck : ClsOk cs := ⟨by omega, h1, h2, h4⟩
      exact ⟨_, rfl, Lf, us, cs, rfl, SqL.of gf, hus, ck.short, ck.ok, by omega, fun i => (ck.sub (merge_subT cs i)).first, fun c hc => (ck.sub (List.singleton_sublist.mpr hc)).first, fun r dz pp qq ys Hg CF sg nr => q r dz pp qq ys _ Hg CF (ck.sub (merge_sub0 cs)) (kc.trans (KeepB.of sg)) ((Wc.same sg).mono (by omega))⟩
end

end Kx
set_option linter.all false
namespace Kx
open PySem L2 PySem.Spec PyProof.Rows
/-! the two classes -/
theorem nd_one {α : Type} (a : α) : [a].Nodup := List.nodup_cons.mpr ⟨(fun z => nomatch z), List.nodup_nil⟩
theorem sm_both {H H' : Hp} {p : Addr} {o : HO} (s : Same H H') : Same (upd H p o) (upd H' p o) := fun b u h => by
  unfold upd at h ⊢
  split
  · rename_i e
    rwa [if_pos e] at h
  · rename_i e
    rw [if_neg e] at h
    exact s b u h
def kA : KD := ⟨"a", [], ["f"], ([], []), []⟩
def mM (mc : List (List Lit)) (ys : List Str) : MD := ⟨"m", [("x", "int"), ("p", "a")], "int", ([], []), (mc, ys), .tup [.fl (.str "halt")]⟩
def kC (mc : List (List Lit)) (ys : List Str) : KD := ⟨"c", [], ["g"], ([], []), [mM mc ys]⟩
def lib2 (mc : List (List Lit)) (ys : List Str) : List KD := [kA, kC mc ys]
section
variable (mc : List (List Lit)) (ys : List Str)
theorem two_ne : ¬ (("a" : Str) = "c") := by decide
theorem two_a : oF (lib2 mc ys) "a" = some (["a"] : List Str) := if_pos List.mem_cons_self
theorem two_c : oF (lib2 mc ys) "c" = some (["c"] : List Str) := if_pos (List.mem_cons_of_mem _ (List.mem_singleton.mpr rfl))
theorem two_kda : kd (lib2 mc ys) "a" = some kA := rfl
theorem two_kdc : kd (lib2 mc ys) "c" = some (kC mc ys) := rfl
theorem two_fa : fldsOf (lib2 mc ys) (oF (lib2 mc ys)) "a" = (["f"] : List Str) := by
  unfold fldsOf
  rw [two_a]
  rfl
theorem two_fc : fldsOf (lib2 mc ys) (oF (lib2 mc ys)) "c" = (["g"] : List Str) := by
  unfold fldsOf
  rw [two_c]
  rfl
theorem two_self : termsO (lib2 mc ys) (oF (lib2 mc ys)) "self" "c" = (["self.g"] : List Str) := by
  unfold termsO
  rw [if_neg (by decide), two_fc]
  decide +kernel
theorem two_p : termsO (lib2 mc ys) (oF (lib2 mc ys)) "p" "a" = (["p.f"] : List Str) := by
  unfold termsO
  rw [if_neg (by decide), two_fa]
  decide +kernel
theorem two_ent : entryT (lib2 mc ys) (oF (lib2 mc ys)) (kC mc ys) (mM mc ys) = (["self.g", "x", "p.f"] : List Str) := by
  unfold entryT
  rw [show termsO (lib2 mc ys) (oF (lib2 mc ys)) "self" (kC mc ys).name = (["self.g"] : List Str) from two_self mc ys]
  show (["self.g"] : List Str) ++ (termsO (lib2 mc ys) (oF (lib2 mc ys)) "x" "int" ++ (termsO (lib2 mc ys) (oF (lib2 mc ys)) "p" "a" ++ [])) = _
  rw [two_p, show termsO (lib2 mc ys) (oF (lib2 mc ys)) "x" "int" = (["x"] : List Str) from if_pos rfl]
  rfl
end
theorem all_two {mc : List (List Lit)} {ys : List Str} {p : KD → Prop} (a : p kA) (c : p (kC mc ys)) : ∀ k ∈ lib2 mc ys, p k := fun k hk => by
  rcases List.mem_cons.mp hk with rfl | hk
  · exact a
  · rw [List.mem_singleton.mp hk]; exact c
theorem all_mm {mc : List (List Lit)} {ys : List Str} {p : KD → MD → Prop} (c : p (kC mc ys) (mM mc ys)) : ∀ k ∈ lib2 mc ys, ∀ m ∈ k.methods, p k m :=
  all_two (p := fun k => ∀ m ∈ k.methods, p k m) (fun _ z => nomatch z) fun m hm => by rw [List.mem_singleton.mp hm]; exact c
theorem termsOf_t4 {mc : List (List Lit)} (h : ClsOk mc) {t : Str} (ht : t ∈ termsOf mc) : t ∈ (["x", "p.f", "self.g", RES] : List Str) := by
  obtain ⟨c, hc, hl⟩ := List.mem_flatMap.mp ht
  obtain ⟨l, hl, h2⟩ := List.mem_flatMap.mp hl
  have h1 := (h.o c hc l hl).t4
  have key : ∀ s, s ∈ T4 → s ≠ "" → s ∈ (["x", "p.f", "self.g", RES] : List Str) := fun s hs ne => by
    rcases t4_cases hs with h | h | h | h | h
    · rw [h]; simp
    · rw [h]; simp
    · rw [h]; simp
    · exact absurd h ne
    · rw [h]; simp
  unfold termsL at h2
  obtain ⟨h3, h4⟩ := List.mem_filter.mp h2
  refine key t ?_ (by simpa using h4)
  rcases List.mem_cons.mp h3 with e | h3
  · rw [e]; exact h1.1
  · rw [List.mem_singleton.mp h3]; exact h1.2
theorem flat_two {mc : List (List Lit)} {ys : List Str} (h : ClsOk mc) (nd : ys.Nodup) (mem : ∀ t, t ∈ ys ↔ t ∈ termsOf mc) : Flat (lib2 mc ys) := by
  have y3 : ys.length ≤ 4 := sub_len nd fun t ht => termsOf_t4 h ((mem t).mp ht)
  refine ⟨?_, all_two (show isName "a" = true ∧ Str.length "a" ≤ 1000 ∧ PyData.strOk "a" = true from ⟨by decide +kernel, by decide +kernel, by decide +kernel⟩) (show isName "c" = true ∧ Str.length "c" ≤ 1000 ∧ PyData.strOk "c" = true from ⟨by decide +kernel, by decide +kernel, by decide +kernel⟩), by show 2 ≤ 4; decide, all_two rfl rfl,
    all_two ⟨by show 1 ≤ 3; decide, fun t ht => by rw [List.mem_singleton.mp ht]; decide +kernel⟩ ⟨by show 1 ≤ 3; decide, fun t ht => by rw [List.mem_singleton.mp ht]; decide +kernel⟩, all_two (Nat.zero_le _) (by show 1 ≤ 3; decide), all_two ?_ ?_, all_mm ?_, all_mm ?_⟩
  · show (["a", "c"] : List Str).Nodup
    exact List.nodup_cons.mpr ⟨fun z => two_ne (List.mem_singleton.mp z), nd_one _⟩
  · exact ⟨(show areN (["f"] : List Str) 3 = true by decide +kernel), (fun _ z => nomatch z), (fun _ z => nomatch z), Nat.zero_le _, Nat.zero_le _, (show areN ([] : List Str) 3 = true by decide +kernel), (fun _ z => nomatch z)⟩
  · exact ⟨(show areN (["g"] : List Str) 3 = true by decide +kernel), (fun _ z => nomatch z), (fun _ z => nomatch z), Nat.zero_le _, Nat.zero_le _, (show areN (["m"] : List Str) 3 = true by decide +kernel), fun m hm => by rw [List.mem_singleton.mp hm]; show Str.length "m" ≤ 1000; decide +kernel⟩
  · refine ⟨(show areN (["x", "p"] : List Str) 3 = true by decide +kernel), (by show 2 ≤ 3; decide), fun p hp => ?_, fun p hp => ?_, .inl rfl, (fun _ z => nomatch z), fun t ht => ?_, Nat.zero_le _, Nat.le_trans y3 (by decide)⟩
    · rcases List.mem_cons.mp hp with rfl | hp
      · decide +kernel
      · rw [List.mem_singleton.mp hp]; decide +kernel
    · rcases List.mem_cons.mp hp with rfl | hp
      · exact .inl rfl
      · rw [List.mem_singleton.mp hp]; exact .inr List.mem_cons_self
    · rw [two_ent]
      have := termsOf_t4 h ((mem t).mp ht)
      simp only [List.mem_cons, List.not_mem_nil, or_false] at this
      rcases this with rfl | rfl | rfl | rfl
      · simp
      · simp
      · simp
      · exact List.mem_append_right _ (by unfold termsO; rw [if_pos (show (mM mc ys).result = "int" from rfl)]; exact List.mem_singleton.mpr rfl)
  · exact ⟨by show 2 ≤ 60; decide, rfl⟩
theorem two_dbl {mc : List (List Lit)} {ys : List Str} (F : Flat (lib2 mc ys)) (ns : List Str) : fdbl (lib2 mc ys) (oF (lib2 mc ys)) ns = none := flat_dbl F (all_two (nd_one _) (nd_one _)) ns
theorem two_wr (mc : List (List Lit)) (ys : List Str) : wr (kC mc ys) "m" = some (mM mc ys) := by
  unfold wr kC
  exact List.find?_cons_of_pos (decide_eq_true rfl)

end Kx
set_option linter.all false
namespace Kx
open PySem L2 PySem.Spec PyProof.Rows
open StX (pe_makeR tMakeR CallO)
abbrev sLib : Stmt := top 142
abbrev nLib : List Str := ["_law_gain", "_law_its"]
theorem scLib : FnScope nLib ["_law_gain"] (defScope sLib) := ⟨rfl, rfl, rfl, by decide +kernel, rfl, by decide +kernel, by decide +kernel⟩
theorem kb_m2 {K : PySem.W.Frag} {f : Addr} {fd : FuncData} (F : FunM K f fd) : ∃ mv : List Value, KBn K fd pM 4 ["post", "body"] (fun us ws => us ++ (mv ++ ws)) (fun vs zs => vs ++ ([.non] ++ zs)) := by
  obtain ⟨mv, h⟩ := FunD.kbinds0 (ps := pM) F 4 ["post", "body"] [("pre", .non)] (fun us ms ws => us ++ (ms ++ ws)) (by simp) (fun q hq => by rw [List.mem_singleton.mp hq]; simp) (fun r m z => r.append (m.append z))
    (fun D doc pm an cdv ct us mv ws h1 h2 h3 => match us, mv, ws, h1, h2, h3 with | [_, _, _, _], [_], [_, _], _, _, _ => ⟨_, _, _, _, _, _, rfl, rfl, rfl⟩)
  exact ⟨mv, h⟩
theorem kb_c3 {K : PySem.W.Frag} {f e0 e1 e2 : Addr} {fd : FuncData} (F : FunC K e0 e1 e2 f fd) : ∃ its mv : List Value, KBn K fd pC 2 ["fields", "methods"] (fun us ws => us ++ (its ++ (ws.take 1 ++ (mv ++ ws.drop 1)))) (fun vs zs => vs ++ ([.ref e0] ++ (zs.take 1 ++ ([.non] ++ zs.drop 1)))) := by
  obtain ⟨its, mv, h⟩ := FunD.kbinds (ps := pC) F 2 ["fields", "methods"] [("where", .non)] (fun us its ms ws => us ++ (its ++ (ws.take 1 ++ (ms ++ ws.drop 1)))) (by simp) (by simp) (fun q hq => by rw [List.mem_singleton.mp hq]; simp) (fun r i m z => r.append (i.append ((z.take 1).append (m.append (z.drop 1)))))
    (fun T D doc pm an cdv ct us its mv ws h1 h2 h3 h4 => match us, its, mv, ws, h1, h2, h3, h4 with | [_, _], [_], [_], [_, _], _, _, _, _ => ⟨_, rfl, ⟨_, _, _, _, _, _, rfl, rfl, rfl⟩⟩)
  exact ⟨its, mv, h⟩
theorem kb_cf {K : PySem.W.Frag} {f e0 e1 e2 : Addr} {fd : FuncData} (F : FunC K e0 e1 e2 f fd) : ∃ its mv : List Value, KBn K fd pC 2 ["fields"] (fun us ws => us ++ (its ++ (ws ++ mv))) (fun vs zs => vs ++ ([.ref e0] ++ (zs ++ [.non, .ref e2]))) := by
  obtain ⟨its, mv, h⟩ := FunD.kbinds (ps := pC) F 2 ["fields"] [("where", .non), ("methods", .ref e2)] (fun us its ms ws => us ++ (its ++ (ws ++ ms))) (by simp) (by simp) (fun q hq => by
      rcases List.mem_cons.mp hq with e | hq
      · rw [e]; simp
      · rw [List.mem_singleton.mp hq]; simp) (fun r i m z => r.append (i.append (z.append m)))
    (fun T D doc pm an cdv ct us its mv ws h1 h2 h3 h4 => match us, its, mv, ws, h1, h2, h3, h4 with | [_, _], [_], [_, _], [_], _, _, _, _ => ⟨_, rfl, ⟨_, _, _, _, _, _, rfl, rfl, ⟨_, _, _, _, _, _, rfl, rfl, rfl⟩⟩⟩)
  exact ⟨its, mv, h⟩
theorem mO_okx {C f : Nat → Addr} (mc : List (List Lit)) (ys : List Str) : okO (S1 (clk C f)) (mO (mM mc ys)) ∧ noL (mO (mM mc ys)) ∧ need (clk C f) (mO (mM mc ys)) ≤ 5 := by
  obtain ⟨c1, c2⟩ := ok_cO (cl := clk C f) mc ys
  obtain ⟨d1, d2⟩ := ok_cO (cl := clk C f) [] []
  have sh : Shp (clk C f) (S0 (clk C f)) 4 6 [.fl (.str "m"), .tup (([("x", "int"), ("p", "a")] : List (Str × Str)).map pairO), .fl (.str "int"), cO [] [], cO mc ys, .tup [.fl (.str "halt")]] := by
    refine ⟨rfl, fun d hd => ?_⟩
    simp only [List.mem_cons, List.not_mem_nil, or_false] at hd
    rcases hd with rfl | rfl | rfl | rfl | rfl | rfl
    · exact ⟨trivial, trivial, Nat.zero_le _⟩
    · exact ⟨⟨⟨trivial, trivial, trivial⟩, ⟨trivial, trivial, trivial⟩, trivial⟩, ⟨⟨trivial, trivial, trivial⟩, ⟨trivial, trivial, trivial⟩, trivial⟩, Nat.le_of_ble_eq_true rfl⟩
    · exact ⟨trivial, trivial, Nat.zero_le _⟩
    · exact ⟨d1, d2, need_cO [] []⟩
    · exact ⟨c1, c2, need_cO mc ys⟩
    · exact ⟨⟨trivial, trivial⟩, ⟨trivial, trivial⟩, Nat.le_of_ble_eq_true rfl⟩
  obtain ⟨a, b, _⟩ := partx sh.2
  exact ⟨⟨.inr ⟨rfl, sh⟩, okAll_mono (fun _ _ z => .inl z) _ a⟩, b, Nat.le_of_ble_eq_true rfl⟩
theorem nl_two {C f : Nat → Addr} (mc : List (List Lit)) (ys : List Str) : noLs ((lib2 mc ys).map kO) := by
  obtain ⟨b1, b2, b3⟩ := mO_okx (C := C) (f := f) mc ys
  have e := (ok_cO (cl := clk C f) [] []).2
  exact ⟨⟨trivial, trivial, ⟨trivial, trivial⟩, e, trivial, trivial⟩, ⟨trivial, trivial, ⟨trivial, trivial⟩, e, ⟨b2, trivial⟩, trivial⟩, trivial⟩
def spLb (K : PySem.W.Frag) (C f : Nat → Addr) (CL : Addr) : Sp := fun vs H Q _ => ∃ (r dz pp qq : Addr) (mc : List (List Lit)) (ys : List Str), vs = [.ref r] ∧ CondF K H r (C 0) dz pp qq mc ys ∧ ClsOk mc ∧ ∀ xl ns H', Same H H' → LibO K C f CL H' xl (lib2 mc ys) ns (oF (lib2 mc ys)) → Q (.ref xl) H'
section
variable {P : Program} {w : World} {K : PySem.W.Frag} {mg : Str → Option Value} {base : Heap} {C fe : Nat → Addr} {CL B CB fB fi fI fM fC e0 e1 e2 : Addr} {fdB fdi fdI fdM fdC : FuncData}
theorem ok_lib {g : Addr} {fd : FuncData} (F : Fs K mg "_law_library" sLib ["_law_gain"] g fd) (X : Txt K mg C fe) (N : NeC C) (CM : CondMk K mg (C 0) fI fdI) (MX : MethMk K mg (C 1) fM fdM) (CX : ClsMk K mg (C 2) fC e0 e1 e2 fdC) (L : LiF K w mg C fe CL) (W : BadL K mg B CB fB fdB)
    (Fi : Fun K "__init__" "Library.__init__" sLi fi fdi) (MKL : Mk K CL fi) (gL : mg "Library" = some (.ref CL)) (z0 : ∀ H, SqT K H e0 []) (z2 : ∀ H, SqT K H e2 []) : FnOk P w K mg base CX0 39 g fd ["_law_gain"] (spLb K C fe CL) := by
  obtain ⟨_, kM2⟩ := kb_m2 MX.F
  obtain ⟨_, _, kC3⟩ := kb_c3 CX.F
  obtain ⟨_, _, kCf⟩ := kb_cf CX.F
  have GM : FnOk P w K mg base CX0 8 fM fdM pM (spIn K (clk C fe) 1 4 6 (S0 (clk C fe)) [3, 4]) := ok_inM MX.F X N CM
  have GC : FnOk P w K mg base CX0 8 fC fdC pC (spIn K (clk C fe) 2 6 5 (S1 (clk C fe)) [3]) := ok_inC CX.F X N CM
  have GLi : FnR P w K mg base (L2N.CX P w) 37 fi (spLiR K C fe CL CB) := fnR_li Fi L W
  refine F.F.ok scLib (fun vs H Q E h => ?_) (fun cdv A outer s H vs Q E hr h => ?_)
  · obtain ⟨_, _, _, _, _, _, rfl, _⟩ := h
    rfl
  · obtain ⟨r, dz, pp, qq, mc, ys, rfl, CF, ck, q⟩ := h
    have hr9 : Room 9 (A.deeper (envOfC "_law_library" (defScope sLib) s.heap.objs.size g cdv)) := hr.mono (by decide)
    refine ⟨_, (pss_cons (ps_set (i := 1) scLib.nd rfl (Or.inl rfl) (pe_makeK (n := 3) MX.M GM hr9 (by rfl) MX.g kM2 pass0 (pa_cons pe_str (pa_cons (pe_tup (pa_cons (pe_tup (pa_cons pe_str (pa_cons pe_str pa_nil))) (pa_cons (pe_tup (pa_cons pe_str (pa_cons pe_str pa_nil))) pa_nil))) (pa_cons pe_str pa_nil))) (pk_cons (pv 0) (pk_cons (pe_tup (pa_cons pe_str pa_nil)) pk_nil)))) (pss_one (ps_ret (pe_makeR (k := 37) (E := E0) MKL GLi hr (by rfl) gL passN (pa_cons (pe_makeK (n := 1) CX.M GC hr9 (by rfl) CX.g kCf pass0 (pa_cons pe_str pa_nil) (pk_cons (pe_tup (pa_cons pe_str pa_nil)) pk_nil)) (pa_cons (pe_makeK (n := 1) CX.M GC hr9 (by rfl) CX.g kC3 pass0 (pa_cons pe_str pa_nil) (pk_cons (pe_tup (pa_cons pe_str pa_nil)) (pk_cons (pe_tup (pa_cons (pv 1) pa_nil)) pk_nil))) pa_nil)))))), ?_⟩
    refine ⟨le_sz (Nat.le_of_ble_eq_true rfl), fun t1 ht1 => ?_⟩
    obtain ⟨o1, s1⟩ := tup_new (K := K) (cl := clk C fe) (xs := [.str "x", .str "int"]) (ds := [.fl (.str "x"), .fl (.str "int")]) ht1 (oh_cons (oh_str _) (oh_cons (oh_str _) oh_nil))
    obtain ⟨J1, ej1⟩ : ∃ G, upd H t1 (.tup [.str "x", .str "int"]) = G := ⟨_, rfl⟩
    rw [ej1] at o1 s1 ⊢
    refine ⟨le_sz (Nat.le_of_ble_eq_true rfl), fun t1b ht1b => ?_⟩
    obtain ⟨o1b, s1b⟩ := tup_new (K := K) (cl := clk C fe) (xs := [.str "p", .str "a"]) (ds := [.fl (.str "p"), .fl (.str "a")]) ht1b (oh_cons (oh_str _) (oh_cons (oh_str _) oh_nil))
    obtain ⟨J1b, ej1b⟩ : ∃ G, upd J1 t1b (.tup [.str "p", .str "a"]) = G := ⟨_, rfl⟩
    rw [ej1b] at o1b s1b ⊢
    refine ⟨le_sz (Nat.le_of_ble_eq_true rfl), fun t2 ht2 => ?_⟩
    obtain ⟨o2, s2⟩ := tup_new (K := K) (cl := clk C fe) (xs := [.ref t1, .ref t1b]) (ds := [.tup [.fl (.str "x"), .fl (.str "int")], .tup [.fl (.str "p"), .fl (.str "a")]]) ht2 (oh_cons (Oh.sm s1b o1) (oh_cons o1b oh_nil))
    obtain ⟨J2, ej2⟩ : ∃ G, upd J1b t2 (.tup [.ref t1, .ref t1b]) = G := ⟨_, rfl⟩
    rw [ej2] at o2 s2 ⊢
    refine ⟨_, rfl, le_sz (Nat.le_of_ble_eq_true rfl), fun t3 ht3 => ?_⟩
    obtain ⟨o3, s3⟩ := tup_new (K := K) (cl := clk C fe) (xs := [.str "halt"]) (ds := [.fl (.str "halt")]) ht3 (oh_cons (oh_str _) oh_nil)
    obtain ⟨J3, ej3⟩ : ∃ G, upd J2 t3 (.tup [.str "halt"]) = G := ⟨_, rfl⟩
    rw [ej3] at o3 s3 ⊢
    refine ⟨rfl, rfl, fun x dx nx nd' ne => ?_⟩
    have nx1 : (upd J3 dx (.own x)) x = none := (upd_ne ne.symm).trans nx
    have sJ : Same H J3 := s1.trans (s1b.trans (s2.trans s3))
    have s4 : Same J3 (upd (upd J3 dx (.own x)) x (.ins (C 1) dx [])) := (new_same nd').trans (new_same nx1)
    have oc := cond_od (f := fe) CF
    have all : OhAll K (clk C fe) (upd (upd J3 dx (.own x)) x (.ins (C 1) dx [])) [.fl (.str "m"), .tup [.tup [.fl (.str "x"), .fl (.str "int")], .tup [.fl (.str "p"), .fl (.str "a")]], .fl (.str "int"), .fl .non, cO mc ys, .tup [.fl (.str "halt")]] [.str "m", .ref t2, .str "int", .non, .ref r, .ref t3] :=
      oh_cons (oh_str _) (oh_cons (Oh.sm (s3.trans s4) o2) (oh_cons (oh_str _) (oh_cons oh_non (oh_cons (Oh.sm (sJ.trans s4) oc) (oh_cons (Oh.sm s4 o3) oh_nil)))))
    refine ⟨x, dx, _, _, rfl, upd_same, all, ⟨rfl, fun d hd => ?_⟩, fun H7 kb om => ⟨rfl, ?_⟩⟩
    · obtain ⟨c1, c2⟩ := ok_cO (cl := clk C fe) mc ys
      simp only [List.mem_cons, List.not_mem_nil, or_false] at hd
      rcases hd with rfl | rfl | rfl | rfl | rfl | rfl
      · exact ⟨trivial, trivial, Nat.zero_le _⟩
      · exact ⟨⟨⟨trivial, trivial, trivial⟩, ⟨trivial, trivial, trivial⟩, trivial⟩, ⟨⟨trivial, trivial, trivial⟩, ⟨trivial, trivial, trivial⟩, trivial⟩, Nat.le_of_ble_eq_true rfl⟩
      · exact ⟨trivial, trivial, Nat.zero_le _⟩
      · exact ⟨trivial, trivial, Nat.zero_le _⟩
      · exact ⟨c1, c2, need_cO mc ys⟩
      · exact ⟨⟨trivial, trivial⟩, ⟨trivial, trivial⟩, Nat.le_of_ble_eq_true rfl⟩
    have s7 : Same H H7 := sJ.trans (same_make nx nd' kb)
    have om' : Oh K (clk C fe) H7 (mO (mM mc ys)) (.ref x) := om
    clear om all
    -- a
    refine ⟨le_sz (Nat.le_of_ble_eq_true rfl), fun u0 hu0 => ?_⟩
    have su0 : Same H7 (upd H7 u0 (.tup [.str "f"])) := new_same hu0
    have gu0 : (upd H7 u0 (.tup [.str "f"])) u0 = some (.tup [.str "f"]) := upd_same
    obtain ⟨H8, e8⟩ : ∃ G, upd H7 u0 (.tup [.str "f"]) = G := ⟨_, rfl⟩
    rw [e8] at su0 gu0 ⊢
    refine ⟨rfl, rfl, fun x1 dx1 nx1' nd1 ne1 => ?_⟩
    have nx11 : (upd H8 dx1 (.own x1)) x1 = none := (upd_ne ne1.symm).trans nx1'
    have s8 : Same H8 (upd (upd H8 dx1 (.own x1)) x1 (.ins (C 2) dx1 [])) := (new_same nd1).trans (new_same nx11)
    have alla : OhAll K (clk C fe) (upd (upd H8 dx1 (.own x1)) x1 (.ins (C 2) dx1 [])) [.fl (.str "a"), strsO [], strsO ["f"], .fl .non, .tup []] [.str "a", .ref e0, .ref u0, .non, .ref e2] :=
      oh_cons (oh_str _) (oh_cons (oh_tup (z0 _) oh_nil) (oh_cons (oh_tup (SqT.of (s8 _ _ gu0)) (oh_cons (oh_str _) oh_nil)) (oh_cons oh_non (oh_cons (oh_tup (z2 _) oh_nil) oh_nil))))
    refine ⟨x1, dx1, _, _, rfl, upd_same, alla, ⟨rfl, fun d hd => ?_⟩, fun Ha kb1 oka => ⟨rfl, ?_⟩⟩
    · simp only [List.mem_cons, List.not_mem_nil, or_false] at hd
      rcases hd with rfl | rfl | rfl | rfl | rfl
      · exact ⟨trivial, trivial, Nat.zero_le _⟩
      · exact ⟨trivial, trivial, Nat.le_of_ble_eq_true rfl⟩
      · exact ⟨⟨trivial, trivial⟩, ⟨trivial, trivial⟩, Nat.le_of_ble_eq_true rfl⟩
      · exact ⟨trivial, trivial, Nat.zero_le _⟩
      · exact ⟨trivial, trivial, Nat.le_of_ble_eq_true rfl⟩
    have sa : Same H7 Ha := su0.trans (same_make nx1' nd1 kb1)
    have oka' : Oh K (clk C fe) Ha (kO kA) (.ref x1) := oka
    clear oka alla
    -- c
    refine ⟨le_sz (Nat.le_of_ble_eq_true rfl), fun u1 hu1 => ?_⟩
    have su1 : Same Ha (upd Ha u1 (.tup [.str "g"])) := new_same hu1
    have gu1 : (upd Ha u1 (.tup [.str "g"])) u1 = some (.tup [.str "g"]) := upd_same
    obtain ⟨Hb, eb⟩ : ∃ G, upd Ha u1 (.tup [.str "g"]) = G := ⟨_, rfl⟩
    rw [eb] at su1 gu1 ⊢
    refine ⟨_, rfl, le_sz (Nat.le_of_ble_eq_true rfl), fun u2 hu2 => ?_⟩
    have su2 : Same Hb (upd Hb u2 (.tup [.ref x])) := new_same hu2
    have gu2 : (upd Hb u2 (.tup [.ref x])) u2 = some (.tup [.ref x]) := upd_same
    obtain ⟨H9, e9⟩ : ∃ G, upd Hb u2 (.tup [.ref x]) = G := ⟨_, rfl⟩
    rw [e9] at su2 gu2 ⊢
    refine ⟨rfl, rfl, fun x2 dx2 nx2 nd2 ne2 => ?_⟩
    have nx21 : (upd H9 dx2 (.own x2)) x2 = none := (upd_ne ne2.symm).trans nx2
    have s9 : Same H9 (upd (upd H9 dx2 (.own x2)) x2 (.ins (C 2) dx2 [])) := (new_same nd2).trans (new_same nx21)
    have allc : OhAll K (clk C fe) (upd (upd H9 dx2 (.own x2)) x2 (.ins (C 2) dx2 [])) [.fl (.str "c"), strsO [], strsO ["g"], .fl .non, .tup [mO (mM mc ys)]] [.str "c", .ref e0, .ref u1, .non, .ref u2] :=
      oh_cons (oh_str _) (oh_cons (oh_tup (z0 _) oh_nil) (oh_cons (oh_tup (SqT.of ((su2.trans s9) _ _ gu1)) (oh_cons (oh_str _) oh_nil)) (oh_cons oh_non (oh_cons (oh_tup (SqT.of (s9 _ _ gu2)) (oh_cons (Oh.sm (sa.trans (su1.trans (su2.trans s9))) om') oh_nil)) oh_nil))))
    refine ⟨x2, dx2, _, _, rfl, upd_same, allc, ⟨rfl, fun d hd => ?_⟩, fun Hc kb2 okc => ⟨rfl, ?_⟩⟩
    · simp only [List.mem_cons, List.not_mem_nil, or_false] at hd
      rcases hd with rfl | rfl | rfl | rfl | rfl
      · exact ⟨trivial, trivial, Nat.zero_le _⟩
      · exact ⟨trivial, trivial, Nat.le_of_ble_eq_true rfl⟩
      · exact ⟨⟨trivial, trivial⟩, ⟨trivial, trivial⟩, Nat.le_of_ble_eq_true rfl⟩
      · exact ⟨trivial, trivial, Nat.zero_le _⟩
      · obtain ⟨b1, b2, b3⟩ := mO_okx (C := C) (f := fe) mc ys
        exact ⟨⟨b1, trivial⟩, ⟨b2, trivial⟩, Nat.succ_le_succ (Nat.max_le.mpr ⟨b3, Nat.zero_le _⟩)⟩
    have sc : Same Ha Hc := su1.trans (su2.trans (same_make nx2 nd2 kb2))
    have okc' : Oh K (clk C fe) Hc (kO (kC mc ys)) (.ref x2) := okc
    clear okc allc
    have FL := flat_two ck CF.nd CF.mem
    have fine := flat_fine FL
    refine fun xl dl nxl ndl nel => ?_
    have nxl1 : (upd Hc dl (.own xl)) xl = none := (upd_ne nel.symm).trans nxl
    have sl2 : Same Hc (upd (upd Hc dl (.own xl)) xl (.ins CL dl [])) := (new_same ndl).trans (new_same nxl1)
    have gl2 : (upd (upd Hc dl (.own xl)) xl (.ins CL dl [])) xl = some (.ins CL dl []) := upd_same
    obtain ⟨Hl, el⟩ : ∃ G, upd (upd Hc dl (.own xl)) xl (.ins CL dl []) = G := ⟨_, rfl⟩
    rw [el] at sl2 gl2 ⊢
    refine ⟨[.ref xl], [.ref x1, .ref x2], rfl, rfl, le_sz (Nat.le_of_ble_eq_true rfl), fun q' hq => ?_⟩
    have nqx : xl ≠ q' := fun z => by rw [← z, gl2] at hq; cases hq
    have hq0 : Hc q' = none := Same.free sl2 hq
    have sHq := new_same (o := .tup [.ref x1, .ref x2]) hq0
    refine ⟨xl, dl, q', [.ref x1, .ref x2], lib2 mc ys, oF (lib2 mc ys), fun _ => 0, upd Hc q' (.tup [.ref x1, .ref x2]), rfl, (upd_ne nqx).trans gl2, (upd_ne nqx).trans nxl, sm_both sl2, SqT.of upd_same, OhAll.sm sHq (oh_cons (Oh.sm sc oka') (oh_cons okc' oh_nil)), fine, fun ns perm srt => ?_⟩
    have inn : ∀ n ∈ ns, n ∈ (lib2 mc ys).map (·.name) := fun n hn => perm.mem_iff.mp hn
    refine ⟨fun _ _ Hm sm lib => ⟨rfl, q xl ns Hm (s7.trans (sa.trans (sc.trans (sHq.trans sm)))) lib⟩, fun n hn => ?_, fun _ i n zs m hi _ _ _ hm hf => ?_⟩
    · rw [two_dbl FL ns] at hn; cases hn
    · have al := flat_alike FL ns inn n (List.mem_of_getElem? hi)
      obtain ⟨h1, h2⟩ := List.find?_eq_some_iff_append.mp hf |>.imp_right fun _ => List.mem_of_find?_eq_some hf
      rw [al m ((hm m).mp h2)] at h1
      cases h1
end

end Kx
set_option linter.all false
namespace Kx
open PySem L2 PySem.Spec PyProof.Rows
/-! the answer by a grid -/
def near (o : Option Int) : Prop := ∀ y, o = some y → -14 ≤ y ∧ y ≤ 14
structure SmallR (R : Rg → Prop) : Prop where
  lo : ∀ x, R x → near x.1
  hi : ∀ x, R x → near x.2
  ok : ∀ x, R x → ∀ lo hi, x.1 = some lo → x.2 = some hi → lo ≤ hi
theorem in_lo {R : Rg → Prop} (S : SmallR R) {x : Rg} (r : R x) {y : Int} (e : x.1 = some y) : inR x y :=
  ⟨fun lo z => (by rw [e] at z; cases z; exact Int.le_refl _), fun hi z => S.ok x r _ _ e z⟩
theorem in_hi {R : Rg → Prop} (S : SmallR R) {x : Rg} (r : R x) {y : Int} (e : x.2 = some y) : inR x y :=
  ⟨fun lo z => S.ok x r _ _ z e, fun hi z => (by rw [e] at z; cases z; exact Int.le_refl _)⟩
/-- what the grid's numbers are worth -/
structure Grid (R : Rg → Prop) (l : List Int) : Prop where
  mem : ∀ m, m ∈ l ↔ -60 ≤ m ∧ m ≤ 60 ∧ ∃ x, R x ∧ inR x m
  srt : l.Pairwise (· < ·)
theorem first_least {l : List Int} (s : l.Pairwise (· < ·)) {a : Int} (h : l[0]? = some a) : a ∈ l ∧ ∀ b ∈ l, a ≤ b := by
  cases l with
  | nil => cases h
  | cons x r =>
    cases h
    refine ⟨List.mem_cons_self, fun b hb => ?_⟩
    rcases List.mem_cons.mp hb with rfl | z
    · exact Int.le_refl _
    · exact Int.le_of_lt ((List.pairwise_cons.mp s).1 b z)
theorem last_most {l : List Int} (s : l.Pairwise (· < ·)) {a : Int} (h : l.getLast? = some a) : a ∈ l ∧ ∀ b ∈ l, b ≤ a := by
  obtain ⟨r, rfl⟩ : ∃ r, l = r ++ [a] := List.getLast?_eq_some_iff.mp h
  refine ⟨by simp, fun b hb => ?_⟩
  rcases List.mem_append.mp hb with z | z
  · exact Int.le_of_lt ((List.pairwise_append.mp s).2.2 b z a (List.mem_singleton.mpr rfl))
  · rw [List.mem_singleton.mp z]; exact Int.le_refl _
theorem grid_none {R : Rg → Prop} (S : SmallR R) {l : List Int} (g : Grid R l) (h : l = []) : IsAns R none := fun x r => by
  have no : ∀ m, inR x m → -60 ≤ m → m ≤ 60 → False := fun m i a b => by
    have := (g.mem m).mpr ⟨a, b, x, r, i⟩
    rw [h] at this
    cases this
  cases e1 : x.1 with
  | some lo => have := S.lo x r lo e1; exact no lo (in_lo S r e1) (by omega) (by omega)
  | none =>
    cases e2 : x.2 with
    | some hi => have := S.hi x r hi e2; exact no hi (in_hi S r e2) (by omega) (by omega)
    | none => exact no 0 ⟨fun _ z => (by rw [e1] at z; cases z), fun _ z => (by rw [e2] at z; cases z)⟩ (by omega) (by omega)
theorem grid_low {R : Rg → Prop} (S : SmallR R) {l : List Int} (g : Grid R l) {a : Int} (h : l[0]? = some a) (ha : -60 < a) : IsAns R (some a) := by
  obtain ⟨am, al⟩ := first_least g.srt h
  have lows : ∀ x y, R x → x.1 = some y → a ≤ y := fun x y r e => by
    have := S.lo x r y e
    exact al y ((g.mem y).mpr ⟨by omega, by omega, x, r, in_lo S r e⟩)
  have some1 : ∀ x, R x → x.1 ≠ none := fun x r e => by
    have : (-60 : Int) ∈ l := (g.mem _).mpr ⟨by omega, by omega, x, r, fun _ z => (by rw [e] at z; cases z), fun hi z => by have := S.hi x r hi z; omega⟩
    have := al _ this
    omega
  refine .inl ⟨some1, ?_, lows⟩
  obtain ⟨_, _, x, r, i⟩ := (g.mem a).mp am
  cases e : x.1 with
  | none => exact absurd e (some1 x r)
  | some y =>
    have := lows x y r e
    have := i.1 y e
    exact ⟨x, r, by rw [e]; congr 1; omega⟩
theorem grid_open {R : Rg → Prop} (S : SmallR R) {l : List Int} (g : Grid R l) (h : (-60 : Int) ∈ l) : ∃ x, R x ∧ x.1 = none := by
  obtain ⟨_, _, x, r, i⟩ := (g.mem _).mp h
  refine ⟨x, r, ?_⟩
  cases e : x.1 with
  | none => rfl
  | some y =>
    have := i.1 y e
    have := S.lo x r y e
    omega
theorem grid_high {R : Rg → Prop} (S : SmallR R) {l : List Int} (g : Grid R l) (h : (-60 : Int) ∈ l) {b : Int} (hb : l.getLast? = some b) (b6 : b < 60) : IsAns R (some b) := by
  obtain ⟨bm, bl⟩ := last_most g.srt hb
  have highs : ∀ x y, R x → x.2 = some y → y ≤ b := fun x y r e => by
    have := S.hi x r y e
    exact bl y ((g.mem y).mpr ⟨by omega, by omega, x, r, in_hi S r e⟩)
  have some2 : ∀ x, R x → x.2 ≠ none := fun x r e => by
    have : (60 : Int) ∈ l := (g.mem _).mpr ⟨by omega, by omega, x, r, fun lo z => (by have := S.lo x r lo z; omega), fun _ z => (by rw [e] at z; cases z)⟩
    have := bl _ this
    omega
  refine .inr (.inl ⟨grid_open S g h, some2, ?_, highs⟩)
  obtain ⟨_, _, x, r, i⟩ := (g.mem b).mp bm
  cases e : x.2 with
  | none => exact absurd e (some2 x r)
  | some y =>
    have := highs x y r e
    have := i.2 y e
    exact ⟨x, r, by rw [e]; congr 1; omega⟩
theorem fz_le {x : Rg} {c : Int} (i : inR x c) (hc : 0 ≤ c) : ∃ y, fz x = some y ∧ y ≤ c := by
  obtain ⟨lo, hi⟩ := x
  have zl : z0 lo ≤ c := by
    cases lo with
    | none => exact hc
    | some a =>
      have h1 := i.1 a rfl
      show (if 0 > a then 0 else a) ≤ c
      split <;> omega
  cases hi with
  | none => exact ⟨_, rfl, zl⟩
  | some b =>
    have h2 := i.2 b rfl
    exact ⟨_, if_pos (Int.le_trans zl h2), zl⟩
theorem fz_small {R : Rg → Prop} (S : SmallR R) {x : Rg} (r : R x) {y : Int} (e : fz x = some y) : 0 ≤ y ∧ y ≤ 14 := by
  obtain ⟨_, h0⟩ := fz_in e
  refine ⟨h0, ?_⟩
  have hy : y = z0 x.1 := by
    obtain ⟨lo, hi⟩ := x
    cases hi with
    | none => exact (Option.some.inj e).symm
    | some b =>
      have e : (if z0 lo ≤ b then some (z0 lo) else none) = some y := e
      by_cases z : z0 lo ≤ b
      · rw [if_pos z] at e; exact (Option.some.inj e).symm
      · rw [if_neg z] at e; cases e
  rw [hy]
  cases e1 : x.1 with
  | none => show (0 : Int) ≤ 14; decide
  | some a =>
    have := S.lo x r a e1
    show (if 0 > a then 0 else a) ≤ 14
    split <;> omega
theorem grid_zero {R : Rg → Prop} (S : SmallR R) {l : List Int} (g : Grid R l) (h : (-60 : Int) ∈ l) (h6 : (60 : Int) ∈ l) {c : Int} (hc : (l.filter fun m => decide (0 ≤ m))[0]? = some c) : IsAns R (some c) := by
  obtain ⟨cm, cl⟩ := first_least (g.srt.filter _) hc
  obtain ⟨c1, c2⟩ := List.mem_filter.mp cm
  have c2 := of_decide_eq_true c2
  have lows : ∀ x y, R x → fz x = some y → c ≤ y := fun x y r e => by
    have h1 := fz_small S r e
    exact cl y (List.mem_filter.mpr ⟨(g.mem y).mpr ⟨by omega, by omega, x, r, (fz_in e).1⟩, decide_eq_true h1.1⟩)
  refine .inr (.inr ⟨grid_open S g h, ?_, ?_, lows⟩)
  · obtain ⟨_, _, x, r, i⟩ := (g.mem _).mp h6
    refine ⟨x, r, ?_⟩
    cases e : x.2 with
    | none => rfl
    | some y =>
      have := i.2 y e
      have := S.hi x r y e
      omega
  · obtain ⟨_, _, x, r, i⟩ := (g.mem c).mp c1
    obtain ⟨y, e, hy⟩ := fz_le i c2
    have := lows x y r e
    exact ⟨x, r, by rw [e]; congr 1; omega⟩
/-- the grid itself -/
def gridN (p : Int → Bool) (n : Nat) : List Int := ((List.range n).map fun (i : Nat) => (-60 : Int) + (i : Int)).filter p
abbrev grid (p : Int → Bool) : List Int := gridN p 121
theorem gridN_succ (p : Int → Bool) (n : Nat) : gridN p (n + 1) = gridN p n ++ (if p ((-60 : Int) + (n : Int)) = true then [(-60 : Int) + (n : Int)] else []) := by
  unfold gridN
  rw [List.range_succ, List.map_append, List.filter_append]
  congr 1
  show List.filter p [(-60 : Int) + (n : Int)] = _
  rw [List.filter_cons, List.filter_nil]
theorem grid_is {R : Rg → Prop} {p : Int → Bool} (h : ∀ m, p m = true ↔ ∃ x, R x ∧ inR x m) : Grid R (grid p) := by
  refine ⟨fun m => ?_, ?_⟩
  · unfold grid gridN
    rw [List.mem_filter, h]
    constructor
    · rintro ⟨a, b⟩
      obtain ⟨i, hi, rfl⟩ := List.mem_map.mp a
      have := List.mem_range.mp hi
      exact ⟨by omega, by omega, b⟩
    · rintro ⟨a, b, c⟩
      exact ⟨List.mem_map.mpr ⟨(m + 60).toNat, List.mem_range.mpr (by omega), by omega⟩, c⟩
  · unfold grid gridN
    refine List.Pairwise.filter _ (List.Pairwise.map _ (fun (a b : Nat) (hab : a < b) => ?_) List.pairwise_lt_range)
    show (-60 : Int) + (a : Int) < -60 + (b : Int)
    omega
/-- the ends are near -/
theorem near_max {o : Option Int} {x : Int} (h : near o) (a : -14 ≤ x) (b : x ≤ 14) : near (some (maxO o x)) := fun y e => by
  cases e
  cases o with
  | none => exact ⟨a, b⟩
  | some z =>
    have := h z rfl
    show -14 ≤ (if x > z then x else z) ∧ (if x > z then x else z) ≤ 14
    split <;> omega
theorem near_min {o : Option Int} {x : Int} (h : near o) (a : -14 ≤ x) (b : x ≤ 14) : near (some (minO o x)) := fun y e => by
  cases e
  cases o with
  | none => exact ⟨a, b⟩
  | some z =>
    have := h z rfl
    show -14 ≤ (if x < z then x else z) ∧ (if x < z then x else z) ≤ 14
    split <;> omega
theorem goR_near {f : Str → Int} (hf : ∀ t, -8 ≤ f t ∧ f t ≤ 8) : ∀ {p : List Lit} {s t : Rg}, (∀ l ∈ p, -6 ≤ l.2.2 ∧ l.2.2 ≤ 6) → near s.1 → near s.2 → goR f s p = some t → near t.1 ∧ near t.2
  | [], _, _, _, a, b, e => by cases e; exact ⟨a, b⟩
  | l :: p, s, t, hl, a, b, e => by
    unfold goR at e
    have h1 := hl l List.mem_cons_self
    have h2 := hf l.1
    have h3 := hf l.2.1
    cases q : stepR f s l with
    | none => rw [q] at e; cases e
    | some u =>
      rw [q] at e
      refine goR_near hf (fun x hx => hl x (List.mem_cons_of_mem _ hx)) ?_ ?_ e
      all_goals
        unfold stepR at q
        split at q
        · cases q
          first | exact near_max a (by omega) (by omega) | exact b
        · split at q
          · cases q
            first | exact a | exact near_min b (by omega) (by omega)
          · split at q
            · cases q
            · cases q
              first | exact a | exact b
theorem small_ans {f : Str → Int} {cs : List (List Lit)} (hf : ∀ t, -8 ≤ f t ∧ f t ≤ 8) (hc : ∀ c ∈ cs, ∀ l ∈ c, -6 ≤ l.2.2 ∧ l.2.2 ≤ 6) (pin : ∀ p ∈ picks cs, ∀ l ∈ p, ∃ c ∈ cs, l ∈ c) : SmallR (AnsR f cs) := by
  have key : ∀ x, AnsR f cs x → near x.1 ∧ near x.2 := fun x hx => by
    obtain ⟨p, hp, hx⟩ := hx
    unfold rangeOf at hx
    cases q : goR f (none, none) p with
    | none => rw [q] at hx; cases hx
    | some s =>
      rw [q] at hx
      obtain ⟨rfl, _⟩ := closeR_eq hx
      exact goR_near hf (fun l hl => let ⟨c, hc', hlc⟩ := pin p hp l hl; hc c hc' l hlc) (fun _ z => (by cases z)) (fun _ z => (by cases z)) q
  exact ⟨fun x r => (key x r).1, fun x r => (key x r).2, fun x ⟨_, _, e⟩ => range_ok e⟩

end Kx
set_option linter.all false
namespace Kx
open PySem L2 PySem.Spec PyProof.Rows
open StX (CallO)
abbrev sDueG : Stmt := top 143
abbrev nDueG : List Str := ["_law_gain", "_law_values", "_law_found", "_law_result", "_law_known", "_law_one_here"]
theorem scDueG : FnScope nDueG ["_law_gain", "_law_values"] (defScope sDueG) := ⟨rfl, rfl, rfl, by decide +kernel, rfl, by decide +kernel, by decide +kernel⟩
def rEqNil (K : PySem.W.Frag) : R2 := fun x y H Q => ∃ (a b : Addr) (xs : List V), x = .ref a ∧ y = .ref b ∧ SqL K H a xs ∧ SqL K H b [] ∧ Q (.bl xs.isEmpty) H
theorem op_eqNil {X : Cx} (hu : X.A.units + 64 < cLine) : OpR X (compareOp .Eq) (rEqNil X.K) := by
  intro pins s σ H x y v u Q I rx ry h
  obtain ⟨a, b, xs, rfl, rfl, ha, hb, q⟩ := h
  obtain rfl : v = Value.ref a := rx
  obtain rfl : u = Value.ref b := ry
  obtain ⟨us, r1, p1, _⟩ := I.list ha
  obtain ⟨ws, r2, p2, _⟩ := I.list hb
  cases r2
  cases r1 with
  | nil =>
    refine SeqAt.eq_listAt (e := fun _ => true) p1.isList p2.isList rfl (by omega) (fun j h1 _ => absurd h1 (Nat.not_lt_zero _)) ?_
    exact ⟨.bl true, H, I, rfl, q⟩
  | cons r1 t =>
    refine SeqAt.eq_list_lengthsAt p1.isList p2.isList (by simp) (by omega) ?_
    exact ⟨.bl false, H, I, rfl, q⟩
/-- just one side is the result -/
structure CallOf (K : PySem.W.Frag) (mg : PySem.Str → Option Value) (B CN fN C fC gH gW : Addr) (fdN fdC fdH fdW : FuncData) : Prop where
  F : Fun K "__call__" "Cond.__call__" sCall fC fdC
  b : Binds K fdC ["self", "values"] []
  cls : Cls K C
  nc : NoAttr K C "clauses"
  N : NoV K mg B CN fN fdN
  Hd : Fs K mg "_holds" sHolds ["clause", "values"] gH fdH
  Wd : Fs K mg "_worth" sWorth ["term", "values"] gW fdW
  any : mg "any" = none
  enum : mg "enumerate" = none
  bro : ∃ g fd, Fs K mg "first_broken" sBroken ["clauses", "values"] g fd
  isi : mg "isinstance" = none
  co : CallO K C fC
/-! the due answer, by the grid -/
def FvOk (f : Str → Int) (mc : List (List Lit)) (kvs : List (Key × V)) : Prop := f "" = 0 ∧ f RES = 0 ∧ (∀ t, -8 ≤ f t ∧ f t ≤ 8) ∧ ∀ t ∈ asked mc, t ≠ "" → t ≠ RES → valV kvs (.inr t) = some (.int (f t))
theorem worth_put {f : Str → Int} {mc : List (List Lit)} {kvs : List (Key × V)} (h : FvOk f mc kvs) (m : Int) (t : Str) (ht : t ∈ asked mc) : Worth (putK kvs (.inr RES) (.int m)) (upR f m) t ∧ okT (putK kvs (.inr RES) (.int m)) t := by
  obtain ⟨f0, fr, _, hv⟩ := h
  by_cases e0 : t = ""
  · subst e0
    exact ⟨.inl ⟨rfl, (if_neg (by decide) : upR f m "" = f "").trans f0⟩, .inl rfl⟩
  · by_cases er : t = RES
    · subst er
      have hh : valV (putK kvs (.inr RES) (.int m)) (.inr RES) = some (.int m) := by rw [valV_put, if_pos rfl]
      exact ⟨.inr ⟨by decide, by rw [hh]; unfold upR; rw [if_pos rfl]⟩, .inr (by rw [hh]; rfl)⟩
    · have hh : valV (putK kvs (.inr RES) (.int m)) (.inr t) = some (.int (f t)) := by
        rw [valV_put, if_neg (fun z => er (by injection z))]
        exact hv t ht e0 er
      exact ⟨.inr ⟨e0, by rw [hh]; unfold upR; rw [if_neg er]⟩, .inr (by rw [hh]; rfl)⟩
def spDueG (K : PySem.W.Frag) (C : Addr) : Sp := fun vs H Q _ => ∃ (r d dz pp qq : Addr) (mc : List (List Lit)) (ys : List Str) (kvs : List (Key × V)) (f : Str → Int), vs = [.ref r, .ref d] ∧ CondF K H r C dz pp qq mc ys ∧ ClsOk mc ∧ H d = some (.dK kvs) ∧ kvs.length ≤ 20 ∧ FvOk f mc kvs ∧
  ∀ ro, IsAns (AnsR f mc) ro → ∀ H', Same H H' → Q (optV ro) H'
section
variable {P : Program} {w : World} {K : PySem.W.Frag} {mg : Str → Option Value} {base : Heap} {B CN fN C fK gH gW : Addr} {fdN fdK fdH fdW : FuncData}
theorem ok_dueG {g : Addr} {fd : FuncData} (F : Fs K mg "_law_due" sDueG ["_law_gain", "_law_values"] g fd) (Z : CallOf K mg B CN fN C fK gH gW fdN fdK fdH fdW) (T : Bx mg) (rng : mg "range" = none) (hdict : mg "dict" = none) : FnOk P w K mg base CX0 5 g fd ["_law_gain", "_law_values"] (spDueG K C) := by
  obtain ⟨_, _, dBr⟩ := Z.bro
  have GCa : FnOk P w K mg base (L2N.CX P w) 4 fK fdK ["self", "values"] (spCall K C CN) := ok_call Z.F Z.cls Z.nc Z.N Z.Hd Z.Wd dBr Z.any Z.enum
  refine F.F.ok scDueG (fun vs H Q E h => ?_) (fun cdv A outer s H vs Q E hr h => ?_)
  · obtain ⟨_, _, _, _, _, _, _, _, _, rfl, _⟩ := h
    rfl
  · obtain ⟨r, d, dz, pp, qq, mc, ys, kvs, f, rfl, CF, ck, hd, kl, hf, q⟩ := h
    have hr4 := hr
    have hu := hu_of hr
    have hu64 := hr.units
    have lim : 1000 ≤ sizeLine := Nat.le_of_lt (small1000 (by decide))
    refine ⟨_, (pss_cons (ps_set (i := 2) scDueG.nd rfl (Or.inl rfl) (pe_lst pa_nil)) (pss_cons (ps_for PassesOwn.never rfl (pi_range2 rfl rng (pa_cons (pe_un un_neg pe_int) (pa_cons pe_int pa_nil))) (pg_name (i := 3) scDueG.nd rfl (Or.inl rfl)) (pss_cons (ps_set (i := 4) scDueG.nd rfl (Or.inl rfl) (pe_callTy call_dictD (by rfl) hdict (by decide +kernel) (pa_cons (pv 1) pa_nil))) (pss_cons (ps_asg (pv 3) (pg_sub (pv 4) pe_str (set_dict hu))) (pss_one (ps_if (pt_val (pe_callOX (C := C) (g := fK) takesN0 (pv 0) Z.co GCa hr4 Z.b (pa_cons (pv 4) pa_nil))) (pss_one (ps_expr (pe_bm PySem.F.plainAttrs_list PySem.F.slot_list_append PySem.F.type_list_append mt_append (pv 2) (pa_cons (pv 3) pa_nil)))) pss_nil))))) (pss_cons (ps_if (pt_cmpR (op_eqNil hu64) (pv 2) (pe_lst pa_nil) (nomark _)) (pss_one (ps_ret pe_non)) pss_nil) (pss_cons (ps_if (pt_cmpR op_gt (pe_ix ix_list (pv 2) pe_int (fun _ _ => rfl)) (pe_un un_neg pe_int) (nomark _)) (pss_one (ps_ret (pe_ix ix_list (pv 2) pe_int (fun _ _ => rfl)))) pss_nil) (pss_one (ps_ret (pe_ifExp (pt_cmpR op_lt (pe_ix ix_list (pv 2) (pe_un un_neg pe_int) (fun _ _ => rfl)) pe_int (nomark _)) (pe_ix ix_list (pv 2) (pe_un un_neg pe_int) (fun _ _ => rfl)) (pe_ix ix_list (pe_lc (own := [("_law_one_here", 5)]) (g := gName 5) rfl scDueG.nd (pi_list (pv 2)) (blkOk_by (N := nDueG) (sc := defScope sDueG) (by decide +kernel)) (fun _ _ _ _ _ => (pg_name (i := 5) scDueG.nd rfl (Or.inl rfl))) (fun _ _ _ _ _ => (pts_one (pt_cmpR op_ge (pv 5) pe_int (nomark _)))) (fun _ _ _ _ _ => (pv 5))) pe_int (fun _ _ => rfl))))))))), ?_⟩
    refine ⟨Nat.zero_le _, fun Lf nLf => ?_⟩
    have s1 : Same H (upd H Lf (.lst [])) := new_same nLf
    have g1 : (upd H Lf (.lst [])) Lf = some (.lst []) := upd_same
    obtain ⟨H1, e1⟩ : ∃ G, upd H Lf (.lst []) = G := ⟨_, rfl⟩
    rw [e1] at s1 g1 ⊢
    let p : Int → Bool := fun m => mc.all (holds (upR f m))
    refine ⟨60, rfl, -60, 61, rfl, ⟨by decide, by decide, by decide, by decide⟩, for_range (lo := -60) (n := 121) (fun i σ Hc => ∃ v3 v4 : Option V, σ = [some (.ref r), some (.ref d), some (.ref Lf), v3, v4, none] ∧ Same H Hc ∧ Hc Lf = some (.lst ((gridN p i).map V.int))) ⟨none, none, rfl, s1, g1⟩ ?_ ?_⟩
    · rintro i σ Hc hi ⟨v3, v4, rfl, sc, gc⟩
      refine ⟨_, rfl, d, kvs, rfl, .inl (sc _ _ hd), fun kn nkn => ?_⟩
      have s2 : Same Hc (upd Hc kn (.dK kvs)) := new_same nkn
      have g2 : (upd Hc kn (.dK kvs)) kn = some (.dK kvs) := upd_same
      obtain ⟨H2, e2⟩ : ∃ G, upd Hc kn (.dK kvs) = G := ⟨_, rfl⟩
      rw [e2] at s2 g2 ⊢
      refine ⟨_, rfl, _, rfl, kn, _, rfl, DPut.k (k := .inr RES) g2 (by omega), ?_⟩
      have sc3 : Same H (upd H2 kn (.dK (putK kvs (.inr RES) (.int (-60 + (i : Int)))))) := same_upd (Same.free sc nkn) (sc.trans s2)
      have sc3' : Same Hc (upd H2 kn (.dK (putK kvs (.inr RES) (.int (-60 + (i : Int)))))) := same_upd nkn s2
      have g3 : (upd H2 kn (.dK (putK kvs (.inr RES) (.int (-60 + (i : Int)))))) kn = some (.dK (putK kvs (.inr RES) (.int (-60 + (i : Int))))) := upd_same
      obtain ⟨H3, e3⟩ : ∃ G, upd H2 kn (.dK (putK kvs (.inr RES) (.int (-60 + (i : Int))))) = G := ⟨_, rfl⟩
      rw [e3] at sc3 sc3' g3 ⊢
      have CF3 := CF.same sc3
      refine ⟨_, rfl, r, rfl, _, rfl, .inr ⟨dz, _, CF3.ins⟩, r, kn, dz, pp, qq, mc, ys, _, upR f (-60 + (i : Int)), rfl, CF3, g3, fun t ht _ => (worth_put hf _ t ht).1, fun _ H4 s4 => ?_, fun pre t rest e _ no => absurd (worth_put hf _ t (by rw [e]; simp)).2 no⟩
      have g4 := s4 _ _ (sc3' _ _ gc)
      have e5 := gridN_succ p i
      refine ⟨_, rfl, ?_⟩
      have nl : (gridN p i).length ≤ 121 := by
        unfold gridN
        refine Nat.le_trans (List.length_filter_le _ _) ?_
        rw [List.length_map, List.length_range]
        omega
      by_cases z : p (-60 + (i : Int)) = true
      · rw [show mc.all (holds (upR f (-60 + (i : Int)))) = true from z]
        rw [if_pos z] at e5
        refine iteT ⟨_, rfl, .inl ⟨rfl, _, SqL.of g4⟩, _, rfl, Lf, _, .int (-60 + (i : Int)), rfl, rfl, g4, by rw [List.length_map]; omega, _, _, rfl, same_upd nLf (sc3.trans s4), ?_⟩
        rw [upd_same, e5, List.map_append]
        rfl
      · rw [show mc.all (holds (upR f (-60 + (i : Int)))) = false from Bool.eq_false_iff.mpr z]
        rw [if_neg z, List.append_nil] at e5
        refine iteF ⟨_, _, rfl, sc3.trans s4, ?_⟩
        rw [e5]
        exact g4
    · rintro σ Hc ⟨v3, v4, rfl, sc, gc⟩
      have S : SmallR (AnsR f mc) := small_ans hf.2.2.1 (fun c hc l hl => (ck.o c hc l hl).2) (picks_in mc)
      have GI : Grid (AnsR f mc) (gridN p 121) := grid_is fun m => ans_holds hf.2.1 mc m
      obtain ⟨G, hG⟩ : ∃ G, gridN p 121 = G := ⟨_, rfl⟩
      rw [hG] at gc GI
      have qq' : ∀ ro, IsAns (AnsR f mc) ro → ∀ H', Same Hc H' → Q (optV ro) H' := fun ro h H' s' => q ro h H' (sc.trans s')
      refine ⟨_, rfl, Nat.zero_le _, fun e he => ?_⟩
      have s3 : Same Hc (upd Hc e (.lst [])) := new_same he
      have g3 : (upd Hc e (.lst [])) e = some (.lst []) := upd_same
      obtain ⟨H3, e3⟩ : ∃ G, upd Hc e (.lst []) = G := ⟨_, rfl⟩
      rw [e3] at s3 g3 ⊢
      have g3' := s3 _ _ gc
      refine ⟨Lf, e, _, rfl, rfl, SqL.of g3', SqL.of g3, _, rfl, ?_⟩
      have GL : G.length ≤ 121 := by
        rw [← hG]
        unfold gridN
        refine Nat.le_trans (List.length_filter_le _ _) ?_
        rw [List.length_map, List.length_range]
        exact Nat.le_refl _
      clear hG
      cases hG : G with
      | nil => exact iteT (qq' none (grid_none S GI hG) H3 s3)
      | cons a rs =>
        have h0 : G[0]? = some a := by rw [hG]; rfl
        have h0v : atI ((a :: rs).map V.int) 0 = some (.int a) := at0
        rw [hG] at g3'
        refine iteF ⟨_, rfl, Lf, _, 0, .int a, rfl, rfl, SqL.of g3', h0v, 60, rfl, a, -60, rfl, rfl, _, rfl, ?_⟩
        by_cases z : -60 < a
        · rw [decide_eq_true z]
          exact iteT ⟨_, rfl, Lf, _, 0, .int a, rfl, rfl, SqL.of g3', h0v, qq' (some a) (grid_low S GI h0 z) H3 s3⟩
        rw [decide_eq_false z]
        have am := (GI.mem a).mp (List.mem_of_getElem? h0)
        have e60 : a = -60 := by omega
        have m60 : (-60 : Int) ∈ G := by rw [← e60]; exact List.mem_of_getElem? h0
        obtain ⟨l, b, hl⟩ : ∃ l b, a :: rs = l ++ [b] := by
          rcases List.eq_nil_or_concat (a :: rs) with e | ⟨l, b, e⟩
          · cases e
          · exact ⟨l, b, by rw [e, List.concat_eq_append]⟩
        have hb : G.getLast? = some b := by rw [hG, hl]; simp
        have hbv : atI ((a :: rs).map V.int) (-1) = some (.int b) := by
          rw [hl, List.map_append]
          exact atI_last _ _
        refine iteF ⟨_, rfl, 1, rfl, Lf, _, -1, .int b, rfl, rfl, SqL.of g3', hbv, b, 60, rfl, rfl, _, rfl, ?_⟩
        by_cases z2 : b < 60
        · rw [decide_eq_true z2]
          exact iteT ⟨_, rfl, 1, rfl, Lf, _, -1, .int b, rfl, rfl, SqL.of g3', hbv, qq' (some b) (grid_high S GI m60 hb z2) H3 s3⟩
        rw [decide_eq_false z2]
        have bm := (last_most GI.srt hb).1
        have b60 := (GI.mem b).mp bm
        have p60 : (60 : Int) ∈ G := by
          have : b = 60 := by omega
          rw [← this]; exact bm
        refine iteF ⟨_, rfl, Lf, rfl, ⟨_, SqL.of g3'⟩, fun D hD => ?_⟩
        rw [← hG] at g3'
        refine walk_it (walk_list (xs := G.map V.int)) (fun i Hx => Same H3 Hx ∧ Hx D = some (.lst (((G.take i).filter fun m => decide (0 ≤ m)).map V.int))) ⟨new_same hD, upd_same⟩ (fun i Hx _ h => SqL.of (h.1 _ _ g3')) ?_ ?_
        · rintro i x Hx Hy hx ⟨sx, gx⟩ ⟨rfl, hy⟩
          rw [List.getElem?_map] at hy
          obtain ⟨m, hm, rfl⟩ := Option.map_eq_some_iff.mp hy
          have tk := take_snoc hm
          refine ⟨rfl, _, rfl, m, 0, rfl, rfl, _, rfl, ?_⟩
          have nl : (((G.take i).filter fun m => decide (0 ≤ m)).map V.int).length ≤ 121 := by
            rw [List.length_map]
            refine Nat.le_trans (List.length_filter_le _ _) ?_
            rw [List.length_take]
            omega
          by_cases y : (0 : Int) ≤ m
          · rw [decide_eq_true y]
            refine iteT ⟨_, rfl, _, gx, by omega, same_D hD sx, ?_⟩
            rw [upd_same, tk, List.filter_append, List.map_append, List.filter_cons, decide_eq_true y]
            rfl
          · rw [decide_eq_false y]
            refine iteF ⟨sx, ?_⟩
            rw [tk, List.filter_append, List.filter_cons, decide_eq_false y]
            simpa using gx
        · rintro Hx ⟨sx, gx⟩
          rw [List.length_map, List.take_of_length_le (Nat.le_refl _)] at gx
          have ne : 60 ∈ (G.filter fun m => decide (0 ≤ m)) := List.mem_filter.mpr ⟨p60, by decide⟩
          obtain ⟨c, cs, hc⟩ : ∃ c cs, (G.filter fun m => decide (0 ≤ m)) = c :: cs := by
            cases e : (G.filter fun m => decide (0 ≤ m)) with
            | nil => rw [e] at ne; cases ne
            | cons c cs => exact ⟨c, cs, rfl⟩
          rw [hc] at gx
          exact ⟨D, _, 0, .int c, rfl, rfl, SqL.of gx, at0, qq' (some c) (grid_zero S GI m60 p60 (by rw [hc]; rfl)) Hx (s3.trans sx)⟩
end

end Kx
set_option linter.all false
namespace Kx
open PySem L2 PySem.Spec PyProof.Rows
abbrev sWls : Stmt := top 140
abbrev nWls : List Str := ["_law_script", "_law_most", "_law_cell"]
theorem scWls : FnScope nWls ["_law_script", "_law_most"] (defScope sWls) := ⟨rfl, rfl, rfl, by decide +kernel, rfl, by decide +kernel, by decide +kernel⟩
/-! the law's wells -/
def spWls (K : PySem.W.Frag) : Sp := fun vs H Q _ => ∃ (a : Addr) (ns : List Int), vs = [.ref a, .int 8] ∧ SqL K H a (ns.map V.int) ∧ ns.length ≤ 63 ∧
  ∀ (L : Addr) (ps : List Addr) (H' : Hp), H L = none → Same H H' → H' L = some (.lst (ps.map V.ref)) → (∀ p ∈ ps, WellAt H' p 0 ∧ H p = none ∧ p ≠ L) → ps.Nodup → ps.length ≤ 64 → Q (.ref L) H'
section
variable {P : Program} {w : World} {K : PySem.W.Frag} {mg : Str → Option Value} {base : Heap}
theorem ok_wls {g : Addr} {fd : FuncData} (F : Fs K mg "_law_wells" sWls ["_law_script", "_law_most"] g fd) (D : Drw K mg) (T : Bx mg) (ls : mg "list" = none) (hmax : mg "max" = none) (hmin : mg "min" = none) : FnOk P w K mg base CX0 2 g fd ["_law_script", "_law_most"] (spWls K) := by
  obtain ⟨_, _, dW⟩ := D.well
  have GW : FnOk P w K mg base CX0 1 _ _ ["_law_cell"] spWell := ok_well dW.F D.T
  refine F.F.ok scWls (fun vs H Q E h => ?_) (fun cdv A outer s H vs Q E hr h => ?_)
  · obtain ⟨_, _, rfl, _⟩ := h
    rfl
  · obtain ⟨a, ns, rfl, hS, hn, q⟩ := h
    have hrW : Room 1 (A.deeper (envOfC "_law_wells" (defScope sWls) s.heap.objs.size g cdv)) := hr.mono (by decide)
    refine ⟨_, (pss_one (ps_ret (pe_lc (own := [("_law_cell", 2)]) (g := gName 2) (tt := tYes) rfl scWls.nd (pi_list (pe_slice sl_list (pe_op op_cat (pe_callTy call_list_of (by rfl) ls (by decide +kernel) (pa_cons (pv 0) pa_nil)) (pe_lst (pa_cons pe_int pa_nil))) po_none (po_some (pe_callB (call_max2 rfl) (by rfl) hmax (by decide +kernel) (pa_cons pe_int (pa_cons (pe_callB (call_min2 rfl) (by rfl) hmin (by decide +kernel) (pa_cons (pv 1) (pa_cons (pe_callB call_len_seq (by rfl) T.len PySem.boot_len (pa_cons (pv 0) pa_nil)) pa_nil))) pa_nil)))))) (blkOk_by (N := nWls) (sc := defScope sWls) (by decide +kernel)) (fun _ _ _ _ _ => (pg_name (i := 2) scWls.nd rfl (Or.inl rfl))) (fun _ _ _ _ _ => pts_nil) (fun _ _ _ _ _ => (pe_call GW hrW (by rfl) dW.m dW.F.kp dW.b .nil pass0 (pa_cons (pv 2) pa_nil)))))), ?_⟩
    refine ⟨_, rfl, a, _, rfl, .inl hS, fun l0 n0 => ?_⟩
    refine ⟨by show 1 ≤ sizeLine; decide, fun l1 n1 => ?_⟩
    have e01 : l0 ≠ l1 := ne_of_none (o := .lst (ns.map V.int)) upd_same n1
    refine ⟨l0, l1, _, _, rfl, rfl, (by rw [upd_ne e01]; exact upd_same), upd_same, (Nat.le_of_lt (small1000 (by rw [List.length_map]; show _ + 1 ≤ 1000; omega))), fun l2 n2 => ?_⟩
    have s2 : Same H (upd (upd (upd H l0 (.lst (ns.map V.int))) l1 (.lst [.int 0])) l2 (.lst (ns.map V.int ++ [.int 0]))) := (new_same n0).trans ((new_same n1).trans (new_same n2))
    have g2 : (upd (upd (upd H l0 (.lst (ns.map V.int))) l1 (.lst [.int 0])) l2 (.lst (ns.map V.int ++ [.int 0]))) l2 = some (.lst (ns.map V.int ++ [.int 0])) := upd_same
    obtain ⟨H2, e2⟩ : ∃ G, upd (upd (upd H l0 (.lst (ns.map V.int))) l1 (.lst [.int 0])) l2 (.lst (ns.map V.int ++ [.int 0])) = G := ⟨_, rfl⟩
    rw [show upd (upd (upd H l0 (.lst (ns.map V.int))) l1 (.lst [V.int 0])) l2 (.lst (ns.map V.int ++ [V.int 0])) = H2 from e2]
    rw [e2] at s2 g2
    refine ⟨_, rfl, _, rfl, a, _, rfl, .inl (SqL.same s2 hS), ?_⟩
    refine ⟨8, _, rfl, 1, _, rfl, _, rfl, l2, _, rfl, SqL.of g2, fun l3 n3 => ?_⟩
    generalize hcut : cutV (ns.map V.int ++ [V.int 0]) none (some _) = cs at *
    have hcl : cs.length ≤ 64 := by
      rw [← hcut]
      refine Nat.le_trans (cutV_length _ _ _) ?_
      rw [List.length_append, List.length_map]
      show _ + 1 ≤ 64
      omega
    have hci : ∀ v ∈ cs, ∃ c, v = V.int c := fun v hv => by
      rw [← hcut] at hv
      have := List.mem_of_mem_drop (List.mem_of_mem_take hv)
      rcases List.mem_append.mp this with z | z
      · obtain ⟨c, _, e⟩ := List.mem_map.mp z
        exact ⟨c, e.symm⟩
      · exact ⟨0, List.mem_singleton.mp z⟩
    have s3 : Same H (upd H2 l3 (.lst cs)) := s2.trans (new_same n3)
    have g3 : (upd H2 l3 (.lst cs)) l3 = some (.lst cs) := upd_same
    obtain ⟨H3, e3⟩ : ∃ G, upd H2 l3 (.lst cs) = G := ⟨_, rfl⟩
    rw [e3] at s3 g3 ⊢
    refine ⟨l3, rfl, ⟨_, SqL.of g3⟩, fun D4 hD4 => ?_⟩
    have nD4 : H D4 = none := Same.free s3 hD4
    refine lc_list (K := K) (a := l3) (xs := cs) (fun i H4 => Same H3 H4 ∧ ∃ ps : List Addr, H4 D4 = some (.lst (ps.map V.ref)) ∧ ps.length = i ∧ (∀ p ∈ ps, WellAt H4 p 0 ∧ H p = none ∧ p ≠ D4) ∧ ps.Nodup) ⟨new_same hD4, [], upd_same, rfl, (fun _ z => nomatch z), List.nodup_nil⟩ (fun i H4 _ h => SqL.of (h.1 _ _ g3)) ?_ ?_
    · rintro i x H4 hx ⟨s4, ps, g4, pl, hp, nd⟩
      obtain ⟨c, rfl⟩ := hci x (List.mem_of_getElem? hx)
      have il : i < cs.length := (List.getElem?_eq_some_iff.mp hx).1
      refine ⟨rfl, yes_of ⟨_, rfl, c, rfl, fun p H5 np s5 W5 => ?_⟩⟩
      have g5 := s5 _ _ g4
      have nD : p ≠ D4 := fun z => by rw [z, g4] at np; cases np
      have kp : ∀ {q : Addr} {n : Int} {u : HO}, WellAt H5 q n → q ≠ D4 → WellAt (upd H5 D4 u) q n := fun {q n u} ⟨a, b, c, e, r⟩ z => ⟨a, b, c, (upd_ne z).trans e, r⟩
      have hpn : H p = none := Same.free (s3.trans s4) np
      refine ⟨_, g5, by rw [List.length_map]; have : 100 ≤ sizeLine := le_sz (by decide); omega, same_D hD4 (s4.trans s5), ps ++ [p], by rw [upd_same, List.map_append]; rfl, by rw [List.length_append, pl]; rfl, fun q hq => ?_, ?_⟩
      · rcases List.mem_append.mp hq with z | z
        · obtain ⟨w1, w2, w3⟩ := hp q z
          exact ⟨kp (w1.same s5) w3, w2, w3⟩
        · rw [List.mem_singleton.mp z]
          exact ⟨kp W5 nD, hpn, nD⟩
      · rw [List.nodup_append]
        refine ⟨nd, by simp, fun x hx y hy z => ?_⟩
        rw [List.mem_singleton.mp hy] at z
        obtain ⟨ms, e⟩ := (hp x hx).1.lst
        rw [z, np] at e
        cases e
    · rintro H4 ⟨s4, ps, g4, pl, hp, nd⟩
      exact q D4 ps H4 nD4 (s3.trans s4) g4 hp nd (by omega)
end

end Kx
set_option linter.all false
namespace Kx
open PySem L2 PySem.Spec PyProof.Rows
/-! the values of a turn -/
abbrev T3 : List Str := ["x", "p.f", "self.g"]
structure ValsOk (ys : List Str) (kvs : List (Key × V)) (i : Nat) : Prop where
  len : kvs.length ≤ i
  val : ∀ t, valV kvs (.inr t) = none ∨ ∃ v, valV kvs (.inr t) = some (.int v) ∧ -8 ≤ v ∧ v ≤ 8
  no0 : valV kvs (.inr "") = none
  noR : valV kvs (.inr RES) = none
  all : ∀ t ∈ T3.take i, t ∈ ys → (valV kvs (.inr t)).isSome = true
  self : ∀ p ∈ kvs, valV kvs p.1 = some p.2 ∧ flatB p.2 = true
theorem put_self {kvs : List (Key × V)} {k : Key} {y : V} (h : ∀ p ∈ kvs, valV kvs p.1 = some p.2 ∧ flatB p.2 = true) (fy : flatB y = true) : ∀ p ∈ putK kvs k y, valV (putK kvs k y) p.1 = some p.2 ∧ flatB p.2 = true := fun p hp => by
  have hh : p = (k, y) ∨ (p ∈ kvs ∧ p.1 ≠ k) := by
    unfold putK at hp
    split at hp
    · obtain ⟨q, hq, e⟩ := List.mem_map.mp hp
      by_cases z : q.1 = k
      · rw [if_pos z] at e; exact .inl (by rw [← e, z])
      · rw [if_neg z] at e; exact .inr (by rw [← e]; exact ⟨hq, z⟩)
    · rename_i hn
      rcases List.mem_append.mp hp with z | z
      · exact .inr ⟨z, fun e => hn (List.any_eq_true.mpr ⟨p, z, decide_eq_true e⟩)⟩
      · exact .inl (List.mem_singleton.mp z)
  rw [valV_put]
  rcases hh with e | ⟨a, b⟩
  · subst e; rw [if_pos rfl]; exact ⟨rfl, fy⟩
  · rw [if_neg b]; exact h p a
theorem putK_len (kvs : List (Key × V)) (k : Key) (v : V) : (putK kvs k v).length ≤ kvs.length + 1 := by
  unfold putK
  split
  · rw [List.length_map]; omega
  · rw [List.length_append]; exact Nat.le_refl _
theorem val_ne {kvs : List (Key × V)} {s t : Str} {v : V} (h : ¬ t = s) : valV (putK kvs (.inr s) v) (.inr t) = valV kvs (.inr t) := by
  rw [valV_put, if_neg (fun z => h (by injection z))]
theorem val_eq {kvs : List (Key × V)} {s : Str} {v : V} : valV (putK kvs (.inr s) v) (.inr s) = some v := by rw [valV_put, if_pos rfl]
theorem t3_in {i : Nat} {t : Str} (h : T3[i]? = some t) : t = "x" ∨ t = "p.f" ∨ t = "self.g" := by
  have := List.mem_of_getElem? h
  simpa [T3] using this
theorem ValsOk.put {ys : List Str} {kvs : List (Key × V)} {i : Nat} {t : Str} {v : Int} (h : ValsOk ys kvs i) (ht : T3[i]? = some t) (a : -8 ≤ v) (b : v ≤ 8) : ValsOk ys (putK kvs (.inr t) (.int v)) (i + 1) := by
  have t0 : ¬ ("" : Str) = t := by rcases t3_in ht with rfl | rfl | rfl <;> decide
  have tr : ¬ RES = t := by rcases t3_in ht with rfl | rfl | rfl <;> decide
  refine ⟨Nat.le_trans (putK_len _ _ _) (Nat.succ_le_succ h.len), fun s => ?_, by rw [val_ne t0]; exact h.no0, by rw [val_ne tr]; exact h.noR, fun s hs hy => ?_, ?_⟩
  · by_cases e : s = t
    · subst e; exact .inr ⟨v, val_eq, a, b⟩
    · rw [val_ne e]; exact h.val s
  · by_cases e : s = t
    · subst e; rw [val_eq]; rfl
    · rw [val_ne e]
      rw [take_snoc ht] at hs
      rcases List.mem_append.mp hs with z | z
      · exact h.all s z hy
      · exact absurd (List.mem_singleton.mp z) e
  · exact put_self h.self rfl
theorem ValsOk.skip {ys : List Str} {kvs : List (Key × V)} {i : Nat} {t : Str} (h : ValsOk ys kvs i) (ht : T3[i]? = some t) (n : t ∉ ys) : ValsOk ys kvs (i + 1) :=
  ⟨Nat.le_succ_of_le h.len, h.val, h.no0, h.noR, fun s hs hy => by
    rw [take_snoc ht] at hs
    rcases List.mem_append.mp hs with z | z
    · exact h.all s z hy
    · rw [List.mem_singleton.mp z] at hy; exact absurd hy n, h.self⟩
def fvK (kvs : List (Key × V)) (t : Str) : Int := match valV kvs (.inr t) with
  | some (.int v) => v
  | _ => 0
theorem asked_terms {mc : List (List Lit)} {t : Str} (h : t ∈ asked mc) (n : t ≠ "") : t ∈ termsOf mc := by
  obtain ⟨c, hc, hl⟩ := List.mem_flatMap.mp h
  obtain ⟨l, hl, h2⟩ := List.mem_flatMap.mp hl
  refine List.mem_flatMap.mpr ⟨c, hc, List.mem_flatMap.mpr ⟨l, hl, ?_⟩⟩
  unfold termsL
  exact List.mem_filter.mpr ⟨h2, by simpa using n⟩
theorem asked_t4 {mc : List (List Lit)} (h : ClsOk mc) {t : Str} (ht : t ∈ asked mc) : t ∈ T4 := by
  obtain ⟨c, hc, hl⟩ := List.mem_flatMap.mp ht
  obtain ⟨l, hl, h2⟩ := List.mem_flatMap.mp hl
  have h1 := (h.o c hc l hl).t4
  rcases List.mem_cons.mp h2 with e | h3
  · rw [e]; exact h1.1
  · rw [List.mem_singleton.mp h3]; exact h1.2
theorem vals_fv {mc : List (List Lit)} {ys : List Str} {kvs : List (Key × V)} (ck : ClsOk mc) (mem : ∀ t, t ∈ ys ↔ t ∈ termsOf mc) (h : ValsOk ys kvs 3) : FvOk (fvK (putK kvs (.inr "zz") (.int 5))) mc (putK kvs (.inr "zz") (.int 5)) := by
  have z0 : ¬ ("" : Str) = "zz" := by decide
  have zr : ¬ RES = "zz" := by decide
  have ex : ∀ t, valV (putK kvs (.inr "zz") (.int 5)) (.inr t) = none ∨ ∃ v, valV (putK kvs (.inr "zz") (.int 5)) (.inr t) = some (.int v) ∧ -8 ≤ v ∧ v ≤ 8 := fun t => by
    by_cases e : t = "zz"
    · subst e; exact .inr ⟨5, val_eq, by decide, by decide⟩
    · rw [val_ne e]; exact h.val t
  refine ⟨by unfold fvK; rw [val_ne z0, h.no0], by unfold fvK; rw [val_ne zr, h.noR], fun t => ?_, fun t ht n0 nr => ?_⟩
  · unfold fvK
    rcases ex t with e | ⟨v, e, a, b⟩
    · rw [e]; exact ⟨by decide, by decide⟩
    · rw [e]; exact ⟨a, b⟩
  · have hy : t ∈ ys := (mem t).mpr (asked_terms ht n0)
    have h3 : t ∈ T3.take 3 := by
      rcases t4_cases (asked_t4 ck ht) with rfl | rfl | rfl | rfl | rfl
      · simp [T3]
      · simp [T3]
      · simp [T3]
      · exact absurd rfl n0
      · exact absurd rfl nr
    have hz : ¬ t = "zz" := fun z => by
      subst z
      revert h3
      decide
    have hs := h.all t h3 hy
    rw [val_ne hz]
    rcases h.val t with e | ⟨v, e, _⟩
    · rw [e] at hs; cases hs
    · unfold fvK
      rw [val_ne hz, e]
theorem tms_fv {mc : List (List Lit)} {kvs : List (Key × V)} {f : Str → Int} (h : FvOk f mc kvs) (t : Str) (ht : t ∈ tmsOf mc) : valV kvs (.inr t) = some (.int (f t)) := by
  obtain ⟨h1, h2⟩ := List.mem_filter.mp ht
  rw [noRE_eq] at h2
  refine h.2.2.2 t h1 (fun z => ?_) fun z => ?_
  · subst z; simp at h2
  · subst z; simp at h2
theorem scal_opt (r : Option Int) : scal (optV r) (optV r) = true := by cases r <;> rfl
theorem Cs.keepB {K : PySem.W.Frag} {H H' : Hp} {p a : Addr} {ms xs : List V} {cs : List (List Lit)} (hp : H p = some (.lst ms)) (k : KeepB p H H') (h : Cs K H a xs cs) : Cs K H' a xs cs := ⟨SqT.keepB hp k h.sq, L2.Paired.mapP h.p fun _ _ z => IsC.keepB hp k z, h.l⟩
theorem CondF.keepB {K : PySem.W.Frag} {H H' : Hp} {r C dz p q b : Addr} {ms : List V} {cs : List (List Lit)} {ys : List Str} (hp : H b = some (.lst ms)) (k : KeepB b H H') (h : CondF K H r C dz p q cs ys) : CondF K H' r C dz p q cs ys :=
  ⟨k _ _ (fun e => by rw [← e, h.ins] at hp; cases hp) h.ins, (let ⟨xs, g⟩ := h.cl; ⟨xs, Cs.keepB hp k g⟩), SqT.keepB hp k h.tm, h.so, h.nd, h.mem⟩
theorem LibA.keepB {K : PySem.W.Frag} {C f : Nat → Addr} {CL : Addr} {H H' : Hp} {a p : Addr} {ms : List V} {cs : List KD} {ns : List Str} (hp : H p = some (.lst ms)) (k : KeepB p H H') (nl : noLs (cs.map kO)) (h : LibA K C f CL H a cs ns) : LibA K C f CL H' a cs ns :=
  let ⟨dx, fs, N, T, vs, g⟩ := h
  ⟨dx, fs, N, T, vs, k _ _ (fun e => by have := g.ins; rw [e, hp] at this; cases this) g.ins, g.nm, SqT.keepB hp k g.sn, g.tb, k _ _ (fun e => by have := g.gT; rw [e, hp] at this; cases this) g.gT, OhAll.keepB hp k _ _ nl g.ov, g.mem, g.no⟩

end Kx
set_option linter.all false
namespace Kx
open PySem L2 PySem.Spec PyProof.Rows
open StX (pe_makeR tMakeR CallO)
abbrev sLaw : Stmt := top 144
abbrev nLaw : List Str := ["_law_script", "_law_well_here", "_law_gain", "_law_library_here", "_law_turn", "_law_values", "_law_term", "_law_kept", "_law_told"]
theorem scLaw : FnScope nLaw ["_law_script"] (defScope sLaw) := ⟨rfl, rfl, rfl, by decide +kernel, rfl, by decide +kernel, by decide +kernel⟩
theorem inV_strs {t : Str} {ys : List Str} : inV (V.str t) (ys.map V.str) = true ↔ t ∈ ys := by
  unfold inV
  rw [List.any_map, List.any_eq_true]
  constructor
  · rintro ⟨x, hx, h⟩
    have h : (eqV (V.str x) (V.str t) : Bool) = true := h
    have : x = t := by simpa [eqV] using h
    rwa [← this]
  · intro h
    exact ⟨t, h, by show (eqV (V.str t) (V.str t) : Bool) = true; simp [eqV]⟩
/-! the law's own body -/
structure LawOf (K : PySem.W.Frag) (w : World) (mg : Str → Option Value) (C fe : Nat → Addr) (CL B CB fB fi CE CD fD fI fA fM fC e0 e1 e2 CN fN fK gH gW : Addr) (fdB fdi fdD fdI fdA fdM fdC fdN fdK fdH fdW : FuncData) : Prop where
  X : Txt K mg C fe
  N : NeC C
  J : AndOf K mg CE CD fD (C 0) fI fA fdD fdI fdA
  MX : MethMk K mg (C 1) fM fdM
  CX : ClsMk K mg (C 2) fC e0 e1 e2 fdC
  D : Drw K mg
  T : Bx mg
  L : LiF K w mg C fe CL
  W : BadL K mg B CB fB fdB
  Fi : Fun K "__init__" "Library.__init__" sLi fi fdi
  MK : Mk K CL fi
  gL : mg "Library" = some (.ref CL)
  Co : CallOf K mg CE CN fN (C 0) fK gH gW fdN fdK fdH fdW
  ls : mg "list" = none
  rng : mg "range" = none
  mx : mg "max" = none
  mn : mg "min" = none
  dict : mg "dict" = none
  z0 : ∀ H, SqT K H e0 []
  z2 : ∀ H, SqT K H e2 []
  jo : ∃ g fd, Fs K mg "_law_joined" sCond2 ["_law_clauses"] g fd
  we : ∃ g fd, Fs K mg "_law_wells" sWls ["_law_script", "_law_most"] g fd
  po : ∃ g fd, Fs K mg "_law_post" sPost ["_law_well_here"] g fd
  lb : ∃ g fd, Fs K mg "_law_library" sLib ["_law_gain"] g fd
  du : ∃ g fd, Fs K mg "_law_due" sDueG ["_law_gain", "_law_values"] g fd
  an : ∃ g fd, Fs K mg "answer" sAns ["library", "name", "method", "values"] g fd
  az : AnsD K mg
section
variable {P : Program} {w : World} {K : PySem.W.Frag} {mg : Str → Option Value} {base : Heap} {C fe : Nat → Addr} {CL B CB fB fi CE CD fD fI fA fM fC e0 e1 e2 CN fN fK gH gW : Addr} {fdB fdi fdD fdI fdA fdM fdC fdN fdK fdH fdW : FuncData}
theorem law_body {a : Addr} {ns : List Int} (Z : LawOf K w mg C fe CL B CB fB fi CE CD fD fI fA fM fC e0 e1 e2 CN fN fK gH gW fdB fdi fdD fdI fdA fdM fdC fdN fdK fdH fdW) (f : Addr) (cdv : Value) (A : Around) (outer : List Env) (s : Shared) (H : Hp) (E : XK) (hr : Room 40 (A.deeper (envOfC "law" (defScope sLaw) s.heap.objs.size f cdv)))
    (hS : SqL K H a (ns.map V.int)) (hn : ns.length ≤ 63) : ∃ t, PSs (cxOf CX0 P w K mg base nLaw "law" (defScope sLaw) f cdv A outer s H E).nox (defBody sLaw) t ∧ t { nx := fun _ _ => V.non = V.bl true, rt := fun v _ => v = V.bl true } (L2.start nLaw [.ref a]) H := by
  have X := Z.X
  have T := Z.T
  have rng := Z.rng
  have hdict := Z.dict
  have CM : CondMk K mg (C 0) fI fdI := ⟨Z.J.A.D, Z.J.A.I, Z.J.A.mkI⟩
  obtain ⟨_, _, dW⟩ := Z.D.well
  obtain ⟨_, _, dD⟩ := Z.D.draw
  obtain ⟨_, _, dWs⟩ := Z.we
  obtain ⟨_, _, dP⟩ := Z.po
  obtain ⟨_, _, dLb⟩ := Z.lb
  obtain ⟨_, _, dDu⟩ := Z.du
  obtain ⟨_, _, dA⟩ := Z.an
  have GW : FnOk P w K mg base CX0 1 _ _ ["_law_cell"] spWell := ok_well dW.F Z.D.T
  have GD : FnOk P w K mg base CX0 1 _ _ ["_law_well_here", "_law_base"] spDraw := ok_draw dD.F Z.D.T
  have GWs : FnOk P w K mg base CX0 2 _ _ ["_law_script", "_law_most"] (spWls K) := ok_wls dWs Z.D T Z.ls Z.mx Z.mn
  have GP : FnOk P w K mg base CX0 10 _ _ ["_law_well_here"] (spPost K (C 0)) := ok_post dP Z.D T Z.rng Z.J Z.jo
  have GLb : FnOk P w K mg base CX0 39 _ _ ["_law_gain"] (spLb K C fe CL) := ok_lib dLb X Z.N CM Z.MX Z.CX Z.L Z.W Z.Fi Z.MK Z.gL Z.z0 Z.z2
  have GDu : FnOk P w K mg base CX0 5 _ _ ["_law_gain", "_law_values"] (spDueG K (C 0)) := ok_dueG dDu Z.Co T Z.rng Z.dict
  have GA : FnOk P w K mg base CX0 6 _ _ ["library", "name", "method", "values"] (spAns K C fe CL) := ok_ans dA Z.L.M Z.az
  have rm : ∀ n, n ≤ 40 → Room n (A.deeper (envOfC "law" (defScope sLaw) s.heap.objs.size f cdv)) := fun n hn => hr.mono hn
  have hrW := rm 1 (by decide)
  have hrD := rm 1 (by decide)
  have hrWs := rm 2 (by decide)
  have hrP := rm 10 (by decide)
  have hrLb := rm 39 (by decide)
  have hrDu := rm 5 (by decide)
  have hrA := rm 6 (by decide)
  have hu := hu_of hrW
  have hu0 := Nat.lt_of_succ_lt hu
  have lim : 100 ≤ sizeLine := le_sz (by decide)
  refine ⟨_, (pss_cons (ps_for PassesOwn.never rfl (pi_list (pe_op op_cat (pe_lst (pa_cons (pe_call GW hrW (by rfl) dW.m dW.F.kp dW.b .nil pass0 (pa_cons pe_int pa_nil)) pa_nil)) (pe_call GWs hrWs (by rfl) dWs.m dWs.F.kp dWs.b .nil pass0 (pa_cons (pv 0) (pa_cons pe_int pa_nil))))) (pg_name (i := 1) scLaw.nd rfl (Or.inl rfl)) (pss_cons (ps_set (i := 2) scLaw.nd rfl (Or.inl rfl) (pe_call GP hrP (by rfl) dP.m dP.F.kp dP.b .nil pass0 (pa_cons (pv 1) pa_nil))) (pss_cons (ps_set (i := 3) scLaw.nd rfl (Or.inl rfl) (pe_call GLb hrLb (by rfl) dLb.m dLb.F.kp dLb.b .nil pass0 (pa_cons (pv 2) pa_nil))) (pss_one (ps_for PassesOwn.never rfl (pi_range1 rfl rng (pa_cons pe_int pa_nil)) (pg_name (i := 4) scLaw.nd rfl (Or.inl rfl)) (pss_cons (ps_set (i := 5) scLaw.nd rfl (Or.inl rfl) pe_dnewK) (pss_cons (ps_for PassesOwn.never rfl (pi_list (pe_lst (pa_cons pe_str (pa_cons pe_str (pa_cons pe_str pa_nil))))) (pg_name (i := 6) scLaw.nd rfl (Or.inl rfl)) (pss_one (ps_if (PW.pt (pw_or (pt_cmpR op_in_seq (pv 6) (pe_fld (pv 2) (by rfl)) (by with_unfolding_all rfl)) (pw_or1 (pt_cmpR op_eq (pe_call GD hrD (by rfl) dD.m dD.F.kp dD.b .nil pass0 (pa_cons (pv 1) (pa_cons pe_int pa_nil))) pe_int (nomark _))))) (pss_one (ps_asg (pe_op op_sub (pe_call GD hrD (by rfl) dD.m dD.F.kp dD.b .nil pass0 (pa_cons (pv 1) (pa_cons pe_int pa_nil))) pe_int) (pg_sub (pv 5) (pv 6) (set_dict hu)))) pss_nil))) (pss_cons (ps_asg pe_int (pg_sub (pv 5) pe_str (set_dict hu))) (pss_cons (ps_par (i := 7) (j := 8) rfl scLaw.nd rfl rfl (by decide) rfl rfl (pa_cons (pe_callTy call_dictD (by rfl) hdict (by decide +kernel) (pa_cons (pv 5) pa_nil)) (pa_cons (pe_call GA hrA (by rfl) dA.m dA.F.kp dA.b .nil pass0 (pa_cons (pv 3) (pa_cons pe_str (pa_cons pe_str (pa_cons (pv 5) pa_nil))))) pa_nil)) (by rfl)) (pss_one (ps_if (PW.pt (pw_or (pt_cmpR op_ne (pv 8) (pe_call GDu hrDu (by rfl) dDu.m dDu.F.kp dDu.b .nil pass0 (pa_cons (pv 2) (pa_cons (pv 5) pa_nil))) (nomark _)) (pw_or (pt_val (pe_callB call_isi (by rfl) T.isi boot_isinstance (pa_cons (pv 8) (pa_cons (pe_bltn (v := .ty "bool") (by rfl) T.bool (by decide +kernel) rfl) pa_nil)))) (pw_or1 (pt_cmpR (op_ne_dictA hu0) (pv 5) (pv 7) (nomark _)))))) (pss_one (ps_ret pe_bl)) pss_nil))))))))))) (pss_one (ps_ret pe_bl))), ?_⟩
  refine ⟨0, rfl, fun p0 H1 n0 s1 W1 => ⟨by show 1 ≤ sizeLine; decide, fun l1 n1 => ?_⟩⟩
  have g1 : (upd H1 l1 (.lst [.ref p0])) l1 = some (.lst [.ref p0]) := upd_same
  have s2 : Same H1 (upd H1 l1 (.lst [.ref p0])) := new_same n1
  obtain ⟨H2, e2⟩ : ∃ G, upd H1 l1 (.lst [.ref p0]) = G := ⟨_, rfl⟩
  rw [e2] at g1 s2 ⊢
  refine ⟨_, rfl, a, ns, rfl, SqL.same (s1.trans s2) hS, hn, fun l2 ps H3 n2 s3 g2 hps nd pl => ?_⟩
  have g1' := s3 _ _ g1
  refine ⟨l1, l2, _, _, rfl, rfl, g1', g2, (by rw [List.length_map]; show 1 + _ ≤ sizeLine; omega), fun l4 n4 => ?_⟩
  have W0 : WellAt H3 p0 0 := W1.same (s2.trans s3)
  have qs : ([V.ref p0] ++ ps.map V.ref) = (p0 :: ps).map V.ref := rfl
  rw [qs]
  have hq : ∀ p ∈ p0 :: ps, WellAt H3 p 0 := fun p hp => by
    rcases List.mem_cons.mp hp with rfl | z
    · exact W0
    · exact (hps p z).1
  have ndq : (p0 :: ps).Nodup := by
    rw [List.nodup_cons]
    refine ⟨fun z => ?_, nd⟩
    obtain ⟨ms, e⟩ := (W1.same s2).lst
    have := (hps p0 z).2.1
    rw [e] at this
    cases this
  generalize p0 :: ps = qs at hq ndq ⊢
  have sN : Same H3 (upd H3 l4 (.lst (qs.map V.ref))) := new_same n4
  have hq4 : ∀ p ∈ qs, WellAt (upd H3 l4 (.lst (qs.map V.ref))) p 0 ∧ p ≠ l4 := fun p hp => ⟨(hq p hp).same sN, fun z => by
    obtain ⟨ms, e⟩ := (hq p hp).lst
    rw [z, n4] at e
    cases e⟩
  have g4 : (upd H3 l4 (.lst (qs.map V.ref))) l4 = some (.lst (qs.map V.ref)) := upd_same
  obtain ⟨H4, e4⟩ : ∃ G, upd H3 l4 (.lst (qs.map V.ref)) = G := ⟨_, rfl⟩
  rw [e4] at hq4 g4 ⊢
  refine ⟨l4, rfl, ⟨_, SqL.of g4⟩, ?_⟩
  refine for_list (K := K) (a := l4) (xs := qs.map V.ref) (fun i σ Hc => (∃ o1 o2 o3 o4 o5 o6 o7 o8 : Option V, σ = [some (.ref a), o1, o2, o3, o4, o5, o6, o7, o8]) ∧ Hc l4 = some (.lst (qs.map V.ref)) ∧ ∀ j p, i ≤ j → qs[j]? = some p → WellAt Hc p 0) ⟨⟨none, none, none, none, none, none, none, none, rfl⟩, g4, fun j p _ e => (hq4 p (List.mem_of_getElem? e)).1⟩ (fun i σ Hc _ h => SqL.of h.2.1) ?_ ?_
  · rintro i x σ H5 hx ⟨⟨o1, o2, o3, o4, o5, o6, o7, o8, rfl⟩, g5, hw5⟩
    rw [List.getElem?_map] at hx
    obtain ⟨p, hp, rfl⟩ := Option.map_eq_some_iff.mp hx
    have W5 := hw5 i p (Nat.le_refl _) hp
    have npl : p ≠ l4 := (hq4 p (List.mem_of_getElem? hp)).2
    -- what a turn leaves
    have done_ : ∀ (o1 o2 o3 o4 o5 o6 o7 o8 : Option V) H6, KeepB p H5 H6 → (∃ o1' o2' o3' o4' o5' o6' o7' o8' : Option V, [some (V.ref a), o1, o2, o3, o4, o5, o6, o7, o8] = [some (.ref a), o1', o2', o3', o4', o5', o6', o7', o8']) ∧ H6 l4 = some (.lst (qs.map V.ref)) ∧ ∀ j q, i + 1 ≤ j → qs[j]? = some q → WellAt H6 q 0 := fun o1 o2 o3 o4 o5 o6 o7 o8 H6 k => by
      refine ⟨⟨_, _, _, _, _, _, _, _, rfl⟩, k _ _ (Ne.symm npl) g5, fun j q hj hq' => ?_⟩
      obtain ⟨a, b, c, e, r⟩ := hw5 j q (by omega) hq'
      refine ⟨a, b, c, k _ _ (fun z => ?_) e, r⟩
      subst z
      obtain ⟨h1, h2⟩ := List.getElem?_eq_some_iff.mp hp
      obtain ⟨h3, h4⟩ := List.getElem?_eq_some_iff.mp hq'
      exact absurd (h2.trans h4.symm) (List.pairwise_iff_getElem.mp ndq i j h1 h3 (by omega))
    refine ⟨_, rfl, p, 0, rfl, W5, by decide, fun r dz pp qq ys mc H6 CF ck k6 W6 => ?_⟩
    refine ⟨_, rfl, r, dz, pp, qq, mc, ys, rfl, CF, ck, fun xl ns' H7 s7 lib => ?_⟩
    have W7 := W6.same s7
    have CF7 := CF.same s7
    have k7 : KeepB p H5 H7 := k6.trans (KeepB.of s7)
    obtain ⟨ms7, e7⟩ := W7.lst
    refine ⟨4, rfl, by decide, by decide, for_range (lo := 0) (n := 4) (fun j σ Hc => (∃ o4 o5 o6 o7 o8 : Option V, σ = [some (.ref a), some (.ref p), some (.ref r), some (.ref xl), o4, o5, o6, o7, o8]) ∧ KeepB p H7 Hc ∧ WellAt Hc p (60 + 10 * j)) ⟨⟨_, _, _, _, _, rfl⟩, fun _ _ _ z => z, W7.mono (by omega)⟩ ?_ ?_⟩
    · rintro j σ Hc hj ⟨⟨o4, o5, o6, o7, o8, rfl⟩, kc, Wc⟩
      have CFc := CondF.keepB e7 kc CF7
      have libc : LibA K C fe CL Hc xl (lib2 mc ys) ns' := LibA.keepB e7 kc (nl_two (C := C) (f := fe) mc ys) lib.a
      obtain ⟨msc, ec⟩ := Wc.lst
      refine fun d nd' => ?_
      have ndp : d ≠ p := Wc.ne nd'
      have sd : Same Hc (upd Hc d (.dK [])) := new_same nd'
      have gd : (upd Hc d (.dK [])) d = some (.dK []) := upd_same
      have Wd := Wc.same sd
      obtain ⟨Hd, ed⟩ : ∃ G, upd Hc d (.dK []) = G := ⟨_, rfl⟩
      rw [ed] at sd gd Wd ⊢
      refine ⟨le_sz (Nat.le_of_ble_eq_true rfl), fun Lt nLt => ?_⟩
      have ntp : Lt ≠ p := Wd.ne nLt
      have ntd : Lt ≠ d := fun z => by rw [z, gd] at nLt; cases nLt
      have st : Same Hd (upd Hd Lt (.lst (T3.map V.str))) := new_same nLt
      have gt : (upd Hd Lt (.lst (T3.map V.str))) Lt = some (.lst (T3.map V.str)) := upd_same
      have Wt := Wd.same st
      have gdt := st _ _ gd
      have kt : KeepB p Hc (upd Hd Lt (.lst (T3.map V.str))) := KeepB.of (sd.trans st)
      have e3 : ([V.str "x", V.str "p.f", V.str "self.g"] : List V) = T3.map V.str := rfl
      rw [e3]
      obtain ⟨He, ee⟩ : ∃ G, upd Hd Lt (.lst (T3.map V.str)) = G := ⟨_, rfl⟩
      rw [ee] at gt Wt gdt kt ⊢
      refine ⟨Lt, rfl, ⟨_, SqL.of gt⟩, ?_⟩
      refine for_list (K := K) (a := Lt) (xs := T3.map V.str) (fun i σ Hx => (∃ o6 o7 o8 : Option V, σ = [some (.ref a), some (.ref p), some (.ref r), some (.ref xl), some (.int (0 + (j : Int))), some (.ref d), o6, o7, o8]) ∧ KeepB p Hc Hx ∧ WellAt Hx p (60 + 10 * j + 2 * i) ∧ Hx Lt = some (.lst (T3.map V.str)) ∧ ∃ kvs, Hx d = some (.dK kvs) ∧ ValsOk ys kvs i) ⟨⟨_, _, _, rfl⟩, kt, Wt.mono (by omega), gt, [], gdt, ⟨Nat.le_refl _, fun _ => .inl rfl, rfl, rfl, (fun _ z => nomatch z), (fun _ z => nomatch z)⟩⟩ (fun i σ Hx _ h => SqL.of h.2.2.2.1) ?_ ?_
      · rintro i' x' σ Hx hx' ⟨⟨o6, o7, o8, rfl⟩, kx, Wx, gtx, kvs, gdx, vo⟩
        rw [List.getElem?_map] at hx'
        obtain ⟨t, ht, rfl⟩ := Option.map_eq_some_iff.mp hx'
        have i3 : i' ≤ 2 := by
          have := (List.getElem?_eq_some_iff.mp ht).1
          have : i' < 3 := this
          omega
        have CFx := CondF.keepB ec kx CFc
        have kl := vo.len
        have put_ : ∀ (Hy : Hp) (m : Int) (r6 : Int) (z6 : List V), KeepB p Hx Hy → m + 1 ≤ 60 + 10 * j + 2 * ((i' + 1 : Nat) : Int) → 0 ≤ r6 → r6 < 17 → WellAt (upd Hy p (.lst z6)) p (m + 1) →
            (∃ o6' o7' o8' : Option V, [some (V.ref a), some (.ref p), some (.ref r), some (.ref xl), some (.int (0 + (j : Int))), some (.ref d), some (.str t), o7, o8] = [some (.ref a), some (.ref p), some (.ref r), some (.ref xl), some (.int (0 + (j : Int))), some (.ref d), o6', o7', o8']) ∧ KeepB p Hc (upd (upd Hy p (.lst z6)) d (.dK (putK kvs (.inr t) (.int (r6 - 8))))) ∧ WellAt (upd (upd Hy p (.lst z6)) d (.dK (putK kvs (.inr t) (.int (r6 - 8))))) p (60 + 10 * j + 2 * ((i' + 1 : Nat) : Int)) ∧
            (upd (upd Hy p (.lst z6)) d (.dK (putK kvs (.inr t) (.int (r6 - 8))))) Lt = some (.lst (T3.map V.str)) ∧ ∃ kvs', (upd (upd Hy p (.lst z6)) d (.dK (putK kvs (.inr t) (.int (r6 - 8))))) d = some (.dK kvs') ∧ ValsOk ys kvs' (i' + 1) := fun Hy m r6 z6 ky hm a6 b6 W6 => by
          have k6 : KeepB p Hx (upd Hy p (.lst z6)) := ky.trans KeepB.at
          refine ⟨⟨_, _, _, rfl⟩, keep_upd nd' (kx.trans k6), ?_, (upd_ne ntd).trans (k6 _ _ ntp gtx), _, upd_same, vo.put ht (by omega) (by omega)⟩
          obtain ⟨a, b, c, e, q⟩ := W6
          exact WellAt.mono ⟨a, b, c, (upd_ne ndp.symm).trans e, q⟩ hm
        have fly : (ys.map V.str).all flatV = true := List.all_eq_true.mpr fun v hv => by
          obtain ⟨t, _, rfl⟩ := List.mem_map.mp hv
          rfl
        refine ⟨_, rfl, _, rfl, r, C 0, dz, _, .ref qq, rfl, CFx.ins, Z.L.M.X.cls 0 (by decide), Z.L.M.X.no 0 (by decide) _ (by decide), rfl, qq, _, rfl, .inr CFx.tm, rfl, fly, _, rfl, ?_⟩
        by_cases hin : t ∈ ys
        · rw [show inV (V.str t) (ys.map V.str) = true from inV_strs.mpr hin]
          refine iteT (iteT ⟨_, rfl, p, 17, _, rfl, Wx, by omega, by decide, by decide, fun r6 z6 a6 b6 W6 => ⟨_, _, rfl, rfl, _, rfl, _, rfl, d, _, rfl, DPut.k (k := .inr t) (KeepB.at _ _ ndp gdx) (by omega), put_ Hx _ r6 z6 (fun _ _ _ z => z) (by push_cast; omega) a6 b6 W6⟩⟩)
        · rw [show inV (V.str t) (ys.map V.str) = false from Bool.eq_false_iff.mpr fun z => hin (inV_strs.mp z)]
          refine iteF ⟨_, rfl, p, 2, _, rfl, Wx, by omega, by decide, by decide, fun r5 z5 a5 b5 W5' => ?_⟩
          have k5 : KeepB p Hx (upd Hx p (.lst z5)) := KeepB.at
          obtain ⟨Hy, ey⟩ : ∃ G, upd Hx p (.lst z5) = G := ⟨_, rfl⟩
          rw [ey] at W5' k5 ⊢
          refine ⟨rfl, _, rfl, ?_⟩
          by_cases z : V.int r5 = V.int 0
          · rw [decide_eq_true z]
            refine iteT ⟨_, rfl, p, 17, _, rfl, W5', by omega, by decide, by decide, fun r6 z6 a6 b6 W6 => ⟨_, _, rfl, rfl, _, rfl, _, rfl, d, _, rfl, DPut.k (k := .inr t) (KeepB.at _ _ ndp (k5 _ _ ndp gdx)) (by omega), put_ Hy _ r6 z6 k5 (by push_cast; omega) a6 b6 W6⟩⟩
          · rw [decide_eq_false z]
            refine iteF ⟨⟨_, _, _, rfl⟩, kx.trans k5, W5'.mono (by push_cast; omega), k5 _ _ ntp gtx, kvs, k5 _ _ ndp gdx, vo.skip ht hin⟩
      · rintro σ Hx ⟨⟨o6, o7, o8, rfl⟩, kx, Wx, gtx, kvs, gdx, vo⟩
        have vo3 : ValsOk ys kvs 3 := vo
        have CFx := CondF.keepB ec kx CFc
        have fv := vals_fv ck CF.mem vo3
        have kl := vo3.len
        refine ⟨_, rfl, d, _, rfl, DPut.k (k := .inr "zz") gdx (by omega), ?_⟩
        obtain ⟨kv2, ek⟩ : ∃ kv2, putK kvs (.inr "zz") (V.int 5) = kv2 := ⟨_, rfl⟩
        have kl2 : kv2.length ≤ 4 := by rw [← ek]; exact Nat.le_trans (putK_len _ _ _) (by omega)
        have self2 : ∀ q ∈ kv2, valV kv2 q.1 = some q.2 ∧ flatB q.2 = true := by rw [← ek]; exact put_self vo3.self rfl
        rw [ek] at fv ⊢
        have ky : KeepB p Hc (upd Hx d (.dK kv2)) := keep_upd nd' kx
        have gdy : (upd Hx d (.dK kv2)) d = some (.dK kv2) := upd_same
        have Wy : WellAt (upd Hx d (.dK kv2)) p (60 + 10 * j + 6) := by
          obtain ⟨a, b, c, e, q⟩ := Wx
          exact WellAt.mono ⟨a, b, c, (upd_ne ndp.symm).trans e, q⟩ (by show 60 + 10 * (j : Int) + 2 * ((3 : Nat) : Int) ≤ _; omega)
        obtain ⟨Hy, ey⟩ : ∃ G, upd Hx d (.dK kv2) = G := ⟨_, rfl⟩
        rw [ey] at ky gdy Wy ⊢
        refine ⟨_, rfl, d, kv2, rfl, .inl gdy, fun kn nkn => ?_⟩
        have sn : Same Hy (upd Hy kn (.dK kv2)) := new_same nkn
        have gkn : (upd Hy kn (.dK kv2)) kn = some (.dK kv2) := upd_same
        obtain ⟨Hz, ez⟩ : ∃ G, upd Hy kn (.dK kv2) = G := ⟨_, rfl⟩
        rw [ez] at sn gkn ⊢
        have kz := ky.trans (KeepB.of sn)
        have libz := LibA.keepB ec kz (nl_two (C := C) (f := fe) mc ys) libc
        refine ⟨_, rfl, _, rfl, xl, d, lib2 mc ys, ns', "c", "m", kC mc ys, mM mc ys, kv2, fvK kv2, rfl, libz, two_kdc mc ys, two_wr mc ys, rfl, ck.sm, sn _ _ gdy, fv.2.1, fv.1, tms_fv fv, fun ro hro Ht sz => ⟨_, _, rfl, ?_⟩⟩
        have kz2 := kz.trans (KeepB.of sz)
        have CFz := CondF.keepB ec kz2 CFc
        refine ⟨_, rfl, _, rfl, _, rfl, r, d, dz, pp, qq, mc, ys, kv2, fvK kv2, rfl, CFz, ck, sz _ _ (sn _ _ gdy), by omega, fv, fun ro' hro' Hu su => ?_⟩
        obtain rfl : ro = ro' := hro.uniq hro'
        refine ⟨scal_opt ro, _, rfl, ?_⟩
        rw [show (!decide (optV ro = optV ro)) = false by rw [decide_eq_true rfl]; rfl]
        have s4 := sz.trans su
        have gdu := s4 _ _ (sn _ _ gdy)
        have gku := s4 _ _ gkn
        have fin : (∃ b4 b5 b6 b7 b8 : Option V, [some (V.ref a), some (.ref p), some (.ref r), some (.ref xl), some (.int (0 + (j : Int))), some (.ref d), o6, some (.ref kn), some (optV ro)] = [some (.ref a), some (.ref p), some (.ref r), some (.ref xl), b4, b5, b6, b7, b8]) ∧ KeepB p H7 Hu ∧ WellAt Hu p (60 + 10 * ((j + 1 : Nat) : Int)) :=
          ⟨⟨_, _, _, _, _, rfl⟩, kc.trans (kz2.trans (KeepB.of su)), ((Wy.same sn).same s4).mono (by push_cast; omega)⟩
        cases ro with
        | none => exact iteF ⟨_, rfl, .non, .ty "bool", _, _, false, rfl, .ty _, .base .non, kit_ty (by decide +kernel), false, rfl, iteF ⟨_, rfl, _, rfl, d, kn, kv2, kv2, rfl, rfl, gdu, gku, rfl, self2, _, rfl, iteF fin⟩⟩
        | some m => exact iteF ⟨_, rfl, .int m, .ty "bool", _, _, false, rfl, .ty _, .base (.int m), kit_ty (by decide +kernel), false, rfl, iteF ⟨_, rfl, _, rfl, d, kn, kv2, kv2, rfl, rfl, gdu, gku, rfl, self2, _, rfl, iteF fin⟩⟩
    · rintro σ Hc ⟨⟨o4, o5, o6, o7, o8, rfl⟩, kc, Wc⟩
      exact done_ _ _ _ _ _ _ _ _ Hc (k7.trans kc)
  · rintro σ H5 ⟨⟨o1, o2, o3, o4, o5, o6, o7, o8, rfl⟩, g5, _⟩
    exact rfl
end

end Kx
namespace Kx
open PySem L2 PySem.Spec PyProof.Rows
/-! the law's own call, by a caller around whom nothing is being shown -/
section
variable {P : Program} {w : World} {K : PySem.W.Frag} {mg mb : Str → Option Value} {fa a : Addr} {s : Shared} {vs : List Value} {ns : List Int}
abbrev oScript (vs : List Value) : Obj := { cls := .type "list", data := .seq vs.toArray }
/-- what may be tracked at the entry: the script, and nothing else -/
structure Entry (K : PySem.W.Frag) (H : Hp) (a : Addr) (vs : List Value) (ns : List Int) : Prop where
  only : ∀ b u, H b = some u → b = a ∧ u = .frz (oScript vs) (.lst (ns.map V.int)) ∧ K.lookup a = none
  seq : SqL K H a (ns.map V.int)
theorem entry_run {oc kV doc pm cdv ct : Value} {od an : Option Addr} {osl : Array (Option Value)} {H : Hp} (En : Entry K H a vs ns)
    (KX : K.In s.heap) (hns : s.heap.Ns mainGlobals mg) (hb : s.heap.Ns builtinsNs mb) (hbb : ∀ x : Str, x ≠ "__name__" → mb x = bootBuiltins x) (hlim : s.heap.NoLimit) (hg : s.gens = #[])
    (ha : s.heap.get? a = some (oScript vs)) (hi : IntsAre vs ns) (hl : ns.length ≤ 63)
    (lk : K.lookup fa = some ⟨oc, od, .func (PySem.W.fnOf "law" "law" (defArgs sLaw) (defBody sLaw) (defScope sLaw) .none kV doc pm an cdv ct), osl⟩) (hcd : PySem.W.codeIn K cdv "law" = true)
    (body : ∀ (base : Heap), K.In base → base.Ns mainGlobals mg → ∃ t, PSs (cxOf CX0 P w K mg base nLaw "law" (defScope sLaw) fa cdv callerA [] s H E0).nox (defBody sLaw) t ∧ t { nx := fun _ _ => V.non = V.bl true, rt := fun v _ => v = V.bl true } (start nLaw [.ref a]) H) :
    codeAny (model P w) callerA (.call (.ref fa) ⟨[.ref a], []⟩) (fun r s' => r = .ok (.ret (.bool true)) ∧ OldK s.heap s'.heap ∧ s'.os = s.os ∧ AllBare s'.gens) s := by
  have rv := vals_ints hi
  have free : ∀ {b : Addr} {o : Obj}, s.heap.get? b = some o → (b = a → o ≠ oScript vs) → H b = none := fun {b o} e d => by
    cases q : H b with
    | none => rfl
    | some u =>
      obtain ⟨rfl, _, _⟩ := En.only b u q
      rw [ha] at e
      exact absurd (Option.some.inj e).symm (d rfl)
  have freeD : ∀ {b : Addr} {o : Obj} {es : Array DictEntry} {ep : Nat}, s.heap.get? b = some o → o.data = .dict es ep → H b = none := fun {b o es ep} e d =>
    free e fun _ z => by
      rw [z] at d
      cases d
  have nsB : ∀ {b : Addr} {m : Str → Option Value}, s.heap.Ns b m → (hidT s.heap H).Ns b m := fun {b m} ⟨o, es, ep, e, d, r⟩ => ⟨o, es, ep, hidT_get e (freeD e d), d, r⟩
  have KB : K.In (hidT s.heap H) := fun b o e => hidT_get (KX b o e) (by
    cases q : H b with
    | none => rfl
    | some u =>
      obtain ⟨rfl, _, n⟩ := En.only b u q
      rw [n] at e
      cases e)
  have M : Mod K mg (hidT s.heap H) := ⟨KB, nsB hns, ⟨mb, nsB hb, hbb⟩, let ⟨mc, h1, h2⟩ := hlim; ⟨mc, nsB h1, h2⟩⟩
  have ok : HOk P w H s.heap := fun b u q => by
    obtain ⟨rfl, rfl, _⟩ := En.only b u q
    exact ⟨ha, by rw [List.length_map]; exact Nat.le_of_lt (small1000 (by omega)), vs, _, rv, ha⟩
  have e0 : Env0 P w K mg (hidT s.heap H) callerA [] s H := ⟨rfl, M, fun b o e => of_hidT e, Nat.le_of_eq (hidT_size _ _), trivial, fun b hb => absurd (show b ∈ ([] : List Addr) from hb) (by simp), ok, .of_eq hg⟩
  have F : FnScope nLaw ["_law_script"] (defScope sLaw) := scLaw
  have bd : BindsTo s (PySem.W.fnOf "law" "law" (defArgs sLaw) (defBody sLaw) (defScope sLaw) .none kV doc pm an cdv ct) ⟨[.ref a], []⟩ [("_law_script", .ref a)] := .of_eq rfl
  refine codeAny_call_function (by decide) (KX _ _ lk) rfl F.co F.gen rfl (PySem.W.codeRec_of KX hcd) (bd _ _ _ _ ?_)
  refine wpAny_newFunctionEnv_cells F.kind (fun y hy => ?_) fun env he s1 x => ?_
  · rw [List.mem_singleton.mp hy]
    exact .inl (by rfl)
  · subst he
    refine ⟨hlim.keeps x.toInCall.keep, codeAny_func ?_⟩
    obtain ⟨t, ht, hq⟩ := body _ KB (nsB hns)
    have I := inv_start (CX := CX0) (E := E0) (us := [.ref a]) (vs := [.ref a]) F (show callerA.handled = none from rfl) e0 rfl (.cons rfl .nil) x
    refine wpAny_mono (ht.run [] s1 _ H _ (I.wish _) hq) (fun fl s' hs => ?_) fun e s' hs => False.elim hs
    · cases fl with
      | ret u =>
        obtain ⟨v, σ', H', J, r, q⟩ := hs
        have q' : v = .bl true := q
        subst q'
        obtain rfl : u = Value.bool true := r
        refine ⟨rfl, OldK.of_keep fun b o e => ?_, J.os, J.bare⟩
        cases z : H b with
        | none => exact J.base.keep b o e z (fun y => absurd (show b ∈ ([] : List Addr) from y) (by simp)) (fun y => absurd (show b ∈ ([] : List Addr) from y) (by simp))
        | some u =>
          obtain ⟨rfl, rfl, _⟩ := En.only b u z
          obtain ⟨e2, _⟩ := J.hok b _ (J.base.frzs b _ _ z)
          rw [ha] at e
          cases e
          exact e2
      | next =>
        obtain ⟨_, _, _, q⟩ := hs
        cases (show V.non = V.bl true from q)
      | brk =>
        obtain ⟨_, _, _, q⟩ := hs
        exact False.elim q
      | cont =>
        obtain ⟨_, _, _, q⟩ := hs
        exact False.elim q
end
end Kx
set_option linter.all false
namespace Kx
open PySem L2 PySem.Spec PyProof.Rows
abbrev sBCi : Stmt := inClass (top 3) 0
abbrev sNVi : Stmt := inClass (top 4) 0
/-! what the top has left, and the law's head -/
structure Law (K : PySem.W.Frag) (w : World) (mg : Str → Option Value) (fa : Addr) : Prop where
  ex : ∃ (C fe : Nat → Addr) (CL B CB fB fi CE CD fD fI fA fM fC e0 e1 e2 CN fN fK gH gW : Addr) (fdB fdi fdD fdI fdA fdM fdC fdN fdK fdH fdW : FuncData), LawOf K w mg C fe CL B CB fB fi CE CD fD fI fA fM fC e0 e1 e2 CN fN fK gH gW fdB fdi fdD fdI fdA fdM fdC fdN fdK fdH fdW
  fn : ∃ (oc kV doc pm cdv ct : Value) (od an : Option Addr) (osl : Array (Option Value)), K.lookup fa = some ⟨oc, od, .func (PySem.W.fnOf "law" "law" (defArgs sLaw) (defBody sLaw) (defScope sLaw) .none kV doc pm an cdv ct), osl⟩ ∧ PySem.W.codeIn K cdv "law" = true
theorem walk {l : PySem.W.OpenLaw} {q : Program} {loose : List Str} {XP : (Str → Option Value) → Heap → Prop} {YP : World → Heap → Prop} {d : DefRec} {K : Params → PySem.W.Frag} (hn : l.most = some 63) (hdf : d.params.defaults = [])
    (hY : ∀ (w : World) (h : Heap), YP w h → (K w.params).In h)
    (F : ∀ (w : World) (mg : Str → Option Value) (fa : Addr) (h : Heap), (K w.params).In h → h.Ns mainGlobals mg → mg d.name = some (.ref fa) → Law (K w.params) w mg fa) :
    PySem.W.WalkO q loose XP YP l.row.toRowW d [] (fun f vs => PySem.call f vs) := by
  refine Att.attach_call hn hdf fun w s₀ s₁ mg mb fa o pm cd doc a vs ns G Y ho hd hcd hmg hobj hints hlen hg => ?_
  have KX := hY w _ Y
  obtain ⟨⟨C, fe, CL, B, CB, fB, fi, CE, CD, fD, fI, fA, fM, fC, e0, e1, e2, CN, fN, fK, gH, gW, fdB, fdi, fdD, fdI, fdA, fdM, fdC, fdN, fdK, fdH, fdW, M⟩, ⟨oc, kV, dc, pm', cdv, ct, od, an, osl, lk, hc⟩⟩ := F w mg fa _ KX G.T.g hmg
  have go : ∀ H, Entry (K w.params) H a vs ns → _ := fun H En => entry_run (P := l.prog) (w := w) En KX G.T.g G.T.b G.T.builtins G.T.nolimit hg hobj hints hlen lk hc fun base _ _ =>
    law_body (P := l.prog) (w := w) (base := base) M fa cdv callerA [] s₁ H E0 (Room.deeper (k := 40) (A := callerA) ⟨rfl, by decide, by decide⟩ _) En.seq hlen
  cases hk : (K w.params).lookup a with
  | some ob =>
    have e := KX a ob hk
    rw [hobj] at e
    cases e
    exact go (fun _ => none) ⟨fun b u z => (by cases (show (none : Option HO) = some u from z)), .inr ⟨_, vs.toArray, _, hk, rfl, rfl, rfl, by rw [List.size_toArray, hints.length]; exact Nat.le_of_lt (small1000 (by omega)), by simpa using vals_ints hints⟩⟩
  | none =>
    refine go (fun b => if b = a then some (.frz (oScript vs) (.lst (ns.map V.int))) else none) ⟨fun b u z => ?_, .inl (.inr ⟨oScript vs, if_pos rfl⟩)⟩
    by_cases hb : b = a
    · have z' := (if_pos hb).symm.trans z
      exact ⟨hb, (Option.some.inj z').symm, hk⟩
    · have z' := (if_neg hb).symm.trans z
      cases z'
end Kx
set_option linter.all false
namespace Kx
open PySem L2 PySem.Spec PyProof.Rows

section
variable {K : PySem.W.Frag} {mg : Str → Option Value} {h : Heap}
theorem def_mk {x : Str} {st : Stmt} {ps : List Str} {f : Addr} {oc : Value} {od an : Option Addr} {osl : Array (Option Value)} {kV doc pm cdv ct : Value} (X : K.In h) (G : h.Ns mainGlobals mg) (m : PySem.W.nsIn K mainGlobals x = some (some (.ref f)))
    (l : K.lookup f = some ⟨oc, od, .func (PySem.W.fnOf x x (defArgs st) (defBody st) (defScope st) .none kV doc pm an cdv ct), osl⟩) (c : PySem.W.codeIn K cdv x = true) (k : PySem.W.keepIn K (.ref f) = true)
    (b : ∀ (kV doc pm : Value) (an : Option Addr) (cdv ct : Value) (us : List Value), us.length = ps.length → bindArgs (PySem.W.fnOf x x (defArgs st) (defBody st) (defScope st) .none kV doc pm an cdv ct) ⟨us, []⟩ = pure (ps.zip us)) :
    ∃ f fd, Fs K mg x st ps f fd := ⟨f, _, fun_mk l c k, (fun_mk (st := st) l c k).binds b, PySem.W.mg_of X G m⟩
theorem at_mk {x : Str} {st : Stmt} {ps : List Str} {f : Addr} {oc : Value} {od an : Option Addr} {osl : Array (Option Value)} {kV doc pm cdv ct : Value} (X : K.In h) (G : h.Ns mainGlobals mg) (m : PySem.W.nsIn K mainGlobals x = some (some (.ref f)))
    (l : K.lookup f = some ⟨oc, od, .func (PySem.W.fnOf x x (defArgs st) (defBody st) (defScope st) .none kV doc pm an cdv ct), osl⟩) (c : PySem.W.codeIn K cdv x = true) (k : PySem.W.keepIn K (.ref f) = true)
    (b : ∀ (kV doc pm : Value) (an : Option Addr) (cdv ct : Value) (us : List Value), us.length = ps.length → bindArgs (PySem.W.fnOf x x (defArgs st) (defBody st) (defScope st) .none kV doc pm an cdv ct) ⟨us, []⟩ = pure (ps.zip us)) :
    ∃ fd, Fs K mg x st ps f fd := ⟨_, fun_mk l c k, (fun_mk (st := st) l c k).binds b, PySem.W.mg_of X G m⟩
theorem fa_mk {g x : Str} {st : Stmt} {ps : List Str} {f : Addr} {oc : Value} {od an : Option Addr} {osl : Array (Option Value)} {kV doc pm cdv ct : Value} (X : K.In h) (G : h.Ns mainGlobals mg) (m : PySem.W.nsIn K mainGlobals g = some (some (.ref f)))
    (l : K.lookup f = some ⟨oc, od, .func (PySem.W.fnOf x x (defArgs st) (defBody st) (defScope st) .none kV doc pm an cdv ct), osl⟩) (c : PySem.W.codeIn K cdv x = true) (k : PySem.W.keepIn K (.ref f) = true)
    (b : ∀ (kV doc pm : Value) (an : Option Addr) (cdv ct : Value) (us : List Value), us.length = ps.length → bindArgs (PySem.W.fnOf x x (defArgs st) (defBody st) (defScope st) .none kV doc pm an cdv ct) ⟨us, []⟩ = pure (ps.zip us)) :
    ∃ f fd, Fa K mg g x st ps f fd := ⟨f, _, fun_mk l c k, (fun_mk (st := st) l c k).binds b, PySem.W.mg_of X G m⟩
theorem fun_bind {x q : Str} {st : Stmt} {ps : List Str} {f : Addr} {oc : Value} {od an : Option Addr} {osl : Array (Option Value)} {kV doc pm cdv ct : Value}
    (l : K.lookup f = some ⟨oc, od, .func (PySem.W.fnOf x q (defArgs st) (defBody st) (defScope st) .none kV doc pm an cdv ct), osl⟩) (c : PySem.W.codeIn K cdv q = true) (k : PySem.W.keepIn K (.ref f) = true)
    (b : ∀ (kV doc pm : Value) (an : Option Addr) (cdv ct : Value) (us : List Value), us.length = ps.length → bindArgs (PySem.W.fnOf x q (defArgs st) (defBody st) (defScope st) .none kV doc pm an cdv ct) ⟨us, []⟩ = pure (ps.zip us)) :
    ∃ fd, Fun K x q st f fd ∧ Binds K fd ps [] := ⟨_, fun_mk l c k, (fun_mk (st := st) l c k).binds fun kV' doc' pm' an' cdv' ct' us hl => b _ _ _ _ _ _ us hl⟩
theorem fun_only {x q : Str} {st : Stmt} {f : Addr} {oc : Value} {od an : Option Addr} {osl : Array (Option Value)} {kV doc pm cdv ct : Value} (l : K.lookup f = some ⟨oc, od, .func (PySem.W.fnOf x q (defArgs st) (defBody st) (defScope st) .none kV doc pm an cdv ct), osl⟩) (c : PySem.W.codeIn K cdv q = true) (k : PySem.W.keepIn K (.ref f) = true) :
    ∃ fd, Fun K x q st f fd := ⟨_, fun_mk l c k⟩
theorem m_mk {f D : Addr} {oc : Value} {od an : Option Addr} {osl : Array (Option Value)} {doc pm cdv ct : Value} (l : K.lookup f = some ⟨oc, od, .func (PySem.W.fnOf "__init__" "Method.__init__" (defArgs sInM) (defBody sInM) (defScope sInM) .none (.ref D) doc pm an cdv ct), osl⟩) (c : PySem.W.codeIn K cdv "Method.__init__" = true) (k : PySem.W.keepIn K (.ref f) = true)
    (h1 : PySem.W.nsIn K D "pre" = some (some .none)) (h2 : PySem.W.nsIn K D "post" = some (some .none)) : ∃ fd, FunM K f fd :=
  ⟨_, ⟨oc, od, .none, .ref D, doc, pm, an, cdv, ct, osl, rfl, l, c, .inl ⟨rfl, rfl⟩, .inr ⟨D, rfl, fun q hq => by
    simp only [List.mem_cons, List.not_mem_nil, or_false] at hq
    rcases hq with rfl | rfl
    · exact ⟨_, h1, rfl⟩
    · exact ⟨_, h2, rfl⟩⟩⟩, k⟩
theorem c_mk {f D T e0 e1 e2 : Addr} {oT : Obj} {n : Nat} {oc : Value} {od an : Option Addr} {osl : Array (Option Value)} {doc pm cdv ct : Value} (l : K.lookup f = some ⟨oc, od, .func (PySem.W.fnOf "__init__" "ClassDef.__init__" (defArgs sInC) (defBody sInC) (defScope sInC) (.ref T) (.ref D) doc pm an cdv ct), osl⟩) (c : PySem.W.codeIn K cdv "ClassDef.__init__" = true) (k : PySem.W.keepIn K (.ref f) = true)
    (lT : K.lookup T = some oT) (dT : oT.data = .seq ([Value.ref e0]).toArray n) (h1 : PySem.W.nsIn K D "fields" = some (some (.ref e1))) (h2 : PySem.W.nsIn K D "where" = some (some .none)) (h3 : PySem.W.nsIn K D "methods" = some (some (.ref e2))) : ∃ fd, FunC K e0 e1 e2 f fd :=
  ⟨_, ⟨oc, od, .ref T, .ref D, doc, pm, an, cdv, ct, osl, rfl, l, c, .inr ⟨by simp, T, oT, [.ref e0], n, rfl, lT, dT, .cons rfl .nil⟩, .inr ⟨D, rfl, fun q hq => by
    simp only [List.mem_cons, List.not_mem_nil, or_false] at hq
    rcases hq with rfl | rfl | rfl
    · exact ⟨_, h1, rfl⟩
    · exact ⟨_, h2, rfl⟩
    · exact ⟨_, h3, rfl⟩⟩⟩, k⟩
theorem emp {e : Addr} {oe : Obj} {n : Nat} (l : K.lookup e = some oe) (c : oe.cls = .type "tuple") (d : oe.data = .seq #[] n) : ∀ H, SqT K H e [] := fun H => .inr ⟨oe, #[], n, l, c, d, Nat.zero_le _, .nil⟩
theorem ct_mk {B C : Addr} {nm q : Str} {N : Addr} {bs : List Value} {sn : List Str} {sub : List Value} {ab : Bool} {col : Option Bool} {dd : Option Addr} {k0 k1 k2 k3 k5 : Option Value}
    (x : K.lookup C = some (excClassObj nm q C N bs (.ref B :: veL) true sn sub ab col dd k0 k1 k2 k3 k5 "ValueError.__new__")) (sa : PySem.W.findIn K (.ref C) "__setattr__" = some (some (.builtin "object.__setattr__")))
    (ga : PySem.W.findIn K (.ref C) "__getattribute__" = some (some (.builtin "BaseException.__getattribute__"))) (gg : PySem.W.findIn K (.ref C) "__getattr__" = some none) (tyC : PySem.W.typeIn K (.ref C) = some (.type "type")) (kC : PySem.W.keepIn K (.ref C) = true)
    (hdC : PySem.W.hasDictIn K C = true) (ha : PySem.W.findIn K (.ref C) "__class__" = some (some (.builtin "object.__class__"))) : Ct K B C := ⟨⟨nm, q, N, bs, sn, sub, ab, col, dd, k0, k1, k2, k3, k5, x⟩, sa, ga, gg, tyC, kC, hdC, ha⟩
/-- a tuple of texts that the module has written -/
def strV? : Value → Option Str
  | .str x _ => some x
  | _ => none
theorem vals_strs : ∀ {us : List Value} {l : List Str}, us.map strV? = l.map some → Vals (l.map V.str) us
  | [], [], _ => .nil
  | [], _ :: _, h => by cases h
  | _ :: _, [], h => by cases h
  | u :: us, x :: l, h => by
    have h2 : strV? u :: us.map strV? = some x :: l.map some := h
    injection h2 with a b
    refine .cons ?_ (vals_strs b)
    unfold strV? at a
    split at a
    · rename_i y t
      cases a
      exact ⟨t, rfl⟩
    · cases a
theorem strs_mk {e : Addr} {oe : Obj} {us : List Value} {n : Nat} {l : List Str} (lk : K.lookup e = some oe) (c : oe.cls = .type "tuple") (d : oe.data = .seq us.toArray n) (z : us.map strV? = l.map some) (sz : l.length ≤ 1000) : ∀ H, SqT K H e (l.map V.str) := fun H =>
  .inr ⟨oe, us.toArray, n, lk, c, d, by
    have := congrArg List.length z
    rw [List.length_map, List.length_map] at this
    rw [List.size_toArray, this, sizeLine_eq]
    omega, vals_strs z⟩
/-- a dict that the module has written -/
def keyS (e : DictEntry) : Option Str := match e.key with
  | .str x _ => some x
  | _ => none
theorem kwalk_mk {d : Addr} {es : Array DictEntry} {n : Nat} {ks : List Str} (lk : K.lookup d = some ⟨.type "dict", none, .dict es n, #[]⟩) (z : es.toList.map keyS = ks.map some) (lo : (d == sysModules) = false) : KWalk K d ks ⟨.type "dict", none, .dict es n, #[]⟩ es n := by
  refine ⟨lk, ⟨rfl, rfl, rfl⟩, rfl, ?_, lo, fun i k hk => ?_⟩
  · have := congrArg List.length z
    simpa using this
  · have h1 : (es.toList.map keyS)[i]? = (ks.map some)[i]? := by rw [z]
    rw [List.getElem?_map, List.getElem?_map, hk] at h1
    cases q : es.toList[i]? with
    | none => rw [q] at h1; cases h1
    | some en =>
      rw [q] at h1
      have h2 : keyS en = some k := Option.some.inj h1
      unfold keyS at h2
      split at h2
      · rename_i x t e
        cases h2
        exact ⟨en, t, by rw [← Array.getElem?_toList]; exact q, e⟩
      · cases h2
theorem kdct_mk {w : World} {d : Addr} {es : Array DictEntry} {n : Nat} {x : Str} {v : V} {u : Value} (lk : K.lookup d = some ⟨.type "dict", none, .dict es n, #[]⟩) (kl : PySem.W.KeysLit w.params es.toList) (e : PySem.W.nsIn K d x = some (some u)) (r : RelV v u) : KDct K w d x v := ⟨es, n, u, lk, kl, e, r⟩
end
structure CF (K : PySem.W.Frag) (C fi fe : Addr) (cd : ClassData) : Prop where
  c1 : PySem.W.plainGet K C Str.empty = true
  c2 : PySem.W.hasDictIn K C = true
  c3 : PySem.W.plainOver K C = true
  c4 : PySem.W.findIn K (.ref C) "__setattr__" = some (some (.builtin "object.__setattr__"))
  m1 : PySem.W.makesIn K C = true
  m2 : PySem.W.findIn K (.ref C) "__init__" = some (some (.ref fi))
  m3 : PySem.W.isFn K (.ref fi) = true
  m4 : PySem.W.keepIn K (.ref C) = true
  e1 : PySem.W.findIn K (.ref C) "__eq__" = some (some (.ref fe))
  e2 : PySem.W.isFn K (.ref fe) = true
  ne : PySem.W.findIn K (.ref C) "__ne__" = some (some (.builtin "object.__ne__"))
  mo : PySem.W.mroIn K C (.type "object") = some true
  y1 : PySem.W.findIn K (.ref C) "__class__" = some (some (.builtin "object.__class__"))
  kc : PySem.W.clsIn K C = some cd
  kt : PySem.W.typeIn K (.ref C) = some (.type "type")
  se : PySem.W.subIn K (.ref C) (.ref C) = some true
  a0 : PySem.W.subIn K (.type "NoneType") (.ref C) = some false
  b0 : PySem.W.subIn K (.ref C) (.type "NoneType") = some false
  a1 : PySem.W.subIn K (.type "bool") (.ref C) = some false
  b1 : PySem.W.subIn K (.ref C) (.type "bool") = some false
  a2 : PySem.W.subIn K (.type "int") (.ref C) = some false
  b2 : PySem.W.subIn K (.ref C) (.type "int") = some false
  a3 : PySem.W.subIn K (.type "str") (.ref C) = some false
  b3 : PySem.W.subIn K (.ref C) (.type "str") = some false
  a4 : PySem.W.subIn K (.type "tuple") (.ref C) = some false
  b4 : PySem.W.subIn K (.ref C) (.type "tuple") = some false
  a5 : PySem.W.subIn K (.type "list") (.ref C) = some false
  b5 : PySem.W.subIn K (.ref C) (.type "list") = some false
theorem CF.cls {K : PySem.W.Frag} {C fi fe : Addr} {cd : ClassData} (x : CF K C fi fe cd) : Cls K C := ⟨x.c1, x.c2, x.c3, x.c4⟩
theorem CF.sT {K : PySem.W.Frag} {C fi fe : Addr} {cd : ClassData} (x : CF K C fi fe cd) : ∀ T, T ∈ ["NoneType", "bool", "int", "str", "tuple", "list"] → PySem.W.subIn K (.type T) (.ref C) = some false ∧ PySem.W.subIn K (.ref C) (.type T) = some false := fun T hT => by
  simp only [List.mem_cons, List.not_mem_nil, or_false] at hT
  rcases hT with rfl | rfl | rfl | rfl | rfl | rfl
  · exact ⟨x.a0, x.b0⟩
  · exact ⟨x.a1, x.b1⟩
  · exact ⟨x.a2, x.b2⟩
  · exact ⟨x.a3, x.b3⟩
  · exact ⟨x.a4, x.b4⟩
  · exact ⟨x.a5, x.b5⟩
def pick (a b c : Addr) : Nat → Addr
  | 0 => a
  | 1 => b
  | _ => c
theorem three {P : Nat → Prop} {k : Nat} (hk : k < 3) (h0 : P 0) (h1 : P 1) (h2 : P 2) : P k := by
  have : k = 0 ∨ k = 1 ∨ k = 2 := by omega
  rcases this with rfl | rfl | rfl <;> assumption

theorem all_mk {K : PySem.W.Frag} {w : World} {mg : Str → Option Value} {h : Heap} {oc kV doc pm cdv ct : Value} {od an0 : Option Addr} {osl : Array (Option Value)} {fa fl C0 C1 C2 CL CS CSc CB B NN CBd CNv i0 q0 i1 q1 i2 q2 e0 e1 e2 iL gOd gFl gMo gWo gCo gIx iS iC gBh fB CW MW WR ST g0 g1 g2 g3 p0 p1 p2 p3 w0 w1 w2 w3 w4 w5 w6 w7 fBd fNv fAn fCl gHo gWo2 : Addr} {cdc0 : ClassData} {cdc1 : ClassData} {cdc2 : ClassData} {t1 : Tok} {tn0 : Tok} {tn1 : Tok} {tn2 : Tok} {tn3 : Tok} {tn4 : Tok} {tn5 : Tok} {tn6 : Tok} {tn7 : Tok} {tn8 : Tok} {tn9 : Tok} {tn10 : Tok} {tn11 : Tok} {esCW : Array DictEntry} {nCW : Nat} {esMW : Array DictEntry} {nMW : Nat} {esWR : Array DictEntry} {nWR : Nat} {esST : Array DictEntry} {nST : Nat} {tST : Tok} {tRS : Tok}
    (X : K.In h) (G : h.Ns mainGlobals mg)
    (m_C0 : PySem.W.nsIn K mainGlobals "Cond" = some (some (.ref C0)))
    (m_C1 : PySem.W.nsIn K mainGlobals "Method" = some (some (.ref C1)))
    (m_C2 : PySem.W.nsIn K mainGlobals "ClassDef" = some (some (.ref C2)))
    (m_CL : PySem.W.nsIn K mainGlobals "Library" = some (some (.ref CL)))
    (m_CS : PySem.W.nsIn K mainGlobals "Seen" = some (some (.ref CS)))
    (m_CSc : PySem.W.nsIn K mainGlobals "Scope" = some (some (.ref CSc)))
    (m_CB : PySem.W.nsIn K mainGlobals "BadLibrary" = some (some (.ref CB)))
    (m_B : PySem.W.nsIn K mainGlobals "ContractError" = some (some (.ref B)))
    (m_NN : PySem.W.nsIn K mainGlobals "NO_NAMES" = some (some (.ref NN)))
    (m_CBd : PySem.W.nsIn K mainGlobals "BadCond" = some (some (.ref CBd)))
    (m_CNv : PySem.W.nsIn K mainGlobals "NoValue" = some (some (.ref CNv)))
    (F0 : CF K C0 i0 q0 cdc0)
    (n0_clauses : PySem.W.findIn K (.ref C0) "clauses" = some none)
    (F1 : CF K C1 i1 q1 cdc1)
    (n1_name : PySem.W.findIn K (.ref C1) "name" = some none)
    (n1_params : PySem.W.findIn K (.ref C1) "params" = some none)
    (n1_result : PySem.W.findIn K (.ref C1) "result" = some none)
    (n1_pre : PySem.W.findIn K (.ref C1) "pre" = some none)
    (n1_post : PySem.W.findIn K (.ref C1) "post" = some none)
    (n1_body : PySem.W.findIn K (.ref C1) "body" = some none)
    (F2 : CF K C2 i2 q2 cdc2)
    (n2_name : PySem.W.findIn K (.ref C2) "name" = some none)
    (n2_bases : PySem.W.findIn K (.ref C2) "bases" = some none)
    (n2_fields : PySem.W.findIn K (.ref C2) "fields" = some none)
    (n2_where : PySem.W.findIn K (.ref C2) "where" = some none)
    (n2_methods : PySem.W.findIn K (.ref C2) "methods" = some none)
    (nt : PySem.W.findIn K (.ref C0) "terms" = some none)
    (s01 : PySem.W.subIn K (.ref C1) (.ref C0) = some false)
    (s02 : PySem.W.subIn K (.ref C2) (.ref C0) = some false)
    (s10 : PySem.W.subIn K (.ref C0) (.ref C1) = some false)
    (s12 : PySem.W.subIn K (.ref C2) (.ref C1) = some false)
    (s20 : PySem.W.subIn K (.ref C0) (.ref C2) = some false)
    (s21 : PySem.W.subIn K (.ref C1) (.ref C2) = some false)
    (y2 : PySem.W.specialIn K (.builtin "object.__class__") "__get__" = some (some (.builtin "getset_descriptor.__get__")))
    (y3 : PySem.W.takesIn K (.builtin "object.__class__") = some true)
    (mLet : PySem.W.nsIn K mainGlobals "LETTERS" = some (some (.str lets t1)))
    (m_LONGEST_WORD : PySem.W.nsIn K mainGlobals "LONGEST_WORD" = some (some (.int 8 tn0)))
    (m_MOST_LITERALS : PySem.W.nsIn K mainGlobals "MOST_LITERALS" = some (some (.int 2 tn1)))
    (m_MOST_CLAUSES : PySem.W.nsIn K mainGlobals "MOST_CLAUSES" = some (some (.int 4 tn2)))
    (m_MOST_STATEMENTS : PySem.W.nsIn K mainGlobals "MOST_STATEMENTS" = some (some (.int 40 tn3)))
    (m_MOST_IFS : PySem.W.nsIn K mainGlobals "MOST_IFS" = some (some (.int 4 tn4)))
    (m_MOST_TRIES : PySem.W.nsIn K mainGlobals "MOST_TRIES" = some (some (.int 2 tn5)))
    (m_MOST_CALLS : PySem.W.nsIn K mainGlobals "MOST_CALLS" = some (some (.int 4 tn6)))
    (m_MOST_CLASSES : PySem.W.nsIn K mainGlobals "MOST_CLASSES" = some (some (.int 30 tn7)))
    (m_MOST_BASES : PySem.W.nsIn K mainGlobals "MOST_BASES" = some (some (.int 3 tn8)))
    (m_MOST_FIELDS : PySem.W.nsIn K mainGlobals "MOST_FIELDS" = some (some (.int 3 tn9)))
    (m_MOST_METHODS : PySem.W.nsIn K mainGlobals "MOST_METHODS" = some (some (.int 3 tn10)))
    (m_MOST_PARAMS : PySem.W.nsIn K mainGlobals "MOST_PARAMS" = some (some (.int 3 tn11)))
    (z_isinstance : PySem.W.nsIn K mainGlobals "isinstance" = some none)
    (z_int : PySem.W.nsIn K mainGlobals "int" = some none)
    (z_bool : PySem.W.nsIn K mainGlobals "bool" = some none)
    (z_str : PySem.W.nsIn K mainGlobals "str" = some none)
    (z_tuple : PySem.W.nsIn K mainGlobals "tuple" = some none)
    (z_len : PySem.W.nsIn K mainGlobals "len" = some none)
    (z_all : PySem.W.nsIn K mainGlobals "all" = some none)
    (z_sorted : PySem.W.nsIn K mainGlobals "sorted" = some none)
    (z_enumerate : PySem.W.nsIn K mainGlobals "enumerate" = some none)
    (z_any : PySem.W.nsIn K mainGlobals "any" = some none)
    (z_list : PySem.W.nsIn K mainGlobals "list" = some none)
    (z_set : PySem.W.nsIn K mainGlobals "set" = some none)
    (z_range : PySem.W.nsIn K mainGlobals "range" = some none)
    (z_dict : PySem.W.nsIn K mainGlobals "dict" = some none)
    (z_max : PySem.W.nsIn K mainGlobals "max" = some none)
    (z_min : PySem.W.nsIn K mainGlobals "min" = some none)
    (z_sum : PySem.W.nsIn K mainGlobals "sum" = some none)
    (fi0 : ∃ fd, Fun K "__init__" "Cond.__init__" sInit i0 fd)
    (fi1 : ∃ fd, FunM K i1 fd)
    (fi2 : ∃ fd, FunC K e0 e1 e2 i2 fd)
    (v0 : ∀ H, SqT K H e0 [])
    (v1 : ∀ H, SqT K H e1 [])
    (v2 : ∀ H, SqT K H e2 [])
    (vNN : ∀ H, SqT K H NN (noNames.map V.str))
    (c1CL : PySem.W.plainGet K CL Str.empty = true)
    (c2CL : PySem.W.hasDictIn K CL = true)
    (c3CL : PySem.W.plainOver K CL = true)
    (c4CL : PySem.W.findIn K (.ref CL) "__setattr__" = some (some (.builtin "object.__setattr__")))
    (nCL_classes : PySem.W.findIn K (.ref CL) "classes" = some none)
    (nCL_names : PySem.W.findIn K (.ref CL) "names" = some none)
    (nCL__table : PySem.W.findIn K (.ref CL) "_table" = some none)
    (nCL__orders : PySem.W.findIn K (.ref CL) "_orders" = some none)
    (k1CL : PySem.W.makesIn K CL = true)
    (k2CL : PySem.W.findIn K (.ref CL) "__init__" = some (some (.ref iL)))
    (k3CL : PySem.W.isFn K (.ref iL) = true)
    (k4CL : PySem.W.keepIn K (.ref CL) = true)
    (fiL : ∃ fd, Fun K "__init__" "Library.__init__" sLi iL fd)
    (agOd : PySem.W.findIn K (.ref CL) "order_of" = some (some (.ref gOd)))
    (igOd : PySem.W.isFn K (.ref gOd) = true)
    (kgOd : PySem.W.keepIn K (.ref gOd) = true)
    (fgOd : ∃ fd, Fun K "order_of" "Library.order_of" sOd gOd fd ∧ Binds K fd ["self", "name"] [])
    (agFl : PySem.W.findIn K (.ref CL) "fields_of" = some (some (.ref gFl)))
    (igFl : PySem.W.isFn K (.ref gFl) = true)
    (kgFl : PySem.W.keepIn K (.ref gFl) = true)
    (fgFl : ∃ fd, Fun K "fields_of" "Library.fields_of" sFl gFl fd ∧ Binds K fd ["self", "name"] [])
    (agMo : PySem.W.findIn K (.ref CL) "methods_of" = some (some (.ref gMo)))
    (igMo : PySem.W.isFn K (.ref gMo) = true)
    (kgMo : PySem.W.keepIn K (.ref gMo) = true)
    (fgMo : ∃ fd, Fun K "methods_of" "Library.methods_of" sMo gMo fd ∧ Binds K fd ["self", "name"] [])
    (agWo : PySem.W.findIn K (.ref CL) "writer_of" = some (some (.ref gWo)))
    (igWo : PySem.W.isFn K (.ref gWo) = true)
    (kgWo : PySem.W.keepIn K (.ref gWo) = true)
    (fgWo : ∃ fd, Fun K "writer_of" "Library.writer_of" sWo gWo fd ∧ Binds K fd ["self", "name", "method"] [])
    (aCo : PySem.W.findIn K (.ref CL) "__contains__" = some (some (.ref gCo)))
    (iCo : PySem.W.isFn K (.ref gCo) = true)
    (fCo : ∃ fd, Fun K "__contains__" "Library.__contains__" sCo gCo fd ∧ Binds K fd ["self", "name"] [])
    (aIx : PySem.W.findIn K (.ref CL) "__getitem__" = some (some (.ref gIx)))
    (iIx : PySem.W.isFn K (.ref gIx) = true)
    (nIx : PySem.W.fnIn K gIx = true)
    (fIx : ∃ fd, Fun K "__getitem__" "Library.__getitem__" sLix gIx fd ∧ Binds K fd ["self", "name"] [])
    (c1CS : PySem.W.plainGet K CS Str.empty = true)
    (c2CS : PySem.W.hasDictIn K CS = true)
    (c3CS : PySem.W.plainOver K CS = true)
    (c4CS : PySem.W.findIn K (.ref CS) "__setattr__" = some (some (.builtin "object.__setattr__")))
    (nCS_known : PySem.W.findIn K (.ref CS) "known" = some none)
    (nCS_view : PySem.W.findIn K (.ref CS) "view" = some none)
    (nCS_fresh : PySem.W.findIn K (.ref CS) "fresh" = some none)
    (k1CS : PySem.W.makesIn K CS = true)
    (k2CS : PySem.W.findIn K (.ref CS) "__init__" = some (some (.ref iS)))
    (k3CS : PySem.W.isFn K (.ref iS) = true)
    (k4CS : PySem.W.keepIn K (.ref CS) = true)
    (fiS : ∃ fd, Fun K "__init__" "Seen.__init__" sSIn iS fd ∧ Binds K fd ["self", "known", "view", "fresh"] [])
    (c1CSc : PySem.W.plainGet K CSc Str.empty = true)
    (c2CSc : PySem.W.hasDictIn K CSc = true)
    (c3CSc : PySem.W.plainOver K CSc = true)
    (c4CSc : PySem.W.findIn K (.ref CSc) "__setattr__" = some (some (.builtin "object.__setattr__")))
    (nCSc_library : PySem.W.findIn K (.ref CSc) "library" = some none)
    (nCSc_owner : PySem.W.findIn K (.ref CSc) "owner" = some none)
    (nCSc_method : PySem.W.findIn K (.ref CSc) "method" = some none)
    (nCSc_variables : PySem.W.findIn K (.ref CSc) "variables" = some none)
    (k1CSc : PySem.W.makesIn K CSc = true)
    (k2CSc : PySem.W.findIn K (.ref CSc) "__init__" = some (some (.ref iC)))
    (k3CSc : PySem.W.isFn K (.ref iC) = true)
    (k4CSc : PySem.W.keepIn K (.ref CSc) = true)
    (fiC : ∃ fd, Fun K "__init__" "Scope.__init__" sScI iC fd ∧ Binds K fd ["self", "library", "owner", "method", "variables"] [])
    (agBh : PySem.W.findIn K (.ref CSc) "behind" = some (some (.ref gBh)))
    (igBh : PySem.W.isFn K (.ref gBh) = true)
    (kgBh : PySem.W.keepIn K (.ref gBh) = true)
    (fgBh : ∃ fd, Fun K "behind" "Scope.behind" sBh gBh fd ∧ Binds K fd ["self", "statement"] [])
    (ctB : Ct K B CB)
    (nB_at : PySem.W.findIn K (.ref CB) "at" = some none)
    (nB_why : PySem.W.findIn K (.ref CB) "why" = some none)
    (iB : PySem.W.findIn K (.ref CB) "__init__" = some (some (.ref fB)))
    (tB : PySem.W.typeIn K (.ref fB) = some (.type "function"))
    (fiB : ∃ fd, Fun K "__init__" "BadLibrary.__init__" sBLi fB fd ∧ Binds K fd ["self", "at", "why"] [])
    (m_CW : PySem.W.nsIn K mainGlobals "CLASS_WORDS" = some (some (.ref CW)))
    (lCW : K.lookup CW = some ⟨.type "dict", none, .dict esCW nCW, #[]⟩)
    (klCW : PySem.W.KeysLit w.params esCW.toList)
    (wCW : esCW.toList.map keyS = (["fields", "double", "where", "methods"] : List Str).map some)
    (loCW : (CW == sysModules) = false)
    (m_MW : PySem.W.nsIn K mainGlobals "METHOD_WORDS" = some (some (.ref MW)))
    (lMW : K.lookup MW = some ⟨.type "dict", none, .dict esMW nMW, #[]⟩)
    (klMW : PySem.W.KeysLit w.params esMW.toList)
    (wMW : esMW.toList.map keyS = (["params", "result", "pre", "post"] : List Str).map some)
    (loMW : (MW == sysModules) = false)
    (m_WR : PySem.W.nsIn K mainGlobals "WRONG" = some (some (.ref WR)))
    (lWR : K.lookup WR = some ⟨.type "dict", none, .dict esWR nWR, #[]⟩)
    (klWR : PySem.W.KeysLit w.params esWR.toList)
    (wWR : esWR.toList.map keyS = (["term", "object", "class", "method", "next", "arguments", "own", "value"] : List Str).map some)
    (loWR : (WR == sysModules) = false)
    (m_ST : PySem.W.nsIn K mainGlobals "STATEMENTS" = some (some (.ref ST)))
    (lST : K.lookup ST = some ⟨.type "dict", none, .dict esST nST, #[]⟩)
    (klST : PySem.W.KeysLit w.params esST.toList)
    (wST : esST.toList.map keyS = (["return", "let", "if", "try", "halt"] : List Str).map some)
    (loST : (ST == sysModules) = false)
    (vCW_fields : PySem.W.nsIn K CW "fields" = some (some (.ref g0)))
    (vCW_double : PySem.W.nsIn K CW "double" = some (some (.ref g1)))
    (vCW_where : PySem.W.nsIn K CW "where" = some (some (.ref g2)))
    (vCW_methods : PySem.W.nsIn K CW "methods" = some (some (.ref g3)))
    (vMW_params : PySem.W.nsIn K MW "params" = some (some (.ref p0)))
    (vMW_result : PySem.W.nsIn K MW "result" = some (some (.ref p1)))
    (vMW_pre : PySem.W.nsIn K MW "pre" = some (some (.ref p2)))
    (vMW_post : PySem.W.nsIn K MW "post" = some (some (.ref p3)))
    (vWR_term : PySem.W.nsIn K WR "term" = some (some (.ref w0)))
    (vWR_object : PySem.W.nsIn K WR "object" = some (some (.ref w1)))
    (vWR_class : PySem.W.nsIn K WR "class" = some (some (.ref w2)))
    (vWR_method : PySem.W.nsIn K WR "method" = some (some (.ref w3)))
    (vWR_next : PySem.W.nsIn K WR "next" = some (some (.ref w4)))
    (vWR_arguments : PySem.W.nsIn K WR "arguments" = some (some (.ref w5)))
    (vWR_own : PySem.W.nsIn K WR "own" = some (some (.ref w6)))
    (vWR_value : PySem.W.nsIn K WR "value" = some (some (.ref w7)))
    (vST_halt : PySem.W.nsIn K ST "halt" = some (some (.int 1 tST)))
    (ng0 : (g0 == g1) = false)
    (ng2 : (g2 == g1) = false)
    (ng3 : (g3 == g1) = false)
    (dg0 : ∃ fd, Fs K mg "_has_wrong_fields" sHWF ["library", "name"] g0 fd)
    (dg1 : ∃ fd, Fs K mg "_has_double" sHDb ["library", "name"] g1 fd)
    (dg2 : ∃ fd, Fs K mg "_has_wrong_where" sHWW ["library", "name"] g2 fd)
    (dg3 : ∃ fd, Fs K mg "_has_wrong_methods" sHWM ["library", "name"] g3 fd)
    (dp0 : ∃ fd, Fs K mg "_has_wrong_params" sHWP ["library", "name", "method"] p0 fd)
    (dp1 : ∃ fd, Fs K mg "_has_wrong_result" sHWR ["library", "name", "method"] p1 fd)
    (dp2 : ∃ fd, Fs K mg "_has_wrong_pre" sHWPr ["library", "name", "method"] p2 fd)
    (dp3 : ∃ fd, Fs K mg "_has_wrong_post" sHWPo ["library", "name", "method"] p3 fd)
    (dw0 : ∃ fd, Fs K mg "_wrong_term" sW0 ["scope", "act"] w0 fd)
    (dw1 : ∃ fd, Fs K mg "_wrong_object" sW1 ["scope", "act"] w1 fd)
    (dw2 : ∃ fd, Fs K mg "_wrong_class" sW2 ["scope", "act"] w2 fd)
    (dw3 : ∃ fd, Fs K mg "_wrong_method" sW3 ["scope", "act"] w3 fd)
    (dw4 : ∃ fd, Fs K mg "_wrong_next" sW4 ["scope", "act"] w4 fd)
    (dw5 : ∃ fd, Fs K mg "_wrong_arguments" sW5 ["scope", "act"] w5 fd)
    (dw6 : ∃ fd, Fs K mg "_wrong_own" sW6 ["scope", "act"] w6 fd)
    (dw7 : ∃ fd, Fs K mg "_wrong_value" sW7 ["scope", "act"] w7 fd)
    (ctCBd : Ct K B CBd)
    (nCBd_clause : PySem.W.findIn K (.ref CBd) "clause" = some none)
    (iCBd : PySem.W.findIn K (.ref CBd) "__init__" = some (some (.ref fBd)))
    (tCBd : PySem.W.typeIn K (.ref fBd) = some (.type "function"))
    (fiCBd : ∃ fd, Fun K "__init__" "BadCond.__init__" sBCi fBd fd ∧ Binds K fd ["self", "clause"] [])
    (ctCNv : Ct K B CNv)
    (nCNv_term : PySem.W.findIn K (.ref CNv) "term" = some none)
    (iCNv : PySem.W.findIn K (.ref CNv) "__init__" = some (some (.ref fNv)))
    (tCNv : PySem.W.typeIn K (.ref fNv) = some (.type "function"))
    (fiCNv : ∃ fd, Fun K "__init__" "NoValue.__init__" sNVi fNv fd ∧ Binds K fd ["self", "term"] [])
    (an1 : PySem.W.selfFirst K C0 = true)
    (an2 : PySem.W.findIn K (.ref C0) (PySem.dunder (Operator.info .BitAnd).2) = some (some (.ref fAn)))
    (an3 : PySem.W.isFn K (.ref fAn) = true)
    (fAnd : ∃ fd, Fun K "__and__" "Cond.__and__" sAnd fAn fd ∧ Binds K fd ["self", "other"] [])
    (cq1 : PySem.W.findIn K (.ref C0) "__call__" = some (some (.ref fCl)))
    (cq2 : PySem.W.isFn K (.ref fCl) = true)
    (cq3 : PySem.W.fnIn K fCl = true)
    (fCal : ∃ fd, Fun K "__call__" "Cond.__call__" sCall fCl fd ∧ Binds K fd ["self", "values"] [])
    (gg3 : PySem.W.isClsIn K B = true)
    (gg4 : PySem.W.typeIn K (.ref B) = some (.type "type"))
    (gg5 : PySem.W.subIn K (.ref B) (.type "BaseException") = some true)
    (gg6 : PySem.W.hasDictIn K B = true)
    (dHo : ∃ fd, Fs K mg "_holds" sHolds ["clause", "values"] gHo fd)
    (dWo : ∃ fd, Fs K mg "_worth" sWorth ["term", "values"] gWo2 fd)
    (mRES : PySem.W.nsIn K mainGlobals "RESULT" = some (some (.str "result" tRS)))
    (d_int : ∃ f fd, Fs K mg "is_integer" sIsInt ["thing"] f fd)
    (d_word : ∃ f fd, Fs K mg "is_word" sIsWord ["thing"] f fd)
    (d_term : ∃ f fd, Fs K mg "is_term" sIsTerm ["thing"] f fd)
    (d_lit : ∃ f fd, Fs K mg "is_literal" sIsLit ["thing"] f fd)
    (d_litT : ∃ f fd, Fs K mg "is_literal_over_terms" sLitT ["thing"] f fd)
    (d_cl : ∃ f fd, Fs K mg "is_clause" sIsCl ["thing", "most"] f fd)
    (d_stand : ∃ f fd, Fs K mg "_can_stand" sStand ["thing"] f fd)
    (d_isN : ∃ f fd, Fs K mg "is_name" sIsN ["thing"] f fd)
    (d_areN : ∃ f fd, Fs K mg "are_names" sAreN ["things", "most"] f fd)
    (d_wri : ∃ f fd, Fs K mg "written" sWri ["classdef", "name"] f fd)
    (d_fw : ∃ f fd, Fs K mg "_first_word" sFW ["thing"] f fd)
    (d_ll : ∃ f fd, Fs K mg "_looks_like" sLL ["thing"] f fd)
    (d_po : ∃ f fd, Fs K mg "parts_of" sPO ["statement"] f fd)
    (d_hf : ∃ f fd, Fs K mg "has_form" sHFm ["statement"] f fd)
    (d_ao : ∃ f fd, Fs K mg "act_of" sAO ["statement"] f fd)
    (d_hd : ∃ f fd, Fs K mg "handed" sHd ["act"] f fd)
    (d_ti : ∃ f fd, Fs K mg "terms_in" sTI ["act"] f fd)
    (d_oi : ∃ f fd, Fs K mg "objects_in" sOI ["act"] f fd)
    (d_sts : ∃ f fd, Fs K mg "_statements" sSts ["body"] f fd)
    (d_trs : ∃ f fd, Fs K mg "_tries" sTrs ["statement"] f fd)
    (d_cls : ∃ f fd, Fs K mg "_calls" sCls_ ["statement"] f fd)
    (d_tl : ∃ f fd, Fs K mg "is_too_large" sTL ["body"] f fd)
    (d_sa : ∃ f fd, Fs K mg "seen_as" sSA ["kind"] f fd)
    (d_ms : ∃ f fd, Fs K mg "method_scope" sMS ["library", "owner", "method"] f fd)
    (d_whe : ∃ f fd, Fs K mg "_wrong_here" sWHe ["scope", "statement"] f fd)
    (d_wmb : ∃ f fd, Fs K mg "wrong_method_body" sWMB ["library", "owner", "method"] f fd)
    (d_abv : ∃ f fd, Fs K mg "is_above_itself" sAbv ["bases", "name"] f fd)
    (d_allo : ∃ f fd, Fs K mg "all_orders" sAllO ["bases"] f fd)
    (d_put : ∃ f fd, Fs K mg "_put_order" sPut ["bases", "name", "orders"] f fd)
    (d_mer : ∃ f fd, Fs K mg "_merged" sMg ["rows"] f fd)
    (d_nx : ∃ f fd, Fs K mg "_next_of" sNx ["rows"] f fd)
    (d_to : ∃ f fd, Fs K mg "terms_of" sTO ["library", "name", "kind"] f fd)
    (d_fnc : ∃ f fd, Fs K mg "first_no_class" sFNC ["classes"] f fd)
    (d_wb : ∃ f fd, Fs K mg "wrong_bases" sWBs ["library"] f fd)
    (d_ac : ∃ f fd, Fs K mg "_are_classes" sAC ["library", "bases"] f fd)
    (d_wc : ∃ f fd, Fs K mg "wrong_class" sWC ["library"] f fd)
    (d_ov : ∃ f fd, Fs K mg "_is_over" sOv ["cond", "terms"] f fd)
    (d_en : ∃ f fd, Fs K mg "_entry_terms" sEnt ["library", "name", "method"] f fd)
    (d_ik : ∃ f fd, Fs K mg "_is_kind" sIK ["library", "thing"] f fd)
    (d_wm : ∃ f fd, Fs K mg "wrong_method" sWM ["library"] f fd)
    (d_wh : ∃ f fd, Fs K mg "wrong_heritage" sWH_ ["library"] f fd)
    (d_wa : ∃ f fd, Fs K mg "_is_written_alike" sWA ["library", "name", "method"] f fd)
    (d_rf : ∃ f fd, Fs K mg "_refuse" sRf ["found"] f fd)
    (d_wo : ∃ f fd, Fs K mg "_without_order" sWor ["library"] f fd)
    (d_well : ∃ f fd, Fs K mg "_law_well" sWell ["_law_cell"] f fd)
    (d_draw : ∃ f fd, Fs K mg "_law_draw" sDraw ["_law_well_here", "_law_base"] f fd)
    (d_one : ∃ f fd, Fs K mg "_law_one" sOne ["_law_well_here", "_law_some"] f fd)
    (d_bro : ∃ f fd, Fs K mg "first_broken" sBroken ["clauses", "values"] f fd)
    (d_wmt : ∃ f fd, Fs K mg "written_method" sWMt ["library", "name", "method"] f fd)
    (d_amt : ∃ f fd, Fs K mg "_asked_method" sAMt ["library", "name", "method"] f fd)
    (d_tms : ∃ f fd, Fs K mg "_terms" sTms ["clauses"] f fd)
    (d_pck : ∃ f fd, Fs K mg "_picks" sPck ["clauses"] f fd)
    (d_rng : ∃ f fd, Fs K mg "_range" sRng ["pick", "values"] f fd)
    (d_lfz : ∃ f fd, Fs K mg "_least_from_zero" sLfz ["ranges"] f fd)
    (d_ans : ∃ f fd, Fs K mg "answer" sAns ["library", "name", "method", "values"] f fd)
    (d_jo : ∃ f fd, Fs K mg "_law_joined" sCond2 ["_law_clauses"] f fd)
    (d_we : ∃ f fd, Fs K mg "_law_wells" sWls ["_law_script", "_law_most"] f fd)
    (d_lpo : ∃ f fd, Fs K mg "_law_post" sPost ["_law_well_here"] f fd)
    (d_llb : ∃ f fd, Fs K mg "_law_library" sLib ["_law_gain"] f fd)
    (d_due : ∃ f fd, Fs K mg "_law_due" sDueG ["_law_gain", "_law_values"] f fd)
    (d_first : ∃ f fd, Fa K mg "first_wrong_conditions" "_first_wrong" sFirst ["clauses"] f fd)
    (d_fwb : ∃ f fd, Fa K mg "first_wrong_bodies" "_first_wrong" sFWb ["scope", "statement", "place"] f fd)
    (d_wbb : ∃ f fd, Fa K mg "wrong_body_bodies" "_wrong_body" sWBb ["scope", "body"] f fd)
    (d_wbl : ∃ f fd, Fa K mg "wrong_body_libraries" "_wrong_body" sWBl ["library"] f fd)
    (hfa : mg "law" = some (.ref fa)) (mL : PySem.W.nsIn K mainGlobals "law" = some (some (.ref fl))) (lL : K.lookup fl = some ⟨oc, od, .func (PySem.W.fnOf "law" "law" (defArgs sLaw) (defBody sLaw) (defScope sLaw) .none kV doc pm an0 cdv ct), osl⟩) (cL : PySem.W.codeIn K cdv "law" = true) : Law K w mg fa := by
  have e := hfa.symm.trans (PySem.W.mg_of X G mL)
  cases e
  have hy : ∀ {C fi fe : Addr} {cd : ClassData}, CF K C fi fe cd → ∀ (H : Hp) (a dx : Addr) (fs : List (Str × V)), H a = some (.ins C dx fs) → TyX K H (.ref a) (.ref C) := fun {C fi fe cd} x H a dx fs e => .base (.ins e x.cls x.y1 y2 y3 x.mo)
  let CC : Nat → Addr := pick C0 C1 C2
  let QQ : Nat → Addr := pick q0 q1 q2
  have subs : ∀ k, k < 3 → ∀ l, l < 3 → k ≠ l → PySem.W.subIn K (.ref (CC l)) (.ref (CC k)) = some false := by
    intro k hk l hl
    refine three (P := fun k => k ≠ l → PySem.W.subIn K (.ref (CC l)) (.ref (CC k)) = some false) hk ?_ ?_ ?_
    · exact three (P := fun l => 0 ≠ l → PySem.W.subIn K (.ref (CC l)) (.ref (CC 0)) = some false) hl (fun e => absurd rfl e) (fun _ => s01) (fun _ => s02)
    · exact three (P := fun l => 1 ≠ l → PySem.W.subIn K (.ref (CC l)) (.ref (CC 1)) = some false) hl (fun _ => s10) (fun e => absurd rfl e) (fun _ => s12)
    · exact three (P := fun l => 2 ≠ l → PySem.W.subIn K (.ref (CC l)) (.ref (CC 2)) = some false) hl (fun _ => s20) (fun _ => s21) (fun e => absurd rfl e)
  have selfs : ∀ k, k < 3 → PySem.W.subIn K (.ref (CC k)) (.ref (CC k)) = some true := fun k hk => three (P := fun k => PySem.W.subIn K (.ref (CC k)) (.ref (CC k)) = some true) hk F0.se F1.se F2.se
  have inj : ∀ k, k < 3 → ∀ l, l < 3 → CC k = CC l → k = l := by
    intro k hk l hl e
    by_cases ne : k = l
    · exact ne
    · have h1 := subs k hk l hl ne
      have h2 := selfs k hk
      rw [show CC l = CC k from e.symm, h2] at h1
      cases h1
  have W : OwnCls K (clk CC QQ) (S2 (clk CC QQ)) := by
    refine ⟨fun k ⟨ds, h⟩ => ?_, fun k ⟨ds, h⟩ => ?_, fun k l ⟨ds, h⟩ ⟨es, g⟩ e => inj k (s2_lt h) l (s2_lt g) e, fun k l ⟨ds, h⟩ ⟨es, g⟩ ne => subs k (s2_lt h) l (s2_lt g) ne, fun k ⟨ds, h⟩ => ?_⟩
    · exact three (P := fun k => PySem.W.findIn K (.ref (CC k)) "__eq__" = some (some (.ref (QQ k)))) (s2_lt h) F0.e1 F1.e1 F2.e1
    · exact three (P := fun k => PySem.W.isFn K (.ref (QQ k)) = true) (s2_lt h) F0.e2 F1.e2 F2.e2
    · exact three (P := fun k => ∀ T, T ∈ ["NoneType", "bool", "int", "str", "tuple", "list"] → PySem.W.subIn K (.type T) (.ref (CC k)) = some false ∧ PySem.W.subIn K (.ref (CC k)) (.type T) = some false) (s2_lt h) F0.sT F1.sT F2.sT
  have KT : Kits K (clk CC QQ) 3 := by
    refine ⟨fun k hk => ?_, fun k hk => ?_, fun k hk => ?_⟩
    · exact three (P := fun k => ∃ cd, PySem.W.clsIn K (CC k) = some cd) hk ⟨_, F0.kc⟩ ⟨_, F1.kc⟩ ⟨_, F2.kc⟩
    · exact three (P := fun k => PySem.W.typeIn K (.ref (CC k)) = some (.type "type")) hk F0.kt F1.kt F2.kt
    · exact three (P := fun k => ∀ (H : Hp) (a dx : Addr) (fs : List (Str × V)), H a = some (.ins (CC k) dx fs) → TyX K H (.ref a) (.ref (CC k))) hk (hy F0) (hy F1) (hy F2)
  have T : Txt K mg CC QQ := by
    refine ⟨W, KT, fun k hk => ?_, fun k hk => ?_, PySem.W.mg_none_of X G z_isinstance⟩
    · exact three (P := fun k => Cls K (CC k)) hk F0.cls F1.cls F2.cls
    · refine three (P := fun k => ∀ x ∈ nm k, NoAttr K (CC k) x) hk ?_ ?_ ?_
      · intro x hx
        have hx : x ∈ (["clauses", "terms"] : List Str) := hx
        simp only [List.mem_cons, List.not_mem_nil, or_false] at hx
        rcases hx with rfl | rfl
        · exact n0_clauses
        · exact nt
      · intro x hx
        have hx : x ∈ (["name", "params", "result", "pre", "post", "body"] : List Str) := hx
        simp only [List.mem_cons, List.not_mem_nil, or_false] at hx
        rcases hx with rfl | rfl | rfl | rfl | rfl | rfl
        · exact n1_name
        · exact n1_params
        · exact n1_result
        · exact n1_pre
        · exact n1_post
        · exact n1_body
      · intro x hx
        have hx : x ∈ (["name", "bases", "fields", "where", "methods"] : List Str) := hx
        simp only [List.mem_cons, List.not_mem_nil, or_false] at hx
        rcases hx with rfl | rfl | rfl | rfl | rfl
        · exact n2_name
        · exact n2_bases
        · exact n2_fields
        · exact n2_where
        · exact n2_methods
  obtain ⟨fdI, fi0⟩ := fi0
  obtain ⟨fdM, fi1⟩ := fi1
  obtain ⟨fdC, fi2⟩ := fi2
  have TB : Bx mg := ⟨PySem.W.mg_none_of X G z_isinstance, PySem.W.mg_none_of X G z_int, PySem.W.mg_none_of X G z_bool, PySem.W.mg_none_of X G z_str, PySem.W.mg_none_of X G z_tuple, PySem.W.mg_none_of X G z_len, PySem.W.mg_none_of X G z_all, PySem.W.mg_none_of X G z_sorted, PySem.W.mg_none_of X G z_enumerate, ⟨_, PySem.W.mg_of X G mLet⟩, ⟨_, PySem.W.mg_of X G m_LONGEST_WORD⟩⟩
  have FM : Forms K mg := ⟨TB, ⟨_, PySem.W.mg_of X G m_MOST_LITERALS⟩, ⟨_, PySem.W.mg_of X G m_MOST_CLAUSES⟩, d_int, d_word, d_term, d_lit, d_cl, d_stand, d_litT⟩
  have CM : CondMk K mg C0 i0 fdI := ⟨⟨F0.cls, n0_clauses, nt, PySem.W.mg_of X G m_C0, d_first, FM⟩, fi0, ⟨F0.m1, F0.m2, F0.m3, F0.m4⟩⟩
  have NC : NeC CC := ⟨fun e => (by decide : ¬ (0 : Nat) = 1) (inj 0 (by decide) 1 (by decide) e), fun e => (by decide : ¬ (0 : Nat) = 2) (inj 0 (by decide) 2 (by decide) e), fun e => (by decide : ¬ (1 : Nat) = 2) (inj 1 (by decide) 2 (by decide) e)⟩
  have D : Drw K mg := ⟨⟨PySem.W.mg_none_of X G z_int, PySem.W.mg_none_of X G z_len⟩, d_well, d_draw, d_one⟩
  obtain ⟨fdL, fiL⟩ := fiL
  obtain ⟨fd_fiS, fiS, b_fiS⟩ := fiS
  obtain ⟨fd_fiC, fiC, b_fiC⟩ := fiC
  obtain ⟨fd_fiB, fiB, b_fiB⟩ := fiB
  obtain ⟨fd_fgOd, fgOd, b_fgOd⟩ := fgOd
  obtain ⟨fd_fgFl, fgFl, b_fgFl⟩ := fgFl
  obtain ⟨fd_fgMo, fgMo, b_fgMo⟩ := fgMo
  obtain ⟨fd_fgWo, fgWo, b_fgWo⟩ := fgWo
  obtain ⟨fd_fCo, fCo, b_fCo⟩ := fCo
  obtain ⟨fd_fIx, fIx, b_fIx⟩ := fIx
  obtain ⟨fd_fgBh, fgBh, b_fgBh⟩ := fgBh
  have LM : Lm K mg CC QQ CL := ⟨⟨c1CL, c2CL, c3CL, c4CL⟩, (fun x hx => by
    have hx : x ∈ (["classes", "names", "_table", "_orders"] : List Str) := hx
    simp only [List.mem_cons, List.not_mem_nil, or_false] at hx
    rcases hx with rfl | rfl | rfl | rfl
    · exact nCL_classes
    · exact nCL_names
    · exact nCL__table
    · exact nCL__orders), ⟨_, _, ⟨aCo, iCo⟩, fCo, b_fCo⟩, ⟨_, _, ⟨aIx, iIx, nIx⟩, fIx, b_fIx⟩, ⟨_, _, ⟨agOd, igOd, kgOd⟩, fgOd, b_fgOd⟩, ⟨_, _, ⟨agFl, igFl, kgFl⟩, fgFl, b_fgFl⟩, ⟨_, _, ⟨agMo, igMo, kgMo⟩, fgMo, b_fgMo⟩, ⟨_, _, ⟨agWo, igWo, kgWo⟩, fgWo, b_fgWo⟩, d_wri, TB, T, PySem.W.mg_none_of X G z_list⟩
  have GM : Gm mg := ⟨⟨_, PySem.W.mg_of X G m_MOST_CLASSES⟩, ⟨_, PySem.W.mg_of X G m_MOST_BASES⟩, ⟨_, PySem.W.mg_of X G m_MOST_FIELDS⟩, ⟨_, PySem.W.mg_of X G m_MOST_METHODS⟩, ⟨_, PySem.W.mg_of X G m_MOST_PARAMS⟩⟩
  have NM : Nm K mg := ⟨d_isN, d_areN, d_word, ⟨NN, PySem.W.mg_of X G m_NN, vNN⟩, PySem.W.mg_none_of X G z_set⟩
  have CWD : ∃ CW g0 g1 g2 g3, CWd K w mg CW g0 g1 g2 g3 := ⟨CW, g0, g1, g2, g3, PySem.W.mg_of X G m_CW, ⟨_, _, _, kwalk_mk lCW wCW loCW⟩, kdct_mk lCW klCW vCW_fields rfl, kdct_mk lCW klCW vCW_double rfl, kdct_mk lCW klCW vCW_where rfl, kdct_mk lCW klCW vCW_methods rfl, (fun e => by rw [e, beq_self_eq_true] at ng0; cases ng0), (fun e => by rw [e, beq_self_eq_true] at ng2; cases ng2), (fun e => by rw [e, beq_self_eq_true] at ng3; cases ng3), dg0, dg1, dg2, dg3, d_ov, d_to⟩
  have MWD : ∃ MW, MWd K w mg MW := by
    obtain ⟨_, dp0⟩ := dp0
    obtain ⟨_, dp1⟩ := dp1
    obtain ⟨_, dp2⟩ := dp2
    obtain ⟨_, dp3⟩ := dp3
    exact ⟨MW, PySem.W.mg_of X G m_MW, ⟨_, _, _, kwalk_mk lMW wMW loMW⟩, ⟨_, _, kdct_mk lMW klMW vMW_params rfl, dp0⟩, ⟨_, _, kdct_mk lMW klMW vMW_result rfl, dp1⟩, ⟨_, _, kdct_mk lMW klMW vMW_pre rfl, dp2⟩, ⟨_, _, kdct_mk lMW klMW vMW_post rfl, dp3⟩, d_ik, d_en, d_ov, d_to⟩
  have WD : Wd K w mg WR := by
    obtain ⟨_, dw0⟩ := dw0
    obtain ⟨_, dw1⟩ := dw1
    obtain ⟨_, dw2⟩ := dw2
    obtain ⟨_, dw3⟩ := dw3
    obtain ⟨_, dw4⟩ := dw4
    obtain ⟨_, dw5⟩ := dw5
    obtain ⟨_, dw6⟩ := dw6
    obtain ⟨_, dw7⟩ := dw7
    exact ⟨PySem.W.mg_of X G m_WR, ⟨_, _, _, kwalk_mk lWR wWR loWR⟩, ⟨_, _, kdct_mk lWR klWR vWR_term rfl, dw0⟩, ⟨_, _, kdct_mk lWR klWR vWR_object rfl, dw1⟩, ⟨_, _, kdct_mk lWR klWR vWR_class rfl, dw2⟩, ⟨_, _, kdct_mk lWR klWR vWR_method rfl, dw3⟩, ⟨_, _, kdct_mk lWR klWR vWR_next rfl, dw4⟩, ⟨_, _, kdct_mk lWR klWR vWR_arguments rfl, dw5⟩, ⟨_, _, kdct_mk lWR klWR vWR_own rfl, dw6⟩, ⟨_, _, kdct_mk lWR klWR vWR_value rfl, dw7⟩⟩
  have SW : Sw K w mg ST := ⟨PySem.W.mg_of X G m_ST, ⟨_, _, ⟨lST, klST, loST⟩, _, vST_halt⟩, kdct_mk lST klST vST_halt ⟨_, rfl⟩, d_fw, d_ll, d_po, d_hf, d_ao, d_hd, d_ti, d_oi, d_sts, d_trs, d_cls, d_tl, TB, ⟨_, PySem.W.mg_of X G m_MOST_STATEMENTS⟩, ⟨_, PySem.W.mg_of X G m_MOST_IFS⟩, ⟨_, PySem.W.mg_of X G m_MOST_TRIES⟩, ⟨_, PySem.W.mg_of X G m_MOST_CALLS⟩, PySem.W.mg_none_of X G z_max, PySem.W.mg_none_of X G z_sum⟩
  have SC : Scm K mg CS CSc iS iC := ⟨⟨c1CS, c2CS, c3CS, c4CS⟩, (fun x hx => by
    have hx : x ∈ (["known", "view", "fresh"] : List Str) := hx
    simp only [List.mem_cons, List.not_mem_nil, or_false] at hx
    rcases hx with rfl | rfl | rfl
    · exact nCS_known
    · exact nCS_view
    · exact nCS_fresh), PySem.W.mg_of X G m_CS, ⟨k1CS, k2CS, k3CS, k4CS⟩, ⟨_, fiS, b_fiS⟩, ⟨c1CSc, c2CSc, c3CSc, c4CSc⟩, (fun x hx => by
    have hx : x ∈ (["library", "owner", "method", "variables"] : List Str) := hx
    simp only [List.mem_cons, List.not_mem_nil, or_false] at hx
    rcases hx with rfl | rfl | rfl | rfl
    · exact nCSc_library
    · exact nCSc_owner
    · exact nCSc_method
    · exact nCSc_variables), PySem.W.mg_of X G m_CSc, ⟨k1CSc, k2CSc, k3CSc, k4CSc⟩, ⟨_, fiC, b_fiC⟩, ⟨_, _, ⟨agBh, igBh, kgBh⟩, fgBh, b_fgBh⟩, d_sa, d_ms⟩
  have BD : ∃ CS CC fS fC WR ST, Bd K w mg CS CC fS fC WR ST   := ⟨CS, CSc, iS, iC, WR, ST, SW, WD, SC, d_whe, d_fwb, d_wbb, d_wmb⟩
  have LF : LiF K w mg CC QQ CL := ⟨LM, GM, NM, PySem.W.mg_of X G m_C0, PySem.W.mg_of X G m_C1, PySem.W.mg_of X G m_C2, PySem.W.mg_none_of X G z_any, d_fnc, d_wb, d_ac, d_abv, d_allo, d_put, d_mer, d_nx, d_rf, d_wo, d_wc, CWD, d_wm, MWD, d_wh, d_wa, d_wbl, BD⟩
  have BL : BadL K mg B CB fB fd_fiB := ⟨ctB, (fun x hx => by
    have hx : x ∈ (["at", "why"] : List Str) := hx
    simp only [List.mem_cons, List.not_mem_nil, or_false] at hx
    rcases hx with rfl | rfl
    · exact nB_at
    · exact nB_why), iB, tB, fiB, b_fiB, PySem.W.mg_of X G m_CB⟩
  obtain ⟨fd_fiCBd, fiCBd, b_fiCBd⟩ := fiCBd
  obtain ⟨fd_fiCNv, fiCNv, b_fiCNv⟩ := fiCNv
  obtain ⟨fd_fAnd, fAnd, b_fAnd⟩ := fAnd
  obtain ⟨fd_fCal, fCal, b_fCal⟩ := fCal
  obtain ⟨fd_dHo, dHo⟩ := dHo
  obtain ⟨fd_dWo, dWo⟩ := dWo
  have GT : Gt K B := ⟨y2, y3, by unfold PySem.W.isClsIn at gg3; exact gg3, gg4, gg5, gg6⟩
  have BDc : Bad K mg B CBd fBd fd_fiCBd := ⟨ctCBd, (fun x hx => by
    have hx : x ∈ (["clause"] : List Str) := hx
    simp only [List.mem_cons, List.not_mem_nil, or_false] at hx
    subst hx
    exact nCBd_clause), iCBd, tCBd, fiCBd, b_fiCBd, PySem.W.mg_of X G m_CBd⟩
  have NVc : NoV K mg B CNv fNv fd_fiCNv := ⟨ctCNv, (fun x hx => by
    have hx : x ∈ (["term"] : List Str) := hx
    simp only [List.mem_cons, List.not_mem_nil, or_false] at hx
    subst hx
    exact nCNv_term), iCNv, tCNv, fiCNv, b_fiCNv, PySem.W.mg_of X G m_CNv⟩
  have kt0 : PySem.W.kitOne K (.ref C0) (.ref C0) = some true := by
    unfold PySem.W.kitOne
    rw [if_pos (beq_self_eq_true _)]
  have CA : CondAll K mg B CBd fBd C0 i0 fd_fiCBd fdI := ⟨CM.D, BDc, fi0, CM.M, fun H a dx fs e => .base (.ins e F0.cls F0.y1 y2 y3 F0.mo), kt0⟩
  have AO : AndOf K mg B CBd fBd C0 i0 fAn fd_fiCBd fdI fd_fAnd := ⟨CA, fAnd, b_fAnd, an1, an2, an3, GT, PySem.W.mg_of X G m_B⟩
  have CO : CallOf K mg B CNv fNv C0 fCl gHo gWo2 fd_fiCNv fd_fCal fd_dHo fd_dWo := ⟨fCal, b_fCal, F0.cls, n0_clauses, NVc, dHo, dWo, PySem.W.mg_none_of X G z_any, PySem.W.mg_none_of X G z_enumerate, d_bro, PySem.W.mg_none_of X G z_isinstance, ⟨cq1, cq2, cq3⟩⟩
  have AZ : AnsD K mg := ⟨d_wmt, d_amt, d_tms, d_pck, d_rng, d_lfz, ⟨_, PySem.W.mg_of X G mRES⟩, PySem.W.mg_none_of X G z_max, PySem.W.mg_none_of X G z_min⟩
  exact ⟨⟨CC, QQ, CL, B, CB, fB, iL, B, CBd, fBd, i0, fAn, i1, i2, e0, e1, e2, CNv, fNv, fCl, gHo, gWo2, fd_fiB, fdL, fd_fiCBd, fdI, fd_fAnd, fdM, fdC, fd_fiCNv, fd_fCal, fd_dHo, fd_dWo, T, NC, AO, ⟨⟨F1.m1, F1.m2, F1.m3, F1.m4⟩, fi1, PySem.W.mg_of X G m_C1⟩, ⟨⟨F2.m1, F2.m2, F2.m3, F2.m4⟩, fi2, PySem.W.mg_of X G m_C2⟩, D, TB, LF, BL, fiL, ⟨k1CL, k2CL, k3CL, k4CL⟩, PySem.W.mg_of X G m_CL, CO, PySem.W.mg_none_of X G z_list, PySem.W.mg_none_of X G z_range, PySem.W.mg_none_of X G z_max, PySem.W.mg_none_of X G z_min, PySem.W.mg_none_of X G z_dict, v0, v2, d_jo, d_we, d_lpo, d_llb, d_due, d_ans, AZ⟩, ⟨oc, kV, doc, pm, cdv, ct, od, an0, osl, lL, cL⟩⟩
end Kx
open PySem PySem.W PyProof.Rows
set_option maxRecDepth 100000 in
set_option maxHeartbeats 0 in
theorem PySem.Challenge.cw_contractheirs_k81_answers_on_a_grid_holds : PySem.Challenge.rw_contractheirs_k81_answers_on_a_grid.Holds := by
  refine kTop ?_
  k_fill
  refine Kx.walk (l := PySem.Challenge.rw_contractheirs_k81_answers_on_a_grid) rfl rfl (fun w h Y => PySem.W.kIn_of Y) ?F
  case F =>
    intro w mg fa h KX G hmg
    refine' Kx.all_mk KX G ?uh_m_C0 ?uh_m_C1 ?uh_m_C2 ?uh_m_CL ?uh_m_CS ?uh_m_CSc ?uh_m_CB ?uh_m_B ?uh_m_NN ?uh_m_CBd ?uh_m_CNv ⟨?u1, ?u2, ?u3, ?u4, ?u5, ?u6, ?u7, ?u8, ?u9, ?u10, ?u11, ?u12, ?u13, ?u14, ?u15, ?u16, ?u17, ?u18, ?u19, ?u20, ?u21, ?u22, ?u23, ?u24, ?u25, ?u26, ?u27, ?u28⟩ ?uh_n0_clauses ⟨?u29, ?u30, ?u31, ?u32, ?u33, ?u34, ?u35, ?u36, ?u37, ?u38, ?u39, ?u40, ?u41, ?u42, ?u43, ?u44, ?u45, ?u46, ?u47, ?u48, ?u49, ?u50, ?u51, ?u52, ?u53, ?u54, ?u55, ?u56⟩ ?uh_n1_name ?uh_n1_params ?uh_n1_result ?uh_n1_pre ?uh_n1_post ?uh_n1_body ⟨?u57, ?u58, ?u59, ?u60, ?u61, ?u62, ?u63, ?u64, ?u65, ?u66, ?u67, ?u68, ?u69, ?u70, ?u71, ?u72, ?u73, ?u74, ?u75, ?u76, ?u77, ?u78, ?u79, ?u80, ?u81, ?u82, ?u83, ?u84⟩ ?uh_n2_name ?uh_n2_bases ?uh_n2_fields ?uh_n2_where ?uh_n2_methods ?uh_nt ?uh_s01 ?uh_s02 ?uh_s10 ?uh_s12 ?uh_s20 ?uh_s21 ?uh_y2 ?uh_y3 ?uh_mLet ?uh_m_LONGEST_WORD ?uh_m_MOST_LITERALS ?uh_m_MOST_CLAUSES ?uh_m_MOST_STATEMENTS ?uh_m_MOST_IFS ?uh_m_MOST_TRIES ?uh_m_MOST_CALLS ?uh_m_MOST_CLASSES ?uh_m_MOST_BASES ?uh_m_MOST_FIELDS ?uh_m_MOST_METHODS ?uh_m_MOST_PARAMS ?uh_z_isinstance ?uh_z_int ?uh_z_bool ?uh_z_str ?uh_z_tuple ?uh_z_len ?uh_z_all ?uh_z_sorted ?uh_z_enumerate ?uh_z_any ?uh_z_list ?uh_z_set ?uh_z_range ?uh_z_dict ?uh_z_max ?uh_z_min ?uh_z_sum (Kx.fun_only ?u85 ?u86 ?u87) (Kx.m_mk ?u88 ?u89 ?u90 ?u91 ?u92) (Kx.c_mk ?u93 ?u94 ?u95 ?u96 ?u97 ?u98 ?u99 ?u100) (Kx.emp ?u101 ?u102 ?u103) (Kx.emp ?u104 ?u105 ?u106) (Kx.emp ?u107 ?u108 ?u109) (Kx.strs_mk ?u110 ?u111 ?u112 ?u113 ?u114) ?uh_c1CL ?uh_c2CL ?uh_c3CL ?uh_c4CL ?uh_nCL_classes ?uh_nCL_names ?uh_nCL__table ?uh_nCL__orders ?uh_k1CL ?uh_k2CL ?uh_k3CL ?uh_k4CL (Kx.fun_only ?u118 ?u119 ?u120) ?uh_agOd ?uh_igOd ?uh_kgOd (Kx.fun_bind (x := "order_of") (q := "Library.order_of") (st := Kx.sOd) (ps := ["self", "name"]) ?u121 ?u122 ?u123 (fun _ _ _ _ _ _ us hl => match us, hl with | [_, _], _ => rfl)) ?uh_agFl ?uh_igFl ?uh_kgFl (Kx.fun_bind (x := "fields_of") (q := "Library.fields_of") (st := Kx.sFl) (ps := ["self", "name"]) ?u124 ?u125 ?u126 (fun _ _ _ _ _ _ us hl => match us, hl with | [_, _], _ => rfl)) ?uh_agMo ?uh_igMo ?uh_kgMo (Kx.fun_bind (x := "methods_of") (q := "Library.methods_of") (st := Kx.sMo) (ps := ["self", "name"]) ?u127 ?u128 ?u129 (fun _ _ _ _ _ _ us hl => match us, hl with | [_, _], _ => rfl)) ?uh_agWo ?uh_igWo ?uh_kgWo (Kx.fun_bind (x := "writer_of") (q := "Library.writer_of") (st := Kx.sWo) (ps := ["self", "name", "method"]) ?u130 ?u131 ?u132 (fun _ _ _ _ _ _ us hl => match us, hl with | [_, _, _], _ => rfl)) ?uh_aCo ?uh_iCo (Kx.fun_bind (x := "__contains__") (q := "Library.__contains__") (st := Kx.sCo) (ps := ["self", "name"]) ?u133 ?u134 ?u135 (fun _ _ _ _ _ _ us hl => match us, hl with | [_, _], _ => rfl)) ?uh_aIx ?uh_iIx ?uh_nIx (Kx.fun_bind (x := "__getitem__") (q := "Library.__getitem__") (st := Kx.sLix) (ps := ["self", "name"]) ?u136 ?u137 ?u138 (fun _ _ _ _ _ _ us hl => match us, hl with | [_, _], _ => rfl)) ?uh_c1CS ?uh_c2CS ?uh_c3CS ?uh_c4CS ?uh_nCS_known ?uh_nCS_view ?uh_nCS_fresh ?uh_k1CS ?uh_k2CS ?uh_k3CS ?uh_k4CS (Kx.fun_bind (x := "__init__") (q := "Seen.__init__") (st := Kx.sSIn) (ps := ["self", "known", "view", "fresh"]) ?u139 ?u140 ?u141 (fun _ _ _ _ _ _ us hl => match us, hl with | [_, _, _, _], _ => rfl)) ?uh_c1CSc ?uh_c2CSc ?uh_c3CSc ?uh_c4CSc ?uh_nCSc_library ?uh_nCSc_owner ?uh_nCSc_method ?uh_nCSc_variables ?uh_k1CSc ?uh_k2CSc ?uh_k3CSc ?uh_k4CSc (Kx.fun_bind (x := "__init__") (q := "Scope.__init__") (st := Kx.sScI) (ps := ["self", "library", "owner", "method", "variables"]) ?u142 ?u143 ?u144 (fun _ _ _ _ _ _ us hl => match us, hl with | [_, _, _, _, _], _ => rfl)) ?uh_agBh ?uh_igBh ?uh_kgBh (Kx.fun_bind (x := "behind") (q := "Scope.behind") (st := Kx.sBh) (ps := ["self", "statement"]) ?u145 ?u146 ?u147 (fun _ _ _ _ _ _ us hl => match us, hl with | [_, _], _ => rfl)) (Kx.ct_mk ?u148 ?u149 ?u150 ?u151 ?u152 ?u153 ?u154 ?u155) ?uh_nB_at ?uh_nB_why ?uh_iB ?uh_tB (Kx.fun_bind (x := "__init__") (q := "BadLibrary.__init__") (st := Kx.sBLi) (ps := ["self", "at", "why"]) ?u156 ?u157 ?u158 (fun _ _ _ _ _ _ us hl => match us, hl with | [_, _, _], _ => rfl)) ?uh_m_CW ?uh_lCW ?uh_klCW ?uh_wCW ?uh_loCW ?uh_m_MW ?uh_lMW ?uh_klMW ?uh_wMW ?uh_loMW ?uh_m_WR ?uh_lWR ?uh_klWR ?uh_wWR ?uh_loWR ?uh_m_ST ?uh_lST ?uh_klST ?uh_wST ?uh_loST ?uh_vCW_fields ?uh_vCW_double ?uh_vCW_where ?uh_vCW_methods ?uh_vMW_params ?uh_vMW_result ?uh_vMW_pre ?uh_vMW_post ?uh_vWR_term ?uh_vWR_object ?uh_vWR_class ?uh_vWR_method ?uh_vWR_next ?uh_vWR_arguments ?uh_vWR_own ?uh_vWR_value ?uh_vST_halt ?uh_ng0 ?uh_ng2 ?uh_ng3 (Kx.at_mk (st := Kx.sHWF) (ps := ["library", "name"]) KX G ?u159 ?u160 ?u161 ?u162 (fun _ _ _ _ _ _ us hl => match us, hl with | [_, _], _ => rfl)) (Kx.at_mk (st := Kx.sHDb) (ps := ["library", "name"]) KX G ?u163 ?u164 ?u165 ?u166 (fun _ _ _ _ _ _ us hl => match us, hl with | [_, _], _ => rfl)) (Kx.at_mk (st := Kx.sHWW) (ps := ["library", "name"]) KX G ?u167 ?u168 ?u169 ?u170 (fun _ _ _ _ _ _ us hl => match us, hl with | [_, _], _ => rfl)) (Kx.at_mk (st := Kx.sHWM) (ps := ["library", "name"]) KX G ?u171 ?u172 ?u173 ?u174 (fun _ _ _ _ _ _ us hl => match us, hl with | [_, _], _ => rfl)) (Kx.at_mk (st := Kx.sHWP) (ps := ["library", "name", "method"]) KX G ?u175 ?u176 ?u177 ?u178 (fun _ _ _ _ _ _ us hl => match us, hl with | [_, _, _], _ => rfl)) (Kx.at_mk (st := Kx.sHWR) (ps := ["library", "name", "method"]) KX G ?u179 ?u180 ?u181 ?u182 (fun _ _ _ _ _ _ us hl => match us, hl with | [_, _, _], _ => rfl)) (Kx.at_mk (st := Kx.sHWPr) (ps := ["library", "name", "method"]) KX G ?u183 ?u184 ?u185 ?u186 (fun _ _ _ _ _ _ us hl => match us, hl with | [_, _, _], _ => rfl)) (Kx.at_mk (st := Kx.sHWPo) (ps := ["library", "name", "method"]) KX G ?u187 ?u188 ?u189 ?u190 (fun _ _ _ _ _ _ us hl => match us, hl with | [_, _, _], _ => rfl)) (Kx.at_mk (st := Kx.sW0) (ps := ["scope", "act"]) KX G ?u191 ?u192 ?u193 ?u194 (fun _ _ _ _ _ _ us hl => match us, hl with | [_, _], _ => rfl)) (Kx.at_mk (st := Kx.sW1) (ps := ["scope", "act"]) KX G ?u195 ?u196 ?u197 ?u198 (fun _ _ _ _ _ _ us hl => match us, hl with | [_, _], _ => rfl)) (Kx.at_mk (st := Kx.sW2) (ps := ["scope", "act"]) KX G ?u199 ?u200 ?u201 ?u202 (fun _ _ _ _ _ _ us hl => match us, hl with | [_, _], _ => rfl)) (Kx.at_mk (st := Kx.sW3) (ps := ["scope", "act"]) KX G ?u203 ?u204 ?u205 ?u206 (fun _ _ _ _ _ _ us hl => match us, hl with | [_, _], _ => rfl)) (Kx.at_mk (st := Kx.sW4) (ps := ["scope", "act"]) KX G ?u207 ?u208 ?u209 ?u210 (fun _ _ _ _ _ _ us hl => match us, hl with | [_, _], _ => rfl)) (Kx.at_mk (st := Kx.sW5) (ps := ["scope", "act"]) KX G ?u211 ?u212 ?u213 ?u214 (fun _ _ _ _ _ _ us hl => match us, hl with | [_, _], _ => rfl)) (Kx.at_mk (st := Kx.sW6) (ps := ["scope", "act"]) KX G ?u215 ?u216 ?u217 ?u218 (fun _ _ _ _ _ _ us hl => match us, hl with | [_, _], _ => rfl)) (Kx.at_mk (st := Kx.sW7) (ps := ["scope", "act"]) KX G ?u219 ?u220 ?u221 ?u222 (fun _ _ _ _ _ _ us hl => match us, hl with | [_, _], _ => rfl)) (Kx.ct_mk ?u223 ?u224 ?u225 ?u226 ?u227 ?u228 ?u229 ?u230) ?uh_nCBd_clause ?uh_iCBd ?uh_tCBd (Kx.fun_bind (x := "__init__") (q := "BadCond.__init__") (st := Kx.sBCi) (ps := ["self", "clause"]) ?u231 ?u232 ?u233 (fun _ _ _ _ _ _ us hl => match us, hl with | [_, _], _ => rfl)) (Kx.ct_mk ?u234 ?u235 ?u236 ?u237 ?u238 ?u239 ?u240 ?u241) ?uh_nCNv_term ?uh_iCNv ?uh_tCNv (Kx.fun_bind (x := "__init__") (q := "NoValue.__init__") (st := Kx.sNVi) (ps := ["self", "term"]) ?u242 ?u243 ?u244 (fun _ _ _ _ _ _ us hl => match us, hl with | [_, _], _ => rfl)) ?uh_an1 ?uh_an2 ?uh_an3 (Kx.fun_bind (x := "__and__") (q := "Cond.__and__") (st := Kx.sAnd) (ps := ["self", "other"]) ?u245 ?u246 ?u247 (fun _ _ _ _ _ _ us hl => match us, hl with | [_, _], _ => rfl)) ?uh_cq1 ?uh_cq2 ?uh_cq3 (Kx.fun_bind (x := "__call__") (q := "Cond.__call__") (st := Kx.sCall) (ps := ["self", "values"]) ?u248 ?u249 ?u250 (fun _ _ _ _ _ _ us hl => match us, hl with | [_, _], _ => rfl)) ?uh_gg3 ?uh_gg4 ?uh_gg5 ?uh_gg6 (Kx.at_mk (st := Kx.sHolds) (ps := ["clause", "values"]) KX G ?u251 ?u252 ?u253 ?u254 (fun _ _ _ _ _ _ us hl => match us, hl with | [_, _], _ => rfl)) (Kx.at_mk (st := Kx.sWorth) (ps := ["term", "values"]) KX G ?u255 ?u256 ?u257 ?u258 (fun _ _ _ _ _ _ us hl => match us, hl with | [_, _], _ => rfl)) ?uh_mRES (Kx.def_mk (st := Kx.sIsInt) (ps := ["thing"]) KX G ?u259 ?u260 ?u261 ?u262 (fun _ _ _ _ _ _ us hl => match us, hl with | [_], _ => rfl)) (Kx.def_mk (st := Kx.sIsWord) (ps := ["thing"]) KX G ?u263 ?u264 ?u265 ?u266 (fun _ _ _ _ _ _ us hl => match us, hl with | [_], _ => rfl)) (Kx.def_mk (st := Kx.sIsTerm) (ps := ["thing"]) KX G ?u267 ?u268 ?u269 ?u270 (fun _ _ _ _ _ _ us hl => match us, hl with | [_], _ => rfl)) (Kx.def_mk (st := Kx.sIsLit) (ps := ["thing"]) KX G ?u271 ?u272 ?u273 ?u274 (fun _ _ _ _ _ _ us hl => match us, hl with | [_], _ => rfl)) (Kx.def_mk (st := Kx.sLitT) (ps := ["thing"]) KX G ?u275 ?u276 ?u277 ?u278 (fun _ _ _ _ _ _ us hl => match us, hl with | [_], _ => rfl)) (Kx.def_mk (st := Kx.sIsCl) (ps := ["thing", "most"]) KX G ?u279 ?u280 ?u281 ?u282 (fun _ _ _ _ _ _ us hl => match us, hl with | [_, _], _ => rfl)) (Kx.def_mk (st := Kx.sStand) (ps := ["thing"]) KX G ?u283 ?u284 ?u285 ?u286 (fun _ _ _ _ _ _ us hl => match us, hl with | [_], _ => rfl)) (Kx.def_mk (st := Kx.sIsN) (ps := ["thing"]) KX G ?u287 ?u288 ?u289 ?u290 (fun _ _ _ _ _ _ us hl => match us, hl with | [_], _ => rfl)) (Kx.def_mk (st := Kx.sAreN) (ps := ["things", "most"]) KX G ?u291 ?u292 ?u293 ?u294 (fun _ _ _ _ _ _ us hl => match us, hl with | [_, _], _ => rfl)) (Kx.def_mk (st := Kx.sWri) (ps := ["classdef", "name"]) KX G ?u295 ?u296 ?u297 ?u298 (fun _ _ _ _ _ _ us hl => match us, hl with | [_, _], _ => rfl)) (Kx.def_mk (st := Kx.sFW) (ps := ["thing"]) KX G ?u299 ?u300 ?u301 ?u302 (fun _ _ _ _ _ _ us hl => match us, hl with | [_], _ => rfl)) (Kx.def_mk (st := Kx.sLL) (ps := ["thing"]) KX G ?u303 ?u304 ?u305 ?u306 (fun _ _ _ _ _ _ us hl => match us, hl with | [_], _ => rfl)) (Kx.def_mk (st := Kx.sPO) (ps := ["statement"]) KX G ?u307 ?u308 ?u309 ?u310 (fun _ _ _ _ _ _ us hl => match us, hl with | [_], _ => rfl)) (Kx.def_mk (st := Kx.sHFm) (ps := ["statement"]) KX G ?u311 ?u312 ?u313 ?u314 (fun _ _ _ _ _ _ us hl => match us, hl with | [_], _ => rfl)) (Kx.def_mk (st := Kx.sAO) (ps := ["statement"]) KX G ?u315 ?u316 ?u317 ?u318 (fun _ _ _ _ _ _ us hl => match us, hl with | [_], _ => rfl)) (Kx.def_mk (st := Kx.sHd) (ps := ["act"]) KX G ?u319 ?u320 ?u321 ?u322 (fun _ _ _ _ _ _ us hl => match us, hl with | [_], _ => rfl)) (Kx.def_mk (st := Kx.sTI) (ps := ["act"]) KX G ?u323 ?u324 ?u325 ?u326 (fun _ _ _ _ _ _ us hl => match us, hl with | [_], _ => rfl)) (Kx.def_mk (st := Kx.sOI) (ps := ["act"]) KX G ?u327 ?u328 ?u329 ?u330 (fun _ _ _ _ _ _ us hl => match us, hl with | [_], _ => rfl)) (Kx.def_mk (st := Kx.sSts) (ps := ["body"]) KX G ?u331 ?u332 ?u333 ?u334 (fun _ _ _ _ _ _ us hl => match us, hl with | [_], _ => rfl)) (Kx.def_mk (st := Kx.sTrs) (ps := ["statement"]) KX G ?u335 ?u336 ?u337 ?u338 (fun _ _ _ _ _ _ us hl => match us, hl with | [_], _ => rfl)) (Kx.def_mk (st := Kx.sCls_) (ps := ["statement"]) KX G ?u339 ?u340 ?u341 ?u342 (fun _ _ _ _ _ _ us hl => match us, hl with | [_], _ => rfl)) (Kx.def_mk (st := Kx.sTL) (ps := ["body"]) KX G ?u343 ?u344 ?u345 ?u346 (fun _ _ _ _ _ _ us hl => match us, hl with | [_], _ => rfl)) (Kx.def_mk (st := Kx.sSA) (ps := ["kind"]) KX G ?u347 ?u348 ?u349 ?u350 (fun _ _ _ _ _ _ us hl => match us, hl with | [_], _ => rfl)) (Kx.def_mk (st := Kx.sMS) (ps := ["library", "owner", "method"]) KX G ?u351 ?u352 ?u353 ?u354 (fun _ _ _ _ _ _ us hl => match us, hl with | [_, _, _], _ => rfl)) (Kx.def_mk (st := Kx.sWHe) (ps := ["scope", "statement"]) KX G ?u355 ?u356 ?u357 ?u358 (fun _ _ _ _ _ _ us hl => match us, hl with | [_, _], _ => rfl)) (Kx.def_mk (st := Kx.sWMB) (ps := ["library", "owner", "method"]) KX G ?u359 ?u360 ?u361 ?u362 (fun _ _ _ _ _ _ us hl => match us, hl with | [_, _, _], _ => rfl)) (Kx.def_mk (st := Kx.sAbv) (ps := ["bases", "name"]) KX G ?u363 ?u364 ?u365 ?u366 (fun _ _ _ _ _ _ us hl => match us, hl with | [_, _], _ => rfl)) (Kx.def_mk (st := Kx.sAllO) (ps := ["bases"]) KX G ?u367 ?u368 ?u369 ?u370 (fun _ _ _ _ _ _ us hl => match us, hl with | [_], _ => rfl)) (Kx.def_mk (st := Kx.sPut) (ps := ["bases", "name", "orders"]) KX G ?u371 ?u372 ?u373 ?u374 (fun _ _ _ _ _ _ us hl => match us, hl with | [_, _, _], _ => rfl)) (Kx.def_mk (st := Kx.sMg) (ps := ["rows"]) KX G ?u375 ?u376 ?u377 ?u378 (fun _ _ _ _ _ _ us hl => match us, hl with | [_], _ => rfl)) (Kx.def_mk (st := Kx.sNx) (ps := ["rows"]) KX G ?u379 ?u380 ?u381 ?u382 (fun _ _ _ _ _ _ us hl => match us, hl with | [_], _ => rfl)) (Kx.def_mk (st := Kx.sTO) (ps := ["library", "name", "kind"]) KX G ?u383 ?u384 ?u385 ?u386 (fun _ _ _ _ _ _ us hl => match us, hl with | [_, _, _], _ => rfl)) (Kx.def_mk (st := Kx.sFNC) (ps := ["classes"]) KX G ?u387 ?u388 ?u389 ?u390 (fun _ _ _ _ _ _ us hl => match us, hl with | [_], _ => rfl)) (Kx.def_mk (st := Kx.sWBs) (ps := ["library"]) KX G ?u391 ?u392 ?u393 ?u394 (fun _ _ _ _ _ _ us hl => match us, hl with | [_], _ => rfl)) (Kx.def_mk (st := Kx.sAC) (ps := ["library", "bases"]) KX G ?u395 ?u396 ?u397 ?u398 (fun _ _ _ _ _ _ us hl => match us, hl with | [_, _], _ => rfl)) (Kx.def_mk (st := Kx.sWC) (ps := ["library"]) KX G ?u399 ?u400 ?u401 ?u402 (fun _ _ _ _ _ _ us hl => match us, hl with | [_], _ => rfl)) (Kx.def_mk (st := Kx.sOv) (ps := ["cond", "terms"]) KX G ?u403 ?u404 ?u405 ?u406 (fun _ _ _ _ _ _ us hl => match us, hl with | [_, _], _ => rfl)) (Kx.def_mk (st := Kx.sEnt) (ps := ["library", "name", "method"]) KX G ?u407 ?u408 ?u409 ?u410 (fun _ _ _ _ _ _ us hl => match us, hl with | [_, _, _], _ => rfl)) (Kx.def_mk (st := Kx.sIK) (ps := ["library", "thing"]) KX G ?u411 ?u412 ?u413 ?u414 (fun _ _ _ _ _ _ us hl => match us, hl with | [_, _], _ => rfl)) (Kx.def_mk (st := Kx.sWM) (ps := ["library"]) KX G ?u415 ?u416 ?u417 ?u418 (fun _ _ _ _ _ _ us hl => match us, hl with | [_], _ => rfl)) (Kx.def_mk (st := Kx.sWH_) (ps := ["library"]) KX G ?u419 ?u420 ?u421 ?u422 (fun _ _ _ _ _ _ us hl => match us, hl with | [_], _ => rfl)) (Kx.def_mk (st := Kx.sWA) (ps := ["library", "name", "method"]) KX G ?u423 ?u424 ?u425 ?u426 (fun _ _ _ _ _ _ us hl => match us, hl with | [_, _, _], _ => rfl)) (Kx.def_mk (st := Kx.sRf) (ps := ["found"]) KX G ?u427 ?u428 ?u429 ?u430 (fun _ _ _ _ _ _ us hl => match us, hl with | [_], _ => rfl)) (Kx.def_mk (st := Kx.sWor) (ps := ["library"]) KX G ?u431 ?u432 ?u433 ?u434 (fun _ _ _ _ _ _ us hl => match us, hl with | [_], _ => rfl)) (Kx.def_mk (st := Kx.sWell) (ps := ["_law_cell"]) KX G ?u435 ?u436 ?u437 ?u438 (fun _ _ _ _ _ _ us hl => match us, hl with | [_], _ => rfl)) (Kx.def_mk (st := Kx.sDraw) (ps := ["_law_well_here", "_law_base"]) KX G ?u439 ?u440 ?u441 ?u442 (fun _ _ _ _ _ _ us hl => match us, hl with | [_, _], _ => rfl)) (Kx.def_mk (st := Kx.sOne) (ps := ["_law_well_here", "_law_some"]) KX G ?u443 ?u444 ?u445 ?u446 (fun _ _ _ _ _ _ us hl => match us, hl with | [_, _], _ => rfl)) (Kx.def_mk (st := Kx.sBroken) (ps := ["clauses", "values"]) KX G ?u447 ?u448 ?u449 ?u450 (fun _ _ _ _ _ _ us hl => match us, hl with | [_, _], _ => rfl)) (Kx.def_mk (st := Kx.sWMt) (ps := ["library", "name", "method"]) KX G ?u451 ?u452 ?u453 ?u454 (fun _ _ _ _ _ _ us hl => match us, hl with | [_, _, _], _ => rfl)) (Kx.def_mk (st := Kx.sAMt) (ps := ["library", "name", "method"]) KX G ?u455 ?u456 ?u457 ?u458 (fun _ _ _ _ _ _ us hl => match us, hl with | [_, _, _], _ => rfl)) (Kx.def_mk (st := Kx.sTms) (ps := ["clauses"]) KX G ?u459 ?u460 ?u461 ?u462 (fun _ _ _ _ _ _ us hl => match us, hl with | [_], _ => rfl)) (Kx.def_mk (st := Kx.sPck) (ps := ["clauses"]) KX G ?u463 ?u464 ?u465 ?u466 (fun _ _ _ _ _ _ us hl => match us, hl with | [_], _ => rfl)) (Kx.def_mk (st := Kx.sRng) (ps := ["pick", "values"]) KX G ?u467 ?u468 ?u469 ?u470 (fun _ _ _ _ _ _ us hl => match us, hl with | [_, _], _ => rfl)) (Kx.def_mk (st := Kx.sLfz) (ps := ["ranges"]) KX G ?u471 ?u472 ?u473 ?u474 (fun _ _ _ _ _ _ us hl => match us, hl with | [_], _ => rfl)) (Kx.def_mk (st := Kx.sAns) (ps := ["library", "name", "method", "values"]) KX G ?u475 ?u476 ?u477 ?u478 (fun _ _ _ _ _ _ us hl => match us, hl with | [_, _, _, _], _ => rfl)) (Kx.def_mk (st := Kx.sCond2) (ps := ["_law_clauses"]) KX G ?u479 ?u480 ?u481 ?u482 (fun _ _ _ _ _ _ us hl => match us, hl with | [_], _ => rfl)) (Kx.def_mk (st := Kx.sWls) (ps := ["_law_script", "_law_most"]) KX G ?u483 ?u484 ?u485 ?u486 (fun _ _ _ _ _ _ us hl => match us, hl with | [_, _], _ => rfl)) (Kx.def_mk (st := Kx.sPost) (ps := ["_law_well_here"]) KX G ?u487 ?u488 ?u489 ?u490 (fun _ _ _ _ _ _ us hl => match us, hl with | [_], _ => rfl)) (Kx.def_mk (st := Kx.sLib) (ps := ["_law_gain"]) KX G ?u491 ?u492 ?u493 ?u494 (fun _ _ _ _ _ _ us hl => match us, hl with | [_], _ => rfl)) (Kx.def_mk (st := Kx.sDueG) (ps := ["_law_gain", "_law_values"]) KX G ?u495 ?u496 ?u497 ?u498 (fun _ _ _ _ _ _ us hl => match us, hl with | [_, _], _ => rfl)) (Kx.fa_mk (st := Kx.sFirst) (ps := ["clauses"]) KX G ?u499 ?u500 ?u501 ?u502 (fun _ _ _ _ _ _ us hl => match us, hl with | [_], _ => rfl)) (Kx.fa_mk (st := Kx.sFWb) (ps := ["scope", "statement", "place"]) KX G ?u503 ?u504 ?u505 ?u506 (fun _ _ _ _ _ _ us hl => match us, hl with | [_, _, _], _ => rfl)) (Kx.fa_mk (st := Kx.sWBb) (ps := ["scope", "body"]) KX G ?u507 ?u508 ?u509 ?u510 (fun _ _ _ _ _ _ us hl => match us, hl with | [_, _], _ => rfl)) (Kx.fa_mk (st := Kx.sWBl) (ps := ["library"]) KX G ?u511 ?u512 ?u513 ?u514 (fun _ _ _ _ _ _ us hl => match us, hl with | [_], _ => rfl)) hmg ?umL ?ulL ?ucL
    (case uh_m_C0 => k_is)
    (case uh_m_C1 => k_is)
    (case uh_m_C2 => k_is)
    (case uh_m_CL => k_is)
    (case uh_m_CS => k_is)
    (case uh_m_CSc => k_is)
    (case uh_m_CB => k_is)
    (case uh_m_B => k_is)
    (case uh_m_NN => k_is)
    (case uh_m_CBd => k_is)
    (case uh_m_CNv => k_is)
    (case uh_k2CL => k_is)
    (case uh_agOd => k_is)
    (case uh_agFl => k_is)
    (case uh_agMo => k_is)
    (case uh_agWo => k_is)
    (case uh_aCo => k_is)
    (case uh_aIx => k_is)
    (case uh_k2CS => k_is)
    (case uh_k2CSc => k_is)
    (case uh_agBh => k_is)
    (case uh_iB => k_is)
    (case uh_m_CW => k_is)
    (case uh_lCW => k_is)
    (case uh_m_MW => k_is)
    (case uh_lMW => k_is)
    (case uh_m_WR => k_is)
    (case uh_lWR => k_is)
    (case uh_m_ST => k_is)
    (case uh_lST => k_is)
    (case uh_vCW_fields => k_is)
    (case uh_vCW_double => k_is)
    (case uh_vCW_where => k_is)
    (case uh_vCW_methods => k_is)
    (case uh_vMW_params => k_is)
    (case uh_vMW_result => k_is)
    (case uh_vMW_pre => k_is)
    (case uh_vMW_post => k_is)
    (case uh_vWR_term => k_is)
    (case uh_vWR_object => k_is)
    (case uh_vWR_class => k_is)
    (case uh_vWR_method => k_is)
    (case uh_vWR_next => k_is)
    (case uh_vWR_arguments => k_is)
    (case uh_vWR_own => k_is)
    (case uh_vWR_value => k_is)
    (case uh_vST_halt => k_is)
    (case uh_iCBd => k_is)
    (case uh_iCNv => k_is)
    (case uh_an2 => k_is)
    (case uh_cq1 => k_is)
    (case u1 => k_is)
    (case u2 => k_is)
    (case u3 => k_is)
    (case u4 => k_is)
    (case u5 => k_is)
    (case u6 => k_is)
    (case u7 => k_is)
    (case u8 => k_is)
    (case u9 => k_is)
    (case u10 => k_is)
    (case u11 => k_is)
    (case u12 => k_is)
    (case u13 => k_is)
    (case u14 => k_is)
    (case u15 => k_is)
    (case u16 => k_is)
    (case u17 => k_is)
    (case u18 => k_is)
    (case u19 => k_is)
    (case u20 => k_is)
    (case u21 => k_is)
    (case u22 => k_is)
    (case u23 => k_is)
    (case u24 => k_is)
    (case u25 => k_is)
    (case u26 => k_is)
    (case u27 => k_is)
    (case u28 => k_is)
    (case uh_n0_clauses => k_is)
    (case u29 => k_is)
    (case u30 => k_is)
    (case u31 => k_is)
    (case u32 => k_is)
    (case u33 => k_is)
    (case u34 => k_is)
    (case u35 => k_is)
    (case u36 => k_is)
    (case u37 => k_is)
    (case u38 => k_is)
    (case u39 => k_is)
    (case u40 => k_is)
    (case u41 => k_is)
    (case u42 => k_is)
    (case u43 => k_is)
    (case u44 => k_is)
    (case u45 => k_is)
    (case u46 => k_is)
    (case u47 => k_is)
    (case u48 => k_is)
    (case u49 => k_is)
    (case u50 => k_is)
    (case u51 => k_is)
    (case u52 => k_is)
    (case u53 => k_is)
    (case u54 => k_is)
    (case u55 => k_is)
    (case u56 => k_is)
    (case uh_n1_name => k_is)
    (case uh_n1_params => k_is)
    (case uh_n1_result => k_is)
    (case uh_n1_pre => k_is)
    (case uh_n1_post => k_is)
    (case uh_n1_body => k_is)
    (case u57 => k_is)
    (case u58 => k_is)
    (case u59 => k_is)
    (case u60 => k_is)
    (case u61 => k_is)
    (case u62 => k_is)
    (case u63 => k_is)
    (case u64 => k_is)
    (case u65 => k_is)
    (case u66 => k_is)
    (case u67 => k_is)
    (case u68 => k_is)
    (case u69 => k_is)
    (case u70 => k_is)
    (case u71 => k_is)
    (case u72 => k_is)
    (case u73 => k_is)
    (case u74 => k_is)
    (case u75 => k_is)
    (case u76 => k_is)
    (case u77 => k_is)
    (case u78 => k_is)
    (case u79 => k_is)
    (case u80 => k_is)
    (case u81 => k_is)
    (case u82 => k_is)
    (case u83 => k_is)
    (case u84 => k_is)
    (case uh_n2_name => k_is)
    (case uh_n2_bases => k_is)
    (case uh_n2_fields => k_is)
    (case uh_n2_where => k_is)
    (case uh_n2_methods => k_is)
    (case uh_nt => k_is)
    (case uh_s01 => k_is)
    (case uh_s02 => k_is)
    (case uh_s10 => k_is)
    (case uh_s12 => k_is)
    (case uh_s20 => k_is)
    (case uh_s21 => k_is)
    (case uh_y2 => k_is)
    (case uh_y3 => k_is)
    (case uh_mLet => k_is)
    (case uh_m_LONGEST_WORD => k_is)
    (case uh_m_MOST_LITERALS => k_is)
    (case uh_m_MOST_CLAUSES => k_is)
    (case uh_m_MOST_STATEMENTS => k_is)
    (case uh_m_MOST_IFS => k_is)
    (case uh_m_MOST_TRIES => k_is)
    (case uh_m_MOST_CALLS => k_is)
    (case uh_m_MOST_CLASSES => k_is)
    (case uh_m_MOST_BASES => k_is)
    (case uh_m_MOST_FIELDS => k_is)
    (case uh_m_MOST_METHODS => k_is)
    (case uh_m_MOST_PARAMS => k_is)
    (case uh_z_isinstance => k_is)
    (case uh_z_int => k_is)
    (case uh_z_bool => k_is)
    (case uh_z_str => k_is)
    (case uh_z_tuple => k_is)
    (case uh_z_len => k_is)
    (case uh_z_all => k_is)
    (case uh_z_sorted => k_is)
    (case uh_z_enumerate => k_is)
    (case uh_z_any => k_is)
    (case uh_z_list => k_is)
    (case uh_z_set => k_is)
    (case uh_z_range => k_is)
    (case uh_z_dict => k_is)
    (case uh_z_max => k_is)
    (case uh_z_min => k_is)
    (case uh_z_sum => k_is)
    (case u85 => k_is)
    (case u86 => k_is)
    (case u87 => k_is)
    (case u88 => k_is)
    (case u89 => k_is)
    (case u90 => k_is)
    (case u91 => k_is)
    (case u92 => k_is)
    (case u93 => k_is)
    (case u94 => k_is)
    (case u95 => k_is)
    (case u96 => k_is)
    (case u97 => rfl)
    (case u98 => k_is)
    (case u99 => k_is)
    (case u100 => k_is)
    (case u101 => k_is)
    (case u102 => rfl)
    (case u103 => rfl)
    (case u104 => k_is)
    (case u105 => rfl)
    (case u106 => rfl)
    (case u107 => k_is)
    (case u108 => rfl)
    (case u109 => rfl)
    (case u110 => k_is)
    (case u111 => rfl)
    (case u112 => rfl)
    (case u113 => with_unfolding_all rfl)
    (case u114 => decide)
    (case uh_c1CL => k_is)
    (case uh_c2CL => k_is)
    (case uh_c3CL => k_is)
    (case uh_c4CL => k_is)
    (case uh_nCL_classes => k_is)
    (case uh_nCL_names => k_is)
    (case uh_nCL__table => k_is)
    (case uh_nCL__orders => k_is)
    (case uh_k1CL => k_is)
    (case uh_k3CL => k_is)
    (case uh_k4CL => k_is)
    (case u118 => k_is)
    (case u119 => k_is)
    (case u120 => k_is)
    (case uh_igOd => k_is)
    (case uh_kgOd => k_is)
    (case u121 => k_is)
    (case u122 => k_is)
    (case u123 => k_is)
    (case uh_igFl => k_is)
    (case uh_kgFl => k_is)
    (case u124 => k_is)
    (case u125 => k_is)
    (case u126 => k_is)
    (case uh_igMo => k_is)
    (case uh_kgMo => k_is)
    (case u127 => k_is)
    (case u128 => k_is)
    (case u129 => k_is)
    (case uh_igWo => k_is)
    (case uh_kgWo => k_is)
    (case u130 => k_is)
    (case u131 => k_is)
    (case u132 => k_is)
    (case uh_iCo => k_is)
    (case u133 => k_is)
    (case u134 => k_is)
    (case u135 => k_is)
    (case uh_iIx => k_is)
    (case uh_nIx => k_is)
    (case u136 => k_is)
    (case u137 => k_is)
    (case u138 => k_is)
    (case uh_c1CS => k_is)
    (case uh_c2CS => k_is)
    (case uh_c3CS => k_is)
    (case uh_c4CS => k_is)
    (case uh_nCS_known => k_is)
    (case uh_nCS_view => k_is)
    (case uh_nCS_fresh => k_is)
    (case uh_k1CS => k_is)
    (case uh_k3CS => k_is)
    (case uh_k4CS => k_is)
    (case u139 => k_is)
    (case u140 => k_is)
    (case u141 => k_is)
    (case uh_c1CSc => k_is)
    (case uh_c2CSc => k_is)
    (case uh_c3CSc => k_is)
    (case uh_c4CSc => k_is)
    (case uh_nCSc_library => k_is)
    (case uh_nCSc_owner => k_is)
    (case uh_nCSc_method => k_is)
    (case uh_nCSc_variables => k_is)
    (case uh_k1CSc => k_is)
    (case uh_k3CSc => k_is)
    (case uh_k4CSc => k_is)
    (case u142 => k_is)
    (case u143 => k_is)
    (case u144 => k_is)
    (case uh_igBh => k_is)
    (case uh_kgBh => k_is)
    (case u145 => k_is)
    (case u146 => k_is)
    (case u147 => k_is)
    (case u148 => k_is)
    (case u149 => k_is)
    (case u150 => k_is)
    (case u151 => k_is)
    (case u152 => k_is)
    (case u153 => k_is)
    (case u154 => k_is)
    (case u155 => k_is)
    (case uh_nB_at => k_is)
    (case uh_nB_why => k_is)
    (case uh_tB => k_is)
    (case u156 => k_is)
    (case u157 => k_is)
    (case u158 => k_is)
    (case uh_klCW => with_unfolding_all k_keys)
    (case uh_wCW => with_unfolding_all rfl)
    (case uh_loCW => decide)
    (case uh_klMW => with_unfolding_all k_keys)
    (case uh_wMW => with_unfolding_all rfl)
    (case uh_loMW => decide)
    (case uh_klWR => with_unfolding_all k_keys)
    (case uh_wWR => with_unfolding_all rfl)
    (case uh_loWR => decide)
    (case uh_klST => with_unfolding_all k_keys)
    (case uh_wST => with_unfolding_all rfl)
    (case uh_loST => decide)
    (case uh_ng0 => decide)
    (case uh_ng2 => decide)
    (case uh_ng3 => decide)
    (case u159 => k_is)
    (case u160 => k_is)
    (case u161 => k_is)
    (case u162 => k_is)
    (case u163 => k_is)
    (case u164 => k_is)
    (case u165 => k_is)
    (case u166 => k_is)
    (case u167 => k_is)
    (case u168 => k_is)
    (case u169 => k_is)
    (case u170 => k_is)
    (case u171 => k_is)
    (case u172 => k_is)
    (case u173 => k_is)
    (case u174 => k_is)
    (case u175 => k_is)
    (case u176 => k_is)
    (case u177 => k_is)
    (case u178 => k_is)
    (case u179 => k_is)
    (case u180 => k_is)
    (case u181 => k_is)
    (case u182 => k_is)
    (case u183 => k_is)
    (case u184 => k_is)
    (case u185 => k_is)
    (case u186 => k_is)
    (case u187 => k_is)
    (case u188 => k_is)
    (case u189 => k_is)
    (case u190 => k_is)
    (case u191 => k_is)
    (case u192 => k_is)
    (case u193 => k_is)
    (case u194 => k_is)
    (case u195 => k_is)
    (case u196 => k_is)
    (case u197 => k_is)
    (case u198 => k_is)
    (case u199 => k_is)
    (case u200 => k_is)
    (case u201 => k_is)
    (case u202 => k_is)
    (case u203 => k_is)
    (case u204 => k_is)
    (case u205 => k_is)
    (case u206 => k_is)
    (case u207 => k_is)
    (case u208 => k_is)
    (case u209 => k_is)
    (case u210 => k_is)
    (case u211 => k_is)
    (case u212 => k_is)
    (case u213 => k_is)
    (case u214 => k_is)
    (case u215 => k_is)
    (case u216 => k_is)
    (case u217 => k_is)
    (case u218 => k_is)
    (case u219 => k_is)
    (case u220 => k_is)
    (case u221 => k_is)
    (case u222 => k_is)
    (case u223 => k_is)
    (case u224 => k_is)
    (case u225 => k_is)
    (case u226 => k_is)
    (case u227 => k_is)
    (case u228 => k_is)
    (case u229 => k_is)
    (case u230 => k_is)
    (case uh_nCBd_clause => k_is)
    (case uh_tCBd => k_is)
    (case u231 => k_is)
    (case u232 => k_is)
    (case u233 => k_is)
    (case u234 => k_is)
    (case u235 => k_is)
    (case u236 => k_is)
    (case u237 => k_is)
    (case u238 => k_is)
    (case u239 => k_is)
    (case u240 => k_is)
    (case u241 => k_is)
    (case uh_nCNv_term => k_is)
    (case uh_tCNv => k_is)
    (case u242 => k_is)
    (case u243 => k_is)
    (case u244 => k_is)
    (case uh_an1 => k_is)
    (case uh_an3 => k_is)
    (case u245 => k_is)
    (case u246 => k_is)
    (case u247 => k_is)
    (case uh_cq2 => k_is)
    (case uh_cq3 => k_is)
    (case u248 => k_is)
    (case u249 => k_is)
    (case u250 => k_is)
    (case uh_gg3 => k_is)
    (case uh_gg4 => k_is)
    (case uh_gg5 => k_is)
    (case uh_gg6 => k_is)
    (case u251 => k_is)
    (case u252 => k_is)
    (case u253 => k_is)
    (case u254 => k_is)
    (case u255 => k_is)
    (case u256 => k_is)
    (case u257 => k_is)
    (case u258 => k_is)
    (case uh_mRES => k_is)
    (case u259 => k_is)
    (case u260 => k_is)
    (case u261 => k_is)
    (case u262 => k_is)
    (case u263 => k_is)
    (case u264 => k_is)
    (case u265 => k_is)
    (case u266 => k_is)
    (case u267 => k_is)
    (case u268 => k_is)
    (case u269 => k_is)
    (case u270 => k_is)
    (case u271 => k_is)
    (case u272 => k_is)
    (case u273 => k_is)
    (case u274 => k_is)
    (case u275 => k_is)
    (case u276 => k_is)
    (case u277 => k_is)
    (case u278 => k_is)
    (case u279 => k_is)
    (case u280 => k_is)
    (case u281 => k_is)
    (case u282 => k_is)
    (case u283 => k_is)
    (case u284 => k_is)
    (case u285 => k_is)
    (case u286 => k_is)
    (case u287 => k_is)
    (case u288 => k_is)
    (case u289 => k_is)
    (case u290 => k_is)
    (case u291 => k_is)
    (case u292 => k_is)
    (case u293 => k_is)
    (case u294 => k_is)
    (case u295 => k_is)
    (case u296 => k_is)
    (case u297 => k_is)
    (case u298 => k_is)
    (case u299 => k_is)
    (case u300 => k_is)
    (case u301 => k_is)
    (case u302 => k_is)
    (case u303 => k_is)
    (case u304 => k_is)
    (case u305 => k_is)
    (case u306 => k_is)
    (case u307 => k_is)
    (case u308 => k_is)
    (case u309 => k_is)
    (case u310 => k_is)
    (case u311 => k_is)
    (case u312 => k_is)
    (case u313 => k_is)
    (case u314 => k_is)
    (case u315 => k_is)
    (case u316 => k_is)
    (case u317 => k_is)
    (case u318 => k_is)
    (case u319 => k_is)
    (case u320 => k_is)
    (case u321 => k_is)
    (case u322 => k_is)
    (case u323 => k_is)
    (case u324 => k_is)
    (case u325 => k_is)
    (case u326 => k_is)
    (case u327 => k_is)
    (case u328 => k_is)
    (case u329 => k_is)
    (case u330 => k_is)
    (case u331 => k_is)
    (case u332 => k_is)
    (case u333 => k_is)
    (case u334 => k_is)
    (case u335 => k_is)
    (case u336 => k_is)
    (case u337 => k_is)
    (case u338 => k_is)
    (case u339 => k_is)
    (case u340 => k_is)
    (case u341 => k_is)
    (case u342 => k_is)
    (case u343 => k_is)
    (case u344 => k_is)
    (case u345 => k_is)
    (case u346 => k_is)
    (case u347 => k_is)
    (case u348 => k_is)
    (case u349 => k_is)
    (case u350 => k_is)
    (case u351 => k_is)
    (case u352 => k_is)
    (case u353 => k_is)
    (case u354 => k_is)
    (case u355 => k_is)
    (case u356 => k_is)
    (case u357 => k_is)
    (case u358 => k_is)
    (case u359 => k_is)
    (case u360 => k_is)
    (case u361 => k_is)
    (case u362 => k_is)
    (case u363 => k_is)
    (case u364 => k_is)
    (case u365 => k_is)
    (case u366 => k_is)
    (case u367 => k_is)
    (case u368 => k_is)
    (case u369 => k_is)
    (case u370 => k_is)
    (case u371 => k_is)
    (case u372 => k_is)
    (case u373 => k_is)
    (case u374 => k_is)
    (case u375 => k_is)
    (case u376 => k_is)
    (case u377 => k_is)
    (case u378 => k_is)
    (case u379 => k_is)
    (case u380 => k_is)
    (case u381 => k_is)
    (case u382 => k_is)
    (case u383 => k_is)
    (case u384 => k_is)
    (case u385 => k_is)
    (case u386 => k_is)
    (case u387 => k_is)
    (case u388 => k_is)
    (case u389 => k_is)
    (case u390 => k_is)
    (case u391 => k_is)
    (case u392 => k_is)
    (case u393 => k_is)
    (case u394 => k_is)
    (case u395 => k_is)
    (case u396 => k_is)
    (case u397 => k_is)
    (case u398 => k_is)
    (case u399 => k_is)
    (case u400 => k_is)
    (case u401 => k_is)
    (case u402 => k_is)
    (case u403 => k_is)
    (case u404 => k_is)
    (case u405 => k_is)
    (case u406 => k_is)
    (case u407 => k_is)
    (case u408 => k_is)
    (case u409 => k_is)
    (case u410 => k_is)
    (case u411 => k_is)
    (case u412 => k_is)
    (case u413 => k_is)
    (case u414 => k_is)
    (case u415 => k_is)
    (case u416 => k_is)
    (case u417 => k_is)
    (case u418 => k_is)
    (case u419 => k_is)
    (case u420 => k_is)
    (case u421 => k_is)
    (case u422 => k_is)
    (case u423 => k_is)
    (case u424 => k_is)
    (case u425 => k_is)
    (case u426 => k_is)
    (case u427 => k_is)
    (case u428 => k_is)
    (case u429 => k_is)
    (case u430 => k_is)
    (case u431 => k_is)
    (case u432 => k_is)
    (case u433 => k_is)
    (case u434 => k_is)
    (case u435 => k_is)
    (case u436 => k_is)
    (case u437 => k_is)
    (case u438 => k_is)
    (case u439 => k_is)
    (case u440 => k_is)
    (case u441 => k_is)
    (case u442 => k_is)
    (case u443 => k_is)
    (case u444 => k_is)
    (case u445 => k_is)
    (case u446 => k_is)
    (case u447 => k_is)
    (case u448 => k_is)
    (case u449 => k_is)
    (case u450 => k_is)
    (case u451 => k_is)
    (case u452 => k_is)
    (case u453 => k_is)
    (case u454 => k_is)
    (case u455 => k_is)
    (case u456 => k_is)
    (case u457 => k_is)
    (case u458 => k_is)
    (case u459 => k_is)
    (case u460 => k_is)
    (case u461 => k_is)
    (case u462 => k_is)
    (case u463 => k_is)
    (case u464 => k_is)
    (case u465 => k_is)
    (case u466 => k_is)
    (case u467 => k_is)
    (case u468 => k_is)
    (case u469 => k_is)
    (case u470 => k_is)
    (case u471 => k_is)
    (case u472 => k_is)
    (case u473 => k_is)
    (case u474 => k_is)
    (case u475 => k_is)
    (case u476 => k_is)
    (case u477 => k_is)
    (case u478 => k_is)
    (case u479 => k_is)
    (case u480 => k_is)
    (case u481 => k_is)
    (case u482 => k_is)
    (case u483 => k_is)
    (case u484 => k_is)
    (case u485 => k_is)
    (case u486 => k_is)
    (case u487 => k_is)
    (case u488 => k_is)
    (case u489 => k_is)
    (case u490 => k_is)
    (case u491 => k_is)
    (case u492 => k_is)
    (case u493 => k_is)
    (case u494 => k_is)
    (case u495 => k_is)
    (case u496 => k_is)
    (case u497 => k_is)
    (case u498 => k_is)
    (case u499 => k_is)
    (case u500 => k_is)
    (case u501 => k_is)
    (case u502 => k_is)
    (case u503 => k_is)
    (case u504 => k_is)
    (case u505 => k_is)
    (case u506 => k_is)
    (case u507 => k_is)
    (case u508 => k_is)
    (case u509 => k_is)
    (case u510 => k_is)
    (case u511 => k_is)
    (case u512 => k_is)
    (case u513 => k_is)
    (case u514 => k_is)
    (case umL => k_is)
    (case ulL => k_is)
    (case ucL => k_is)
