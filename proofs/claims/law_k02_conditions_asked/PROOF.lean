import PyProof.Rows.All
import Wide.All
import OpenK.AllK
import Wide.FinOn
import HandS.ForMost
import HandS.SetBool
import HandS.SetTxt0
import HandS.Strs
import KE.GoesMore
import HandS.Iter
import HandS.ForExc
import HandS.Wide
import HandS.IsInst
import HandS.Flow
import HandS.Walk
import HandS.Text
import HandS.Conv
import HandS.Star
import HandS.TupAny
import HandS.ExcInit
import HandS.ExcValue
import HandS.ExcCtx
import HandS.HotCalls
import HandS.ExcIs
import HandS.ExcField
import KE.KExcIs
import OpenK.KMeth
import HandS.Deep
import HandS.Small
import PyProof.ReprRoads
import PyProof.ReprLen
import PyProof.FitsInt
import HandS.Style
import PySem.Challenge.RW_contractheirs_k02_conditions_asked
set_option Elab.async false
set_option linter.all false
set_option maxRecDepth 100000
set_option maxHeartbeats 8000000
namespace Kx
open PySem L2 PySem.Spec PyProof.Rows PySem.Froz
/-! sets of texts that can be walked and sorted -/
structure GoodX (P : Program) (w : World) (D : SD) (l : List Str) : Prop where
  tx : TxOk P w D l
  nd : l.Nodup
  ris : Ris D.2.2.place.toList
  led : w.params.followText "set-order" = true ∨ D.2.2.led = true
theorem tailTx_ris {ep : Nat} {es : Array (Int × Value)} {t : SetTable} {b : Bool} (r : Ris t.place.toList) : Ris (tailTx ep es t b).2.2.place.toList := by
  unfold tailTx
  by_cases c : (!b && t.tooFull) = true
  · rw [if_pos c]; exact relayAll_ris _ _ _
  · rw [if_neg c]; exact r
theorem tailTx_led {ep : Nat} {es : Array (Int × Value)} {t : SetTable} {b : Bool} : (tailTx ep es t b).2.2.led = t.led := by
  unfold tailTx
  by_cases c : (!b && t.tooFull) = true
  · rw [if_pos c]; exact relayAll_led _ _ _
  · rw [if_neg c]
theorem off_ris {t : SetTable} (r : Ris t.place.toList) : Ris (if t.plain = true then { t with plain := false } else t).place.toList := by
  by_cases c : t.plain = true
  · rw [if_pos c]; exact r
  · rw [if_neg c]; exact r
theorem off_led {t : SetTable} : (if t.plain = true then { t with plain := false } else t).led = t.led := by
  by_cases c : t.plain = true
  · rw [if_pos c]
  · rw [if_neg c]
theorem addTx_ris {hh : Int} {v : Value} {D : SD} (r : Ris D.2.2.place.toList) : Ris (addTx hh v D).2.2.place.toList := by
  unfold addTx
  exact tailTx_ris (off_ris (layNew_ris _ _ _ _ r))
theorem addTx_led {hh : Int} {v : Value} {D : SD} : (addTx hh v D).2.2.led = D.2.2.led := by
  unfold addTx
  rw [tailTx_led, off_led, layNew_led]
theorem GoodX.add {P : Program} {w : World} {D : SD} {l : List Str} {k : Str} (u : Tok) (G : GoodX P w D l) (hk : k ∉ l) : GoodX P w (addTx (hashStr w k) (.str k u) D) (k :: l) :=
  ⟨add_ok u G.tx, List.nodup_cons.mpr ⟨hk, G.nd⟩, addTx_ris G.ris, G.led.imp id fun z => by rw [addTx_led]; exact z⟩
section
variable {P : Program} {w : World} {A : Around} {E : Value → Shared → Prop} {s : Shared}
theorem add_old {a : Addr} {D : SD} {l : List Str} {k : Str} {u : Tok} {Q : Bool → Shared → Prop} (ho : s.heap.get? a = some (sObj "set" D)) (F : TxOk P w D l) (hk : k ∈ l) (hb : l.length < scanBound)
    (h : Q false s) : wpAny (model P w) A (setAddHashed a (.str k u) (hashStr w k)) Q E s := by
  obtain ⟨es, ep, t⟩ := D
  have hd : (sObj "set" (es, ep, t)).data = .set es ep t := rfl
  have hf : t.fits es.size = true := F.fit
  have he : ElemsOf (strKind P w) es.toList := F.el
  have hz : es.size < scanBound := by rw [show es.size = l.length from F.sz]; exact hb
  unfold setAddHashed setAddHashedIn
  refine wpAny_holding (wpAny_bind (wpAny_setState_of ho hd hf ?_))
  dsimp only
  rw [byScan_of rfl hz he]
  simp only [↓reduceIte]
  unfold setAddByScan
  refine wpAny_bind (wpAny_bind (wpAny_rule (wpAny_bind (wpAny_setScan_of (knd := strKind P w) (k := k) (is_str k u) ho hd hf he ?_))))
  cases hr : List.findIdx? (fun e => (strKind P w).is k e.2) es.toList with
  | some j => exact wpAny_pure (wpAny_pure h)
  | none =>
    obtain ⟨e, hm, q⟩ := (F.mem k).mp hk
    have c := List.findIdx?_eq_none_iff.mp hr e hm
    rw [q] at c
    cases c
end
/-- the set of texts at a: its members, each once -/
def TxAt (P : Program) (w : World) (h : Heap) (a : Addr) (l : List Str) : Prop := ∃ D, h.get? a = some (sObj "set" D) ∧ GoodX P w D l
/-- a text put into a list of texts -/
def put (l : List Str) (k : Str) : List Str := if k ∈ l then l else k :: l
theorem mem_put {l : List Str} {k x : Str} : x ∈ put l k ↔ x ∈ l ∨ x = k := by
  unfold put
  by_cases h : k ∈ l
  · rw [if_pos h]
    exact ⟨.inl, fun z => z.elim id fun e => e ▸ h⟩
  · rw [if_neg h, List.mem_cons]
    exact Or.comm
theorem put_len {l : List Str} {k : Str} : (put l k).length ≤ l.length + 1 := by
  unfold put
  by_cases h : k ∈ l
  · rw [if_pos h]; exact Nat.le_succ _
  · rw [if_neg h]; exact Nat.le_refl _
section
variable {P : Program} {w : World} {A : Around} {E : Value → Shared → Prop} {s : Shared}
theorem txAt_new {h : Heap} : TxAt P w (h.push { cls := .type "set", dict := none, data := .set #[] 0 (.fresh 0 0 (!w.params.followText "set-order")) }) h.objs.size [] :=
  ⟨(#[], 0, .fresh 0 0 (!w.params.followText "set-order")), Heap.get?_push_size _ rfl, TxOk.nil rfl, List.nodup_nil, List.Pairwise.nil, by
    show _ ∨ (!w.params.followText "set-order") = true
    cases w.params.followText "set-order"
    · exact .inr rfl
    · exact .inl rfl⟩
/-- found.add(k) -/
theorem tx_add {a : Addr} {l : List Str} {k : Str} {u : Tok} {Q : Value → Shared → Prop} (R : TxAt P w s.heap a l) (room : l.length + 1 < scanBound)
    (hQ : ∀ h' : Heap, Heap.SameBut a s.heap h' → TxAt P w h' a (put l k) → Q .none { s with heap := h', toks := s.toks + 1 }) :
    wpAny (model P w) A (call (.builtin "set.add") [.ref a, .str k u]) Q E s := by
  obtain ⟨D, ho, G⟩ := R
  have hT : s.TypeIs (.ref a) "set" := ⟨_, ho, rfl⟩
  refine wpAny_call_entry F.slot_set_add hT F.entry_set_add ?_ (F.args_set_add_2 _ _)
  unfold Builtin.«set.add» Builtin.Frozenset.oneOther
  simp only [List.isEmpty_nil, bind_assoc]
  unfold Builtin.Frozenset.addrOf setAdd
  refine wpAny_bind (wpAny_pure ?_)
  try dsimp only
  refine wpAny_bind (wpAny_pure ?_)
  try dsimp only
  refine wpAny_bind (wpAny_holding (wpAny_bind ((strKind P w).pyHash (is_str k u) ?_)))
  by_cases hk : k ∈ l
  · refine add_old (s := { s with toks := s.toks + 1 }) ho G.tx hk (by omega) ?_
    have q := hQ s.heap (Heap.SameBut.refl a s.heap) ⟨D, ho, by unfold put; rw [if_pos hk]; exact G⟩
    show wpAny _ _ (ret Value.none) _ _ _
    exact wpAny_pure ⟨_, rfl, q⟩
  · refine add_x (s := { s with toks := s.toks + 1 }) ho G.tx hk room ?_
    have q := hQ _ (Heap.SameBut.update s.heap a (fun _ => sObj "set" (addTx (hashStr w k) (.str k u) D))) ⟨_, get_upd _ ho rfl, by unfold put; rw [if_neg hk]; exact G.add u hk⟩
    show wpAny _ _ (ret Value.none) _ _ _
    exact wpAny_pure ⟨_, rfl, q⟩
theorem strs_of_kind {l : List Str} {D : SD} (F : TxOk P w D l) : ∀ v ∈ D.1.toList.map (·.2), ∃ x t, v = Value.str x t := fun v hv => by
  obtain ⟨e, he, rfl⟩ := List.mem_map.mp hv
  obtain ⟨⟨k, h1, _⟩, _⟩ := F.el e he
  obtain ⟨t, z⟩ := Value.isStrOf_shape (x := k) (v := e.2) h1
  exact ⟨k, t, z⟩
def txt : Value → Str
  | .str x _ => x
  | _ => ⟨#[]⟩
theorem strsAre_txt : ∀ {vs : List Value}, (∀ v ∈ vs, ∃ x t, v = Value.str x t) → StrsAre vs (vs.map txt)
  | [], _ => .nil
  | v :: vs, h => by
    obtain ⟨x, t, rfl⟩ := h v List.mem_cons_self
    exact .cons x t (strsAre_txt fun u hu => h u (List.mem_cons_of_mem _ hu))
theorem perm_of_sub : ∀ {l m : List Str}, l.Nodup → (∀ x ∈ l, x ∈ m) → m.length = l.length → m.Perm l
  | [], m, _, _, h => by
    rw [List.eq_nil_of_length_eq_zero h]
  | x :: l, m, nd, sub, h => by
    obtain ⟨n1, n2⟩ := List.nodup_cons.mp nd
    have hx : x ∈ m := sub x List.mem_cons_self
    have p := List.perm_cons_erase hx
    have hl : (m.erase x).length = l.length := by
      have q := p.length_eq
      rw [List.length_cons] at q h
      omega
    refine p.trans (List.Perm.cons x (perm_of_sub n2 (fun y hy => ?_) hl))
    have ne : y ≠ x := fun e => n1 (e ▸ hy)
    exact (List.mem_erase_of_ne ne).mpr (sub y (List.mem_cons_of_mem _ hy))
/-- sorted(found), fewer than 64 members -/
theorem tx_sorted {a : Addr} {l : List Str} {Q : Value → Shared → Prop} (R : TxAt P w s.heap a l) (hh : A.handled = none) (h64 : l.length < 64)
    (hQ : ∀ (s' : Shared) (p : Addr) (out : Array Value) (c : Nat) (ys : List Str), (∀ b o, s.heap.get? b = some o → s'.heap.get? b = some o) → s'.gens = s.gens → s'.os = s.os → s.heap.objs.size ≤ p →
      s'.heap.get? p = some (seqObj "list" out c) → StrsAre out.toList ys → sortedS ys = true → ys.Perm l → Q (.ref p) s') :
    wpAny (model P w) A (call (.builtin "sorted") [.ref a]) Q E s := by
  obtain ⟨⟨es, ep, t⟩, ho, G⟩ := R
  have hz : es.size = l.length := G.tx.sz
  have lim : scanBound > 64 := by decide
  refine Calls.call_function_entry kind_sorted plain_sorted entry_sorted (args_sorted1 _) ?_
  unfold Builtin.«sorted»
  refine wpAny_bind (m := checkCount "sorted" 1 1 _) (wpAny_pure ?_)
  refine wpAny_bind (collect_set (A := A.in1) hh ⟨_, ho, rfl, rfl⟩ G.tx.fit (by show es.size < _; omega) G.ris G.led fun s1 vs k1 z1 g1 o1 pm => ?_)
  have pm' : vs.Perm (es.toList.map (·.2)) := pm
  have hvl : vs.length = l.length := by rw [pm'.length_eq, List.length_map, Array.length_toList]; exact hz
  have hstr : ∀ v ∈ vs, ∃ x t, v = Value.str x t := fun v hv => strs_of_kind G.tx v (pm'.mem_iff.mp hv)
  have hS := strsAre_txt hstr
  have hperm : (vs.map txt).Perm l := (pm'.map txt).trans <| perm_of_sub G.nd (fun x hx => by
      obtain ⟨e, he, q⟩ := (G.tx.mem x).mp hx
      obtain ⟨t', z⟩ := Value.isStrOf_shape (x := x) (v := e.2) q
      exact List.mem_map.mpr ⟨e.2, List.mem_map.mpr ⟨e, he, rfl⟩, by rw [z]; rfl⟩) (by rw [List.length_map, List.length_map, Array.length_toList]; exact hz)
  refine wpAny_bind (wpAny_newList ?_ (by rw [hvl, sizeLine_eq]; omega))
  have hoL : (s1.heap.push (seqObj "list" vs.toArray 0)).get? s1.heap.objs.size = some (seqObj "list" vs.toArray 0) := Heap.get?_push_size _ rfl
  refine wpAny_bind (wpAny_holding (wpAny_call_entry slot_list_sort ⟨_, hoL, rfl⟩ entry_list_sort
    (list_sort_treeK strKind_oneLt hoL hS.keysOf (fun v₁ v₂ rest e => keyKind_strs (by rw [← e]; exact hS)) (by rw [hvl]; exact h64) fun st' a1 a2 => ⟨_, rfl, ?_⟩) (args_list_sort _)))
  obtain ⟨ys, b1, b2, b3⟩ := sorted_out_str hS a1 a2
  obtain ⟨c, hc⟩ := sortedHeap_at (vs := vs) (out := (arrOf st').map (·.2)) hoL
  refine wpAny_pure ⟨_, rfl, hQ _ s1.heap.objs.size _ c ys (fun b u e => ?_) g1 o1 z1 hc b1 b3 (b2.trans hperm)⟩
  have q := k1 b u e
  have hlt := Heap.lt_size q
  show (sortedHeap (s1.heap.push (seqObj "list" vs.toArray 0)) s1.heap.objs.size vs _).get? b = some u
  rw [sortedHeap_old (Nat.ne_of_lt hlt) (by rw [size_push']; exact Nat.lt_succ_of_lt hlt)]
  exact Heap.get?_push_of_some _ q
end
/-! ### as tracked things -/
def SetX (P : Program) (w : World) (a : Addr) (l : List Str) : HO := .ext fun h => TxAt P w h a l
theorem setX_new {w : World} {P : Program} {H : Hp} {h : Heap} {a : Addr} {l : List Str} (R : TxAt P w h a l) : ObjOk P w H h a (SetX P w a l) := by
  obtain ⟨D, ho, G⟩ := R
  exact ⟨⟨D, ho, G⟩, ⟨_, ho⟩, fun h1 h2 p k => let ⟨D', ho', G'⟩ := p; ⟨D', k _ ho', G'⟩⟩
section
variable {X : Cx}
theorem setX_get {pins : List (Addr × Obj)} {σ : L2.St} {H : Hp} {s : Shared} {a : Addr} {l : List Str} (I : Inv X pins σ H s) (ha : H a = some (SetX X.prog X.w a l)) : TxAt X.prog X.w s.heap a l := (I.hok a _ ha).1
theorem addX_ok {pins : List (Addr × Obj)} {σ : L2.St} {H : Hp} {s : Shared} {E : Value → Shared → Prop} {D : Addr} {l : List Str} {k : Str} {u : Tok} {Q : Value → Shared → Prop} (I : Inv X pins σ H s) (hD : H D = some (SetX X.prog X.w D l)) (room : l.length + 1 < scanBound)
    (h : ∀ s', Inv X pins σ (upd H D (SetX X.prog X.w D (put l k))) s' → Q .none s') : wpAny (model X.prog X.w) X.A (call (.builtin "set.add") [.ref D, .str k u]) Q E s := by
  refine tx_add (setX_get I hD) room fun h' sb new => ?_
  have he : ∃ u, h'.get? D = some u := let ⟨_, ho, _⟩ := new; ⟨_, ho⟩
  exact h _ (I.write (e := D) (t' := s.toks + 1) (by rw [hD]; trivial) (.inl rfl) (fun b u hb hu => (sb.2 b hb).trans hu) he (setX_new new))
def rSortedX (P : Program) (w : World) : List V → Hp → VK → Prop := fun vs H Q => ∃ (a : Addr) (l : List Str), vs = [V.ref a] ∧ H a = some (SetX P w a l) ∧ l.length < 64 ∧
  ∀ (ys : List Str) (p : Addr), sortedS ys = true → ys.Perm l → H p = none → Q (.ref p) (upd H p (.lst (ys.map V.str)))
theorem cr_sortedX (hc : X.calm = true) : CallR X (.builtin "sorted") (rSortedX X.prog X.w) := by
  intro pins s σ H vs us Q I r h
  obtain ⟨a, l, rfl, ha, h64, q⟩ := h
  rw [Vals.ref1 r]
  refine tx_sorted (setX_get I ha) (I.ok.hd hc) h64 fun s' p out c ys k g o hp hg hi hs hl => ?_
  have hlen : (ys.map V.str).length ≤ sizeLine := by rw [List.length_map, hl.length_eq, sizeLine_eq]; omega
  have hn : H p = none := I.hok.fresh hp
  have J : Inv X pins σ (upd H p (.lst (ys.map V.str))) { s with heap := s'.heap, gens := s'.gens, drawn := s'.drawn, toks := s'.toks } :=
    I.call (ch := []) (Un.laid k hp hn) (I.hok.laid k hp ⟨hlen, out.toList, c, vals_of_strs hi, hg⟩) (by rw [g]; exact I.bare) (fun _ z => nomatch z)
  have e : s' = { s with heap := s'.heap, gens := s'.gens, drawn := s'.drawn, toks := s'.toks } := by
    cases s'; cases s; cases o; rfl
  rw [e]
  exact ⟨.ref p, _, J, rfl, q ys p hs hl hn⟩
end
end Kx
namespace Kx
open PySem L2 PySem.Spec PyProof.Rows PpSet
/-! set comprehensions of texts, with several clauses -/
/-- one turn of a clause, whatever is done with an element that passes -/
def turnOf (tg : Expr) (pos : Pos) (ifs : List Expr) (body : Sem Unit) (c : Expr) (j : Nat) (it acc : Value) (env : Env) : Sem Fin := do
  standAt pos
  match ← pyNext it with
  | none => pure (.done .next)
  | some v =>
    letOwnedTupleGo tg it v
    assign tg env v
    let mut ok := true
    for c in ifs do
      if ok then ok ← isTrue c env (eval c env)
    if ok then body
    again (.compLoop c j it acc env)
abbrev testsOf (ifs : List Expr) (env : Env) : Sem Bool := forIn ifs true fun c r => if r = true then do let ok ← isTrue c env (eval c env); pure (ForInStep.yield ok) else pure (ForInStep.yield r)
section
variable {P : Program} {w : World} {A : Around} {R : Result → Shared → Prop} {s : Shared} {elt tg : Expr} {gs : List Comprehension} {scope : Scope} {cp : Pos} {j : Nat} {ifs : List Expr} {pos : Pos} {it acc : Value} {env : Env} {body : Sem Unit}
abbrev NoE : Value → Shared → Prop := fun _ _ => False
theorem loop_gen (hturn : compTurn (.SetComp elt gs scope cp) j it acc env = turnOf tg pos ifs body (.SetComp elt gs scope cp) j it acc env) (I : Nat → Shared → Prop)
    (turn : ∀ n s, I n s → wpAny (model P w) A (pyNext it) (fun r s1 => match r with
      | none => R (.ok .next) s1
      | some v => wpAny (model P w) A (letOwnedTupleGo tg it v) (fun _ s2 => wpAny (model P w) A (assign tg env v) (fun _ s3 => wpAny (model P w) A (testsOf ifs env) (fun ok s4 =>
          if ok = true then wpAny (model P w) A body (fun _ s5 => ∃ m, m < n ∧ I m s5) NoE s4 else ∃ m, m < n ∧ I m s4) NoE s3) NoE s2) NoE s1) NoE s)
    (n : Nat) (h : I n s) : codeAny (model P w) A (.compLoop (.SetComp elt gs scope cp) j it acc env) R s := by
  refine codeAny_loop rfl I (fun n s hI => ?_) n h
  show wpAny _ A ((compTurn (.SetComp elt gs scope cp) j it acc env).onRaise (fun x => do noteFrame x env; theTreesLotGoes x)) _ _ s
  refine wpAny_noted ?_
  rw [hturn]
  unfold turnOf
  refine wpAny_bind (wpAny_standAt (wpAny_bind (thnF (turn n s hI) fun r s1 h1 => ?_)))
  cases r with
  | none => exact wpAny_pure h1
  | some v =>
    refine wpAny_bind (thnF h1 fun _ s2 h2 => ?_)
    refine wpAny_bind (thnF h2 fun _ s3 h3 => wpAny_bind (thnF h3 fun ok s4 h4 => ?_))
    cases ok with
    | false => exact wpAny_pure ⟨rfl, h4⟩
    | true => exact wpAny_bind (thnF h4 fun _ s5 h5 => wpAny_pure ⟨rfl, h5⟩)
end
abbrev TB := L2.St → Hp → (Hp → Prop) → Prop
/-- what is done with an element, in a block -/
structure PB (Y : Cx) (body : Sem Unit) (vs : List Nat) (tb : TB) : Prop where
  run : ∀ (pins : List (Addr × Obj)) (s : Shared) (σ : L2.St) (H : Hp) (Q : Hp → Prop), Inv Y pins σ H s → tb σ H Q → wpAny (model Y.prog Y.w) Y.A body (fun _ s' => ∃ H', Inv Y pins (wipe σ vs) H' s' ∧ Q H') NoE s
def tElt (P : Program) (w : World) (te : TE) (D : Addr) : TB := fun σ H Q => te σ H fun y H1 => ∃ (l : List Str) (k : Str), y = .str k ∧ H1 D = some (SetX P w D l) ∧ l.length + 1 < scanBound ∧ Q (upd H1 D (SetX P w D (put l k)))
def tNest (wi : TI) (g : TG) (tt : TT) (tb : TB) (vs : List Nat) : TB := fun σ H Q => wi σ H fun J H1 => ∃ W : Nat → Nat → Hp → Prop, (∃ m, W 0 m H1) ∧ ∀ i m H, W i m H →
  (J.stop i H ∧ Q H) ∨ (J.go i H ∧ ∃ Nx : Hp → Prop, (∀ H', Nx H' → ∃ m', m' < m ∧ W (i + 1) m' H') ∧ ∀ x H', J.yld i H x H' → g x (wipe σ vs) H' fun σ2 H2 => wipe σ2 vs = wipe σ vs ∧ tt σ2 H2 fun b H3 => if b = true then tb σ2 H3 Nx else Nx H3)
section
variable {Y : Cx} {elt tg iter ee : Expr} {gs : List Comprehension} {scope : Scope} {cp : Pos} {ifs : List Expr} {te : TE} {D : Addr} {wi : TI} {g : TG} {tt : TT} {tb : TB} {vs vs' : List Nat} {j : Nat} {acc : Value} {body : Sem Unit}
theorem pb_elt (hx : Y.xe = NoE) (he : PE Y elt te) : PB Y (do let v ← eval elt Y.env; standAt elt.pos; let _ ← call (.builtin "set.add") [.ref D, v]) [] (tElt Y.prog Y.w te D) := by
  refine ⟨fun pins s σ H Q I h => ?_⟩
  have z := he.run pins s σ H _ I h
  rw [hx] at z
  refine wpAny_bind (thnF z fun u s1 ⟨y, H1, I1, r, l, k, e, hD, room, q⟩ => wpAny_bind (wpAny_standAt ?_))
  subst e
  obtain ⟨t, rfl⟩ := r
  exact wpAny_bind (addX_ok I1 hD room fun s2 I2 => wpAny_pure ⟨_, I2, q⟩)
/-- a further clause's start -/
def StartOk (c : Expr) (j : Nat) (acc : Value) (env : Env) : Prop := ∀ (P : Program) (w : World) (A : Around) (R : Result → Shared → Prop) (s : Shared) (it : Value), codeAny (model P w) A (.compLoop c j it acc env) R s →
  (∀ E, wpAny (model P w) A (pyIter it) (fun it' s' => codeAny (model P w) A (.compLoop c j it' acc env) R s') E s) → codeAny (model P w) A (.compStart c j it acc env) R s
theorem pb_nest (sub : ∀ i ∈ vs', i ∈ vs) (hc : Y.calm = true) (hx : Y.xe = NoE) (hi : PI Y tg iter wi) (hg : PG Y tg g) (ht : PTs Y ifs tt) (hb : PB Y body vs' tb) (hs : ∀ x, foldedSetIterable iter Y.env x = pure x)
    (hturn : ∀ it, compTurn (.SetComp ee gs scope cp) j (.ref it) acc Y.env = turnOf tg iter.pos ifs body (.SetComp ee gs scope cp) j (.ref it) acc Y.env) (hst : StartOk (.SetComp ee gs scope cp) j acc Y.env) :
    PB Y (do let x ← eval iter Y.env; standAt iter.pos; let x ← foldedSetIterable iter Y.env x; let _ ← runOwn (.compStart (.SetComp ee gs scope cp) j (← holding [x] (pyIter x)) acc Y.env) Y.env) vs (tNest wi g tt tb vs) := by
  refine ⟨fun pins s σ H Q I h => ?_⟩
  have z := hi.run pins s σ H _ I h
  rw [hx] at z
  refine wpAny_bind (thnF z fun xv s1 hv => ?_)
  refine wpAny_bind (wpAny_standAt (wpAny_bind (wpAny_of_eq (hs xv) (wpAny_bind (wpAny_holding (thnF hv fun itv s2 h2 => ?_))))))
  obtain ⟨it, fp, tn, J, H1, e, I1, T, st, fo, W, ⟨m0, w0⟩, turn⟩ := h2
  subst e
  refine wpAny_bind (wpAny_runOwn ?_)
  rw [Around.mark_none]
  have stat : ∀ {H' : Hp}, (∀ b ∈ fp, H' b = none) → ∀ b ∈ fp, FpOk Y pins H' b := fun hn b hb => ⟨hn b hb, (fo b hb).2⟩
  have loop : codeAny (model Y.prog Y.w) Y.A (.compLoop (.SetComp ee gs scope cp) j (.ref it) acc Y.env) (fun r s' => match r with
      | .ok _ => ∃ H', Inv Y pins (wipe σ vs) H' s' ∧ Q H'
      | .error _ => False) s2 := by
    refine loop_gen (hturn it) (fun k s' => ∃ i H', Inv Y pins (wipe σ vs) H' s' ∧ tn i s'.heap ∧ (∀ b ∈ fp, H' b = none) ∧ W i k H') ?_ m0 ⟨0, H1, I1.weak (wipe_length _ _) (fun j v e => (wipe_some e).1), st, fun b hb => (fo b hb).1, w0⟩
    rintro k s3 ⟨i, H3, I3, st3, n3, w3⟩
    rcases turn i k H3 w3 with ⟨stop, q⟩ | ⟨go, Nx, hNx, step⟩
    · refine thnF (T.done Y rfl rfl rfl hc i _ s3 (wipe σ vs) H3 NoE I3 (stat n3) st3 stop) fun r s4 ⟨hr, I4⟩ => ?_
      subst hr
      exact ⟨H3, I4, q⟩
    · refine thnF (T.item Y rfl rfl rfl hc i _ s3 (wipe σ vs) H3 NoE I3 (stat n3) st3 go) fun r s4 ⟨u, hr, h4⟩ => ?_
      subst hr
      refine thnF h4 fun _ s5 ⟨x, H5, I5, r5, y5, st5, n5⟩ => ?_
      have I5' := I5.pinned (stat n5) (T.obj _ _ st5)
      have z6 := hg.run _ s5 (wipe σ vs) H5 x u _ I5' r5 (step x H5 y5)
      rw [hx] at z6
      refine thnF z6 fun _ s6 ⟨σ6, H6, I6, hw, q6⟩ => ?_
      have z7 := ht.run _ s6 σ6 H6 _ I6 q6
      rw [hx] at z7
      refine thnF z7 fun b s7 ⟨H7, I7, q7⟩ => ?_
      have fin : ∀ {vs1 : List Nat} {s' : Shared} {H' : Hp}, (∀ i ∈ vs1, i ∈ vs) → Inv Y (pins ++ pinsAt fp s5.heap) (wipe σ6 vs1) H' s' → Nx H' → ∃ m, m < k ∧ ∃ i H', Inv Y pins (wipe σ vs) H' s' ∧ tn i s'.heap ∧ (∀ b ∈ fp, H' b = none) ∧ W i m H' := fun {vs1 s' H'} hv I' nx => by
        obtain ⟨m', hm, w'⟩ := hNx H' nx
        have pin' : ∀ b ∈ fp, ∀ o, s5.heap.get? b = some o → s'.heap.get? b = some o ∧ H' b = none := fun b hb o e =>
          let z := I'.pin (b, o) (List.mem_append_right _ (List.mem_append_right _ (mem_pinsAt hb e)))
          ⟨z.1, z.2.1⟩
        refine ⟨m', hm, i + 1, H', I'.unpinned.weak (by rw [← hw, wipe_length, wipe_length]) (fun j v e => ?_), T.keep _ _ _ st5 fun b hb o e => (pin' b hb o e).1, fun b hb => ?_, w'⟩
        · rw [← hw] at e
          obtain ⟨e1, e2⟩ := wipe_some e
          rw [wipe_out fun z => e2 (hv j z)]
          exact e1
        · obtain ⟨o, e, _⟩ := T.obj _ _ st5 b hb
          exact (pin' b hb o e).2
      cases b with
      | false =>
        simp only [Bool.false_eq_true, if_false] at q7 ⊢
        exact fin (vs1 := []) (fun i z => nomatch z) I7 q7
      | true =>
        simp only [if_true] at q7 ⊢
        exact thnF (hb.run _ s7 σ6 H7 _ I7 q7) fun _ s8 ⟨H8, I8, q8⟩ => fin sub I8 q8
  refine codeAny_mono (hst _ _ _ _ _ _ loop fun E => T.self Y.A 0 _ _ _ st loop) fun r s' hr => ?_
  cases r with
  | ok f =>
    first
      | exact wpAny_pure hr
      | exact wpAny_bind (wpAny_pure (wpAny_pure hr))
  | error e => exact hr.elim
end
end Kx
namespace Kx
open PySem L2 PySem.Spec PyProof.Rows PpSet
def tScN (P : Program) (w : World) (wi : TI) (g : TG) (tt : TT) (tb : Addr → TB) (vs : List Nat) : TE := fun σ H Q => wi σ H fun J H1 => ∀ D, H1 D = none → ∃ W : Nat → Nat → Hp → Prop, (∃ m, W 0 m (upd H1 D (SetX P w D []))) ∧ ∀ i m H, W i m H →
  (J.stop i H ∧ Q (.ref D) H) ∨ (J.go i H ∧ ∃ Nx : Hp → Prop, (∀ H', Nx H' → ∃ m', m' < m ∧ W (i + 1) m' H') ∧ ∀ x H', J.yld i H x H' → g x (wipe σ vs) H' fun σ2 H2 => wipe σ2 vs = wipe σ vs ∧ tt σ2 H2 fun b H3 => if b = true then tb D σ2 H3 Nx else Nx H3)
section
variable {X : Cx} {elt tg iter : Expr} {ifs : List Expr} {gs : List Comprehension} {scope : Scope} {own : List (PySem.Str × Nat)} {cp : Pos} {wi : TI} {g : TG} {tt : TT} {tb : Addr → TB} {body : Addr → Env → Sem Unit} {vs' : List Nat}
theorem pe_scN (hc : X.calm = true) (hN : X.N.Nodup) (hi : PI X tg iter wi) (ok : BlkOk X.N X.env.scope scope own) (sub : ∀ i ∈ vs', i ∈ own.map (·.2))
    (hg : ∀ (s : Shared) (H : Hp) (C : Addr) (cl : List (PySem.Str × Addr)) (fp : List Addr), PG (X.blk s H scope (compEnvC scope cl C X.env) fp) tg g)
    (ht : ∀ (s : Shared) (H : Hp) (C : Addr) (cl : List (PySem.Str × Addr)) (fp : List Addr), PTs (X.blk s H scope (compEnvC scope cl C X.env) fp) ifs tt)
    (hb : ∀ (s : Shared) (H : Hp) (C : Addr) (cl : List (PySem.Str × Addr)) (fp : List Addr) (D : Addr), PB (X.blk s H scope (compEnvC scope cl C X.env) fp) (body D (compEnvC scope cl C X.env)) vs' (tb D))
    (hturn : ∀ it D env, compTurn (.SetComp elt (⟨tg, iter, ifs, 0⟩ :: gs) scope cp) 0 (.ref it) (.ref D) env = turnOf tg iter.pos ifs (body D env) (.SetComp elt (⟨tg, iter, ifs, 0⟩ :: gs) scope cp) 0 (.ref it) (.ref D) env)
    (hs : ∀ x, foldedSetIterable iter X.env x = pure x := by intro _; rfl) : PE X (.SetComp elt (⟨tg, iter, ifs, 0⟩ :: gs) scope cp) (tScN X.prog X.w wi g tt tb (own.map (·.2))) := by
  refine ⟨fun pins s σ H Q I h => ?_⟩
  rw [eval_SetComp]
  have fr : ∀ y ∈ scope.names, y.2 = .free → ∃ c, X.env.cells.lookup y.1 = some c := fun y hy e => I.ok.has _ (ok.free y hy e)
  refine wpAny_comprehension_free (use := none) rfl hs (closure_ok fr) ok.kind (fun y hy e => by rw [ok.uniq y hy, e]) (thn (hi.run pins s σ H _ I h) fun xv sa hx => thn hx fun itv sb hb' => ?_)
  obtain ⟨it, fp, tn, J, Hb, e, Ib, T, stb, fb, q⟩ := hb'
  subst e
  refine newSet_ok (newEnv_comp ?_)
  obtain ⟨D, hD⟩ : ∃ D, sb.heap.objs.size = D := ⟨_, rfl⟩
  have hDn : Hb D = none := Ib.hok.fresh (Nat.le_of_eq hD)
  obtain ⟨W, ⟨m0, w0⟩, turn⟩ := q D hDn
  obtain ⟨sc, hsc⟩ : ∃ sc : Shared, ({ sb with heap := sb.heap.push { cls := .type "set", dict := none, data := .set #[] 0 (.fresh 0 0 (!X.w.params.followText "set-order")) } } : Shared) = sc := ⟨_, rfl⟩
  have hch : sc.heap = sb.heap.push { cls := .type "set", dict := none, data := .set #[] 0 (.fresh 0 0 (!X.w.params.followText "set-order")) } := by rw [← hsc]
  have Ic : Inv X pins σ (upd Hb D (SetX X.prog X.w D [])) sc := by
    rw [← hsc]
    refine Ib.laid (t' := sb.toks) (fun b o z => Heap.get?_push_of_some _ z) (Nat.le_of_eq hD) ?_
    rw [← hD]
    exact setX_new txAt_new
  have lt : ∀ b ∈ fp, b < sb.heap.objs.size := fun b hb => let ⟨o, z, _⟩ := T.obj _ _ stb b hb; Heap.lt_size z
  have fc : ∀ b ∈ fp, FpOk X pins (upd Hb D (SetX X.prog X.w D [])) b ∧ b < sc.heap.objs.size := fun b hb =>
    ⟨⟨by rw [upd_ne (by rw [← hD]; exact Nat.ne_of_lt (lt b hb))]; exact (fb b hb).1, (fb b hb).2⟩, by rw [hch, Heap.size_push]; exact Nat.lt_succ_of_lt (lt b hb)⟩
  have stc : tn 0 sc.heap := T.keep _ _ _ stb fun b _ o z => by rw [hch]; exact Heap.get?_push_of_some _ z
  have Id0 := block_start Ic ok hN fc
  rw [hD]
  have pg := hg sc (upd Hb D (SetX X.prog X.w D [])) sc.heap.objs.size (cellsFrom (sc.heap.objs.size + 1) scope.names (cloFrom X.env.cells scope.names [])) fp
  have pt := ht sc (upd Hb D (SetX X.prog X.w D [])) sc.heap.objs.size (cellsFrom (sc.heap.objs.size + 1) scope.names (cloFrom X.env.cells scope.names [])) fp
  have pb := hb sc (upd Hb D (SetX X.prog X.w D [])) sc.heap.objs.size (cellsFrom (sc.heap.objs.size + 1) scope.names (cloFrom X.env.cells scope.names [])) fp D
  rw [show ({ sb with heap := sb.heap.push { cls := .type "set", dict := none, data := .set #[] 0 (.fresh 0 0 (!X.w.params.followText "set-order")) } } : Shared) = sc from hsc]
  obtain ⟨ce, hce⟩ : ∃ ce, compEnvC scope (cellsFrom (sc.heap.objs.size + 1) scope.names (cloFrom X.env.cells scope.names [])) sc.heap.objs.size X.env = ce := ⟨_, rfl⟩
  have cL : ce.locals = sc.heap.objs.size := by rw [← hce] <;> rfl
  obtain ⟨Hc, hHc⟩ : ∃ Hc, upd Hb D (SetX X.prog X.w D []) = Hc := ⟨_, rfl⟩
  obtain ⟨sd, hsd⟩ : ∃ sd : Shared, ({ sc with heap := pushCells (sc.heap.push { cls := .type "dict", data := .dict #[] }) scope.names } : Shared) = sd := ⟨_, rfl⟩
  have kd : ∀ b o, sc.heap.get? b = some o → sd.heap.get? b = some o := fun b o z => by rw [← hsd]; exact pushCells_keeps _ _ _ _ (Heap.get?_push_of_some _ z)
  rw [hce] at Id0 pg pt pb
  rw [hHc] at Id0 pg pt pb w0 Ic fc
  rw [hsd] at Id0
  have std : tn 0 sd.heap := T.keep _ _ _ stc fun b _ o z => kd b o z
  have stat : ∀ {σ' : L2.St} {H' : Hp} {s' : Shared}, Inv (X.blk sc Hc scope ce fp) [] σ' H' s' → (∀ b ∈ fp, H' b = none) → ∀ b ∈ fp, FpOk (X.blk sc Hc scope ce fp) [] H' b := fun {σ' H' s'} I' hn b hb =>
    ⟨hn b hb, (I'.ok.exf b hb).1, I'.ok.exfs b hb, .inl hb, fun x c z => (I'.ok.exf b hb).2 x c z, fun p hp => absurd (show p ∈ ([] : List (Addr × Obj)) ++ [] from hp) (by simp)⟩
  have loop : codeAny (model X.prog X.w) X.A (.compLoop (.SetComp elt (⟨tg, iter, ifs, 0⟩ :: gs) scope cp) 0 (.ref it) (.ref D) ce) (compPost (model X.prog X.w) X.A X.xe none (EP X pins σ Q) (.ref D) sc.heap.objs.size) sd := by
    refine loop_gen (hturn it D ce) (fun n s' => ∃ i H', Inv (X.blk sc Hc scope ce fp) [] (wipe σ (own.map (·.2))) H' s' ∧ tn i s'.heap ∧ (∀ b ∈ fp, H' b = none) ∧ W i n H') ?_ m0 ⟨0, Hc, Id0, std, fun b hb => (fc b hb).1.1, w0⟩
    rintro n s5 ⟨i, H5, I5, st5, n5, w5⟩
    rcases turn i n H5 w5 with ⟨stop, qq⟩ | ⟨go, Nx, hNx, step⟩
    · refine thnF (T.done (X.blk sc Hc scope ce fp) rfl rfl rfl hc i [] s5 _ H5 NoE I5 (stat I5 n5) st5 stop) fun r s6 ⟨hr, I6⟩ => ?_
      subst hr
      have I7 : Inv X pins σ H5 s6 := Ic.call' (ch := fp) I6.os I6.base I6.hok I6.bare fun b hb => ⟨(fc b hb).1.2.2.2.1, (fc b hb).1.2.1, (fc b hb).1.2.2.2.2.1, (fc b hb).1.2.2.2.2.2⟩
      have nC : H5 sc.heap.objs.size = none := by
        have z : H5 ce.locals = none := I6.free
        rw [cL] at z
        exact z
      obtain ⟨m, hn, _⟩ := I6.loc
      have hn : s6.heap.Ns ce.locals m := hn
      rw [cL] at hn
      obtain ⟨f0, f1, f2, f3, f4, f5⟩ := Ic.fpOk (Nat.le_refl _) nC
      exact ⟨m, hn, fun h'' sb' => ⟨.ref D, H5, I7.turned (t' := s6.toks) (fun b o hb z => (sb'.2 b hb).trans z) f0 f1 f3 f4 f5, rfl, qq⟩⟩
    · refine thnF (T.item (X.blk sc Hc scope ce fp) rfl rfl rfl hc i [] s5 _ H5 NoE I5 (stat I5 n5) st5 go) fun r s6 ⟨u, hr, h6⟩ => ?_
      subst hr
      refine thnF h6 fun _ s7 ⟨x, H7, I7, r7, y7, st7, n7⟩ => ?_
      have J7 := I7.pinned (stat I7 n7) (T.obj _ _ st7)
      refine thnF (pg.run _ s7 _ H7 x u _ J7 r7 (step x H7 y7)) fun _ s8 ⟨σ8, H8, I8, hw8, q8⟩ => ?_
      refine thnF (pt.run _ s8 σ8 H8 _ I8 q8) fun b s9 ⟨H9, I9, q9⟩ => ?_
      have fin : ∀ {vs1 : List Nat} {s' : Shared} {H' : Hp}, (∀ i ∈ vs1, i ∈ own.map (·.2)) → Inv (X.blk sc Hc scope ce fp) ([] ++ pinsAt fp s7.heap) (wipe σ8 vs1) H' s' → Nx H' → ∃ m, m < n ∧ ∃ i H', Inv (X.blk sc Hc scope ce fp) [] (wipe σ (own.map (·.2))) H' s' ∧ tn i s'.heap ∧ (∀ b ∈ fp, H' b = none) ∧ W i m H' := fun {vs1 s' H'} hv I' nx => by
        obtain ⟨m', hm, w'⟩ := hNx H' nx
        have pin' : ∀ b ∈ fp, ∀ o, s7.heap.get? b = some o → s'.heap.get? b = some o ∧ H' b = none := fun b hb o z =>
          let k := I'.pin (b, o) (List.mem_append_right _ (List.mem_append_right _ (mem_pinsAt hb z)))
          ⟨k.1, k.2.1⟩
        refine ⟨m', hm, i + 1, H', (I'.unpinned (pins := [])).weak (by rw [← hw8, wipe_length, wipe_length]) (fun j v z => ?_), T.keep _ _ _ st7 fun b hb o z => (pin' b hb o z).1, fun b hb => ?_, w'⟩
        · rw [← hw8] at z
          obtain ⟨e1, e2⟩ := wipe_some z
          rw [wipe_out fun k => e2 (hv j k)]
          exact e1
        · obtain ⟨o, z, _⟩ := T.obj _ _ st7 b hb
          exact (pin' b hb o z).2
      cases b with
      | false =>
        simp only [Bool.false_eq_true, if_false] at q9 ⊢
        exact fin (vs1 := []) (fun i z => nomatch z) I9 q9
      | true =>
        simp only [if_true] at q9 ⊢
        exact thnF (pb.run _ s9 σ8 H9 _ I9 q9) fun _ s10 ⟨H10, I10, q10⟩ => fin sub I10 q10
  rw [← hce] at loop
  rw [← hsd] at loop
  exact codeAny_compStart_set loop (T.self X.A 0 _ _ _ (by rw [hsd]; exact std) loop)
end
/-! three clauses -/
section
variable {elt t0 i0 t1 i1 t2 i2 : Expr} {f0 f1 f2 : List Expr} {scope : Scope} {cp : Pos}
theorem start1 (acc : Value) (env : Env) : StartOk (.SetComp elt [⟨t0, i0, f0, 0⟩, ⟨t1, i1, f1, 0⟩, ⟨t2, i2, f2, 0⟩] scope cp) 1 acc env := by
  intro P w A R s it h0 h
  refine codeAny_of_tree ?_
  show wpAny _ _ ((compStart (.SetComp elt [⟨t0, i0, f0, 0⟩, ⟨t1, i1, f1, 0⟩, ⟨t2, i2, f2, 0⟩] scope cp) 1 it acc env).onRaise (fun x => do noteFrame x env; standAt theWindowsPlace)) _ _ s
  refine wpAny_notedAt ?_
  unfold compStart
  show wpAny _ _ (ask >>= _) _ _ s
  refine wpAny_bind (wpAny_askSetting (wpAny_ite ?_))
  split
  · first
      | exact wpAny_bind (wpAny_pure (wpAny_pure (And.intro rfl h0)))
      | exact wpAny_pure (And.intro rfl h0)
  · refine wpAny_bind (wpAny_rule ?_)
    show wpAny _ _ (standAt i1.pos >>= _) _ _ s
    exact wpAny_bind (wpAny_standAt (wpAny_bind (thn (h _) fun it' s' h' => wpAny_pure (And.intro rfl h'))))
theorem start2 (acc : Value) (env : Env) : StartOk (.SetComp elt [⟨t0, i0, f0, 0⟩, ⟨t1, i1, f1, 0⟩, ⟨t2, i2, f2, 0⟩] scope cp) 2 acc env := by
  intro P w A R s it h0 h
  refine codeAny_of_tree ?_
  show wpAny _ _ ((compStart (.SetComp elt [⟨t0, i0, f0, 0⟩, ⟨t1, i1, f1, 0⟩, ⟨t2, i2, f2, 0⟩] scope cp) 2 it acc env).onRaise (fun x => do noteFrame x env; standAt theWindowsPlace)) _ _ s
  refine wpAny_notedAt ?_
  unfold compStart
  show wpAny _ _ (ask >>= _) _ _ s
  refine wpAny_bind (wpAny_askSetting (wpAny_ite ?_))
  split
  · first
      | exact wpAny_bind (wpAny_pure (wpAny_pure (And.intro rfl h0)))
      | exact wpAny_pure (And.intro rfl h0)
  · refine wpAny_bind (wpAny_rule ?_)
    show wpAny _ _ (standAt i2.pos >>= _) _ _ s
    exact wpAny_bind (wpAny_standAt (wpAny_bind (thn (h _) fun it' s' h' => wpAny_pure (And.intro rfl h'))))
abbrev c3 (elt t0 i0 t1 i1 t2 i2 : Expr) (f0 f1 f2 : List Expr) (scope : Scope) (cp : Pos) : Expr := .SetComp elt [⟨t0, i0, f0, 0⟩, ⟨t1, i1, f1, 0⟩, ⟨t2, i2, f2, 0⟩] scope cp
abbrev bElt (elt : Expr) (D : Addr) (env : Env) : Sem Unit := do let v ← eval elt env; standAt elt.pos; let _ ← call (.builtin "set.add") [.ref D, v]
abbrev bNest (c : Expr) (j : Nat) (iter : Expr) (D : Addr) (env : Env) : Sem Unit := do let x ← eval iter env; standAt iter.pos; let x ← foldedSetIterable iter env x; let _ ← runOwn (.compStart c j (← holding [x] (pyIter x)) (.ref D) env) env
theorem turn3_0 (it D : Addr) (env : Env) : compTurn (c3 elt t0 i0 t1 i1 t2 i2 f0 f1 f2 scope cp) 0 (.ref it) (.ref D) env = turnOf t0 i0.pos f0 (bNest (c3 elt t0 i0 t1 i1 t2 i2 f0 f1 f2 scope cp) 1 i1 D env) (c3 elt t0 i0 t1 i1 t2 i2 f0 f1 f2 scope cp) 0 (.ref it) (.ref D) env := by
  have e : compTurn (c3 elt t0 i0 t1 i1 t2 i2 f0 f1 f2 scope cp) 0 (.ref it) (.ref D) env = (do
      standAt i0.pos
      match ← pyNext (.ref it) with
      | none => pure (.done .next)
      | some v =>
        letOwnedTupleGo t0 (.ref it) v
        assign t0 env v
        let mut ok := true
        for c in f0 do
          if ok then ok ← isTrue c env (eval c env)
        if ok then
          let x ← eval i1 env
          standAt i1.pos
          let x ← foldedSetIterable i1 env x
          let _ ← runOwn (.compStart (c3 elt t0 i0 t1 i1 t2 i2 f0 f1 f2 scope cp) 1 (← holding [x] (pyIter x)) (.ref D) env) env
        again (.compLoop (c3 elt t0 i0 t1 i1 t2 i2 f0 f1 f2 scope cp) 0 (.ref it) (.ref D) env)) := by rfl
  rw [e]
  unfold turnOf
  simp only [bind_assoc, pure_bind]
  all_goals rfl
theorem turn3_1 (it D : Addr) (env : Env) : compTurn (c3 elt t0 i0 t1 i1 t2 i2 f0 f1 f2 scope cp) 1 (.ref it) (.ref D) env = turnOf t1 i1.pos f1 (bNest (c3 elt t0 i0 t1 i1 t2 i2 f0 f1 f2 scope cp) 2 i2 D env) (c3 elt t0 i0 t1 i1 t2 i2 f0 f1 f2 scope cp) 1 (.ref it) (.ref D) env := by
  have e : compTurn (c3 elt t0 i0 t1 i1 t2 i2 f0 f1 f2 scope cp) 1 (.ref it) (.ref D) env = (do
      standAt i1.pos
      match ← pyNext (.ref it) with
      | none => pure (.done .next)
      | some v =>
        letOwnedTupleGo t1 (.ref it) v
        assign t1 env v
        let mut ok := true
        for c in f1 do
          if ok then ok ← isTrue c env (eval c env)
        if ok then
          let x ← eval i2 env
          standAt i2.pos
          let x ← foldedSetIterable i2 env x
          let _ ← runOwn (.compStart (c3 elt t0 i0 t1 i1 t2 i2 f0 f1 f2 scope cp) 2 (← holding [x] (pyIter x)) (.ref D) env) env
        again (.compLoop (c3 elt t0 i0 t1 i1 t2 i2 f0 f1 f2 scope cp) 1 (.ref it) (.ref D) env)) := by rfl
  rw [e]
  unfold turnOf
  simp only [bind_assoc, pure_bind]
  all_goals rfl
theorem turn3_2 (it D : Addr) (env : Env) : compTurn (c3 elt t0 i0 t1 i1 t2 i2 f0 f1 f2 scope cp) 2 (.ref it) (.ref D) env = turnOf t2 i2.pos f2 (bElt elt D env) (c3 elt t0 i0 t1 i1 t2 i2 f0 f1 f2 scope cp) 2 (.ref it) (.ref D) env := by rfl
end
section
variable {X : Cx} {elt t0 i0 t1 i1 t2 i2 : Expr} {f0 f1 f2 : List Expr} {scope : Scope} {own : List (PySem.Str × Nat)} {cp : Pos} {w0 w1 w2 : TI} {g0 g1 g2 : TG} {tt0 tt1 tt2 : TT} {te : TE} {vs1 vs2 : List Nat}
theorem pe_sc3 (hc : X.calm = true) (hN : X.N.Nodup) (hi : PI X t0 i0 w0) (ok : BlkOk X.N X.env.scope scope own) (h1 : ∀ i ∈ vs1, i ∈ own.map (·.2)) (h2 : ∀ i ∈ vs2, i ∈ vs1)
    (hg0 : ∀ (s : Shared) (H : Hp) (C : Addr) (cl : List (PySem.Str × Addr)) (fp : List Addr), PG (X.blk s H scope (compEnvC scope cl C X.env) fp) t0 g0)
    (ht0 : ∀ (s : Shared) (H : Hp) (C : Addr) (cl : List (PySem.Str × Addr)) (fp : List Addr), PTs (X.blk s H scope (compEnvC scope cl C X.env) fp) f0 tt0)
    (hi1 : ∀ (s : Shared) (H : Hp) (C : Addr) (cl : List (PySem.Str × Addr)) (fp : List Addr), PI (X.blk s H scope (compEnvC scope cl C X.env) fp) t1 i1 w1)
    (hg1 : ∀ (s : Shared) (H : Hp) (C : Addr) (cl : List (PySem.Str × Addr)) (fp : List Addr), PG (X.blk s H scope (compEnvC scope cl C X.env) fp) t1 g1)
    (ht1 : ∀ (s : Shared) (H : Hp) (C : Addr) (cl : List (PySem.Str × Addr)) (fp : List Addr), PTs (X.blk s H scope (compEnvC scope cl C X.env) fp) f1 tt1)
    (hi2 : ∀ (s : Shared) (H : Hp) (C : Addr) (cl : List (PySem.Str × Addr)) (fp : List Addr), PI (X.blk s H scope (compEnvC scope cl C X.env) fp) t2 i2 w2)
    (hg2 : ∀ (s : Shared) (H : Hp) (C : Addr) (cl : List (PySem.Str × Addr)) (fp : List Addr), PG (X.blk s H scope (compEnvC scope cl C X.env) fp) t2 g2)
    (ht2 : ∀ (s : Shared) (H : Hp) (C : Addr) (cl : List (PySem.Str × Addr)) (fp : List Addr), PTs (X.blk s H scope (compEnvC scope cl C X.env) fp) f2 tt2)
    (he : ∀ (s : Shared) (H : Hp) (C : Addr) (cl : List (PySem.Str × Addr)) (fp : List Addr), PE (X.blk s H scope (compEnvC scope cl C X.env) fp) elt te)
    (hs : ∀ x, foldedSetIterable i0 X.env x = pure x := by intro _; rfl) (hs1 : ∀ env x, foldedSetIterable i1 env x = pure x := by intro _ _; rfl) (hs2 : ∀ env x, foldedSetIterable i2 env x = pure x := by intro _ _; rfl) :
    PE X (c3 elt t0 i0 t1 i1 t2 i2 f0 f1 f2 scope cp) (tScN X.prog X.w w0 g0 tt0 (fun D => tNest w1 g1 tt1 (tNest w2 g2 tt2 (tElt X.prog X.w te D) vs2) vs1) (own.map (·.2))) :=
  pe_scN (gs := [⟨t1, i1, f1, 0⟩, ⟨t2, i2, f2, 0⟩]) (body := fun D env => bNest (c3 elt t0 i0 t1 i1 t2 i2 f0 f1 f2 scope cp) 1 i1 D env) hc hN hi ok h1 hg0 ht0
    (fun s H C cl fp D => pb_nest (ee := elt) (gs := [⟨t0, i0, f0, 0⟩, ⟨t1, i1, f1, 0⟩, ⟨t2, i2, f2, 0⟩]) (scope := scope) (cp := cp) (Y := X.blk s H scope (compEnvC scope cl C X.env) fp) h2 hc rfl (hi1 s H C cl fp) (hg1 s H C cl fp) (ht1 s H C cl fp)
      (pb_nest (ee := elt) (gs := [⟨t0, i0, f0, 0⟩, ⟨t1, i1, f1, 0⟩, ⟨t2, i2, f2, 0⟩]) (scope := scope) (cp := cp) (Y := X.blk s H scope (compEnvC scope cl C X.env) fp) (vs' := []) (fun i z => nomatch z) hc rfl (hi2 s H C cl fp) (hg2 s H C cl fp) (ht2 s H C cl fp)
        (pb_elt (Y := X.blk s H scope (compEnvC scope cl C X.env) fp) rfl (he s H C cl fp)) (hs2 _) (fun it => turn3_2 it D _) (start2 _ _))
      (hs1 _) (fun it => turn3_1 it D _) (start1 _ _))
    (fun it D env => turn3_0 it D env) hs
end
end Kx
/-! enumerate over a tuple -/
namespace PySem
open Sem (wp)
open AutoSeq1 (wpAny_loadPart')
theorem new_enumT (t : Addr) (its : Array Value) (n : Nat) (dd : Option Addr) (sl : Array (Option Value)) : Meets (Builtin.«enumerate.__new__» ⟨[.type "enumerate", .ref t], []⟩)
    (fun _ R s => s.heap.get? t = some { cls := .type "tuple", dict := dd, data := .seq its n, slots := sl } ∧ R (.ok (.ret (.ref (s.heap.push { cls := .type "tuple_iterator", data := .fields #[.ref t, .int 0 0] }).objs.size)))
      { s with heap := (s.heap.push { cls := .type "tuple_iterator", data := .fields #[.ref t, .int 0 0] }).push { cls := .type "enumerate", data := .fields #[.none, .bool false, .ref s.heap.objs.size, rawInt 0, .none, .none] } }) :=
  .of_wp fun P w A R s h => by
    obtain ⟨hp, g, d, k, os⟩ := s
    obtain ⟨ht, h⟩ := h
    have hs := sub_enumerate
    have hT : Heap.IsTuple (Shared.heap ⟨hp, g, d, k, os⟩) t its := ⟨_, ht, rfl, n, rfl⟩
    wp_walk using wpAny_loadPart' ht
    refine wpAny_stack_any fun st => wpAny_pure ?_
    split
    · rename_i c _ _ _ _ _
      cases (c == Value.type "enumerate") <;>
        (wp_walk using wpAny_loadPart' ht, wpAny_pyIter_tuple hT; exact ⟨_, rfl, h⟩)
    · wp_walk using wpAny_loadPart' ht, wpAny_pyIter_tuple hT
      exact ⟨_, rfl, h⟩
section
variable {P : Program} {w : World} {A : Around} {E : Value → Shared → Prop} {s : Shared}
theorem call_enumT {t : Addr} {its : Array Value} {Q : Value → Shared → Prop} (hT : s.heap.IsTuple t its)
    (h : ∀ h' : Heap, IsEnum h' (s.heap.objs.size + 1) s.heap.objs.size 0 .none → h'.IsTupleIter s.heap.objs.size t 0 → h'.objs.size = s.heap.objs.size + 2 → (∀ b o, s.heap.get? b = some o → h'.get? b = some o) → Q (.ref (s.heap.objs.size + 1)) { s with heap := h' }) :
    wpAny (model P w) A (call (.type "enumerate") [.ref t]) Q E s := by
  obtain ⟨⟨c, dd, dt, sl⟩, ht, hc, n, hd⟩ := hT
  have hc' : c = .type "tuple" := hc
  have hd' : dt = .seq its n := hd
  subst hc' hd'
  refine callType_new F.called_enumerate (by decide) (F.typeCall_enumerate_1 _) (F.newCall_enumerate_1 _) (fun obj => F.args_object_init_2 obj _) F.entry_enumerate_new (new_enumT t its n dd sl) ⟨ht, ?_⟩
  obtain ⟨h1, e1⟩ : ∃ h1, s.heap.push { cls := .type "tuple_iterator", data := .fields #[.ref t, .int 0 0] } = h1 := ⟨_, rfl⟩
  have z1 : h1.objs.size = s.heap.objs.size + 1 := by rw [← e1]; exact Heap.size_push ..
  have i1 : h1.get? s.heap.objs.size = some { cls := .type "tuple_iterator", data := .fields #[.ref t, .int 0 0] } := by rw [← e1]; exact Heap.get?_push_size _ rfl
  have k1 : ∀ b o, s.heap.get? b = some o → h1.get? b = some o := fun b o z => by rw [← e1]; exact Heap.get?_push_of_some _ z
  rw [e1]
  have g2 := Heap.get?_push_size h1 (o := { cls := .type "enumerate", data := .fields #[.none, .bool false, .ref s.heap.objs.size, rawInt 0, .none, .none] }) rfl
  rw [z1] at g2
  show _ ∧ _
  rw [z1]
  exact ⟨⟨_, g2, rfl⟩, h _ g2 ⟨_, Heap.get?_push_of_some _ i1, rfl, rfl⟩ (by rw [Heap.size_push, z1]) fun b o z => Heap.get?_push_of_some _ (k1 b o z)⟩
end
end PySem
namespace Kx
open PySem L2 PySem.Spec PyProof.Rows
/-- the tuple at a, each item in a new pair with its number -/
def IteT (K : PySem.W.Frag) (a : Addr) : It :=
  ⟨fun i H => ∃ (xs : List V) (x : V), SqT K H a xs ∧ xs[i]? = some x, fun i H v H' => ∃ T x, v = .ref T ∧ H T = none ∧ H' = upd H T (.tup [.int (i : Nat), x]) ∧ ∀ xs, SqT K H a xs → xs[i]? = some x, fun i H => ∃ xs : List V, SqT K H a xs ∧ xs.length ≤ i⟩
theorem turn_enumT {P : Program} {w : World} {K : PySem.W.Frag} {elts : List Expr} {kk : Nat} {tpos : Pos} (a e it : Addr) :
    Turn P w K (.Tuple elts kk tpos) (IteT K a) [e, it] e (fun i h => (∃ old, IsEnum h e it ((i : Nat) : Int) old) ∧ h.IsTupleIter it a i ∧ e ≠ it ∧ a ≠ it ∧ a ≠ e) where
  mem := by simp
  obj := fun i h st b hb => by
    obtain ⟨⟨old, he⟩, ⟨o, ho, hc, hd⟩, _⟩ := st
    rcases (show b = e ∨ b = it by simpa using hb) with z | z
    · rw [z]; exact ⟨_, he, fun v q => nomatch q⟩
    · rw [z]; exact ⟨o, ho, fun v q => by rw [hd] at q; cases q⟩
  keep := fun i h h' st k => let ⟨⟨old, he⟩, hi, hn⟩ := st; ⟨⟨old, k e (by simp) _ he⟩, hi.at fun o q => k it (by simp) o q, hn⟩
  item := by
    intro X hP hw hK hc i pins s σ H E I hf st hg
    subst hP hw hK
    obtain ⟨⟨old, he⟩, hit, hne, n1, n2⟩ := st
    obtain ⟨xs, x, hq, hx⟩ := hg
    obtain ⟨its, rv, p, hz⟩ := I.tuple hq
    obtain ⟨u, hu, ru⟩ := rv.get hx
    have hT : s.heap.IsTuple a its.toArray := p
    have hu' : its.toArray[i]? = some u := by simpa using hu
    have hlt : i < its.toArray.size := (Array.getElem?_eq_some_iff.mp hu').1
    have hel : e < s.heap.objs.size := Heap.lt_size he
    have hil : it < s.heap.objs.size := by obtain ⟨_, q, _⟩ := hit; exact Heap.lt_size q
    have ni : it ≠ a := fun z => n1 z.symm
    refine wpAny_pyNext_enum_itemD (Draws.tuple (A := X.A.in1) (I.ok.hd hc) it a n1 its.toArray) he ⟨hit, hT⟩ hlt hne (by simp [hne, Ne.symm n2]) fun y h' tk hy ho hit' hTn hsz hk => ?_
    have ey : y = u := Option.some.inj ((show its.toArray[i]? = some y from hy).symm.trans hu')
    subst ey
    refine ⟨_, rfl, wpAny_letOwnedTupleGo_enum (s := { s with heap := h', toks := tk + 1 }) ho fun h2 he2 sb => ?_⟩
    have hT2 : h2.get? s.heap.objs.size = some { cls := .type "tuple", data := .seq #[.int i tk, y] } := (sb.2 _ (Nat.ne_of_gt hel)).trans hTn
    have new : ObjOk X.prog X.w (upd H s.heap.objs.size (.tup [.int (i : Nat), x])) h2 s.heap.objs.size (.tup [.int (i : Nat), x]) :=
      ⟨by show 2 ≤ sizeLine; decide, [.int i tk, y], .cons ⟨_, rfl⟩ (.cons ru .nil), ⟨_, hT2, rfl, _, rfl⟩⟩
    have I1 : Inv X pins σ (upd H s.heap.objs.size (.tup [.int (i : Nat), x])) { s with heap := h2, toks := tk + 1 } :=
      I.turnedNew (ch := [e, it]) (fun b ob hb q => (sb.2 b (fun z => hb (by simp [z]))).trans (hk b ob (fun z => hb (by simp [z])) (fun z => hb (by simp [z])) q)) hf (Nat.le_refl _) new
    have lt2 : ∀ b ∈ [e, it], b < s.heap.objs.size := fun b hb => by
      rcases (show b = e ∨ b = it by simpa using hb) with z | z
      · rw [z]; exact hel
      · rw [z]; exact hil
    refine ⟨.ref s.heap.objs.size, _, I1, rfl, ⟨_, x, rfl, I.hok.fresh (Nat.le_refl _), rfl, fun ys hy' => by rw [I.tuple_inj hy' hq]; exact hx⟩, ⟨⟨y, ?_⟩, hit'.1.at fun o q => (sb.2 it (Ne.symm hne)).trans q, hne, n1, n2⟩, fun b hb => ?_⟩
    · rw [show ((i + 1 : Nat) : Int) = (i : Int) + 1 from by omega]
      exact he2
    · rw [upd_ne (Nat.ne_of_lt (lt2 b hb))]
      exact (hf b hb).1
  done := by
    intro X hP hw hK hc i pins s σ H E I hf st hg
    subst hP hw hK
    obtain ⟨⟨old, he⟩, hit, hne, n1, n2⟩ := st
    obtain ⟨xs, hq, hx⟩ := hg
    obtain ⟨its, rv, p, hz⟩ := I.tuple hq
    obtain ⟨f0, f1, f2, f3, f4, f5⟩ := hf it (by simp)
    have hl := rv.length
    have hT : s.heap.IsTuple a its.toArray := p
    unfold pyNext
    have hTy : s.TypeIs (.ref e) "enumerate" := ⟨_, he, rfl⟩
    refine wpAny_bind (wpAny_attempt (wpAny_callSpecial?_slot (name := Str.ofString "__next__") hTy F.slot_enumerate_next
      (wpAny_call_entry F.slot_enumerate_next hTy F.entry_enumerate_next ?_ (F.args_enumerate_next_1 _))))
    show wpAny _ _ (field (.ref e) 2 >>= fun r => Builtin.SmallTypes.nextOf r >>= _) _ _ _
    refine wpAny_bind (wpAny_field he rfl (x := .ref it) rfl ?_)
    refine wpAny_bind (wpAny_nextOf_tuple_end (I.ok.hd hc) hit hT (Array.getElem?_eq_none (by simp; omega)) fun h' x e1 e2 => ?_)
    obtain ⟨o, ho, hco⟩ := e2
    refine wpAny_bind (wpAny_isInstance (T := "StopIteration") (b := true) ⟨o, ho, hco⟩ isSubtype_stop ?_)
    exact wpAny_pure ⟨rfl, I.turned (t' := s.toks) (fun b o hb q => e1 b o hb q) f0 f1 f3 f4 f5⟩
  self := fun A i s Q E st h => let ⟨⟨_, he⟩, _⟩ := st; wpAny_pyIter_enum he h
def iEnumT (K : PySem.W.Frag) (ta : TA) : TI := fun σ H R => ta σ H fun vs H1 => ∃ a xs, vs = [.ref a] ∧ SqT K H1 a xs ∧ R (IteT K a) H1
theorem pi_enumT {X : Cx} {e : Expr} {ta : TA} {p pos tpos : Pos} {elts : List Expr} {kk : Nat} (hg : Gl X "enumerate") (hm : X.mg "enumerate" = none) (ha : PA X [e] ta) (hs : starEach [e] X.env = [(false, eval e X.env)] := by rfl) :
    PI X (.Tuple elts kk tpos) (.Call (.Name "enumerate" p) [e] [] pos) (iEnumT X.K ta) := by
  refine ⟨fun pins s σ H R I h => ?_⟩
  refine Call_ (ld_blt I hg hm boot_enumerate (PyProof.Rows.callWith_type1 (thn (ha.run pos pins s σ H _ I h) fun us s1 ⟨vs, H1, I1, r1, a, xs, ex, hq, q⟩ => ?_) hs rfl))
  subst ex
  cases r1 with
  | cons r rr =>
    cases rr
    cases r
    obtain ⟨its, rv, p', hz⟩ := I1.tuple hq
    have hT : s1.heap.IsTuple a its.toArray := p'
    have hlt : a < s1.heap.objs.size := by obtain ⟨_, z, _⟩ := hT; exact Heap.lt_size z
    refine call_enumT hT fun h' he hit hsz hk => wpAny_pyIter_enum he ?_
    have I2 : Inv X pins σ H1 { s1 with heap := h' } := I1.kept (t' := s1.toks) hk
    refine ⟨s1.heap.objs.size + 1, [s1.heap.objs.size + 1, s1.heap.objs.size], _, _, H1, rfl, I2, turn_enumT a (s1.heap.objs.size + 1) s1.heap.objs.size, ⟨⟨.none, he⟩, hit, Nat.succ_ne_self _, Nat.ne_of_lt hlt, Nat.ne_of_lt (Nat.lt_succ_of_lt hlt)⟩, fun b hb => ?_, q⟩
    have hle : s1.heap.objs.size ≤ b := by
      rcases (show b = s1.heap.objs.size + 1 ∨ b = s1.heap.objs.size by simpa using hb) with z | z
      · rw [z]; exact Nat.le_add_right _ _
      · rw [z]; exact Nat.le_refl _
    exact I1.fpOk hle (I1.hok.fresh hle)
/-- over a tuple that the body leaves as it is -/
theorem for_enumT {K : PySem.W.Frag} {a : Addr} {xs : List V} {g : TG} {tb : TS} {D : Ends} {σ : L2.St} {H : Hp} (Pv : Nat → L2.St → Hp → Prop) (h0 : Pv 0 σ H) (hl : ∀ i σ H, i ≤ xs.length → Pv i σ H → SqT K H a xs)
    (hs : ∀ i x σ H T, xs[i]? = some x → Pv i σ H → H T = none → g (.ref T) σ (upd H T (.tup [.int (i : Nat), x])) fun σ2 H2 => tb { D with nx := Pv (i + 1), ct := Pv (i + 1), bk := D.nx } σ2 H2) (hd : ∀ σ H, Pv xs.length σ H → D.nx σ H) :
    ∃ W : Nat → Nat → L2.St → Hp → Prop, (∃ m, W 0 m σ H) ∧ ∀ i m σ H, W i m σ H →
      ((IteT K a).stop i H ∧ D.nx σ H) ∨ ((IteT K a).go i H ∧ ∃ N : L2.St → Hp → Prop, (∀ σ' H', N σ' H' → ∃ m', m' < m ∧ W (i + 1) m' σ' H') ∧ ∀ x H', (IteT K a).yld i H x H' → g x σ H' fun σ2 H2 => tb { D with nx := N, ct := N, bk := D.nx } σ2 H2) := by
  refine ⟨fun i m σ H => m = xs.length - i ∧ i ≤ xs.length ∧ Pv i σ H, ⟨xs.length, by simp, Nat.zero_le _, h0⟩, ?_⟩
  rintro i m σ H ⟨rfl, hi, p⟩
  have q := hl i σ H hi p
  rcases Nat.lt_or_eq_of_le hi with hlt | e
  · refine .inr ⟨⟨xs, xs[i], q, by simp [hlt]⟩, Pv (i + 1), fun σ' H' p' => ⟨xs.length - (i + 1), by omega, rfl, hlt, p'⟩, fun v H' ⟨T, x, ev, hT, eH, hx⟩ => ?_⟩
    subst ev eH
    exact hs i x σ H T (hx xs q) p hT
  · subst e
    exact .inl ⟨⟨xs, q, Nat.le_refl _⟩, hd σ H p⟩
end Kx
namespace Kx
open PySem L2 PySem.Spec PyProof.Rows
def top (i : Nat) : Stmt := PySem.Challenge.pw_contractheirs_k02_conditions_asked.main.body.getD i (.Pass ⟨0, 0, 0, 0⟩)
abbrev sIsInt : Stmt := top 8
abbrev sIsWord : Stmt := top 9
abbrev sIsTerm : Stmt := top 10
abbrev sIsLit : Stmt := top 11
abbrev sLitT : Stmt := top 12
abbrev sIsCl : Stmt := top 13
abbrev sStand : Stmt := top 17
abbrev sFirst : Stmt := top 18
/-! words, terms, literals, clauses -/
def lets : Str := "abcdefghijklmnopqrstuvwxyz"
def isWord (t : Str) : Bool := decide (1 ≤ t.length ∧ t.length ≤ 8) && t.cps.toList.all fun c => decide (c ∈ lets.cps.toList)
def isTerm (t : Str) : Bool := decide (t = "") || (decide ((Txt.split t ".").length ≤ 2) && (Txt.split t ".").all isWord)
structure Short (t : Str) : Prop where
  l : t.length ≤ 1000
  n : (Txt.split t ".").length ≤ 1000
  e : ∀ x ∈ Txt.split t ".", x.length ≤ 1000
structure Bx (mg : Str → Option Value) : Prop where
  isi : mg "isinstance" = none
  int : mg "int" = none
  bool : mg "bool" = none
  str : mg "str" = none
  tuple : mg "tuple" = none
  len : mg "len" = none
  all : mg "all" = none
  sorted : mg "sorted" = none
  enum : mg "enumerate" = none
  lets : ∃ t, mg "LETTERS" = some (.str lets t)
  longest : ∃ t, mg "LONGEST_WORD" = some (.int 8 t)
structure Fs (K : PySem.W.Frag) (mg : Str → Option Value) (x : Str) (st : Stmt) (ps : List Str) (f : Addr) (fd : FuncData) : Prop where
  F : Fun K x x st f fd
  b : Binds K fd ps []
  m : mg x = some (.ref f)
theorem yes_of {σ : L2.St} {H : Hp} {A B : Hp → Prop} (h : A H) : tYes σ H fun b H3 => if b = true then A H3 else B H3 := by
  show (if true = true then A H else B H)
  rw [if_pos rfl]
  exact h
theorem new_same {H : Hp} {D : Addr} {o : HO} (hD : H D = none) : Same H (upd H D o) := fun b u e => by
  have hb : b ≠ D := fun z => by
    rw [z, hD] at e
    cases e
  rw [upd_ne hb]
  exact e
/-- what is told at a new address stays told of what was there -/
theorem same_upd {H H2 : Hp} {D : Addr} {o : HO} (hD : H D = none) (s2 : Same H H2) : Same H (upd H2 D o) := fun b u e => by
  have hb : b ≠ D := fun z => by
    rw [z, hD] at e
    cases e
  rw [upd_ne hb]
  exact s2 b u e
theorem tyT {K : PySem.W.Frag} {H : Hp} {a : Addr} {xs : List V} (h : SqT K H a xs) : TyX K H (.ref a) (.type "tuple") := by
  rcases h with (h | ⟨o, h⟩) | ⟨o, its, n, hk, hc, _⟩
  · exact .base (.tup h)
  · exact .fTuple h
  · exact .kTuple hk hc
theorem SqT.same {K : PySem.W.Frag} {H H' : Hp} {a : Addr} {xs : List V} (s : Same H H') (h : SqT K H a xs) : SqT K H' a xs := by
  rcases h with (h | ⟨o, h⟩) | h
  · exact .inl (.inl (s _ _ h))
  · exact .inl (.inr ⟨o, s _ _ h⟩)
  · exact .inr h
def spIsInt : Sp := fun vs H Q _ => ∃ n : Int, vs = [.int n] ∧ Q (.bl true) H
def spIsWord : Sp := fun vs H Q _ => ∃ t : Str, vs = [.str t] ∧ t.length ≤ 1000 ∧ ∀ H', Same H H' → Q (.bl (isWord t)) H'
def spIsTerm : Sp := fun vs H Q _ => ∃ t : Str, vs = [.str t] ∧ Short t ∧ ∀ H', Same H H' → Q (.bl (isTerm t)) H'
abbrev Lit := Str × Str × Int
def IsLit (K : PySem.W.Frag) (H : Hp) (x : V) (l : Lit) : Prop := ∃ a, x = .ref a ∧ SqT K H a [.str l.1, .str l.2.1, .int l.2.2]
def spIsLit (K : PySem.W.Frag) : Sp := fun vs H Q _ => ∃ (x : V) (l : Lit), vs = [x] ∧ IsLit K H x l ∧ Q (.bl true) H
theorem IsLit.same {K : PySem.W.Frag} {H H' : Hp} {x : V} {l : Lit} (s : Same H H') (h : IsLit K H x l) : IsLit K H' x l := let ⟨a, e, q⟩ := h; ⟨a, e, SqT.same s q⟩
section
variable {P : Program} {w : World} {K : PySem.W.Frag} {mg : Str → Option Value} {base : Heap}
theorem scInt : FnScope ["thing"] ["thing"] (defScope sIsInt) := ⟨rfl, rfl, rfl, by decide +kernel, rfl, by decide +kernel, by decide +kernel⟩
theorem ok_isint {f : Addr} {fd : FuncData} (F : Fs K mg "is_integer" sIsInt ["thing"] f fd) (T : Bx mg) : FnOk P w K mg base CX0 1 f fd ["thing"] spIsInt := by
  refine F.F.ok scInt (fun vs H Q E h => ?_) (fun cdv A outer s H vs Q E hr h => ?_)
  · obtain ⟨n, rfl, _⟩ := h
    rfl
  · obtain ⟨n, rfl, q⟩ := h
    refine ⟨_, pss_one (ps_ret (pe_and (pe_callB call_isi (by rfl) T.isi boot_isinstance (pa_cons (pv 0) (pa_cons (pe_bltn (v := .ty "int") (by rfl) T.int (by decide +kernel) rfl) pa_nil)))
      (pe_one (pe_not (pe_callB call_isi (by rfl) T.isi boot_isinstance (pa_cons (pv 0) (pa_cons (pe_bltn (v := .ty "bool") (by rfl) T.bool (by decide +kernel) rfl) pa_nil))))))), ?_⟩
    refine ⟨_, rfl, .int n, .ty "int", _, _, true, rfl, .ty _, .base (.int n), kit_ty (by decide +kernel), true, rfl, iteT ?_⟩
    exact ⟨_, rfl, .int n, .ty "bool", _, _, false, rfl, .ty _, .base (.int n), kit_ty (by decide +kernel), false, rfl, q⟩
theorem scWord : FnScope ["thing", "letter"] ["thing"] (defScope sIsWord) := ⟨rfl, rfl, rfl, by decide +kernel, rfl, by decide +kernel, by decide +kernel⟩
theorem ok_isword {f : Addr} {fd : FuncData} (F : Fs K mg "is_word" sIsWord ["thing"] f fd) (T : Bx mg) : FnOk P w K mg base CX0 1 f fd ["thing"] spIsWord := by
  obtain ⟨tl, hL⟩ := T.lets
  obtain ⟨tw, hW⟩ := T.longest
  refine F.F.ok scWord (fun vs H Q E h => ?_) (fun cdv A outer s H vs Q E hr h => ?_)
  · obtain ⟨t, rfl, _⟩ := h
    rfl
  · obtain ⟨t, rfl, hs, q⟩ := h
    refine ⟨_, pss_cons (ps_if (PW.pt (pw_or (pt_not (pt_val (pe_callB call_isi (by rfl) T.isi boot_isinstance (pa_cons (pv 0) (pa_cons (pe_bltn (v := .ty "str") (by rfl) T.str (by decide +kernel) rfl) pa_nil)))))
        (pw_or1 (pt_not (pt_chain op_le op_le pe_int (pe_callB call_len_str (by rfl) T.len PySem.boot_len (pa_cons (pv 0) pa_nil)) (pe_glob (v := .int 8) (by rfl) hW ⟨_, rfl⟩)))))) (pss_one (ps_ret pe_bl)) pss_nil)
      (pss_one (ps_ret (pe_callB (cr_all rfl) (by rfl) T.all (by decide +kernel) (pa_cons
        (pe_lc (own := [("letter", 1)]) (g := gName 1) (tt := tYes) rfl scWord.nd (pi_str (pv 0)) (blkOk_by (N := ["thing", "letter"]) (sc := defScope sIsWord) (by decide +kernel))
          (fun _ _ _ _ _ => pg_name (i := 1) scWord.nd rfl (Or.inl rfl)) (fun _ _ _ _ _ => pts_nil) (fun _ _ _ _ _ => pe_cmpR op_in_sign (pv 1) (pe_glob (v := .str lets) (by rfl) hL ⟨_, rfl⟩) (by with_unfolding_all rfl))) pa_nil)))), ?_⟩
    have hz : t.length ≤ sizeLine := Nat.le_of_lt (small1000 hs)
    refine ⟨_, rfl, .str t, .ty "str", _, _, true, rfl, .ty _, .base (.str t), kit_ty (by decide +kernel), true, rfl, iteF ?_⟩
    refine ⟨_, rfl, t, rfl, hz, _, _, rfl, rfl, _, rfl, ?_⟩
    by_cases h1 : (1 : Int) ≤ (t.length : Int)
    case neg =>
      rw [decide_eq_false h1]
      have e : isWord t = false := by
        unfold isWord
        rw [decide_eq_false (by omega), Bool.false_and]
      refine iteF ⟨_, rfl, iteT ?_⟩
      have q' := q H fun _ _ z => z
      rw [e] at q'
      exact q'
    case pos =>
    rw [decide_eq_true h1]
    refine iteT ⟨_, _, rfl, rfl, _, rfl, ?_⟩
    by_cases h2 : (t.length : Int) ≤ 8
    case neg =>
      rw [decide_eq_false h2]
      have e : isWord t = false := by
        unfold isWord
        rw [decide_eq_false (by omega), Bool.false_and]
      refine iteT ?_
      have q' := q H fun _ _ z => z
      rw [e] at q'
      exact q'
    case pos =>
    rw [decide_eq_true h2]
    refine iteF ?_
    refine ⟨_, rfl, t, rfl, fun D hD => ?_⟩
    refine lc_it walk_str (fun i H2 => Same H H2 ∧ H2 D = some (.lst ((t.cps.toList.take i).map fun c => .bl (decide (c ∈ lets.cps.toList))))) ⟨new_same hD, upd_same⟩ (fun _ _ _ _ => trivial) ?_ ?_
    · rintro i x H2 H3 hi ⟨s2, g⟩ ⟨rfl, c, hc, rfl⟩
      refine ⟨rfl, yes_of ?_⟩
      have hc' : t.cps.toList[i]? = some c := by rw [Array.getElem?_toList]; exact hc
      refine ⟨_, rfl, c, lets, rfl, rfl, _, g, small1000 (by rw [List.length_map, List.length_take]; have e : t.length = t.cps.toList.length := Array.length_toList.symm; omega), same_upd hD s2, ?_⟩
      · rw [upd_same, List.take_add_one, hc', List.map_append]
        rfl
    · rintro H2 ⟨s2, g⟩
      refine ⟨D, t.cps.toList.map fun c => decide (c ∈ lets.cps.toList), rfl, SqL.of ?_, ?_⟩
      · rw [g, List.take_of_length_le (by rw [Array.length_toList]; exact Nat.le_refl _), List.map_map]
        rfl
      · have e : isWord t = (t.cps.toList.map fun c => decide (c ∈ lets.cps.toList)).all id := by
          unfold isWord
          rw [decide_eq_true (by omega), Bool.true_and, List.all_map]
          rfl
        rw [← e]
        exact q H2 s2
theorem scTerm : FnScope ["thing", "words", "word"] ["thing"] (defScope sIsTerm) := ⟨rfl, rfl, rfl, by decide +kernel, rfl, by decide +kernel, by decide +kernel⟩
theorem ok_isterm {f g : Addr} {fd fdW : FuncData} (F : Fs K mg "is_term" sIsTerm ["thing"] f fd) (W : Fs K mg "is_word" sIsWord ["thing"] g fdW) (T : Bx mg) : FnOk P w K mg base CX0 2 f fd ["thing"] spIsTerm := by
  have GW : FnOk P w K mg base CX0 1 g fdW ["thing"] spIsWord := ok_isword W T
  refine F.F.ok scTerm (fun vs H Q E h => ?_) (fun cdv A outer s H vs Q E hr h => ?_)
  · obtain ⟨t, rfl, _⟩ := h
    rfl
  · obtain ⟨t, rfl, hs, q⟩ := h
    refine ⟨_, pss_cons (ps_if (pt_not (pt_val (pe_callB call_isi (by rfl) T.isi boot_isinstance (pa_cons (pv 0) (pa_cons (pe_bltn (v := .ty "str") (by rfl) T.str (by decide +kernel) rfl) pa_nil))))) (pss_one (ps_ret pe_bl)) pss_nil)
      (pss_cons (ps_if (pt_cmpR op_eq (pv 0) pe_str (nomark _)) (pss_one (ps_ret pe_bl)) pss_nil)
      (pss_cons (ps_set (i := 1) scTerm.nd rfl (Or.inl rfl) (pe_split (pv 0) pe_str))
      (pss_one (ps_ret (pe_and (pe_cmpR op_le (pe_callB call_len_seq (by rfl) T.len PySem.boot_len (pa_cons (pv 1) pa_nil)) pe_int (nomark _))
        (pe_one (pe_callB (cr_all rfl) (by rfl) T.all (by decide +kernel) (pa_cons
          (pe_lc (own := [("word", 2)]) (g := gName 2) (tt := tYes) rfl scTerm.nd (pi_list (pv 1)) (blkOk_by (N := ["thing", "words", "word"]) (sc := defScope sIsTerm) (by decide +kernel))
            (fun _ _ _ _ _ => pg_name (i := 2) scTerm.nd rfl (Or.inl rfl)) (fun _ _ _ _ _ => pts_nil)
            (fun _ _ _ _ _ => pe_call GW hr rfl W.m W.F.kp W.b .nil pass0 (pa_cons (pv 2) pa_nil))) pa_nil)))))))), ?_⟩
    refine ⟨_, rfl, .str t, .ty "str", _, _, true, rfl, .ty _, .base (.str t), kit_ty (by decide +kernel), true, rfl, iteF ?_⟩
    refine ⟨_, rfl, rfl, _, rfl, ?_⟩
    by_cases ht : t = ""
    case pos =>
      have e : decide (V.str t = V.str "") = true := by rw [ht]; exact decide_eq_true rfl
      rw [e]
      refine iteT ?_
      have e : isTerm t = true := by
        unfold isTerm
        rw [decide_eq_true ht, Bool.true_or]
      have q' := q H fun _ _ z => z
      rw [e] at q'
      exact q'
    case neg =>
    have e : decide (V.str t = V.str "") = false := decide_eq_false fun z => ht (V.str.inj z)
    rw [e]
    refine iteF ?_
    have e0 : isTerm t = (decide ((Txt.split t ".").length ≤ 2) && (Txt.split t ".").all isWord) := by
      unfold isTerm
      rw [decide_eq_false ht, Bool.false_or]
    rw [e0] at q
    refine ⟨_, rfl, ⟨t, rfl⟩, t, ".", rfl, rfl, (by decide), (by have := hs.l; rw [sizeLine_eq]; omega), fun p hp => ?_⟩
    have gp : (upd H p (.lst ((Txt.split t ".").map V.str))) p = some (.lst ((Txt.split t ".").map V.str)) := upd_same
    refine ⟨_, rfl, p, _, rfl, .inl (SqL.of gp), _, _, rfl, rfl, _, rfl, ?_⟩
    rw [List.length_map]
    by_cases h2 : ((Txt.split t ".").length : Int) ≤ 2
    case neg =>
      rw [decide_eq_false (by omega), Bool.false_and] at q
      rw [decide_eq_false h2]
      exact iteF (q _ (new_same hp))
    case pos =>
    rw [decide_eq_true (by omega), Bool.true_and] at q
    rw [decide_eq_true h2]
    refine iteT ⟨_, rfl, p, rfl, ⟨_, SqL.of gp⟩, fun D hD => ?_⟩
    have nD : p ≠ D := fun z => by
      rw [← z, gp] at hD
      cases hD
    refine lc_it (walk_list (xs := (Txt.split t ".").map V.str)) (fun i H2 => Same (upd H p (.lst ((Txt.split t ".").map V.str))) H2 ∧ H2 D = some (.lst (((Txt.split t ".").take i).map fun x => .bl (isWord x)))) ⟨new_same hD, upd_same⟩ (fun i H2 _ h => SqL.of (h.1 _ _ gp)) ?_ ?_
    · rintro i x H2 H3 hi ⟨s2, gD⟩ ⟨rfl, hx⟩
      rw [List.getElem?_map] at hx
      obtain ⟨z, hz, rfl⟩ := Option.map_eq_some_iff.mp hx
      refine ⟨rfl, yes_of ⟨_, rfl, z, rfl, hs.e z (List.mem_of_getElem? hz), fun H4 s4 => ⟨_, s4 _ _ gD, small1000 (by rw [List.length_map, List.length_take]; have := hs.n; omega), same_upd hD (fun b u e => s4 _ _ (s2 _ _ e)), ?_⟩⟩⟩
      rw [upd_same, List.take_add_one, hz, List.map_append]
      rfl
    · rintro H2 ⟨s2, gD⟩
      refine ⟨D, (Txt.split t ".").map isWord, rfl, SqL.of ?_, ?_⟩
      · rw [gD, List.take_of_length_le (by rw [List.length_map]; exact Nat.le_refl _), List.map_map]
        rfl
      · have e : (Txt.split t ".").all isWord = ((Txt.split t ".").map isWord).all id := by
          rw [List.all_map]
          rfl
        rw [← e]
        exact q H2 fun b u z => s2 _ _ (new_same hp b u z)
theorem scLit : FnScope ["thing", "left", "right", "number"] ["thing"] (defScope sIsLit) := ⟨rfl, rfl, rfl, by decide +kernel, rfl, by decide +kernel, by decide +kernel⟩
theorem ok_islit {f g : Addr} {fd fdI : FuncData} (F : Fs K mg "is_literal" sIsLit ["thing"] f fd) (W : Fs K mg "is_integer" sIsInt ["thing"] g fdI) (T : Bx mg) : FnOk P w K mg base CX0 2 f fd ["thing"] (spIsLit K) := by
  have GI : FnOk P w K mg base CX0 1 g fdI ["thing"] spIsInt := ok_isint W T
  refine F.F.ok scLit (fun vs H Q E h => ?_) (fun cdv A outer s H vs Q E hr h => ?_)
  · obtain ⟨x, l, rfl, _⟩ := h
    rfl
  · obtain ⟨x, ⟨l1, l2, n⟩, rfl, ⟨a, rfl, ha⟩, q⟩ := h
    refine ⟨_, pss_cons (ps_if (PW.pt (pw_or (pt_not (pt_val (pe_callB call_isi (by rfl) T.isi boot_isinstance (pa_cons (pv 0) (pa_cons (pe_bltn (v := .ty "tuple") (by rfl) T.tuple (by decide +kernel) rfl) pa_nil)))))
        (pw_or1 (pt_cmpR op_ne (pe_callB call_len_seq (by rfl) T.len PySem.boot_len (pa_cons (pv 0) pa_nil)) pe_int (nomark _))))) (pss_one (ps_ret pe_bl)) pss_nil)
      (pss_cons (ps_asg (pv 0) (pg_tup rfl (pgs_cons (pg_name (i := 1) scLit.nd rfl (Or.inl rfl)) (pgs_cons (pg_name (i := 2) scLit.nd rfl (Or.inl rfl)) (pgs_cons (pg_name (i := 3) scLit.nd rfl (Or.inl rfl)) pgs_nil)))))
      (pss_one (ps_ret (pe_and (pe_callB call_isi (by rfl) T.isi boot_isinstance (pa_cons (pv 1) (pa_cons (pe_bltn (v := .ty "str") (by rfl) T.str (by decide +kernel) rfl) pa_nil)))
        (pe_and (pe_callB call_isi (by rfl) T.isi boot_isinstance (pa_cons (pv 2) (pa_cons (pe_bltn (v := .ty "str") (by rfl) T.str (by decide +kernel) rfl) pa_nil)))
        (pe_one (pe_call GI hr rfl W.m W.F.kp W.b .nil pass0 (pa_cons (pv 3) pa_nil)))))))), ?_⟩
    refine ⟨_, rfl, .ref a, .ty "tuple", _, _, true, rfl, .ty _, tyT ha, kit_ty (by decide +kernel), true, rfl, iteF ?_⟩
    refine ⟨_, rfl, a, _, rfl, .inr ha, rfl, _, rfl, ?_⟩
    refine iteF ?_
    refine ⟨_, rfl, a, _, rfl, ha, rfl, _, _, rfl, _, _, rfl, _, _, rfl, rfl, ?_⟩
    refine ⟨_, rfl, .str l1, .ty "str", _, _, true, rfl, .ty _, .base (.str l1), kit_ty (by decide +kernel), true, rfl, iteT ?_⟩
    refine ⟨_, rfl, .str l2, .ty "str", _, _, true, rfl, .ty _, .base (.str l2), kit_ty (by decide +kernel), true, rfl, iteT ?_⟩
    exact ⟨_, rfl, n, rfl, q⟩
def spLitT (K : PySem.W.Frag) : Sp := fun vs H Q _ => ∃ (x : V) (l : Lit), vs = [x] ∧ IsLit K H x l ∧ Short l.1 ∧ Short l.2.1 ∧ ∀ H', Same H H' → Q (.bl (isTerm l.1 && isTerm l.2.1)) H'
theorem scLitT : FnScope ["thing"] ["thing"] (defScope sLitT) := ⟨rfl, rfl, rfl, by decide +kernel, rfl, by decide +kernel, by decide +kernel⟩
theorem ok_litT {f g i t wd : Addr} {fd fdL fdI fdT fdW : FuncData} (F : Fs K mg "is_literal_over_terms" sLitT ["thing"] f fd) (L : Fs K mg "is_literal" sIsLit ["thing"] g fdL) (I : Fs K mg "is_integer" sIsInt ["thing"] i fdI)
    (Tm : Fs K mg "is_term" sIsTerm ["thing"] t fdT) (W : Fs K mg "is_word" sIsWord ["thing"] wd fdW) (T : Bx mg) : FnOk P w K mg base CX0 3 f fd ["thing"] (spLitT K) := by
  have GL : FnOk P w K mg base CX0 2 g fdL ["thing"] (spIsLit K) := ok_islit L I T
  have GT : FnOk P w K mg base CX0 2 t fdT ["thing"] spIsTerm := ok_isterm Tm W T
  refine F.F.ok scLitT (fun vs H Q E h => ?_) (fun cdv A outer s H vs Q E hr h => ?_)
  · obtain ⟨x, l, rfl, _⟩ := h
    rfl
  · obtain ⟨x, ⟨l1, l2, n⟩, rfl, ⟨a, rfl, ha⟩, sh1, sh2, q⟩ := h
    refine ⟨_, pss_one (ps_ret (pe_and (pe_call GL hr (by rfl) L.m L.F.kp L.b .nil pass0 (pa_cons (pv 0) pa_nil))
      (pe_and (pe_call GT hr (by rfl) Tm.m Tm.F.kp Tm.b .nil pass0 (pa_cons (pe_ix ix_tup (pv 0) pe_int (fun _ _ => rfl)) pa_nil))
      (pe_one (pe_call GT hr (by rfl) Tm.m Tm.F.kp Tm.b .nil pass0 (pa_cons (pe_ix ix_tup (pv 0) pe_int (fun _ _ => rfl)) pa_nil)))))), ?_⟩
    refine ⟨_, rfl, .ref a, (l1, l2, n), rfl, ⟨a, rfl, ha⟩, _, rfl, iteT ?_⟩
    refine ⟨_, rfl, a, _, _, .str l1, rfl, rfl, ha, rfl, l1, rfl, sh1, fun H4 s4 => ⟨_, rfl, ?_⟩⟩
    cases h3 : isTerm l1 with
    | false =>
      have q' := q H4 s4
      rw [show isTerm (l1, l2, n).1 = false from h3, Bool.false_and] at q'
      exact iteF q'
    | true =>
      refine iteT ⟨_, rfl, a, _, _, .str l2, rfl, rfl, SqT.same s4 ha, rfl, l2, rfl, sh2, fun H5 s5 => ?_⟩
      have q' := q H5 fun b u z => s5 _ _ (s4 _ _ z)
      rw [show isTerm (l1, l2, n).1 = true from h3, Bool.true_and] at q'
      exact q'
end
end Kx
namespace Kx
open PySem L2 PySem.Spec PyProof.Rows
structure Cl (K : PySem.W.Frag) (H : Hp) (a : Addr) (xs : List V) (c : List Lit) : Prop where
  sq : SqT K H a xs
  p : Paired (IsLit K H) xs c
  l1 : 1 ≤ c.length
  l2 : c.length ≤ 1000
theorem paired_same {K : PySem.W.Frag} {H H' : Hp} (s : Same H H') {xs : List V} {c : List Lit} (h : Paired (IsLit K H) xs c) : Paired (IsLit K H') xs c := L2.Paired.mapP h fun _ _ z => IsLit.same s z
theorem Cl.same {K : PySem.W.Frag} {H H' : Hp} {a : Addr} {xs : List V} {c : List Lit} (s : Same H H') (h : Cl K H a xs c) : Cl K H' a xs c := ⟨SqT.same s h.sq, paired_same s h.p, h.l1, h.l2⟩
theorem Cl.len {K : PySem.W.Frag} {H : Hp} {a : Addr} {xs : List V} {c : List Lit} (h : Cl K H a xs c) : xs.length = c.length := Paired.length h.p
def spIsCl (K : PySem.W.Frag) : Sp := fun vs H Q _ => ∃ (a : Addr) (xs : List V) (c : List Lit) (m : Int), vs = [.ref a, .int m] ∧ Cl K H a xs c ∧ ∀ H', Same H H' → Q (.bl (decide ((c.length : Int) ≤ m))) H'
def stands (c : List Lit) : Bool := decide ((c.length : Int) ≤ 2) && c.all fun l => isTerm l.1 && isTerm l.2.1
def spStand (K : PySem.W.Frag) : Sp := fun vs H Q _ => ∃ (a : Addr) (xs : List V) (c : List Lit), vs = [.ref a] ∧ Cl K H a xs c ∧ (∀ l ∈ c, Short l.1 ∧ Short l.2.1) ∧ ∀ H', Same H H' → Q (.bl (stands c)) H'
section
variable {P : Program} {w : World} {K : PySem.W.Frag} {mg : Str → Option Value} {base : Heap}
theorem scCl : FnScope ["thing", "most", "literal"] ["thing", "most"] (defScope sIsCl) := ⟨rfl, rfl, rfl, by decide +kernel, rfl, by decide +kernel, by decide +kernel⟩
theorem ok_iscl {f g i : Addr} {fd fdL fdI : FuncData} (F : Fs K mg "is_clause" sIsCl ["thing", "most"] f fd) (L : Fs K mg "is_literal" sIsLit ["thing"] g fdL) (I : Fs K mg "is_integer" sIsInt ["thing"] i fdI) (T : Bx mg) :
    FnOk P w K mg base CX0 3 f fd ["thing", "most"] (spIsCl K) := by
  have GL : FnOk P w K mg base CX0 2 g fdL ["thing"] (spIsLit K) := ok_islit L I T
  refine F.F.ok scCl (fun vs H Q E h => ?_) (fun cdv A outer s H vs Q E hr h => ?_)
  · obtain ⟨a, xs, c, m, rfl, _⟩ := h
    rfl
  · obtain ⟨a, xs, c, m, rfl, hc, q⟩ := h
    have hl := hc.len
    have h1 := hc.l1
    refine ⟨_, pss_cons (ps_if (PW.pt (pw_or (pt_not (pt_val (pe_callB call_isi (by rfl) T.isi boot_isinstance (pa_cons (pv 0) (pa_cons (pe_bltn (v := .ty "tuple") (by rfl) T.tuple (by decide +kernel) rfl) pa_nil)))))
        (pw_or1 (pt_not (pt_chain op_le op_le pe_int (pe_callB call_len_seq (by rfl) T.len PySem.boot_len (pa_cons (pv 0) pa_nil)) (pv 1)))))) (pss_one (ps_ret pe_bl)) pss_nil)
      (pss_one (ps_ret (pe_callB (cr_all rfl) (by rfl) T.all (by decide +kernel) (pa_cons
        (pe_lc (own := [("literal", 2)]) (g := gName 2) (tt := tYes) rfl scCl.nd (pi_tup (pv 0)) (blkOk_by (N := ["thing", "most", "literal"]) (sc := defScope sIsCl) (by decide +kernel))
          (fun _ _ _ _ _ => pg_name (i := 2) scCl.nd rfl (Or.inl rfl)) (fun _ _ _ _ _ => pts_nil)
          (fun _ _ _ _ _ => pe_call GL hr rfl L.m L.F.kp L.b .nil pass0 (pa_cons (pv 2) pa_nil))) pa_nil)))), ?_⟩
    refine ⟨_, rfl, .ref a, .ty "tuple", _, _, true, rfl, .ty _, tyT hc.sq, kit_ty (by decide +kernel), true, rfl, iteF ?_⟩
    refine ⟨_, rfl, a, xs, rfl, .inr hc.sq, _, _, rfl, rfl, _, rfl, ?_⟩
    rw [decide_eq_true (by rw [hl]; omega)]
    refine iteT ⟨_, rfl, _, _, rfl, rfl, _, rfl, ?_⟩
    rw [hl]
    by_cases h2 : (c.length : Int) ≤ m
    case neg =>
      rw [decide_eq_false h2] at q ⊢
      exact iteT (q H fun _ _ z => z)
    case pos =>
    rw [decide_eq_true h2] at q ⊢
    refine iteF ⟨_, rfl, a, rfl, ⟨_, hc.sq⟩, fun D hD => ?_⟩
    refine lc_it (walk_tup (xs := xs)) (fun i H2 => Same H H2 ∧ H2 D = some (.lst ((List.replicate i true).map V.bl))) ⟨new_same hD, upd_same⟩ (fun i H2 _ h => SqT.same h.1 hc.sq) ?_ ?_
    · rintro i x H2 H3 hi ⟨s2, gD⟩ ⟨rfl, hx⟩
      obtain ⟨l, hcl, hx'⟩ := paired_get hc.p hx
      refine ⟨rfl, yes_of ⟨_, rfl, x, l, rfl, IsLit.same s2 hx', _, gD, small1000 (by rw [List.length_map, List.length_replicate]; have := hc.l2; omega), same_upd hD s2, ?_⟩⟩
      rw [upd_same, List.replicate_succ', List.map_append]
      rfl
    · rintro H2 ⟨s2, gD⟩
      refine ⟨D, List.replicate xs.length true, rfl, SqL.of gD, ?_⟩
      have e : (List.replicate xs.length true).all id = true := List.all_eq_true.mpr fun b hb => by rw [(List.mem_replicate.mp hb).2]; rfl
      rw [e]
      exact q H2 s2
theorem scStand : FnScope ["thing", "literal"] ["thing"] (defScope sStand) := ⟨rfl, rfl, rfl, by decide +kernel, rfl, by decide +kernel, by decide +kernel⟩
theorem ok_stand {f g i c' t wd lt : Addr} {fd fdL fdI fdC fdT fdW fdLT : FuncData} (F : Fs K mg "_can_stand" sStand ["thing"] f fd) (C : Fs K mg "is_clause" sIsCl ["thing", "most"] c' fdC) (L : Fs K mg "is_literal" sIsLit ["thing"] g fdL) (I : Fs K mg "is_integer" sIsInt ["thing"] i fdI)
    (Tm : Fs K mg "is_term" sIsTerm ["thing"] t fdT) (W : Fs K mg "is_word" sIsWord ["thing"] wd fdW) (LT : Fs K mg "is_literal_over_terms" sLitT ["thing"] lt fdLT) (T : Bx mg) (hM : ∃ k, mg "MOST_LITERALS" = some (.int 2 k)) :
    FnOk P w K mg base CX0 4 f fd ["thing"] (spStand K) := by
  obtain ⟨tk, hM⟩ := hM
  have GC : FnOk P w K mg base CX0 3 c' fdC ["thing", "most"] (spIsCl K) := ok_iscl C L I T
  have GT : FnOk P w K mg base CX0 3 lt fdLT ["thing"] (spLitT K) := ok_litT LT L I Tm W T
  refine F.F.ok scStand (fun vs H Q E h => ?_) (fun cdv A outer s H vs Q E hr h => ?_)
  · obtain ⟨a, xs, c, rfl, _⟩ := h
    rfl
  · obtain ⟨a, xs, c, rfl, hc, hs, q⟩ := h
    have hl := hc.len
    refine ⟨_, pss_one (ps_ret (pe_and (pe_call GC hr (by rfl) C.m C.F.kp C.b .nil pass0 (pa_cons (pv 0) (pa_cons (pe_glob (v := .int 2) (by rfl) hM ⟨_, rfl⟩) pa_nil)))
      (pe_one (pe_callB (cr_all rfl) (by rfl) T.all (by decide +kernel) (pa_cons
        (pe_lc (own := [("literal", 1)]) (g := gName 1) (tt := tYes) rfl scStand.nd (pi_tup (pv 0)) (blkOk_by (N := ["thing", "literal"]) (sc := defScope sStand) (by decide +kernel))
          (fun _ _ _ _ _ => pg_name (i := 1) scStand.nd rfl (Or.inl rfl)) (fun _ _ _ _ _ => pts_nil)
          (fun _ _ _ _ _ => pe_call GT hr (by rfl) LT.m LT.F.kp LT.b .nil pass0 (pa_cons (pv 1) pa_nil))) pa_nil))))), ?_⟩
    refine ⟨_, rfl, a, xs, c, 2, rfl, hc, fun H1 s1 => ⟨_, rfl, ?_⟩⟩
    by_cases h2 : (c.length : Int) ≤ 2
    case neg =>
      rw [decide_eq_false h2]
      have e : stands c = false := by
        unfold stands
        rw [decide_eq_false h2, Bool.false_and]
      rw [e] at q
      exact iteF (q H1 s1)
    case pos =>
    rw [decide_eq_true h2]
    have e : stands c = c.all fun l => isTerm l.1 && isTerm l.2.1 := by
      unfold stands
      rw [decide_eq_true h2, Bool.true_and]
    rw [e] at q
    have hc1 := Cl.same s1 hc
    refine iteT ⟨_, rfl, a, rfl, ⟨_, hc1.sq⟩, fun D hD => ?_⟩
    refine lc_it (walk_tup (xs := xs)) (fun i H2 => Same H1 H2 ∧ H2 D = some (.lst ((c.take i).map fun l => .bl (isTerm l.1 && isTerm l.2.1)))) ⟨new_same hD, upd_same⟩ (fun i H2 _ h => SqT.same h.1 hc1.sq) ?_ ?_
    · rintro i x H2 H3 hi ⟨s2, gD⟩ ⟨rfl, hx⟩
      obtain ⟨l, hcl, hx'⟩ := paired_get hc1.p hx
      obtain ⟨sh1, sh2⟩ := hs l (List.mem_of_getElem? hcl)
      refine ⟨rfl, yes_of ⟨_, rfl, x, l, rfl, IsLit.same s2 hx', sh1, sh2, fun H4 s4 => ?_⟩⟩
      refine ⟨_, s4 _ _ gD, small1000 (by rw [List.length_map, List.length_take]; have := hc.l2; omega), same_upd hD (fun b u z => s4 _ _ (s2 _ _ z)), ?_⟩
      rw [upd_same, List.take_add_one, hcl, List.map_append]
      rfl
    · rintro H2 ⟨s2, gD⟩
      refine ⟨D, c.map fun l => isTerm l.1 && isTerm l.2.1, rfl, SqL.of ?_, ?_⟩
      · rw [gD, hl, List.take_of_length_le (Nat.le_refl _), List.map_map]
        rfl
      · have e : (c.all fun l => isTerm l.1 && isTerm l.2.1) = (c.map fun l => isTerm l.1 && isTerm l.2.1).all id := by
          rw [List.all_map]
          rfl
        rw [← e]
        exact q H2 fun b u z => s2 _ _ (s1 _ _ z)
end
end Kx
namespace Kx
open PySem L2 PySem.Spec PyProof.Rows
def IsC (K : PySem.W.Frag) (H : Hp) (x : V) (c : List Lit) : Prop := ∃ a ys, x = .ref a ∧ Cl K H a ys c
theorem IsC.same {K : PySem.W.Frag} {H H' : Hp} {x : V} {c : List Lit} (s : Same H H') (h : IsC K H x c) : IsC K H' x c := let ⟨a, ys, e, q⟩ := h; ⟨a, ys, e, Cl.same s q⟩
/-- a tuple of clauses -/
structure Cs (K : PySem.W.Frag) (H : Hp) (a : Addr) (xs : List V) (cs : List (List Lit)) : Prop where
  sq : SqT K H a xs
  p : Paired (IsC K H) xs cs
  l : cs.length ≤ 1000
theorem pairedC_same {K : PySem.W.Frag} {H H' : Hp} (s : Same H H') {xs : List V} {cs : List (List Lit)} (h : Paired (IsC K H) xs cs) : Paired (IsC K H') xs cs := L2.Paired.mapP h fun _ _ z => IsC.same s z
theorem Cs.same {K : PySem.W.Frag} {H H' : Hp} {a : Addr} {xs : List V} {cs : List (List Lit)} (s : Same H H') (h : Cs K H a xs cs) : Cs K H' a xs cs := ⟨SqT.same s h.sq, pairedC_same s h.p, h.l⟩
def shortC (cs : List (List Lit)) : Prop := ∀ c ∈ cs, ∀ l ∈ c, Short l.1 ∧ Short l.2.1
/-- where clauses are refused, from the i-th on, d of two literals before -/
def wrongAt : Nat → Nat → List (List Lit) → Option Int
  | _, _, [] => none
  | i, d, c :: r => if stands c = true then if (if c.length = 2 then d + 1 else d) = 2 then some (i : Int) else wrongAt (i + 1) (if c.length = 2 then d + 1 else d) r else some (i : Int)
def firstWrong (cs : List (List Lit)) : Option Int := if 4 < cs.length then some (-1) else wrongAt 0 0 cs
def optV : Option Int → V
  | none => .non
  | some i => .int i
def spFirst (K : PySem.W.Frag) : Sp := fun vs H Q _ => ∃ (a : Addr) (xs : List V) (cs : List (List Lit)), vs = [.ref a] ∧ Cs K H a xs cs ∧ shortC cs ∧ ∀ H', Same H H' → Q (optV (firstWrong cs)) H'
/-- the package's own defs, as they are bound -/
structure Forms (K : PySem.W.Frag) (mg : Str → Option Value) : Prop where
  T : Bx mg
  mL : ∃ k, mg "MOST_LITERALS" = some (.int 2 k)
  mC : ∃ k, mg "MOST_CLAUSES" = some (.int 4 k)
  int : ∃ f fd, Fs K mg "is_integer" sIsInt ["thing"] f fd
  word : ∃ f fd, Fs K mg "is_word" sIsWord ["thing"] f fd
  term : ∃ f fd, Fs K mg "is_term" sIsTerm ["thing"] f fd
  lit : ∃ f fd, Fs K mg "is_literal" sIsLit ["thing"] f fd
  cl : ∃ f fd, Fs K mg "is_clause" sIsCl ["thing", "most"] f fd
  stand : ∃ f fd, Fs K mg "_can_stand" sStand ["thing"] f fd
  litT : ∃ f fd, Fs K mg "is_literal_over_terms" sLitT ["thing"] f fd
section
variable {P : Program} {w : World} {K : PySem.W.Frag} {mg : Str → Option Value} {base : Heap}
theorem scFirst : FnScope ["clauses", "doubles", "at", "clause"] ["clauses"] (defScope sFirst) := ⟨rfl, rfl, rfl, by decide +kernel, rfl, by decide +kernel, by decide +kernel⟩
theorem ok_first {f : Addr} {fd : FuncData} (F : Fs K mg "_first_wrong" sFirst ["clauses"] f fd) (M : Forms K mg) : FnOk P w K mg base CX0 5 f fd ["clauses"] (spFirst K) := by
  obtain ⟨tk, hM⟩ := M.mC
  obtain ⟨_, _, dI⟩ := M.int
  obtain ⟨_, _, dW⟩ := M.word
  obtain ⟨_, _, dT⟩ := M.term
  obtain ⟨_, _, dL⟩ := M.lit
  obtain ⟨_, _, dC⟩ := M.cl
  obtain ⟨_, _, dS⟩ := M.stand
  obtain ⟨_, _, dLT⟩ := M.litT
  have T := M.T
  have GS : FnOk P w K mg base CX0 4 _ _ ["thing"] (spStand K) := ok_stand dS dC dL dI dT dW dLT T M.mL
  refine F.F.ok scFirst (fun vs H Q E h => ?_) (fun cdv A outer s H vs Q E hr h => ?_)
  · obtain ⟨a, xs, cs, rfl, _⟩ := h
    rfl
  · obtain ⟨a, xs, cs, rfl, hc, hs, q⟩ := h
    have hl : xs.length = cs.length := Paired.length hc.p
    refine ⟨_, pss_cons (ps_if (pt_cmpR op_gt (pe_callB call_len_seq (by rfl) T.len PySem.boot_len (pa_cons (pv 0) pa_nil)) (pe_glob (v := .int 4) (by rfl) hM ⟨_, rfl⟩) (nomark _)) (pss_one (ps_ret (pe_un un_neg pe_int))) pss_nil)
      (pss_cons (ps_set (i := 1) scFirst.nd rfl (Or.inl rfl) pe_int)
      (pss_cons (ps_for PassesOwn.never rfl (pi_enumT (by rfl) T.enum (pa_cons (pv 0) pa_nil)) (pg_tup rfl (pgs_cons (pg_name (i := 2) scFirst.nd rfl (Or.inl rfl)) (pgs_cons (pg_name (i := 3) scFirst.nd rfl (Or.inl rfl)) pgs_nil)))
        (pss_cons (ps_if (pt_not (pt_val (pe_call GS hr (by rfl) dS.m dS.F.kp dS.b .nil pass0 (pa_cons (pv 3) pa_nil)))) (pss_one (ps_ret (pv 2))) pss_nil)
        (pss_cons (ps_if (pt_cmpR op_eq (pe_callB call_len_seq (by rfl) T.len PySem.boot_len (pa_cons (pv 3) pa_nil)) pe_int (nomark _)) (pss_one (ps_aug (i := 1) scFirst.nd rfl (Or.inl rfl) pe_int ip_add)) pss_nil)
        (pss_one (ps_if (pt_cmpR op_eq (pv 1) pe_int (nomark _)) (pss_one (ps_ret (pv 2))) pss_nil)))))
      (pss_one (ps_ret pe_non)))), ?_⟩
    refine ⟨_, rfl, a, xs, rfl, .inr hc.sq, _, _, rfl, rfl, _, rfl, ?_⟩
    rw [hl]
    by_cases h4 : (4 : Int) < (cs.length : Int)
    case pos =>
      rw [decide_eq_true h4]
      have e : firstWrong cs = some (-1) := by
        unfold firstWrong
        rw [if_pos (by omega)]
      rw [e] at q
      exact iteT ⟨_, rfl, q H fun _ _ z => z⟩
    case neg =>
    rw [decide_eq_false h4]
    have e : firstWrong cs = wrongAt 0 0 cs := by
      unfold firstWrong
      rw [if_neg (by omega)]
    rw [e] at q
    obtain ⟨R, hR⟩ : ∃ R, wrongAt 0 0 cs = R := ⟨_, rfl⟩
    rw [hR] at q
    refine iteF ?_
    refine ⟨_, rfl, a, xs, rfl, hc.sq, ?_⟩
    refine for_enumT (xs := xs) (fun i σ H2 => Same H H2 ∧ ∃ (d : Nat) (v2 v3 : Option V), σ = [some (.ref a), some (.int d), v2, v3] ∧ d < 2 ∧ wrongAt i d (cs.drop i) = R) ⟨fun _ _ z => z, 0, none, none, rfl, by decide, hR⟩
      (fun i σ H2 _ h => SqT.same h.1 hc.sq) ?_ ?_
    · rintro i x σ H2 t hx ⟨s2, d, v2, v3, rfl, hd, hw⟩ ht
      obtain ⟨c, hcl, y, ys, rfl, hy⟩ := paired_get hc.p hx
      have hdrop : cs.drop i = c :: cs.drop (i + 1) := (List.drop_eq_getElem?_toList_append).trans (by rw [hcl]; rfl)
      rw [hdrop] at hw
      have s3 : Same H (upd H2 t (.tup [.int (i : Nat), .ref y])) := fun b u z => new_same ht b u (s2 b u z)
      have hy3 := Cl.same s3 hy
      refine ⟨t, _, rfl, SqT.of upd_same, rfl, _, _, rfl, _, _, rfl, rfl, ?_⟩
      refine ⟨_, rfl, y, ys, c, rfl, hy3, fun l hm => hs c (List.mem_of_getElem? hcl) l hm, fun H4 s4 => ⟨_, rfl, ?_⟩⟩
      have s14 : Same H H4 := fun b u z => s4 b u (s3 b u z)
      have hy4 := Cl.same s14 hy
      unfold wrongAt at hw
      cases hst : stands c with
      | false =>
        rw [hst, if_neg Bool.false_ne_true] at hw
        rw [← hw] at q
        exact iteT ⟨_, rfl, q H4 s14⟩
      | true =>
        rw [hst, if_pos rfl] at hw
        refine iteF ?_
        refine ⟨_, rfl, y, ys, rfl, .inr hy4.sq, rfl, _, rfl, ?_⟩
        rw [hy4.len]
        by_cases h2 : c.length = 2
        case pos =>
          rw [if_pos h2] at hw
          have e2 : decide (V.int (c.length : Int) = V.int 2) = true := by rw [h2]; exact decide_eq_true rfl
          rw [e2]
          refine iteT ⟨_, rfl, _, _, rfl, rfl, ?_⟩
          refine ⟨_, rfl, rfl, _, rfl, ?_⟩
          by_cases h5 : d + 1 = 2
          case pos =>
            rw [if_pos h5] at hw
            have e5 : decide (V.int ((d : Int) + 1) = V.int 2) = true := by
              have : d = 1 := by omega
              rw [this]
              exact decide_eq_true rfl
            rw [e5]
            rw [← hw] at q
            exact iteT ⟨_, rfl, q H4 s14⟩
          case neg =>
            rw [if_neg h5] at hw
            have e5 : decide (V.int ((d : Int) + 1) = V.int 2) = false := decide_eq_false fun z => h5 (by have := V.int.inj z; omega)
            rw [e5]
            exact iteF ⟨s14, d + 1, _, _, rfl, by omega, hw⟩
        case neg =>
          rw [if_neg h2] at hw
          have e2 : decide (V.int (c.length : Int) = V.int 2) = false := decide_eq_false fun z => h2 (by have := V.int.inj z; omega)
          rw [e2]
          refine iteF ?_
          refine ⟨_, rfl, rfl, _, rfl, ?_⟩
          have h5 : ¬ d = 2 := by omega
          rw [if_neg h5] at hw
          have e5 : decide (V.int (d : Int) = V.int 2) = false := decide_eq_false fun z => h5 (by have := V.int.inj z; omega)
          rw [e5]
          exact iteF ⟨s14, d, _, _, rfl, hd, hw⟩
    · rintro σ H2 ⟨s2, d, v2, v3, rfl, hd, hw⟩
      rw [List.drop_of_length_le (by rw [hl]; exact Nat.le_refl _)] at hw
      rw [← hw] at q
      exact q H2 s2
end
end Kx
namespace Kx
open PySem L2 PySem.Spec PyProof.Rows
/-! the terms of clauses, gathered -/
abbrev noE (t : Str) : Bool := !decide (t = "")
def termsL (l : Lit) : List Str := [l.1, l.2.1].filter noE
def termsC (c : List Lit) : List Str := c.flatMap termsL
def termsOf (cs : List (List Lit)) : List Str := cs.flatMap termsC
structure Col (l ts : List Str) (n : Nat) : Prop where
  nd : l.Nodup
  mem : ∀ t, t ∈ l ↔ t ∈ ts
  len : l.length ≤ n
theorem Col.nil : Col [] [] 0 := ⟨List.nodup_nil, fun _ => Iff.rfl, Nat.le_refl _⟩
theorem put_nodup {l : List Str} {k : Str} (h : l.Nodup) : (put l k).Nodup := by
  unfold put
  by_cases hk : k ∈ l
  · rw [if_pos hk]; exact h
  · rw [if_neg hk]; exact List.nodup_cons.mpr ⟨hk, h⟩
theorem Col.put {l ts : List Str} {n : Nat} {k : Str} (C : Col l ts n) : Col (Kx.put l k) (ts ++ [k]) (n + 1) :=
  ⟨put_nodup C.nd, fun t => by rw [mem_put, List.mem_append, C.mem t, List.mem_singleton], Nat.le_trans put_len (Nat.succ_le_succ C.len)⟩
theorem Col.more {l ts : List Str} {n m : Nat} (C : Col l ts n) (h : n ≤ m) : Col l ts m := ⟨C.nd, C.mem, Nat.le_trans C.len h⟩
theorem walk_it {J : It} {n : Nat} {G : Hp → Prop} {Y : Nat → Hp → V → Hp → Prop} (w : Walk J n G Y) {g : TG} {tt : TT} {tb : TB} {vs : List Nat} {σ : L2.St} {H0 : Hp} {Qd : Hp → Prop} (Pv : Nat → Hp → Prop) (h0 : Pv 0 H0) (hG : ∀ i H, i ≤ n → Pv i H → G H)
    (hs : ∀ i x H H', i < n → Pv i H → Y i H x H' → g x (wipe σ vs) H' fun σ2 H2 => wipe σ2 vs = wipe σ vs ∧ tt σ2 H2 fun b H3 => if b = true then tb σ2 H3 (Pv (i + 1)) else Pv (i + 1) H3) (hd : ∀ H, Pv n H → Qd H) :
    ∃ W : Nat → Nat → Hp → Prop, (∃ m, W 0 m H0) ∧ ∀ i m H, W i m H → (J.stop i H ∧ Qd H) ∨ (J.go i H ∧ ∃ Nx : Hp → Prop, (∀ H', Nx H' → ∃ m', m' < m ∧ W (i + 1) m' H') ∧
      ∀ x H', J.yld i H x H' → g x (wipe σ vs) H' fun σ2 H2 => wipe σ2 vs = wipe σ vs ∧ tt σ2 H2 fun b H3 => if b = true then tb σ2 H3 Nx else Nx H3) := by
  refine ⟨fun i m H => m = n - i ∧ i ≤ n ∧ Pv i H, ⟨n, (Nat.sub_zero n).symm, Nat.zero_le _, h0⟩, ?_⟩
  rintro i m H ⟨rfl, hi, p⟩
  have q := hG i H hi p
  rcases Nat.lt_or_eq_of_le hi with hlt | e
  · exact .inr ⟨w.goes i H hlt q, Pv (i + 1), fun H' p' => ⟨n - (i + 1), by omega, rfl, hlt, p'⟩, fun x H' y => hs i x H H' hlt p (w.yields i H x H' hlt q y)⟩
  · subst e
    exact .inl ⟨w.stops H q, hd H p⟩
theorem SqT.ins {K : PySem.W.Frag} {H : Hp} {a b C dx : Addr} {fs : List (Str × V)} {u : HO} {xs : List V} (ha : H a = some (.ins C dx fs)) (h : SqT K H b xs) : SqT K (upd H a u) b xs := by
  rcases h with (h | ⟨o, h⟩) | h
  · exact .inl (.inl (by rw [upd_ne (fun e => by rw [e, ha] at h; cases h)]; exact h))
  · exact .inl (.inr ⟨o, by rw [upd_ne (fun e => by rw [e, ha] at h; cases h)]; exact h⟩)
  · exact .inr h
theorem Cl.ins {K : PySem.W.Frag} {H : Hp} {a b C dx : Addr} {fs : List (Str × V)} {u : HO} {xs : List V} {c : List Lit} (ha : H a = some (.ins C dx fs)) (h : Cl K H b xs c) : Cl K (upd H a u) b xs c :=
  ⟨SqT.ins ha h.sq, L2.Paired.mapP h.p fun _ _ ⟨e, z, q⟩ => ⟨e, z, SqT.ins ha q⟩, h.l1, h.l2⟩
theorem Cs.ins {K : PySem.W.Frag} {H : Hp} {a b C dx : Addr} {fs : List (Str × V)} {u : HO} {xs : List V} {cs : List (List Lit)} (ha : H a = some (.ins C dx fs)) (h : Cs K H b xs cs) : Cs K (upd H a u) b xs cs :=
  ⟨SqT.ins ha h.sq, L2.Paired.mapP h.p fun _ _ ⟨e, ys, z, q⟩ => ⟨e, ys, z, Cl.ins ha q⟩, h.l⟩
theorem stands_len {c : List Lit} (h : stands c = true) : c.length ≤ 2 := by
  unfold stands at h
  rw [Bool.and_eq_true, decide_eq_true_eq] at h
  omega
theorem wrong_none : ∀ {cs : List (List Lit)} {i d : Nat}, wrongAt i d cs = none → ∀ c ∈ cs, stands c = true
  | [], _, _, _, c, hc => nomatch hc
  | c0 :: r, i, d, h, c, hc => by
    unfold wrongAt at h
    by_cases hs : stands c0 = true
    · rw [if_pos hs] at h
      generalize hd : (if c0.length = 2 then d + 1 else d) = d2 at h
      by_cases h2 : d2 = 2
      · rw [if_pos h2] at h
        cases h
      · rw [if_neg h2] at h
        rcases List.mem_cons.mp hc with e | e
        · rw [e]; exact hs
        · exact wrong_none h c e
    · rw [if_neg hs] at h
      cases h
theorem first_none {cs : List (List Lit)} (h : firstWrong cs = none) : cs.length ≤ 4 ∧ ∀ c ∈ cs, stands c = true := by
  unfold firstWrong at h
  by_cases h4 : 4 < cs.length
  · rw [if_pos h4] at h
    cases h
  · rw [if_neg h4] at h
    exact ⟨by omega, wrong_none h⟩
theorem Col.same {l ts ts' : List Str} {n : Nat} (C : Col l ts n) (e : ts = ts') : Col l ts' n := e ▸ C
theorem filt (r : List Str) (t : Str) : (r ++ [t]).filter noE = r.filter noE ++ (if t = "" then [] else [t]) := by
  rw [List.filter_append]
  by_cases h : t = ""
  · rw [if_pos h, List.filter_cons_of_neg (by simp [h])]
    rfl
  · rw [if_neg h, List.filter_cons_of_pos (by simp [h])]
    rfl
abbrev mth (i : Nat) : Stmt := inClass (top 23) i
abbrev sInit : Stmt := mth 0
abbrev nI : List Str := ["self", "clauses", "wrong", "clause", "one", "term"]
structure Cnd (K : PySem.W.Frag) (mg : Str → Option Value) (C : Addr) : Prop where
  cls : Cls K C
  nc : NoAttr K C "clauses"
  nt : NoAttr K C "terms"
  gC : mg "Cond" = some (.ref C)
  first : ∃ f fd, Fs K mg "_first_wrong" sFirst ["clauses"] f fd
  M : Forms K mg
/-- what Cond's own attributes tell -/
structure CondF (K : PySem.W.Frag) (H : Hp) (a C dx p q : Addr) (cs : List (List Lit)) (ys : List Str) : Prop where
  ins : H a = some (.ins C dx (putF "terms" (.ref q) (putF "clauses" (.ref p) [])))
  cl : ∃ xs, Cs K H p xs cs
  tm : SqT K H q (ys.map V.str)
  so : sortedS ys = true
  nd : ys.Nodup
  mem : ∀ t, t ∈ ys ↔ t ∈ termsOf cs
def raiseI : Stmt := match defBody sInit with
  | _ :: .If _ [r] _ _ :: _ => r
  | _ => .Pass ⟨0, 0, 0, 0⟩
def spInitB (K : PySem.W.Frag) (C : Addr) (F : Hp → Int → Prop) : Sp := fun vs H Q _ => ∃ (a dx p : Addr) (xs : List V) (cs : List (List Lit)), vs = [.ref a, .ref p] ∧ H a = some (.ins C dx []) ∧ Cs K H p xs cs ∧ shortC cs ∧
  (firstWrong cs = none → ∀ H' q ys, CondF K H' a C dx p q cs ys → (∀ b u, b ≠ a → H b = some u → H' b = some u) → Q .non H') ∧ ∀ i, firstWrong cs = some i → ∀ H1, Same H H1 → F H1 i
section
variable {P : Program} {w : World} {K : PySem.W.Frag} {mg : Str → Option Value} {base : Heap}
theorem scI : FnScope nI (([("self" : PySem.Str)] : List PySem.Str) ++ [("clauses" : PySem.Str)]) (defScope sInit) := ⟨rfl, rfl, rfl, by decide +kernel, rfl, by decide +kernel, by decide +kernel⟩
theorem body_init {f C : Addr} (D : Cnd K mg C) {CX : CXT} (cdv : Value) (A : Around) (outer : List Env) (s : Shared) (H : Hp) (vs : List V) (Q : VK) (E : XK) (F : Hp → Int → Prop) (hr : Room 5 (A.deeper (envOfC "Cond.__init__" (defScope sInit) s.heap.objs.size f cdv))) {tR : TS}
    (hR : PS (cxOf CX P w K mg base nI "Cond.__init__" (defScope sInit) f cdv A outer s H E) raiseI tR) (hF : ∀ (D' : Ends) v0 v1 i v3 v4 v5 H1, Same H H1 → F H1 i → tR D' [v0, v1, some (.int i), v3, v4, v5] H1) (h : spInitB K C F vs H Q E) :
    ∃ t, PSs (cxOf CX P w K mg base nI "Cond.__init__" (defScope sInit) f cdv A outer s H E) (defBody sInit) t ∧ t { nx := fun _ H' => Q .non H', rt := Q } (start nI vs) H := by
  obtain ⟨_, _, dF⟩ := D.first
  have GF : FnOk P w K mg base CX0 5 _ _ ["clauses"] (spFirst K) := ok_first dF D.M
  have T := D.M.T
  obtain ⟨a, dx, p, xs, cs, rfl, ha, hc, hsh, qn, qf⟩ := h
  refine ⟨_, pss_cons (ps_set (i := 2) scI.nd rfl (Or.inl rfl) (pe_call GF hr (by rfl) dF.m dF.F.kp dF.b .nil pass0 (pa_cons (pv 1) pa_nil)))
    (pss_cons (ps_if (pt_cmpR op_notN (pv 2) pe_non (nomark _)) (pss_one hR) pss_nil)
    (pss_cons (ps_fld (pv 0) (pv 1) (by rfl))
    (pss_one (ps_fld (pv 0) (pe_tupleOf (by rfl) T.tuple (pe_callB (cr_sortedX rfl) (by rfl) T.sorted (by decide +kernel) (pa_cons
      (pe_sc3 (own := [("clause", 3), ("one", 4), ("term", 5)]) (vs1 := [4, 5]) (vs2 := [5]) (g0 := gName 3) (g1 := gName 4) (g2 := gName 5) (tt0 := tYes) (tt1 := tYes) (w1 := iTup K (tVar 3)) (w2 := iTup K (tSl (rSlA K) (tVar 4) tNoPart (tPart (tC (.int 2))))) (tt2 := tTest (tOp rNe (tVar 5) (tC (.str "")))) (te := tVar 5) rfl scI.nd (pi_tup (pv 1)) (blkOk_by (N := nI) (sc := defScope sInit) (by decide +kernel)) (by decide) (by decide)
        (fun _ _ _ _ _ => pg_name (i := 3) scI.nd rfl (Or.inl rfl)) (fun _ _ _ _ _ => pts_nil)
        (fun _ _ _ _ _ => pi_tup (pv 3)) (fun _ _ _ _ _ => pg_name (i := 4) scI.nd rfl (Or.inl rfl)) (fun _ _ _ _ _ => pts_nil)
        (fun _ _ _ _ _ => pi_tup (pe_slice sl_tupA (pv 4) po_none (po_some pe_int))) (fun _ _ _ _ _ => pg_name (i := 5) scI.nd rfl (Or.inl rfl)) (fun _ _ _ _ _ => pts_one (pt_cmpR op_ne (pv 5) pe_str (nomark _)))
        (fun _ _ _ _ _ => pv 5)) pa_nil))) (by rfl))))), ?_⟩
  have bound : (64 : Nat) < scanBound := by decide
  have hl : xs.length = cs.length := Paired.length hc.p
  refine ⟨_, rfl, p, xs, cs, rfl, hc, hsh, fun H1 s1 => ?_⟩
  cases hw : firstWrong cs with
  | some i => exact ⟨_, rfl, rfl, _, rfl, iteT (hF _ _ _ _ _ _ _ _ s1 (qf i hw H1 s1))⟩
  | none =>
  have q := qn hw
  obtain ⟨n4, hst⟩ := first_none hw
  refine ⟨_, rfl, rfl, _, rfl, iteF ?_⟩
  refine ⟨_, rfl, _, rfl, a, C, dx, [], rfl, s1 _ _ ha, D.cls, D.nc, by decide, ?_⟩
  obtain ⟨H2, e2⟩ : ∃ H2, upd H1 a (.ins C dx (putF "clauses" (.ref p) [])) = H2 := ⟨_, rfl⟩
  have ha2 : H2 a = some (.ins C dx (putF "clauses" (.ref p) [])) := by rw [← e2]; exact upd_same
  have hc2 : Cs K H2 p xs cs := by rw [← e2]; exact Cs.ins (s1 _ _ ha) (Cs.same s1 hc)
  have k2 : ∀ b u, b ≠ a → H b = some u → H2 b = some u := fun b u nb z => by rw [← e2, upd_ne nb]; exact s1 _ _ z
  rw [e2]
  refine ⟨_, rfl, p, rfl, ⟨_, hc2.sq⟩, fun Ds hD => ?_⟩
  refine walk_it (walk_tup (xs := xs)) (fun i H3 => Same H2 H3 ∧ ∃ l, H3 Ds = some (SetX P w Ds l) ∧ Col l (termsOf (cs.take i)) (4 * i)) ⟨new_same hD, [], upd_same, Col.nil⟩ (fun i H3 _ h => SqT.same h.1 hc2.sq) ?_ ?_
  · rintro i x H3 H4 hi ⟨s3, l, gD, hC⟩ ⟨rfl, hx⟩
    obtain ⟨c, hcl, b, ys, rfl, hb⟩ := paired_get hc2.p hx
    have hcm : c ∈ cs := List.mem_of_getElem? hcl
    have c2 := stands_len (hst c hcm)
    have hi4 : i < 4 := by omega
    have hyl : ys.length = c.length := hb.len
    refine ⟨rfl, yes_of ⟨_, rfl, b, rfl, ⟨_, SqT.same s3 hb.sq⟩, ?_⟩⟩
    refine walk_it (walk_tup (xs := ys)) (fun j H5 => Same H2 H5 ∧ ∃ l, H5 Ds = some (SetX P w Ds l) ∧ Col l (termsOf (cs.take i) ++ termsC (c.take j)) (4 * i + 2 * j)) ⟨s3, l, gD, hC.same (List.append_nil _).symm⟩ (fun j H5 _ h => SqT.same h.1 hb.sq) ?_ ?_
    · rintro j x H5 H6 hj ⟨s5, l5, g5, hC5⟩ ⟨rfl, hx5⟩
      obtain ⟨lt, hlt, e, rfl, he⟩ := paired_get hb.p hx5
      obtain ⟨t1, t2, n⟩ := lt
      have he5 := SqT.same s5 he
      refine ⟨rfl, yes_of ?_⟩
      refine ⟨_, rfl, _, rfl, e, _, rfl, he5, fun z => absurd z.2 (by show ¬ HT.sIx 3 3 (some 2) = 3; decide), fun _ q5 hq5 => ?_⟩
      have s6 := same_upd hq5 (fun b u z => z : Same H6 H6) (o := .tup [.str t1, .str t2])
      have nq : q5 ≠ Ds := fun z => by
        rw [z, g5] at hq5
        cases hq5
      refine ⟨q5, rfl, ⟨_, SqT.of upd_same⟩, ?_⟩
      refine walk_it (walk_tup (xs := [V.str t1, V.str t2])) (fun k H7 => Same H2 H7 ∧ H7 q5 = some (.tup [.str t1, .str t2]) ∧ ∃ l, H7 Ds = some (SetX P w Ds l) ∧ Col l (termsOf (cs.take i) ++ termsC (c.take j) ++ ([t1, t2].take k).filter noE) (4 * i + 2 * j + k))
        ⟨fun b u z => s6 _ _ (s5 _ _ z), upd_same, l5, (by rw [upd_ne (Ne.symm nq)]; exact g5), hC5.same (List.append_nil _).symm⟩ (fun k H7 _ h => SqT.of h.2.1) ?_ ?_
      · rintro k x H7 H8 hk ⟨s7, g7, l7, gD7, hC7⟩ ⟨rfl, hx7⟩
        obtain ⟨t, ht, rfl⟩ : ∃ t, [t1, t2][k]? = some t ∧ x = .str t := by
          have e : [V.str t1, V.str t2] = [t1, t2].map V.str := rfl
          rw [e, List.getElem?_map] at hx7
          obtain ⟨t, h1, h2⟩ := Option.map_eq_some_iff.mp hx7
          exact ⟨t, h1, h2.symm⟩
        have hk2 : k < 2 := hk
        have et : ([t1, t2].take (k + 1)).filter noE = ([t1, t2].take k).filter noE ++ (if t = "" then [] else [t]) := by
          rw [List.take_add_one, ht]
          exact filt _ t
        refine ⟨rfl, _, rfl, rfl, _, rfl, ?_⟩
        by_cases hz : t = ""
        · have e : (!decide (V.str t = V.str "")) = false := by rw [hz]; decide
          rw [e, et, if_pos hz]
          exact iteF ⟨s7, g7, l7, gD7, (hC7.same (by rw [List.append_nil])).more (Nat.le_succ _)⟩
        · have e : (!decide (V.str t = V.str "")) = true := by
            rw [decide_eq_false fun z => hz (V.str.inj z)]
            rfl
          rw [e, et, if_neg hz]
          refine iteT ⟨_, rfl, l7, t, rfl, gD7, by have := hC7.len; omega, same_upd hD s7, by rw [upd_ne nq]; exact g7, _, upd_same, ?_⟩
          exact (hC7.put (k := t)).same (List.append_assoc _ _ _)
      · rintro H7 ⟨s7, g7, l7, gD7, hC7⟩
        refine ⟨s7, l7, gD7, (hC7.same ?_).more (by show 4 * i + 2 * j + 2 ≤ _; omega)⟩
        rw [List.take_add_one, hlt]
        unfold termsC
        rw [List.flatMap_append, List.append_assoc]
        simp [termsL]
    · rintro H5 ⟨s5, l5, g5, hC5⟩
      refine ⟨s5, l5, g5, (hC5.same ?_).more (by omega)⟩
      rw [hyl, List.take_of_length_le (Nat.le_refl _), List.take_add_one, hcl]
      unfold termsOf
      rw [List.flatMap_append]
      simp
  · rintro H3 ⟨s3, l, gD, hC⟩
    rw [hl, List.take_of_length_le (Nat.le_refl _)] at hC
    refine ⟨Ds, l, rfl, gD, by have := hC.len; omega, fun zs p3 hso hpm hp3 => .inl ⟨p3, _, rfl, SqL.of upd_same, fun q4 hq4 => ?_⟩⟩
    have s5 : Same H2 (upd (upd H3 p3 (.lst (zs.map V.str))) q4 (.tup (zs.map V.str))) := fun b u z => new_same hq4 _ _ (new_same hp3 _ _ (s3 _ _ z))
    have ha5 := s5 _ _ ha2
    have hc5 := Cs.same s5 hc2
    refine ⟨_, rfl, a, C, dx, _, rfl, ha5, D.cls, D.nt, (by show 1 < 1000; decide), ?_⟩
    refine q _ q4 zs ⟨upd_same, ⟨xs, Cs.ins ha5 hc5⟩, SqT.ins ha5 (SqT.of upd_same), hso, hpm.nodup_iff.mpr hC.nd, fun t => hpm.mem_iff.trans (hC.mem t)⟩ fun b u nb z => ?_
    rw [upd_ne nb]
    exact s5 _ _ (k2 b u nb z)
end
end Kx
namespace Kx
open PySem L2 PySem.Spec PyProof.Rows

/-! the classes of errors: what the walk asks of each -/
abbrev veL : List Value := [.type "ValueError", .type "Exception", .type "BaseException", .type "object"]
theorem ve_ok (B : Addr) : PySem.HandSPX.refsVE (.ref B :: veL) = true := by
  show PySem.HandSPX.refsVE veL = true
  decide +kernel
structure Ct (K : PySem.W.Frag) (B C : Addr) : Prop where
  cls : ∃ nm q N bs sn sub ab col dd k0 k1 k2 k3 k5, K.lookup C = some (excClassObj nm q C N bs (.ref B :: veL) true sn sub ab col dd k0 k1 k2 k3 k5 "ValueError.__new__")
  sa : PySem.W.findIn K (.ref C) "__setattr__" = some (some (.builtin "object.__setattr__"))
  ga : PySem.W.findIn K (.ref C) "__getattribute__" = some (some (.builtin "BaseException.__getattribute__"))
  gg : PySem.W.findIn K (.ref C) "__getattr__" = some none
  tyC : PySem.W.typeIn K (.ref C) = some (.type "type")
  kC : PySem.W.keepIn K (.ref C) = true
  hdC : PySem.W.hasDictIn K C = true
  ha : PySem.W.findIn K (.ref C) "__class__" = some (some (.builtin "object.__class__"))
structure Gt (K : PySem.W.Frag) (B : Addr) : Prop where
  hn : PySem.W.specialIn K (.builtin "object.__class__") "__get__" = some (some (.builtin "getset_descriptor.__get__"))
  ht : PySem.W.takesIn K (.builtin "object.__class__") = some true
  isB : (PySem.W.clsIn K B).isSome = true
  tyB : PySem.W.typeIn K (.ref B) = some (.type "type")
  bsB : PySem.W.subIn K (.ref B) (.type "BaseException") = some true
  hdB : PySem.W.hasDictIn K B = true
section
variable {K : PySem.W.Frag} {B C D : Addr}
theorem Ct.cd (T : Ct K B C) : ∃ cd, PySem.W.clsIn K C = some cd ∧ cd.mro = .ref C :: .ref B :: veL := by
  obtain ⟨nm, q, N, bs, sn, sub, ab, col, dd, k0, k1, k2, k3, k5, h⟩ := T.cls
  exact ⟨_, by unfold PySem.W.clsIn; rw [h] <;> rfl, rfl⟩
theorem Ct.mro (T : Ct K B C) (v : Value) : PySem.W.mroIn K C v = some ((.ref C :: .ref B :: veL : List Value).contains v) := by
  obtain ⟨cd, h, e⟩ := T.cd
  unfold PySem.W.mroIn
  rw [h, Option.bind_some, e] <;> rfl
theorem Ct.base (T : Ct K B C) : PySem.W.subIn K (.ref C) (.type "BaseException") = some true := by
  show PySem.W.mroIn K C _ = _
  rw [T.mro]
  rfl
theorem Ct.isC (T : Ct K B C) : (PySem.W.clsIn K C).isSome = true := by
  obtain ⟨cd, h, _⟩ := T.cd
  rw [h]; rfl
theorem Ct.oex (T : Ct K B C) : OexC K C := by
  obtain ⟨nm, q, N, bs, sn, sub, ab, col, dd, k0, k1, k2, k3, k5, h⟩ := T.cls
  exact ⟨⟨nm, q, N, bs, _, sn, sub, ab, col, dd, k0, k1, k2, k3, k5, h, ve_ok B⟩, T.sa, T.base, T.tyC, T.kC⟩
theorem Ct.xf (T : Ct K B C) : XfC K C := ⟨T.ga, T.gg, T.base, T.hdC⟩
theorem kit_ref (T : Ct K B C) {b : Bool} (hD : (PySem.W.clsIn K D).isSome = true) (tD : PySem.W.typeIn K (.ref D) = some (.type "type")) (hb : (.ref C :: .ref B :: veL : List Value).contains (.ref D) = b) : PySem.W.kitOne K (.ref C) (.ref D) = some b := by
  unfold PySem.W.kitOne
  by_cases h : ((Value.ref C == Value.ref D) = true)
  · rw [if_pos h]
    have e : Value.ref C = Value.ref D := beq_iff_eq.mp h
    rw [← hb, ← e]
    simp
  · rw [if_neg h]
    show (if ((PySem.W.clsIn K D).isSome && PySem.W.typeIn K (.ref D) == some (.type "type")) = true then PySem.W.subIn K (.ref C) (.ref D) else none) = _
    rw [hD, tD, if_pos (by rfl)]
    show PySem.W.mroIn K C _ = _
    rw [T.mro, hb]
theorem kit_yes (T : Ct K B C) : PySem.W.kitOne K (.ref C) (.ref C) = some true := kit_ref T T.isC T.tyC (by simp)
theorem kit_no (T : Ct K B C) (S : Ct K B D) (h1 : D ≠ C) (h2 : D ≠ B) : PySem.W.kitOne K (.ref C) (.ref D) = some false := kit_ref T S.isC S.tyC (by simp [h1, h2])
theorem kit_b (T : Ct K B C) (G : Gt K B) : PySem.W.kitOne K (.ref C) (.ref B) = some true := kit_ref T G.isB G.tyB (by simp)
theorem kit_ve (T : Ct K B C) : PySem.W.kitOne K (.ref C) (.type "ValueError") = some true := by
  unfold PySem.W.kitOne
  rw [if_neg (by simp)]
  show (if PySem.W.kitMeta "ValueError" = true then PySem.W.subIn K (.ref C) (.type "ValueError") else none) = _
  rw [if_pos (by decide +kernel)]
  show PySem.W.mroIn K C _ = _
  rw [T.mro]
  rfl
end

/-! an error of a class as it stands: with its fields, or without any -/
def HasF (H : Hp) (a C : Addr) (fs : List (Str × V)) : Prop := ∃ d, d ≠ a ∧ H a = some (exo a C (some d)) ∧ H d = some (exd d fs)
def Bare (H : Hp) (a C : Addr) : Prop := H a = some (ExO (.ref C) a)
def ErrAt (H : Hp) (a C : Addr) : Prop := (∃ fs, HasF H a C fs) ∨ Bare H a C

section
variable {X : Cx} {pins : List (Addr × Obj)} {σ : L2.St} {H : Hp} {s : Shared} {a B C : Addr}
theorem err_inst (I : Inv X pins σ H s) (h : ErrAt H a C) : ∃ ox od, PySem.W.InstAt s.heap a ox C od := by
  rcases h with ⟨fs, d, _, h1, h2⟩ | h
  · obtain ⟨t1, e1⟩ := exo_at I.hok h1
    obtain ⟨mA, hn, _⟩ := exd_at I.hok h2
    obtain ⟨od, e2, _⟩ := lookIn_ns hn
    exact ⟨_, some od, ⟨e1, rfl, rfl, e2⟩⟩
  · obtain ⟨⟨oe, vs, e1, hz, hd, _⟩, _, _⟩ := I.hok a _ h
    obtain ⟨oc, odd, oda, osl⟩ := oe
    obtain ⟨z1, z2⟩ := hz
    dsimp only at z1 z2 hd
    subst z1 z2 hd
    exact ⟨_, none, ⟨e1, rfl, rfl, trivial⟩⟩
/-- isinstance(e, c), e an error that stands -/
def rIsErr (K : PySem.W.Frag) (B : Addr) : List V → Hp → VK → Prop := fun xs H Q => ∃ (a C : Addr) (c : V) (u : Value) (b : Bool), xs = [.ref a, c] ∧ ErrAt H a C ∧ Ct K B C ∧ ClsV c u ∧ PySem.W.kitOne K (.ref C) u = some b ∧ Q (.bl b) H
theorem call_isErr (G : Gt X.K B) : CallR X (.builtin "isinstance") (rIsErr X.K B) := by
  intro pins s σ H xs us Q I r h
  obtain ⟨a, C, c, u, b, rfl, he, T, k, e, q⟩ := h
  obtain ⟨u1, u2, rfl, r1, r2⟩ := vals2 r
  have z1 : u1 = Value.ref a := r1
  subst z1
  have e2 := k.eq r2
  subst e2
  obtain ⟨ox, od, J⟩ := err_inst I he
  exact PySem.W.kia_one (PySem.W.kitx_exc T.isC T.ga T.gg T.base T.ha G.hn G.ht (by rw [T.mro]; rfl)) I.kIn J e (fun z => nomatch z) fun tk => ⟨.bl b, H, I.tok tk, rfl, q⟩
/-- e.f, e an error that stands -/
theorem pe_errF {e : Expr} {te : TE} {pos : Pos} {n : Str} (he : PE X e te) (hb : attributeBase e n X.env (eval e X.env) = eval e X.env := by rfl) :
    PE X (.Attribute e n pos) (fun σ H Q => te σ H fun x H1 => ∃ (a B C : Addr) (fs : List (Str × V)) (v : V), x = .ref a ∧ Ct X.K B C ∧ PySem.W.findIn X.K (.ref C) n = some none ∧ HasF H1 a C fs ∧ fs.lookup n = some v ∧ Q v H1) := by
  refine ⟨fun pins s σ H Q I h => ?_⟩
  refine attr_of hb (thn (he.run pins s σ H _ I h) fun u s1 hh => ?_)
  obtain ⟨x, H1, I1, rx, a, B, C, fs, v, ex, T, hno, ⟨d, _, h1, h2⟩, l, q⟩ := hh
  subst ex
  obtain rfl : u = Value.ref a := rx
  obtain ⟨t1, e1⟩ := exo_at I1.hok h1
  obtain ⟨mA, hns, hr⟩ := exd_at I1.hok h2
  obtain ⟨od, ho, hl⟩ := lookIn_ns hns
  obtain ⟨u, hu, ru⟩ := RelO.some_of (v := v) (o := mA n) (by rw [← l]; exact hr n)
  have J : PySem.W.InstAt s1.heap a _ C (some od) := ⟨e1, rfl, rfl, ho⟩
  exact HandSPX.exc_get I1.kIn J T.ga T.gg T.base (PySem.W.findObj_own T.hdC hno rfl (by rw [hl, hu])) (handed_of ru) ⟨v, H1, I1.tok _, ru, q⟩
end

/-! how an error is made: its __init__ stores each argument under its own name -/
def spI (K : PySem.W.Frag) (ns : List Str) : Sp := fun vs H Q _ => ∃ (a B C : Addr) (ws : List V), vs = .ref a :: ws ∧ ws.length = ns.length ∧ Ct K B C ∧ (∀ f ∈ ns, PySem.W.findIn K (.ref C) f = some none) ∧ H a = some (exo a C none) ∧
  ∀ dx H', H dx = none → dx ≠ a → H' a = some (exo a C (some dx)) → H' dx = some (exd dx (ns.zip ws).reverse) → (∀ b, b ≠ a → b ≠ dx → H' b = H b) → Q .non H'
section
variable {X : Cx} {e : Expr} {es : List Expr} {ta : TA} {p pos : Pos}
/-- C(e, ..) as a value: a new error with its fields -/
theorem pe_err {CX : CXT} {x : Str} {B C fI : Addr} {k : Nat} {fd : FuncData} {ps : List Str} {ns : List Str} (T : Ct X.K B C) (hno : ∀ f ∈ ns, PySem.W.findIn X.K (.ref C) f = some none) (iC : PySem.W.findIn X.K (.ref C) "__init__" = some (some (.ref fI))) (tI : PySem.W.typeIn X.K (.ref fI) = some (.type "function"))
    (F1 : FnOk X.prog X.w X.K X.mg X.base CX k fI fd ps (spI X.K ns)) (hr : Room (k + 1) X.A) (hb : Binds X.K fd ps []) (hx : Passes CX X (fun _ _ _ => False)) (hm : X.mg x = some (.ref C)) (ha : PA X (e :: es) ta) (hg : Gl X x := by rfl)
    (hdb : (x == ("__debug__" : Str)) = false := by decide) (he : starEach (e :: es) X.env = (false, eval e X.env) :: starEach es X.env := by rfl) (hpl : (backTo pos (starEach es X.env)).any (·.1) = false := by rfl) :
    PE X (.Call (.Name x p) (e :: es) [] pos) (fun σ H Q => ta σ H fun vs H1 => vs.length = ns.length ∧ ns.length ≤ 100 ∧ ∀ a H2, H1 a = none → HasF H2 a C (ns.zip vs).reverse → Same H1 H2 → Q (.ref a) H2) := by
  refine ⟨fun pins s σ H Q I h => ?_⟩
  obtain ⟨nm, q, N, bs, sn, sub, ab, col, dd, k0, k1, k2, k3, k5, hC⟩ := T.cls
  refine wpAny_Call_Name_kw (ld_glob I hg hm ?_ hdb)
  refine PySem.W.callWith_K (h₀ := X.base) I.ok.mod.kin T.kC (thn (ha.run pos pins s σ H _ I h) fun us s1 ⟨vs, H1, I1, r1, hz, hz2, q1⟩ => ⟨I1.kIn, ?_⟩) he hpl
  show wpAny _ _ (call (.ref C) us) _ _ _
  obtain ⟨hp, g, dr, tk, os⟩ := s1
  have hsz : hp.objs.size ≤ hp.objs.size + 1 := Nat.le_succ _
  have hn : H1 (hp.objs.size + 1) = none := I1.hok.fresh hsz
  have kk : ∀ b o, hp.get? b = some o → ((hp.push (PySem.W.kdv_tup us)).push (PySem.HandSPX.excO C hp.objs.size)).get? b = some o := fun b o z => Heap.get?_push_of_some _ (Heap.get?_push_of_some _ z)
  have hget : ((hp.push (PySem.W.kdv_tup us)).push (PySem.HandSPX.excO C hp.objs.size)).get? (hp.objs.size + 1) = some (PySem.HandSPX.excO C hp.objs.size) := by heap_get
  have I2 := I1.laid (t' := tk) (a := hp.objs.size + 1) (o := exo (hp.objs.size + 1) C none) (h' := (hp.push (PySem.W.kdv_tup us)).push (PySem.HandSPX.excO C hp.objs.size)) kk hsz (exo_ok hget)
  have r2 : Vals (V.ref (hp.objs.size + 1) :: vs) (Value.ref (hp.objs.size + 1) :: us) := .cons rfl r1
  have hq : spI X.K ns (V.ref (hp.objs.size + 1) :: vs) (upd H1 (hp.objs.size + 1) (exo (hp.objs.size + 1) C none)) (fun v H2 => v = .non ∧ Q (.ref (hp.objs.size + 1)) H2) (fun _ _ _ => False) := by
    refine ⟨_, B, C, vs, rfl, hz, T, hno, upd_same, fun dx H' n1 n2 e1 e2 e3 => ⟨rfl, q1 _ H' hn ⟨dx, n2, e1, e2⟩ fun b o z => ?_⟩⟩
    have nb : b ≠ hp.objs.size + 1 := ne_of_none z hn
    have n3 : H1 dx = none := by rw [← upd_ne (H := H1) (o := exo (hp.objs.size + 1) C none) n2]; exact n1
    rw [e3 b nb (ne_of_none z n3), upd_ne nb]
    exact z
  have hl : (Value.ref (hp.objs.size + 1) :: us).length = ps.length := by
    have z := r2.length
    rw [F1.len _ _ _ _ hq] at z
    exact z.symm
  have hus : us.length ≤ sizeLine := by
    rw [← Paired.length r1, sizeLine_eq]
    omega
  have hbs := hb ⟨(hp.push (PySem.W.kdv_tup us)).push (PySem.HandSPX.excO C hp.objs.size), g, dr, tk, os⟩ (Value.ref (hp.objs.size + 1) :: us) I2.kIn (by rw [List.append_nil]; exact hl)
  rw [List.append_nil] at hbs
  refine wpAny_call (PySem.HandSPX.call_own F.excBase_ValueError (fun Y => PySem.HandSPX.refsVE_contains Y _ (ve_ok B)) (I1.kIn _ _ hC) (PySem.W.looks_findIn I1.kIn iC) (fun self => PySem.W.bind_fn I1.kIn self tI) hus
    (codeAny_mono (F1.run _ X.stack _ _ ⟨Value.ref (hp.objs.size + 1) :: us, []⟩ (Value.ref (hp.objs.size + 1) :: us) _ _ (fun _ _ _ => False) (hr.make C us []) (I2.env0.make C us []) hbs r2 hq) fun r s' hq' => ?_))
  cases r with
  | error er => exact hx pins σ _ _ er s' I2 hq'
  | ok fl =>
    cases fl with
    | ret u =>
      obtain ⟨v, H2, os2, bare2, un2, hok2, rv, ev, q2⟩ := hq'
      subst ev
      exact ⟨rv, .ref (hp.objs.size + 1), H2, I2.call' (ch := []) os2 un2 hok2 bare2 (fun b z => absurd z (by simp)), rfl, q2⟩
    | next => exact False.elim hq'
    | brk => exact False.elim hq'
    | cont => exact False.elim hq'
end
end Kx
namespace Kx
open PySem L2 PySem.Spec PyProof.Rows
open StX (fn_star cxUp_none bind_star1 pe_makeR tMakeR run_makeR star_any pa_star CXUp)
theorem takesN0 {X : Cx} : L2N.Takes X (fun _ _ _ _ => False) := fun _ _ x => by
  obtain ⟨_, _, _, _, _, _, _, _, _, _, _, _, _, _, _, _, z⟩ := x
  exact z.elim
section
variable {X : Cx} {e : Expr} {te : TE}
theorem pmkN_err {K : PySem.W.Frag} {H0 : Hp} (hK : X.K = K) (hH : X.H_0 = H0) (hx : X.ex = []) (he : PE X e te) : L2N.PMk X e (fun σ H Q => te σ H fun x H1 => ∃ a B C d : Addr, x = .ref a ∧ Ct K B C ∧ H1 a = some (exo a C (some d)) ∧ Fr0 H0 a ∧ Q (.ref C) (some d) (delH H1 a)) := by
  subst hK hH
  intro pins s σ H Q I h
  refine thn (he.run pins s σ H _ I h) fun u s1 ⟨v, H1, I1, r1, a, B, C, d, ev, T, ha, h0, q⟩ => ?_
  subst ev
  obtain rfl : u = Value.ref a := r1
  obtain ⟨t1, ho⟩ := exo_at I1.hok ha
  obtain ⟨G, gs, ga, J⟩ := I1.untrack (show H1 a = some (.ext _) from ha) h0 hx
  exact ⟨a, _, _, { s1 with heap := G }, delH H1 a, .ref C, some d, rfl, J, gs, ga, ho, ⟨rfl, rfl, fun vs z => by cases z; rfl⟩, rfl, rfl, delH_same, rfl, I1.bare, raises_own T.base T.tyC, q⟩
end
section
variable {P : Program} {w : World} {K : PySem.W.Frag} {mg : Str → Option Value} {base : Heap}
theorem sc_BadCond : FnScope ["self", "clause"] ["self", "clause"] (defScope (inClass (top 3) 0)) := ⟨rfl, rfl, rfl, by decide +kernel, rfl, by decide +kernel, by decide +kernel⟩
theorem ok_BadCond {f : Addr} {fd : FuncData} (F : Fun K "__init__" "BadCond.__init__" (inClass (top 3) 0) f fd) : FnOk P w K mg base CX0 1 f fd ["self", "clause"] (spI K ["clause"]) := by
  refine F.ok sc_BadCond (fun vs H Q E h => ?_) (fun cdv A outer s H vs Q E hr h => ?_)
  · obtain ⟨a, B, C, ws, rfl, hl, _⟩ := h
    show ws.length + 1 = 2
    rw [hl] <;> rfl
  · obtain ⟨a, B, C, ws, rfl, hl, T, hno, ha, k⟩ := h
    obtain ⟨v0, rfl⟩ : ∃ v0, ws = [v0] := match ws, hl with | [v0], _ => ⟨v0, rfl⟩
    refine ⟨_, pss_one (ps_ost (pv 0) (pv 1)), ?_⟩
    refine ⟨_, rfl, _, rfl, a, C, rfl, T.oex, hno _ (by simp), .inl ⟨ha, fun dx n1 n2 => ?_⟩⟩
    exact k dx _ n1 n2 upd_same (by rw [upd_ne n2, upd_same]; rfl) (fun b h1 h2 => by rw [upd_ne h1, upd_ne h2])
end
theorem del_keep {H H1 : Hp} {a : Addr} (s : Same H H1) (n : H a = none) : Same H (delH H1 a) := fun b o e => by
  rw [delH_ne (ne_of_none e n)]
  exact s b o e
theorem cxUpN {P : Program} {w : World} : CXUp (L2N.CX P w) := by
  rintro outer s H s2 H2 E e s' un kp ho ⟨a, B, H', cls, d, ea, fl, hok, ub, na, os, ag, he⟩
  refine ⟨a, B, H', cls, d, ea, fl, hok, ⟨fun b o q n hb => ub.keep b o (kp b o q) (un.free b o q n (by simp)) hb, fun b o q hb => ub.slot b o (kp b o q) hb, fun b o q n => ub.free b o (kp b o q) (un.free b o q n (by simp)), fun b o q hb => ub.there b o (kp b o q) hb,
    fun b xs q => ub.tups b xs (un.tups b xs q), fun b o xs q => ub.frzs b o xs (un.frzs b o xs q), fun b ps q => ?_⟩, na, os.trans ho, ag, he⟩
  obtain ⟨m1, z1⟩ := un.tbls b ps q
  obtain ⟨m2, z2⟩ := ub.tbls b _ z1
  exact ⟨m1 ++ m2, by rw [z2, Array.append_assoc]⟩
/-- what is told of a refusal: its class and where -/
def refusal (CB : Addr) (E : XK) : Hp → Int → Prop := fun H1 i => ∀ d H', Same H1 H' → H' d = some (exd d [("clause", .int i)]) → E (.ref CB) (some d) H'
def spInit (K : PySem.W.Frag) (C : Addr) (F : XK → Hp → Int → Prop) : Sp := fun vs H Q E => ∃ ws rest, vs = ws ++ rest ∧ ws.length = ([("self" : PySem.Str)] : List PySem.Str).length ∧ rest.length ≤ sizeLine ∧ ∀ p, H p = Option.none → spInitB K C (F E) (ws ++ [V.ref p]) (upd H p (.tup rest)) Q E
structure Bad (K : PySem.W.Frag) (mg : Str → Option Value) (B CB fB : Addr) (fdB : FuncData) : Prop where
  T : Ct K B CB
  no : ∀ x ∈ ([("clause" : PySem.Str)] : List PySem.Str), PySem.W.findIn K (.ref CB) x = some none
  iC : PySem.W.findIn K (.ref CB) "__init__" = some (some (.ref fB))
  tI : PySem.W.typeIn K (.ref fB) = some (.type "function")
  F : Fun K "__init__" "BadCond.__init__" (inClass (top 3) 0) fB fdB
  b : Binds K fdB ["self", "clause"] []
  gm : mg "BadCond" = some (.ref CB)
section
variable {P : Program} {w : World} {K : PySem.W.Frag} {mg : Str → Option Value} {base : Heap}
theorem fnR_init0 {f C : Addr} {fd : FuncData} (F : Fun K "__init__" "Cond.__init__" sInit f fd) (D : Cnd K mg C) : FnR P w K mg base CX0 6 f (spInit K C fun _ _ _ => False) := by
  obtain ⟨oc, od, kV, doc, pm, an, cdv, ct, osl, rfl, lk, hcd⟩ := F.ex
  refine fn_star (sp := fun vs H Q E => spInitB K C (fun _ _ => False) vs H Q E) lk hcd scI cxUp_none (bind_star1 (B := fun xs => bindArgs (PySem.W.fnOf "__init__" "Cond.__init__" (defArgs sInit) (defBody sInit) (defScope sInit) .none kV doc pm an cdv ct) ⟨xs, []⟩) (p1 := "self") (pv := "clauses") (fun a => by rfl) (fun a r rs => by rfl)) (fun A outer s H vs Q E hr h => ?_)
  exact body_init (f := f) (tR := tNever) D cdv A outer s H vs Q E _ hr ps_never (fun _ _ _ _ _ _ _ _ _ z => z) h
theorem fnR_init {f C B CB fB : Addr} {fd fdB : FuncData} (F : Fun K "__init__" "Cond.__init__" sInit f fd) (D : Cnd K mg C) (W : Bad K mg B CB fB fdB) : FnR P w K mg base (L2N.CX P w) 6 f (spInit K C (refusal CB)) := by
  obtain ⟨oc, od, kV, doc, pm, an, cdv, ct, osl, rfl, lk, hcd⟩ := F.ex
  refine fn_star (sp := fun vs H Q E => spInitB K C (refusal CB E) vs H Q E) lk hcd scI cxUpN (bind_star1 (B := fun xs => bindArgs (PySem.W.fnOf "__init__" "Cond.__init__" (defArgs sInit) (defBody sInit) (defScope sInit) .none kV doc pm an cdv ct) ⟨xs, []⟩) (p1 := "self") (pv := "clauses") (fun a => by rfl) (fun a r rs => by rfl)) (fun A outer s H vs Q E hr h => ?_)
  have tk : L2N.Takes (cxOf (L2N.CX P w) P w K mg base nI "Cond.__init__" (defScope sInit) f cdv A outer s H E) (fun cls d _ H => E cls d H) := L2N.takes_of rfl rfl rfl rfl
  refine body_init (f := f) D cdv A outer s H vs Q E _ hr (L2N.ps_raise rfl tk (by exact (pmkN_err (X := cxOf (L2N.CX P w) P w K mg base nI "Cond.__init__" (defScope sInit) f cdv A outer s H E) (K := K) (H0 := H) rfl rfl rfl
    (pe_err (ns := ["clause"]) (X := cxOf (L2N.CX P w) P w K mg base nI "Cond.__init__" (defScope sInit) f cdv A outer s H E) W.T W.no W.iC W.tI (ok_BadCond W.F) (hr.mono (by decide)) W.b pass0 W.gm (pa_cons (pv 2) pa_nil))))) (fun D' v0 v1 i v3 v4 v5 H1 s1 z => ?_) h
  refine ⟨_, rfl, rfl, (by show 1 ≤ 100; decide), fun e H2 n2 h2 s2 => ?_⟩
  obtain ⟨d, hne, h2a, h2d⟩ := h2
  exact ⟨e, B, CB, d, rfl, W.T, h2a, fr0_none (s1.free n2), z d _ (del_keep s2 n2) ((delH_ne hne).trans h2d)⟩
end
end Kx
namespace Kx
open PySem L2 PySem.Spec PyProof.Rows
open StX (fn_star cxUp_none bind_star1 pe_makeR tMakeR run_makeR star_any pa_star CXUp)
section
variable {X : Cx} {CX : CXT} {k : Nat} {f C : Addr} {sp : Sp} {E : XK} {x : Str} {e : Expr} {te : TE} {p pos sp_ : Pos}
/-- C(*y) -/
theorem pe_makeS (M : Mk X.K C f) (F : FnR X.prog X.w X.K X.mg X.base CX k f sp) (hr : Room (k + 1) X.A) (hg : Gl X x) (hm : X.mg x = some (.ref C)) (hx : Passes CX X E) (he : PE X e te) (hd : (x == ("__debug__" : Str)) = false := by decide)
    (hst : starEach [.Starred e sp_] X.env = [(true, eval e X.env)] := by rfl) :
    PE X (.Call (.Name x p) [.Starred e sp_] [] pos) (fun σ H Q => te σ H fun y H1 => ∃ a xs, y = V.ref a ∧ (SqT X.K H1 a xs ∨ SqL X.K H1 a xs) ∧ ∀ x dx, H1 x = none → H1 dx = none → dx ≠ x →
      sp (V.ref x :: xs) (upd (upd H1 dx (.own x)) x (.ins C dx [])) (fun v H2 => v = .non ∧ Q (.ref x) H2) E) := by
  refine ⟨fun pins s σ H Q I h => ?_⟩
  refine wpAny_Call_Name_kw (ld_glob I hg hm ?_ hd)
  refine PySem.W.callWith_S (h₀ := X.base) I.ok.mod.kin M.kp (thn (he.run pins s σ H _ I h) fun v s1 ⟨y, H1, I1, ry, a, xs, ey, hxs, q⟩ => ?_) hst
  subst ey
  obtain rfl : v = Value.ref a := ry
  exact star_any I1 hxs fun us s2 I2 rv => ⟨I2.kIn, run_makeR M F hr hx I2 rv q⟩
/-- C() -/
theorem pe_makeZ (M : Mk X.K C f) (F : FnR X.prog X.w X.K X.mg X.base CX k f sp) (hr : Room (k + 1) X.A) (hg : Gl X x) (hm : X.mg x = some (.ref C)) (hx : Passes CX X E) (hd : (x == ("__debug__" : Str)) = false := by decide) :
    PE X (.Call (.Name x p) [] [] pos) (tMakeR C sp E tNil) := by
  refine ⟨fun pins s σ H Q I h => ?_⟩
  refine wpAny_Call_Name_kw (ld_glob I hg hm ?_ hd)
  exact PySem.W.callWith_K0 I.kIn M.kp (run_makeR (us := []) (vs := []) M F hr hx I .nil h)
/-- one op other, both of the class C, by its own method -/
def rOwn (C : Addr) (sp : Sp) (E : XK) : R2 := fun x y H Q => ∃ (a b dx dy : Addr) (fs gs : List (Str × V)), x = .ref a ∧ y = .ref b ∧ H a = some (.ins C dx fs) ∧ H b = some (.ins C dy gs) ∧ sp [.ref a, .ref b] H Q E
theorem op_own {op : Operator} {fd : FuncData} {ps : List Str} (hc : PySem.W.selfFirst X.K C = true) (hs : PySem.W.findIn X.K (.ref C) (PySem.dunder op.info.2) = some (some (.ref f))) (hf : PySem.W.isFn X.K (.ref f) = true)
    (F : FnOk X.prog X.w X.K X.mg X.base CX k f fd ps sp) (hr : Room k X.A) (hb : Binds X.K fd ps []) (hx : Passes CX X E) : OpR X (binaryOp op) (rOwn C sp E) := by
  intro pins s σ H x y v u Q I rx ry h
  obtain ⟨a, b, dx, dy, fs, gs, rfl, rfl, ha, hb', q⟩ := h
  obtain rfl : v = Value.ref a := rx
  obtain rfl : u = Value.ref b := ry
  obtain ⟨m, fr⟩ := I.fr
  obtain ⟨_, O1, _⟩ := ins_get I.hok ha
  obtain ⟨o1, J1, _⟩ := O1.look
  obtain ⟨_, O2, _⟩ := ins_get I.hok hb'
  obtain ⟨o2, J2, _⟩ := O2.look
  refine PySem.W.binop_K fr I.ok.mod.kin J1 J2.type hc hs hf ?_
  refine thn (run_fn (us := [.ref a, .ref b]) (vs := [.ref a, .ref b]) F hr hb .nil hx I (.cons rfl (.cons rfl .nil)) q) fun z s' ⟨zv, H', I', rz, q'⟩ => ?_
  cases z <;> first | exact ⟨zv, H', I', rz, q'⟩ | (cases zv <;> first | (obtain ⟨_, z⟩ := rz; cases z) | cases rz)
end
end Kx
namespace Kx
open PySem L2 PySem.Spec PyProof.Rows
/-! clauses as data -/
def litD (l : Lit) : PyData := .tuple [.str l.1, .str l.2.1, .int l.2.2]
def clD (c : List Lit) : PyData := .tuple (c.map litD)
theorem dp_lit {K : PySem.W.Frag} {H : Hp} {x : V} {l : Lit} (h : IsLit K H x l) : Dp K H x (litD l) := by
  obtain ⟨a, rfl, q⟩ := h
  exact .tup q (.cons (.str _) (.cons (.str _) (.cons (.int _) .nil)))
theorem dp_all {K : PySem.W.Frag} {H : Hp} {α : Type} {R : V → α → Prop} {f : α → PyData} (hf : ∀ x y, R x y → Dp K H x (f y)) : ∀ {xs : List V} {ys : List α}, Paired R xs ys → DpAll K H xs (ys.map f)
  | _, _, .nil => .nil
  | _, _, .cons h t => .cons (hf _ _ h) (dp_all hf t)
theorem dp_cl {K : PySem.W.Frag} {H : Hp} {x : V} {c : List Lit} (h : IsC K H x c) : Dp K H x (clD c) := by
  obtain ⟨a, ys, rfl, q⟩ := h
  exact .tup q.sq (dp_all (fun _ _ z => dp_lit z) q.p)
theorem eqv_lit (l m : Lit) : PyData.eqv (litD l) (litD m) = decide (l = m) := by
  obtain ⟨a, b, c⟩ := l
  obtain ⟨a', b', c'⟩ := m
  simp only [litD, PyData.eqv, PyData.eqvAll, Bool.and_true]
  rw [Bool.eq_iff_iff]
  simp [Prod.ext_iff]
theorem eqv_lits : ∀ (c d : List Lit), PyData.eqvAll (c.map litD) (d.map litD) = decide (c = d)
  | [], [] => by simp [PyData.eqvAll]
  | [], _ :: _ => by simp [PyData.eqvAll]
  | _ :: _, [] => by simp [PyData.eqvAll]
  | l :: c, m :: d => by
    simp only [List.map_cons, PyData.eqvAll]
    rw [eqv_lit, eqv_lits c d]
    rw [Bool.eq_iff_iff]
    simp
theorem eqv_cl (c d : List Lit) : PyData.eqv (clD c) (clD d) = decide (c = d) := by
  show PyData.eqvAll _ _ = _
  exact eqv_lits c d
def okC (cs : List (List Lit)) : Prop := ∀ c ∈ cs, ∀ l ∈ c, PyData.strOk l.1 = true ∧ PyData.strOk l.2.1 = true
theorem lay_lits : ∀ {c : List Lit}, (∀ l ∈ c, PyData.strOk l.1 = true ∧ PyData.strOk l.2.1 = true) → PyData.canLayAll0 (c.map litD) = true ∧ PyData.depthAll (c.map litD) ≤ 1
  | [], _ => ⟨rfl, Nat.zero_le _⟩
  | l :: c, h => by
    obtain ⟨h1, h2⟩ := h l List.mem_cons_self
    obtain ⟨r1, r2⟩ := lay_lits (c := c) fun m hm => h m (List.mem_cons_of_mem _ hm)
    refine ⟨?_, ?_⟩
    · simp only [List.map_cons, PyData.canLayAll0, litD, PyData.canLay0, h1, h2, r1, Bool.and_self]
    · simp only [List.map_cons, PyData.depthAll, litD, PyData.depth]
      omega
theorem lay_cls : ∀ {cs : List (List Lit)}, okC cs → PyData.canLayAll0 (cs.map clD) = true ∧ PyData.depthAll (cs.map clD) ≤ 2
  | [], _ => ⟨rfl, Nat.zero_le _⟩
  | c :: cs, h => by
    obtain ⟨h1, h2⟩ := lay_lits (h c List.mem_cons_self)
    obtain ⟨r1, r2⟩ := lay_cls (cs := cs) fun m hm => h m (List.mem_cons_of_mem _ hm)
    refine ⟨?_, ?_⟩
    · simp only [List.map_cons, PyData.canLayAll0, clD, PyData.canLay0, h1, r1, Bool.and_self]
    · simp only [List.map_cons, PyData.depthAll, clD, PyData.depth]
      omega
theorem shaped_list {cs : List (List Lit)} (h : okC cs) : SeqAt.shaped (.list (cs.map clD)) = true := by
  obtain ⟨h1, h2⟩ := lay_cls h
  unfold SeqAt.shaped
  rw [Bool.and_eq_true, decide_eq_true_eq]
  exact ⟨h1, by show PyData.depthAll _ + 1 ≤ 64; omega⟩
theorem shaped_tup {cs : List (List Lit)} (h : okC cs) : SeqAt.shaped (.tuple (cs.map clD)) = true := shaped_list h
theorem shaped_cl {c : List Lit} (h : ∀ l ∈ c, PyData.strOk l.1 = true ∧ PyData.strOk l.2.1 = true) : SeqAt.shaped (clD c) = true := by
  obtain ⟨h1, h2⟩ := lay_lits h
  unfold SeqAt.shaped
  rw [Bool.and_eq_true, decide_eq_true_eq]
  exact ⟨h1, by show PyData.depthAll _ + 1 ≤ 64; omega⟩
theorem eqv_cls : ∀ (c d : List (List Lit)), PyData.eqvAll (c.map clD) (d.map clD) = decide (c = d)
  | [], [] => by simp [PyData.eqvAll]
  | [], _ :: _ => by simp [PyData.eqvAll]
  | _ :: _, [] => by simp [PyData.eqvAll]
  | l :: c, m :: d => by
    simp only [List.map_cons, PyData.eqvAll]
    rw [eqv_cl, eqv_cls c d]
    rw [Bool.eq_iff_iff]
    simp
theorem any_cl (cs : List (List Lit)) (c : List Lit) : ((cs.map clD).any fun z => PyData.eqv z (clD c)) = decide (c ∈ cs) := by
  rw [List.any_map, Bool.eq_iff_iff, List.any_eq_true, decide_eq_true_eq]
  constructor
  · rintro ⟨d, hd, e⟩
    have e' : PyData.eqv (clD d) (clD c) = true := e
    rw [eqv_cl, decide_eq_true_eq] at e'
    exact e' ▸ hd
  · intro h
    exact ⟨c, h, by show PyData.eqv (clD c) (clD c) = true; rw [eqv_cl]; exact decide_eq_true rfl⟩
/-- clauses put together, each once -/
def merge : List (List Lit) → List (List Lit) → List (List Lit)
  | m, [] => m
  | m, c :: r => merge (if c ∈ m then m else m ++ [c]) r
end Kx
namespace Kx
open PySem L2 PySem.Spec PyProof.Rows
abbrev sAnd : Stmt := mth 2
abbrev nA : List Str := ["self", "other", "merged", "clause"]
structure CondAll (K : PySem.W.Frag) (mg : Str → Option Value) (B CB fB C fI : Addr) (fdB fdI : FuncData) : Prop where
  D : Cnd K mg C
  W : Bad K mg B CB fB fdB
  I : Fun K "__init__" "Cond.__init__" sInit fI fdI
  mkI : Mk K C fI
  ty : ∀ H a dx fs, H a = some (.ins C dx fs) → TyX K H (.ref a) (.ref C)
  kit : PySem.W.kitOne K (.ref C) (.ref C) = some true
def spAnd (K : PySem.W.Frag) (C CB : Addr) : Sp := fun vs H Q E => ∃ (a b dx dy p q p' q' : Addr) (cs cs' : List (List Lit)) (ys ys' : List Str), vs = [.ref a, .ref b] ∧ CondF K H a C dx p q cs ys ∧ CondF K H b C dy p' q' cs' ys' ∧ shortC (cs ++ cs') ∧ okC (cs ++ cs') ∧ (cs ++ cs').length ≤ 1000 ∧
  (firstWrong (merge [] (cs ++ cs')) = none → ∀ r dz p2 q2 zs H', CondF K H' r C dz p2 q2 (merge [] (cs ++ cs')) zs → Same H H' → H r = none → Q (.ref r) H') ∧ ∀ i, firstWrong (merge [] (cs ++ cs')) = some i → refusal CB E H i
theorem catA_of {K : PySem.W.Frag} {H : Hp} {a b : Addr} {xs ys : List V} {Q : VK} (h1 : SqT K H a xs) (h2 : SqT K H b ys) (hz : xs.length + ys.length ≤ sizeLine) (go : ∀ t H2, Same H H2 → SqT K H2 t (xs ++ ys) → Q (.ref t) H2) : rCatA K (.ref a) (.ref b) H Q := by
  refine ⟨a, b, xs, ys, rfl, rfl, h1, h2, hz, fun e => ?_, fun _ e => ?_, fun _ _ p hp => ?_⟩
  · exact go b H (fun _ _ z => z) (by rw [e]; exact h2)
  · exact go a H (fun _ _ z => z) (by rw [e, List.append_nil]; exact h1)
  · exact go p _ (new_same hp) (SqT.of upd_same)
theorem SqT.lst {K : PySem.W.Frag} {H : Hp} {a b : Addr} {ms : List V} {u : HO} {xs : List V} (ha : H a = some (.lst ms)) (h : SqT K H b xs) : SqT K (upd H a u) b xs := by
  rcases h with (h | ⟨o, h⟩) | h
  · exact .inl (.inl (by rw [upd_ne (fun e => by rw [e, ha] at h; cases h)]; exact h))
  · exact .inl (.inr ⟨o, by rw [upd_ne (fun e => by rw [e, ha] at h; cases h)]; exact h⟩)
  · exact .inr h
theorem IsC.lst {K : PySem.W.Frag} {H : Hp} {a : Addr} {ms : List V} {u : HO} {x : V} {c : List Lit} (ha : H a = some (.lst ms)) (h : IsC K H x c) : IsC K (upd H a u) x c := by
  obtain ⟨b, ys, e, q⟩ := h
  exact ⟨b, ys, e, SqT.lst ha q.sq, L2.Paired.mapP q.p fun _ _ ⟨d, z, r⟩ => ⟨d, z, SqT.lst ha r⟩, q.l1, q.l2⟩
theorem merge_snoc (c : List Lit) : ∀ (l m : List (List Lit)), merge m (l ++ [c]) = if c ∈ merge m l then merge m l else merge m l ++ [c]
  | [], m => rfl
  | d :: l, m => by
    show merge (if d ∈ m then m else m ++ [d]) (l ++ [c]) = _
    rw [merge_snoc c l]
    rfl
theorem merge_sub : ∀ (l m : List (List Lit)) (c : List Lit), c ∈ merge m l → c ∈ m ∨ c ∈ l
  | [], m, c, h => .inl h
  | d :: l, m, c, h => by
    have h' : c ∈ merge (if d ∈ m then m else m ++ [d]) l := h
    rcases merge_sub l _ c h' with z | z
    · by_cases hd : d ∈ m
      · rw [if_pos hd] at z
        exact .inl z
      · rw [if_neg hd] at z
        rcases List.mem_append.mp z with z | z
        · exact .inl z
        · exact .inr (by rw [List.mem_singleton.mp z]; exact List.mem_cons_self)
    · exact .inr (List.mem_cons_of_mem _ z)
theorem merge_len : ∀ (l m : List (List Lit)), (merge m l).length ≤ m.length + l.length
  | [], m => Nat.le_refl _
  | d :: l, m => by
    have h := merge_len l (if d ∈ m then m else m ++ [d])
    have e : (if d ∈ m then m else m ++ [d]).length ≤ m.length + 1 := by
      by_cases hd : d ∈ m
      · rw [if_pos hd]; exact Nat.le_succ _
      · rw [if_neg hd, List.length_append]; exact Nat.le_refl _
    show (merge (if d ∈ m then m else m ++ [d]) l).length ≤ m.length + (l.length + 1)
    omega
theorem paired_app {α β : Type} {R : α → β → Prop} : ∀ {xs : List α} {ys : List β} {xs' : List α} {ys' : List β}, Paired R xs ys → Paired R xs' ys' → Paired R (xs ++ xs') (ys ++ ys')
  | _, _, _, _, .nil, h => h
  | _, _, _, _, .cons a t, h => .cons a (paired_app t h)
section
variable {P : Program} {w : World} {K : PySem.W.Frag} {mg : Str → Option Value} {base : Heap} {B CB fB C fI : Addr} {fdB fdI : FuncData}
theorem scAnd : FnScope nA ["self", "other"] (defScope sAnd) := ⟨rfl, rfl, rfl, by decide +kernel, rfl, by decide +kernel, by decide +kernel⟩
theorem ok_and {f : Addr} {fd : FuncData} (F : Fun K "__and__" "Cond.__and__" sAnd f fd) (M : CondAll K mg B CB fB C fI fdB fdI) : FnOk P w K mg base (L2N.CX P w) 8 f fd ["self", "other"] (spAnd K C CB) := by
  obtain ⟨oc, od, kV, doc, pm, an, cdv, ct, osl, rfl, lk, hcd⟩ := F.ex
  have D := M.D
  have T := D.M.T
  have GI : FnR P w K mg base (L2N.CX P w) 6 fI (spInit K C (refusal CB)) := fnR_init M.I D M.W
  refine fn_of lk hcd scAnd (fun vs H Q E h => ?_) fun A outer s H vs Q E hr h => ?_
  · obtain ⟨a, b, dx, dy, p, q, p', q', cs, cs', ys, ys', rfl, _⟩ := h
    rfl
  · obtain ⟨a, b, dx, dy, p, q, p', q', cs, cs', ys, ys', rfl, ha, hb, hsh, hok, hlen, qn, qf⟩ := h
    have tk : L2N.Takes (cxOf (L2N.CX P w) P w K mg base nA "Cond.__and__" (defScope sAnd) f cdv A outer s H E) (fun cls d _ H => E cls d H) := L2N.takes_of rfl rfl rfl rfl
    have hx : Passes (L2N.CX P w) (cxOf (L2N.CX P w) P w K mg base nA "Cond.__and__" (defScope sAnd) f cdv A outer s H E) E := L2N.passes_call tk (fun _ _ _ _ z => z)
    have hu : (cxOf (L2N.CX P w) P w K mg base nA "Cond.__and__" (defScope sAnd) f cdv A outer s H E).A.units + 65 < cLine := by
      have := hr.un
      show (A.deeper (envOfC "Cond.__and__" (defScope sAnd) s.heap.objs.size f cdv)).units + 65 < cLine
      omega
    refine ⟨_, pss_cons (ps_if (pt_not (pt_val (pe_callB call_isi (by rfl) T.isi boot_isinstance (pa_cons (pv 1) (pa_cons (pe_glob (v := .ref C) (by rfl) D.gC rfl) pa_nil))))) (pss_one ps_never) pss_nil)
      (pss_cons (ps_set (i := 2) scAnd.nd rfl (Or.inl rfl) (pe_lst pa_nil))
      (pss_cons (ps_for (passes_of rfl) rfl (pi_tup (pe_op op_catA (pe_fld (pv 0) (by rfl)) (pe_fld (pv 1) (by rfl)))) (pg_name (i := 3) scAnd.nd rfl (Or.inl rfl))
        (pss_one (ps_if (pt_cmpR (op_notInD hu) (pv 3) (pv 2) (by with_unfolding_all rfl)) (pss_one (ps_expr (pe_bm PySem.F.plainAttrs_list PySem.F.slot_list_append PySem.F.type_list_append mt_append (pv 2) (pa_cons (pv 3) pa_nil)))) pss_nil)))
      (pss_one (ps_ret (pe_makeS (k := 6) M.mkI GI hr (by rfl) D.gC hx (pv 2)))))), ?_⟩
    obtain ⟨xs, hc⟩ := ha.cl
    obtain ⟨xs', hc'⟩ := hb.cl
    have hp := paired_app hc.p hc'.p
    have hpl : (xs ++ xs').length = (cs ++ cs').length := Paired.length hp
    refine ⟨_, rfl, .ref b, .ref C, _, _, true, rfl, .own C, M.ty _ b dy _ hb.ins, M.kit, true, rfl, iteF ?_⟩
    refine ⟨by show 0 ≤ sizeLine; decide, fun m hm => ?_⟩
    have s1 : Same H (upd H m (.lst [])) := new_same hm
    refine ⟨_, rfl, a, C, dx, _, .ref p, rfl, s1 _ _ ha.ins, D.cls, D.nc, rfl, _, rfl, b, C, dy, _, .ref p', rfl, s1 _ _ hb.ins, D.cls, D.nc, rfl, ?_⟩
    refine catA_of (SqT.same s1 hc.sq) (SqT.same s1 hc'.sq) (by rw [← List.length_append, hpl]; exact Nat.le_of_lt (small1000 hlen)) fun t H2 s2 ht => ?_
    refine ⟨t, rfl, ⟨_, ht⟩, ?_⟩
    refine for_tup (xs := xs ++ xs') (fun i σ H3 => (∃ v3, σ = [some (.ref a), some (.ref b), some (.ref m), v3]) ∧ Same H H3 ∧ SqT K H3 t (xs ++ xs') ∧ ∃ ms, H3 m = some (.lst ms) ∧ Paired (IsC K H3) ms (merge [] ((cs ++ cs').take i)))
      ⟨⟨none, rfl⟩, fun b u z => s2 _ _ (s1 _ _ z), ht, [], s2 _ _ upd_same, .nil⟩ (fun i σ H3 _ h => h.2.2.1) ?_ ?_
    · rintro i x σ H3 hx ⟨⟨v3, rfl⟩, s3, ht3, ms, gm, hms⟩
      obtain ⟨c, hcl, hxc⟩ := paired_get hp hx
      have hcm : c ∈ cs ++ cs' := List.mem_of_getElem? hcl
      have hx3 := IsC.same s3 hxc
      have hlm : ms.length ≤ 1000 := by
        have e1 : ms.length = (merge [] ((cs ++ cs').take i)).length := Paired.length hms
        have e2 := merge_len ((cs ++ cs').take i) []
        rw [List.length_take] at e2
        have e3 : ([] : List (List Lit)).length = 0 := rfl
        omega
      have okm : okC (merge [] ((cs ++ cs').take i)) := fun d hd => by
        rcases merge_sub _ _ _ hd with z | z
        · cases z
        · exact hok d (List.mem_of_mem_take z)
      have em : merge [] ((cs ++ cs').take (i + 1)) = if c ∈ merge [] ((cs ++ cs').take i) then merge [] ((cs ++ cs').take i) else merge [] ((cs ++ cs').take i) ++ [c] := by
        rw [List.take_add_one, hcl]
        exact merge_snoc c _ _
      refine ⟨_, rfl, _, rfl, clD c, _, dp_cl hx3, .lst (SqL.of gm) (dp_all (fun _ _ z => dp_cl z) hms), shaped_cl (hok c hcm), shaped_list okm, _, rfl, ?_⟩
      rw [any_cl]
      by_cases hin : c ∈ merge [] ((cs ++ cs').take i)
      case pos =>
        rw [decide_eq_true hin]
        rw [if_pos hin] at em
        exact iteF ⟨⟨_, rfl⟩, s3, ht3, ms, gm, by rw [em]; exact hms⟩
      case neg =>
        rw [decide_eq_false hin]
        rw [if_neg hin] at em
        refine iteT ?_
        refine ⟨_, rfl, .inl ⟨rfl, ms, SqL.of gm⟩, _, rfl, m, ms, x, rfl, rfl, gm, small1000 hlm, ?_⟩
        refine ⟨⟨_, rfl⟩, same_upd hm s3, SqT.lst gm ht3, _, upd_same, ?_⟩
        rw [em]
        exact paired_app (L2.Paired.mapP hms fun _ _ z => IsC.lst gm z) (.cons (IsC.lst gm hx3) .nil)
    · rintro σ H3 ⟨⟨v3, rfl⟩, s3, ht3, ms, gm, hms⟩
      rw [hpl, List.take_of_length_le (Nat.le_refl _)] at hms
      have hl : (merge [] (cs ++ cs')).length ≤ 1000 := Nat.le_trans (merge_len _ _) (by show 0 + (cs ++ cs').length ≤ 1000; omega)
      have hml : ms.length = (merge [] (cs ++ cs')).length := Paired.length hms
      refine ⟨_, rfl, m, ms, rfl, .inr (SqL.of gm), fun r dz hr0 hdz hne => ⟨[.ref r], ms, rfl, rfl, Nat.le_of_lt (small1000 (by omega)), fun p2 hp2 => ?_⟩⟩
      have s5 : Same H3 (upd (upd H3 dz (.own r)) r (.ins C dz [])) := same_upd hr0 (new_same hdz)
      have s6 : Same H3 (upd (upd (upd H3 dz (.own r)) r (.ins C dz [])) p2 (.tup ms)) := fun b u z => new_same hp2 _ _ (s5 _ _ z)
      have hrp : r ≠ p2 := fun z => by
        rw [← z, upd_same] at hp2
        cases hp2
      refine ⟨r, dz, p2, ms, merge [] (cs ++ cs'), rfl, (by rw [upd_ne hrp]; exact upd_same), ⟨SqT.of upd_same, pairedC_same s6 hms, hl⟩, fun c hcm l hlm => ?_, fun hw H' q2 zs hF hk => ⟨rfl, ?_⟩, fun i hw H1 s7 => ?_⟩
      · rcases merge_sub _ _ _ hcm with z | z
        · cases z
        · exact hsh c z l hlm
      · refine qn hw r dz p2 q2 zs H' hF (fun b u z => hk b u (fun e => ?_) (s6 _ _ (s3 _ _ z))) (Same.free s3 hr0)
        rw [e, Same.free s3 hr0] at z
        cases z
      · exact fun d H' s8 z => qf i hw d H' (fun b u y => s8 _ _ (s7 _ _ (s6 _ _ (s3 _ _ y)))) z
end
end Kx
namespace Kx
open PySem L2 PySem.Spec PyProof.Rows
abbrev sWorth : Stmt := top 20
abbrev sHolds : Stmt := top 21
/-- what the dict tells of a term, "" being 0 -/
def Worth (kvs : List (Key × V)) (f : Str → Int) (t : Str) : Prop := (t = "" ∧ f t = 0) ∨ (t ≠ "" ∧ valV kvs (.inr t) = some (.int (f t)))
def spWorth : Sp := fun vs H Q _ => ∃ (t : Str) (d : Addr) (kvs : List (Key × V)) (f : Str → Int), vs = [.str t, .ref d] ∧ H d = some (.dK kvs) ∧ Worth kvs f t ∧ Q (.int (f t)) H
def holds (f : Str → Int) (c : List Lit) : Bool := c.any fun l => decide (f l.1 ≤ f l.2.1 + l.2.2)
def spHolds (K : PySem.W.Frag) : Sp := fun vs H Q _ => ∃ (a d : Addr) (xs : List V) (c : List Lit) (kvs : List (Key × V)) (f : Str → Int), vs = [.ref a, .ref d] ∧ Cl K H a xs c ∧ H d = some (.dK kvs) ∧ (∀ l ∈ c, Worth kvs f l.1 ∧ Worth kvs f l.2.1) ∧ ∀ H', Same H H' → Q (.bl (holds f c)) H'
section
variable {P : Program} {w : World} {K : PySem.W.Frag} {mg : Str → Option Value} {base : Heap}
theorem scWorth : FnScope ["term", "values"] ["term", "values"] (defScope sWorth) := ⟨rfl, rfl, rfl, by decide +kernel, rfl, by decide +kernel, by decide +kernel⟩
theorem ok_worth {f : Addr} {fd : FuncData} (F : Fun K "_worth" "_worth" sWorth f fd) : FnOk P w K mg base CX0 1 f fd ["term", "values"] spWorth := by
  refine F.ok scWorth (fun vs H Q E h => ?_) (fun cdv A outer s H vs Q E hr h => ?_)
  · obtain ⟨t, d, kvs, f, rfl, _⟩ := h
    rfl
  · obtain ⟨t, d, kvs, f, rfl, hd, hw, q⟩ := h
    have hu := hu_of hr
    refine ⟨_, pss_one (ps_ret (pe_ifExp (pt_cmpR op_eq (pv 0) pe_str (nomark _)) pe_int (pe_dget hu (pv 1) (pv 0) (fun _ _ => rfl)))), ?_⟩
    refine ⟨_, rfl, rfl, _, rfl, ?_⟩
    rcases hw with ⟨e, e0⟩ | ⟨e, e1⟩
    · rw [e0] at q
      rw [show decide (V.str t = V.str "") = true from by rw [e]; exact decide_eq_true rfl]
      exact iteT q
    · rw [show decide (V.str t = V.str "") = false from decide_eq_false fun z => e (V.str.inj z)]
      refine iteF ⟨_, rfl, _, rfl, d, .int (f t), rfl, ?_, q⟩
      have g := DGet.k (k := .inr t) hd
      rw [e1] at g
      exact g
theorem scHolds : FnScope ["clause", "values", "left", "right", "number"] ["clause", "values"] (defScope sHolds) := ⟨rfl, rfl, rfl, by decide +kernel, rfl, by decide +kernel, by decide +kernel⟩
theorem ok_holds {f g : Addr} {fd fdW : FuncData} (F : Fun K "_holds" "_holds" sHolds f fd) (W : Fs K mg "_worth" sWorth ["term", "values"] g fdW) (hany : mg "any" = none) : FnOk P w K mg base CX0 2 f fd ["clause", "values"] (spHolds K) := by
  have GW : FnOk P w K mg base CX0 1 g fdW ["term", "values"] spWorth := ok_worth W.F
  refine F.ok scHolds (fun vs H Q E h => ?_) (fun cdv A outer s H vs Q E hr h => ?_)
  · obtain ⟨a, d, xs, c, kvs, f, rfl, _⟩ := h
    rfl
  · obtain ⟨a, d, xs, c, kvs, f, rfl, hc, hd, hw, q⟩ := h
    refine ⟨_, pss_one (ps_ret (pe_callB (cr_any rfl) (by rfl) hany (by decide +kernel) (pa_cons
      (pe_lc (own := [("left", 2), ("right", 3), ("number", 4)]) (g := gTup K 3 (gCons (gName 2) (gCons (gName 3) (gCons (gName 4) gNil)))) (tt := tYes) rfl scHolds.nd (pi_tup (pv 0)) (blkOk_by (N := ["clause", "values", "left", "right", "number"]) (sc := defScope sHolds) (by decide +kernel))
        (fun _ _ _ _ _ => pg_tup rfl (pgs_cons (pg_name (i := 2) scHolds.nd rfl (Or.inl rfl)) (pgs_cons (pg_name (i := 3) scHolds.nd rfl (Or.inl rfl)) (pgs_cons (pg_name (i := 4) scHolds.nd rfl (Or.inl rfl)) pgs_nil)))) (fun _ _ _ _ _ => pts_nil)
        (fun _ _ _ _ _ => pe_cmpR op_le (pe_call GW hr (by rfl) W.m W.F.kp W.b .nil pass0 (pa_cons (pv 2) (pa_cons (pv 1) pa_nil))) (pe_op op_add (pe_call GW hr (by rfl) W.m W.F.kp W.b .nil pass0 (pa_cons (pv 3) (pa_cons (pv 1) pa_nil))) (pv 4)) (nomark _))) pa_nil))), ?_⟩
    have hl := hc.len
    refine ⟨_, rfl, a, rfl, ⟨_, hc.sq⟩, fun D hD => ?_⟩
    refine lc_it (walk_tup (xs := xs)) (fun i H2 => Same H H2 ∧ H2 D = some (.lst ((c.take i).map fun l => .bl (decide (f l.1 ≤ f l.2.1 + l.2.2))))) ⟨new_same hD, upd_same⟩ (fun i H2 _ h => SqT.same h.1 hc.sq) ?_ ?_
    · rintro i x H2 H3 hi ⟨s2, gD⟩ ⟨rfl, hx⟩
      obtain ⟨l, hcl, hx'⟩ := paired_get hc.p hx
      obtain ⟨b, rfl, hb⟩ := IsLit.same s2 hx'
      obtain ⟨w1, w2⟩ := hw l (List.mem_of_getElem? hcl)
      refine ⟨b, _, rfl, hb, rfl, _, _, rfl, _, _, rfl, _, _, rfl, rfl, ?_⟩
      refine ⟨rfl, yes_of ?_⟩
      refine ⟨_, rfl, _, rfl, l.1, d, kvs, f, rfl, s2 _ _ hd, w1, _, rfl, _, rfl, l.2.1, d, kvs, f, rfl, s2 _ _ hd, w2, _, rfl, _, _, rfl, rfl, _, _, rfl, rfl, ?_⟩
      refine ⟨_, gD, small1000 (by rw [List.length_map, List.length_take]; have := hc.l2; omega), same_upd hD s2, ?_⟩
      rw [upd_same, List.take_add_one, hcl, List.map_append]
      rfl
    · rintro H2 ⟨s2, gD⟩
      refine ⟨D, c.map fun l => decide (f l.1 ≤ f l.2.1 + l.2.2), rfl, SqL.of ?_, ?_⟩
      · rw [gD, hl, List.take_of_length_le (Nat.le_refl _), List.map_map]
        rfl
      · have e : holds f c = (c.map fun l => decide (f l.1 ≤ f l.2.1 + l.2.2)).any id := by
          unfold holds
          rw [List.any_map]
          rfl
        rw [← e]
        exact q H2 s2
end
end Kx
namespace Kx
open PySem L2 PySem.Spec PyProof.Rows
abbrev sBroken : Stmt := top 22
/-- the index of the first clause that does not hold -/
def broken (f : Str → Int) : Nat → List (List Lit) → Option Nat
  | _, [] => none
  | i, c :: cs => if holds f c = true then broken f (i + 1) cs else some i
def vOpt : Option Nat → V
  | none => .non
  | some i => .int (i : Nat)
theorem broken_all {f : Str → Int} {cs : List (List Lit)} {i : Nat} : (broken f i cs).isNone = cs.all (holds f) := by
  induction cs generalizing i with
  | nil => rfl
  | cons c cs ih =>
    unfold broken
    cases hc : holds f c with
    | true => rw [if_pos rfl, ih, List.all_cons, hc, Bool.true_and]
    | false => rw [if_neg (by simp), List.all_cons, hc, Bool.false_and]; rfl
def spBroken (K : PySem.W.Frag) : Sp := fun vs H Q _ => ∃ (p d : Addr) (xs : List V) (cs : List (List Lit)) (kvs : List (Key × V)) (f : Str → Int), vs = [.ref p, .ref d] ∧ Cs K H p xs cs ∧ H d = some (.dK kvs) ∧ (∀ c ∈ cs, ∀ l ∈ c, Worth kvs f l.1 ∧ Worth kvs f l.2.1) ∧ ∀ H', Same H H' → Q (vOpt (broken f 0 cs)) H'
section
variable {P : Program} {w : World} {K : PySem.W.Frag} {mg : Str → Option Value} {base : Heap}
abbrev nBk : List Str := ["clauses", "values", "at", "clause"]
theorem scBroken : FnScope nBk ["clauses", "values"] (defScope sBroken) := ⟨rfl, rfl, rfl, by decide +kernel, rfl, by decide +kernel, by decide +kernel⟩
theorem ok_broken {f g g2 : Addr} {fd fdH fdW : FuncData} (F : Fs K mg "first_broken" sBroken ["clauses", "values"] f fd) (Hd : Fs K mg "_holds" sHolds ["clause", "values"] g fdH) (Wd : Fs K mg "_worth" sWorth ["term", "values"] g2 fdW) (hany : mg "any" = none) (henum : mg "enumerate" = none) : FnOk P w K mg base CX0 3 f fd ["clauses", "values"] (spBroken K) := by
  have GH : FnOk P w K mg base CX0 2 g fdH ["clause", "values"] (spHolds K) := ok_holds Hd.F Wd hany
  refine F.F.ok scBroken (fun vs H Q E h => ?_) (fun cdv A outer s H vs Q E hr h => ?_)
  · obtain ⟨p, d, xs, cs, kvs, f, rfl, _⟩ := h
    rfl
  · obtain ⟨p, d, xs, cs, kvs, f, rfl, hc, hd, hw, q⟩ := h
    have hl : xs.length = cs.length := Paired.length hc.p
    obtain ⟨R, hR⟩ : ∃ R, broken f 0 cs = R := ⟨_, rfl⟩
    rw [hR] at q
    refine ⟨_, pss_cons (ps_for PassesOwn.never rfl (pi_enumT (by rfl) henum (pa_cons (pv 0) pa_nil)) (pg_tup rfl (pgs_cons (pg_name (i := 2) scBroken.nd rfl (Or.inl rfl)) (pgs_cons (pg_name (i := 3) scBroken.nd rfl (Or.inl rfl)) pgs_nil)))
        (pss_one (ps_if (pt_not (pt_val (pe_call GH hr (by rfl) Hd.m Hd.F.kp Hd.b .nil pass0 (pa_cons (pv 3) (pa_cons (pv 1) pa_nil))))) (pss_one (ps_ret (pv 2))) pss_nil)))
      (pss_one (ps_ret pe_non)), ?_⟩
    refine ⟨_, rfl, p, xs, rfl, hc.sq, ?_⟩
    refine for_enumT (xs := xs) (fun i σ H2 => Same H H2 ∧ ∃ (v2 v3 : Option V), σ = [some (.ref p), some (.ref d), v2, v3] ∧ broken f i (cs.drop i) = R) ⟨fun _ _ z => z, none, none, rfl, hR⟩
      (fun i σ H2 _ h => SqT.same h.1 hc.sq) ?_ ?_
    · rintro i x σ H2 t hx ⟨s2, v2, v3, rfl, hb⟩ ht
      obtain ⟨c, hcl, y, ys, rfl, hy⟩ := paired_get hc.p hx
      have hdrop : cs.drop i = c :: cs.drop (i + 1) := (List.drop_eq_getElem?_toList_append).trans (by rw [hcl]; rfl)
      rw [hdrop] at hb
      have s3 : Same H (upd H2 t (.tup [.int (i : Nat), .ref y])) := fun b u z => new_same ht b u (s2 b u z)
      have hy3 := Cl.same s3 hy
      refine ⟨t, _, rfl, SqT.of upd_same, rfl, _, _, rfl, _, _, rfl, rfl, ?_⟩
      refine ⟨_, rfl, _, rfl, y, d, ys, c, kvs, f, rfl, hy3, s3 _ _ hd, fun l hm => hw c (List.mem_of_getElem? hcl) l hm, fun H4 s4 => ⟨_, rfl, ?_⟩⟩
      have s14 : Same H H4 := fun b u z => s4 b u (s3 b u z)
      unfold broken at hb
      cases hst : holds f c with
      | false =>
        rw [hst, if_neg Bool.false_ne_true] at hb
        rw [← hb] at q
        exact iteT ⟨_, rfl, q H4 s14⟩
      | true =>
        rw [hst, if_pos rfl] at hb
        exact iteF ⟨s14, _, _, rfl, hb⟩
    · rintro σ H2 ⟨s2, v2, v3, rfl, hb⟩
      rw [List.drop_of_length_le (by rw [hl]; exact Nat.le_refl _)] at hb
      rw [← hb] at q
      exact q H2 s2
end
end Kx
namespace Kx
open PySem L2 PySem.Spec PyProof.Rows
abbrev sCall : Stmt := mth 1
abbrev nCl : List Str := ["self", "values", "clause", "left", "right", "_", "term"]
section
variable {P : Program} {w : World} {K : PySem.W.Frag} {mg : Str → Option Value} {base : Heap}
theorem sc_NoValue : FnScope ["self", "term"] ["self", "term"] (defScope (inClass (top 4) 0)) := ⟨rfl, rfl, rfl, by decide +kernel, rfl, by decide +kernel, by decide +kernel⟩
theorem ok_NoValue {f : Addr} {fd : FuncData} (F : Fun K "__init__" "NoValue.__init__" (inClass (top 4) 0) f fd) : FnOk P w K mg base CX0 1 f fd ["self", "term"] (spI K ["term"]) := by
  refine F.ok sc_NoValue (fun vs H Q E h => ?_) (fun cdv A outer s H vs Q E hr h => ?_)
  · obtain ⟨a, B, C, ws, rfl, hl, _⟩ := h
    show ws.length + 1 = 2
    rw [hl] <;> rfl
  · obtain ⟨a, B, C, ws, rfl, hl, T, hno, ha, k⟩ := h
    obtain ⟨v0, rfl⟩ : ∃ v0, ws = [v0] := match ws, hl with | [v0], _ => ⟨v0, rfl⟩
    refine ⟨_, pss_one (ps_ost (pv 0) (pv 1)), ?_⟩
    refine ⟨_, rfl, _, rfl, a, C, rfl, T.oex, hno _ (by simp), .inl ⟨ha, fun dx n1 n2 => ?_⟩⟩
    exact k dx _ n1 n2 upd_same (by rw [upd_ne n2, upd_same]; rfl) (fun b h1 h2 => by rw [upd_ne h1, upd_ne h2])
end
structure NoV (K : PySem.W.Frag) (mg : Str → Option Value) (B CN f : Addr) (fd : FuncData) : Prop where
  T : Ct K B CN
  no : ∀ x ∈ ([("term" : Str)] : List Str), PySem.W.findIn K (.ref CN) x = some none
  iC : PySem.W.findIn K (.ref CN) "__init__" = some (some (.ref f))
  tI : PySem.W.typeIn K (.ref f) = some (.type "function")
  F : Fun K "__init__" "NoValue.__init__" (inClass (top 4) 0) f fd
  b : Binds K fd ["self", "term"] []
  gm : mg "NoValue" = some (.ref CN)
/-- the terms in the order in which they are asked -/
def asked (cs : List (List Lit)) : List Str := cs.flatMap fun c => c.flatMap fun l => [l.1, l.2.1]
def okT (kvs : List (Key × V)) (t : Str) : Prop := t = "" ∨ (valV kvs (.inr t)).isSome = true
def missing (CN : Addr) (E : XK) : Hp → Str → Prop := fun H1 t => ∀ d H', Same H1 H' → H' d = some (exd d [("term", .str t)]) → E (.ref CN) (some d) H'
def spCall (K : PySem.W.Frag) (C CN : Addr) : Sp := fun vs H Q E => ∃ (a d dx p q : Addr) (cs : List (List Lit)) (ys : List Str) (kvs : List (Key × V)) (f : Str → Int), vs = [.ref a, .ref d] ∧ CondF K H a C dx p q cs ys ∧ H d = some (.dK kvs) ∧ (∀ t ∈ asked cs, okT kvs t → Worth kvs f t) ∧
  ((∀ t ∈ asked cs, okT kvs t) → ∀ H', Same H H' → Q (.bl (cs.all (holds f))) H') ∧ ∀ pre t rest, asked cs = pre ++ t :: rest → (∀ x ∈ pre, okT kvs x) → ¬ okT kvs t → missing CN E H t
abbrev asC (c : List Lit) : List Str := c.flatMap fun l => [l.1, l.2.1]
theorem split_at {α : Type} {l : List α} {i : Nat} {x : α} (h : l[i]? = some x) : l = l.take i ++ x :: l.drop (i + 1) := by
  obtain ⟨hi, e⟩ := List.getElem?_eq_some_iff.mp h
  rw [← e, List.getElem_cons_drop, List.take_append_drop]
theorem asked_split {cs : List (List Lit)} {c : List Lit} {l : Lit} {t : Str} {i j k : Nat} (h1 : cs[i]? = some c) (h2 : c[j]? = some l) (h3 : [l.1, l.2.1][k]? = some t) : ∃ rest, asked cs = (asked (cs.take i) ++ asC (c.take j) ++ [l.1, l.2.1].take k) ++ t :: rest := by
  refine ⟨[l.1, l.2.1].drop (k + 1) ++ asC (c.drop (j + 1)) ++ asked (cs.drop (i + 1)), ?_⟩
  have e3 := split_at h3
  have e2 : asC c = asC (c.take j) ++ ([l.1, l.2.1] ++ asC (c.drop (j + 1))) := by
    have z := congrArg asC (split_at h2)
    rw [show asC (c.take j ++ l :: c.drop (j + 1)) = asC (c.take j) ++ ([l.1, l.2.1] ++ asC (c.drop (j + 1))) from List.flatMap_append] at z
    exact z
  have e1 : asked cs = asked (cs.take i) ++ (asC c ++ asked (cs.drop (i + 1))) := by
    have z := congrArg asked (split_at h1)
    rw [show asked (cs.take i ++ c :: cs.drop (i + 1)) = asked (cs.take i) ++ (asC c ++ asked (cs.drop (i + 1))) from List.flatMap_append] at z
    exact z
  rw [e1, e2]
  simp only [List.append_assoc]
  congr 2
  rw [← List.append_assoc, ← List.append_assoc]
  conv => lhs; rw [e3]
  simp only [List.append_assoc, List.cons_append]
theorem asked_app (a b : List (List Lit)) : asked (a ++ b) = asked a ++ asked b := List.flatMap_append
section
variable {P : Program} {w : World} {K : PySem.W.Frag} {mg : Str → Option Value} {base : Heap} {B CN fN C : Addr} {fdN : FuncData}
theorem scCall : FnScope nCl ["self", "values"] (defScope sCall) := ⟨rfl, rfl, rfl, by decide +kernel, rfl, by decide +kernel, by decide +kernel⟩
theorem ok_call {f g g2 g3 : Addr} {fd fdH fdW fdB : FuncData} (F : Fun K "__call__" "Cond.__call__" sCall f fd) (hcl : Cls K C) (hnc : NoAttr K C "clauses") (N : NoV K mg B CN fN fdN) (Hd : Fs K mg "_holds" sHolds ["clause", "values"] g fdH) (Wd : Fs K mg "_worth" sWorth ["term", "values"] g2 fdW) (Bd : Fs K mg "first_broken" sBroken ["clauses", "values"] g3 fdB) (hany : mg "any" = none) (henum : mg "enumerate" = none) :
    FnOk P w K mg base (L2N.CX P w) 4 f fd ["self", "values"] (spCall K C CN) := by
  obtain ⟨oc, od, kV, doc, pm, an, cdv, ct, osl, rfl, lk, hcd⟩ := F.ex
  have GB : FnOk P w K mg base CX0 3 g3 fdB ["clauses", "values"] (spBroken K) := ok_broken Bd Hd Wd hany henum
  refine fn_of lk hcd scCall (fun vs H Q E h => ?_) fun A outer s H vs Q E hr h => ?_
  · obtain ⟨a, d, dx, p, q, cs, ys, kvs, f, rfl, _⟩ := h
    rfl
  · obtain ⟨a, d, dx, p, q, cs, ys, kvs, f0, rfl, ha, hd, hwo, qn, qf⟩ := h
    have tk : L2N.Takes (cxOf (L2N.CX P w) P w K mg base nCl "Cond.__call__" (defScope sCall) f cdv A outer s H E) (fun cls d _ H => E cls d H) := L2N.takes_of rfl rfl rfl rfl
    have hu : (cxOf (L2N.CX P w) P w K mg base nCl "Cond.__call__" (defScope sCall) f cdv A outer s H E).A.units + 1 < cLine := hu_of hr
    refine ⟨_, pss_cons (ps_for (passes_of rfl) rfl (pi_tup (pe_fld (pv 0) (by rfl))) (pg_name (i := 2) scCall.nd rfl (Or.inl rfl))
        (pss_one (ps_for (passes_of rfl) rfl (pi_tup (pv 2)) (pg_tup rfl (pgs_cons (pg_name (i := 3) scCall.nd rfl (Or.inl rfl)) (pgs_cons (pg_name (i := 4) scCall.nd rfl (Or.inl rfl)) (pgs_cons (pg_name (i := 5) scCall.nd rfl (Or.inl rfl)) pgs_nil))))
          (pss_one (ps_for (passes_of rfl) rfl (pi_tup (pe_tup (pa_cons (pv 3) (pa_cons (pv 4) pa_nil)))) (pg_name (i := 6) scCall.nd rfl (Or.inl rfl))
            (pss_one (ps_if (PW.pt (pw_and (pt_cmpR op_ne (pv 6) pe_str (nomark _)) (pw_and1 (pt_cmp (pc_dnotin hu (pv 6) (pv 1)) (by with_unfolding_all rfl)))))
              (pss_one (L2N.ps_raise rfl tk (by exact (pmkN_err (X := cxOf (L2N.CX P w) P w K mg base nCl "Cond.__call__" (defScope sCall) f cdv A outer s H E) (K := K) (H0 := H) rfl rfl rfl
                (pe_err (ns := ["term"]) (X := cxOf (L2N.CX P w) P w K mg base nCl "Cond.__call__" (defScope sCall) f cdv A outer s H E) N.T N.no N.iC N.tI (ok_NoValue N.F) (hr.mono (by decide)) N.b pass0 N.gm (pa_cons (pv 6) pa_nil)))))) pss_nil)))))))
      (pss_one (ps_ret (pe_cmpR op_isN (pe_call GB hr (by rfl) Bd.m Bd.F.kp Bd.b .nil pass0 (pa_cons (pe_fld (pv 0) (by rfl)) (pa_cons (pv 1) pa_nil))) pe_non (nomark _)))), ?_⟩
    obtain ⟨xs, hc⟩ := ha.cl
    have hl : xs.length = cs.length := Paired.length hc.p
    refine ⟨_, rfl, a, C, dx, _, .ref p, rfl, ha.ins, hcl, hnc, rfl, p, rfl, ⟨_, hc.sq⟩, ?_⟩
    refine for_tup (xs := xs) (fun i σ H3 => (∃ o2 o3 o4 o5 o6, σ = [some (.ref a), some (.ref d), o2, o3, o4, o5, o6]) ∧ Same H H3 ∧ ∀ t ∈ asked (cs.take i), okT kvs t) ⟨⟨_, _, _, _, _, rfl⟩, fun _ _ z => z, fun t ht => nomatch ht⟩ (fun i σ H3 _ h => SqT.same h.2.1 hc.sq) ?_ ?_
    · rintro i x σ H3 hx ⟨⟨o2, o3, o4, o5, o6, rfl⟩, s3, hok⟩
      obtain ⟨c, hci, b, zs, rfl, hb⟩ := paired_get hc.p hx
      have hzl : zs.length = c.length := hb.len
      refine ⟨_, rfl, b, rfl, ⟨_, SqT.same s3 hb.sq⟩, ?_⟩
      refine for_tup (xs := zs) (fun j σ H4 => (∃ o3 o4 o5 o6, σ = [some (.ref a), some (.ref d), some (.ref b), o3, o4, o5, o6]) ∧ Same H H4 ∧ ∀ t ∈ asked (cs.take i) ++ asC (c.take j), okT kvs t) ⟨⟨_, _, _, _, rfl⟩, s3, fun t ht => hok t (by rw [show asC (c.take 0) = [] from rfl, List.append_nil] at ht; exact ht)⟩ (fun j σ H4 _ h => SqT.same h.2.1 hb.sq) ?_ ?_
      · rintro j x σ H4 hx4 ⟨⟨o3, o4, o5, o6, rfl⟩, s4, hok4⟩
        obtain ⟨l, hlj, e, rfl, he⟩ := paired_get hb.p hx4
        refine ⟨e, _, rfl, SqT.same s4 he, rfl, _, _, rfl, _, _, rfl, _, _, rfl, rfl, ?_⟩
        refine ⟨_, rfl, _, rfl, by show 2 ≤ sizeLine; decide, fun q5 h5 => ⟨q5, rfl, ⟨_, SqT.of upd_same⟩, ?_⟩⟩
        refine for_tup (xs := [V.str l.1, V.str l.2.1]) (fun k σ H6 => (∃ o6, σ = [some (.ref a), some (.ref d), some (.ref b), some (.str l.1), some (.str l.2.1), some (.int l.2.2), o6]) ∧ Same H H6 ∧ H6 q5 = some (.tup [.str l.1, .str l.2.1]) ∧ ∀ t ∈ asked (cs.take i) ++ asC (c.take j) ++ [l.1, l.2.1].take k, okT kvs t)
          ⟨⟨_, rfl⟩, fun b u z => new_same h5 _ _ (s4 _ _ z), upd_same, fun t ht => hok4 t (by rw [show [l.1, l.2.1].take 0 = ([] : List Str) from rfl, List.append_nil] at ht; exact ht)⟩ (fun k σ H6 _ h => SqT.of h.2.2.1) ?_ ?_
        · rintro k x σ H6 hx6 ⟨⟨o6, rfl⟩, s6, g6, hok6⟩
          obtain ⟨t, ht, rfl⟩ : ∃ t, [l.1, l.2.1][k]? = some t ∧ x = .str t := by
            have e : [V.str l.1, V.str l.2.1] = [l.1, l.2.1].map V.str := rfl
            rw [e, List.getElem?_map] at hx6
            obtain ⟨t, h1, h2⟩ := Option.map_eq_some_iff.mp hx6
            exact ⟨t, h1, h2.symm⟩
          have more : okT kvs t → ∀ x ∈ asked (cs.take i) ++ asC (c.take j) ++ [l.1, l.2.1].take (k + 1), okT kvs x := fun h x hx => by
            rw [List.take_add_one, ht, ← List.append_assoc] at hx
            rcases List.mem_append.mp hx with z | z
            · exact hok6 x z
            · rw [List.mem_singleton.mp (show x ∈ [t] from z)]
              exact h
          refine ⟨_, rfl, rfl, _, rfl, ?_⟩
          by_cases hz : t = ""
          · rw [show (!decide (V.str t = V.str "")) = false from by rw [hz]; decide]
            exact iteF (iteF ⟨⟨_, rfl⟩, s6, g6, more (.inl hz)⟩)
          rw [show (!decide (V.str t = V.str "")) = true from by rw [decide_eq_false fun z => hz (V.str.inj z)]; rfl]
          refine iteT ⟨_, rfl, _, rfl, d, valV kvs (.inr t), rfl, DGet.k (k := .inr t) (s6 _ _ hd), _, rfl, ?_⟩
          by_cases hs : (valV kvs (.inr t)).isSome = true
          · rw [hs]
            exact iteF ⟨⟨_, rfl⟩, s6, g6, more (.inr hs)⟩
          · rw [Bool.not_eq_true] at hs
            rw [hs]
            refine iteT ⟨_, rfl, rfl, (by show 1 ≤ 100; decide), fun e' H7 n7 h7 s7 => ?_⟩
            obtain ⟨d', hne, h7a, h7d⟩ := h7
            obtain ⟨rest, hr'⟩ := asked_split hci hlj ht
            refine ⟨e', B, CN, d', rfl, N.T, h7a, fr0_none (Same.free s6 n7), qf _ t rest hr' hok6 (fun z => z.elim hz fun y => by rw [hs] at y; cases y) d' _ (fun b u z => del_keep s7 n7 _ _ (s6 _ _ z)) ((delH_ne hne).trans h7d)⟩
        · rintro σ H6 ⟨⟨o6, rfl⟩, s6, g6, hok6⟩
          refine ⟨⟨_, _, _, _, rfl⟩, s6, fun t ht => hok6 t ?_⟩
          rw [List.take_add_one, hlj] at ht
          have e : asC (c.take j ++ (some l).toList) = asC (c.take j) ++ [l.1, l.2.1] := List.flatMap_append
          rw [e, ← List.append_assoc] at ht
          exact ht
      · rintro σ H4 ⟨⟨o3, o4, o5, o6, rfl⟩, s4, hok4⟩
        refine ⟨⟨_, _, _, _, _, rfl⟩, s4, fun t ht => hok4 t ?_⟩
        rw [hzl, List.take_of_length_le (Nat.le_refl _)]
        rw [List.take_add_one, hci] at ht
        have e : asked (cs.take i ++ (some c).toList) = asked (cs.take i) ++ (asC c ++ []) := List.flatMap_append
        rw [e, List.append_nil] at ht
        exact ht
    · rintro σ H3 ⟨⟨o2, o3, o4, o5, o6, rfl⟩, s3, hok⟩
      rw [hl, List.take_of_length_le (Nat.le_refl _)] at hok
      have hin : ∀ c ∈ cs, ∀ l ∈ c, l.1 ∈ asked cs ∧ l.2.1 ∈ asked cs := fun c hcm l hl => ⟨List.mem_flatMap.mpr ⟨c, hcm, List.mem_flatMap.mpr ⟨l, hl, by simp⟩⟩, List.mem_flatMap.mpr ⟨c, hcm, List.mem_flatMap.mpr ⟨l, hl, by simp⟩⟩⟩
      refine ⟨_, rfl, a, C, dx, _, .ref p, rfl, s3 _ _ ha.ins, hcl, hnc, rfl, _, rfl, p, d, xs, cs, kvs, f0, rfl, Cs.same s3 hc, s3 _ _ hd, fun c hc l hl => ⟨hwo _ (hin c hc l hl).1 (hok _ (hin c hc l hl).1), hwo _ (hin c hc l hl).2 (hok _ (hin c hc l hl).2)⟩, fun H4 s4 => ?_⟩
      have e : decide (vOpt (broken f0 0 cs) = V.non) = cs.all (holds f0) := by
        rw [← broken_all (i := 0)]
        cases broken f0 0 cs with
        | none => rfl
        | some i => rfl
      refine ⟨rfl, ?_⟩
      show Q (V.bl (decide (vOpt (broken f0 0 cs) = V.non))) H4
      rw [e]
      exact qn hok H4 fun b u z => s4 _ _ (s3 _ _ z)
end
end Kx
namespace Kx
open PySem L2
abbrev sWell : Stmt := top 25
abbrev sDraw : Stmt := top 26
abbrev sOne : Stmt := top 27

/-- a source of draws as it stands: three whole numbers, the last one small -/
def WellAt (H : Hp) (p : Addr) (n : Int) : Prop := ∃ a b c : Int, H p = some (.lst [.int a, .int b, .int c]) ∧ 0 ≤ b ∧ b < 4294967296 ∧ 0 ≤ c ∧ c ≤ n
def spWell : Sp := fun vs H Q _ => ∃ c : Int, vs = [.int c] ∧ ∀ p H', H p = none → Same H H' → WellAt H' p 0 → Q (.ref p) H'
def spDraw : Sp := fun vs H Q _ => ∃ (p : Addr) (m n : Int), vs = [.ref p, .int m] ∧ WellAt H p n ∧ n ≤ 1000000 ∧ 0 < m ∧ m < 1000000 ∧
  ∀ (r : Int) (xs : List V), 0 ≤ r → r < m → WellAt (upd H p (.lst xs)) p (n + 1) → Q (.int r) (upd H p (.lst xs))
def spOne (K : PySem.W.Frag) : Sp := fun vs H Q _ => ∃ (p q : Addr) (n : Int) (ys : List V), vs = [.ref p, .ref q] ∧ WellAt H p n ∧ n ≤ 1000000 ∧ p ≠ q ∧ SqL K H q ys ∧ 0 < ys.length ∧ ys.length < 1000000 ∧
  ∀ (r : Nat) (v : V) (xs : List V), ys[r]? = some v → WellAt (upd H p (.lst xs)) p (n + 1) → Q v (upd H p (.lst xs))

structure Bl (mg : Str → Option Value) : Prop where
  int : mg "int" = none
  len : mg "len" = none

section
variable {P : Program} {w : World} {K : PySem.W.Frag} {mg : Str → Option Value} {base : Heap}
theorem scW : FnScope ["_law_cell"] ["_law_cell"] (defScope sWell) := ⟨rfl, rfl, rfl, by decide +kernel, rfl, by decide +kernel, by decide +kernel⟩
theorem ok_well {f : Addr} {fd : FuncData} (F : Fun K "_law_well" "_law_well" sWell f fd) (T : Bl mg) : FnOk P w K mg base CX0 1 f fd ["_law_cell"] spWell := by
  refine F.ok scW (fun vs H Q E h => ?_) (fun cdv A outer s H vs Q E hr h => ?_)
  · obtain ⟨c, rfl, _⟩ := h
    rfl
  · obtain ⟨c, rfl, k⟩ := h
    have hu := hu_of hr
    refine ⟨_, pss_one (ps_ret (pe_lst (pa_cons (pe_op op_mul (pv 0) (pe_callTy call_int1 (by rfl) T.int (by decide +kernel) (pa_cons (pe_cmpR op_ge (pv 0) (pe_op op_pow pe_int pe_int) (nomark _)) pa_nil)))
      (pa_cons (pe_op op_mod (pe_callTy call_int1 (by rfl) T.int (by decide +kernel) (pa_cons (pv 0) pa_nil)) pe_int) (pa_cons pe_int pa_nil))))), ?_⟩
    refine ⟨_, rfl, _, rfl, _, _, rfl, rfl, ⟨by decide, by decide, by decide⟩, _, _, rfl, rfl, .inr ⟨_, rfl, _, _, rfl, rfl, .inr ?_, _, rfl, .inl ⟨_, rfl, _, _, rfl, rfl, (by show (0 : Int) < 2147483629; decide), (by show 3 ≤ sizeLine; decide), fun p hp => ?_⟩⟩⟩
    · split <;> omega
    · refine k p _ hp (fun b o e => ?_) ⟨_, _, 0, upd_same, Int.emod_nonneg _ (by decide), ?_, Int.le_refl _, Int.le_refl _⟩
      · rw [upd_ne (ne_of_none e hp)]
        exact e
      · have := Int.emod_lt_of_pos c (show (0 : Int) < 2147483629 by decide)
        omega
theorem ml (x : Int) : -(2 ^ 64) < x % 2147483647 ∧ x % 2147483647 < 2 ^ 64 := by omega
theorem scD : FnScope ["_law_well_here", "_law_base", "_law_digit", "_law_number_here"] ["_law_well_here", "_law_base"] (defScope sDraw) := ⟨rfl, rfl, rfl, by decide +kernel, rfl, by decide +kernel, by decide +kernel⟩
theorem ok_draw {f : Addr} {fd : FuncData} (F : Fun K "_law_draw" "_law_draw" sDraw f fd) (T : Bl mg) : FnOk P w K mg base CX0 1 f fd ["_law_well_here", "_law_base"] spDraw := by
  refine F.ok scD (fun vs H Q E h => ?_) (fun cdv A outer s H vs Q E hr h => ?_)
  · obtain ⟨p, m, n, rfl, _⟩ := h
    rfl
  · obtain ⟨p, m, n, rfl, ⟨a, b, c, hp, hb0, hb1, hc0, hcn⟩, hn, hm0, hm1, k⟩ := h
    have hu := hu_of hr
    refine ⟨_, pss_cons (ps_if (pt_cmpR op_gt (pe_ix ix_list (pv 0) pe_int (fun _ _ => rfl)) pe_int (nomark _))
        (pss_cons (ps_set (i := 2) scD.nd rfl (Or.inl rfl) (pe_op op_mod (pe_callTy call_int1 (by rfl) T.int (by decide +kernel) (pa_cons (pe_ix ix_list (pv 0) pe_int (fun _ _ => rfl)) pa_nil)) (pv 1)))
        (pss_cons (ps_asg (pe_op op_fdivW (pe_ix ix_list (pv 0) pe_int (fun _ _ => rfl)) (pv 1)) (pg_sub (pv 0) pe_int set_list))
        (pss_one (ps_ret (pv 2))))) pss_nil)
      (pss_cons (ps_asg (pe_op op_add (pe_ix ix_list (pv 0) pe_int (fun _ _ => rfl)) pe_int) (pg_sub (pv 0) pe_int set_list))
      (pss_cons (ps_set (i := 3) scD.nd rfl (Or.inl rfl) (pe_op op_mod (pe_callTy call_int1 (by rfl) T.int (by decide +kernel) (pa_cons (pe_op op_mul (pe_callTy call_int1 (by rfl) T.int (by decide +kernel) (pa_cons
          (pe_op op_add (pe_op op_add (pe_ix ix_list (pv 0) pe_int (fun _ _ => rfl)) (pe_op op_mul pe_int (pe_ix ix_list (pv 0) pe_int (fun _ _ => rfl)))) pe_int) pa_nil)) pe_int) pa_nil)) pe_int))
      (pss_cons (ps_set (i := 3) scD.nd rfl (Or.inl rfl) (pe_op op_mod (pe_callTy call_int1 (by rfl) T.int (by decide +kernel) (pa_cons (pe_op op_mul (pv 3) (pe_op op_add (pe_op op_fdiv (pv 3) pe_int) pe_int)) pa_nil)) pe_int))
      (pss_one (ps_ret (pe_op op_mod (pe_callTy call_int1 (by rfl) T.int (by decide +kernel) (pa_cons (pe_op op_mod (pe_callTy call_int1 (by rfl) T.int (by decide +kernel) (pa_cons (pe_op op_mul (pv 3) (pe_op op_add (pe_op op_fdiv (pv 3) pe_int) pe_int)) pa_nil)) pe_int) pa_nil)) (pv 1))))))), ?_⟩
    have g0 : ∀ (x y z : V), atI [x, y, z] 0 = some x := fun _ _ _ => rfl
    have g1 : ∀ (x y z : V), atI [x, y, z] 1 = some y := fun _ _ _ => rfl
    have g2 : ∀ (x y z : V), atI [x, y, z] 2 = some z := fun _ _ _ => rfl
    have hc1 : c + 1 ≤ n + 1 := by omega
    refine ⟨_, rfl, p, _, _, _, rfl, rfl, SqL.of hp, g0 _ _ _, _, _, rfl, rfl, _, rfl, ?_⟩
    refine ite2 (fun _ => ?_) (fun _ => ?_)
    · refine ⟨_, rfl, p, _, _, _, rfl, rfl, SqL.of hp, g0 _ _ _, .inl ⟨_, rfl, _, rfl, _, _, rfl, rfl, hm0, ?_⟩⟩
      refine ⟨_, rfl, p, _, _, _, rfl, rfl, SqL.of hp, g0 _ _ _, _, rfl, _, _, rfl, rfl, wide_div (b := 20) hm0 (by omega) (by decide) (by decide), _, rfl, p, _, _, 0, rfl, rfl, hp, rfl, _, rfl, ?_⟩
      exact k _ _ (Int.emod_nonneg _ (by omega)) (Int.emod_lt_of_pos _ hm0) ⟨_, b, c, upd_same, hb0, hb1, hc0, by omega⟩
    · refine ⟨_, rfl, p, _, _, _, rfl, rfl, SqL.of hp, g2 _ _ _, _, _, rfl, rfl, _, rfl, p, _, _, 2, rfl, rfl, hp, rfl, ?_⟩
      have e2 : (upd H p (.lst [.int a, .int b, .int (c + 1)])) p = some (.lst [.int a, .int b, .int (c + 1)]) := upd_same
      refine ⟨_, rfl, p, _, _, _, rfl, rfl, SqL.of e2, g1 _ _ _, _, rfl, p, _, _, _, rfl, rfl, SqL.of e2, g2 _ _ _, _, _, rfl, rfl, .inl ⟨by decide, by decide⟩, _, _, rfl, rfl, _, _, rfl, rfl,
        .inl ⟨_, rfl, _, _, rfl, rfl, .inr ⟨by decide, by decide⟩, .inl ⟨_, rfl, _, _, rfl, rfl, (by show (0 : Int) < 2147483647; decide), ?_⟩⟩⟩
      refine ⟨_, rfl, _, rfl, _, _, rfl, rfl, ⟨by decide, by decide⟩, _, _, rfl, rfl, _, _, rfl, rfl, .inl (ml _), .inl ⟨_, rfl, _, _, rfl, rfl, (by show (0 : Int) < 2147483647; decide), ?_⟩⟩
      refine ⟨_, rfl, _, rfl, _, _, rfl, rfl, ⟨by decide, by decide⟩, _, _, rfl, rfl, _, _, rfl, rfl, .inl (ml _), .inl ⟨_, rfl, _, _, rfl, rfl, (by show (0 : Int) < 2147483399; decide), .inl ⟨_, rfl, _, rfl, _, _, rfl, rfl, hm0, ?_⟩⟩⟩
      exact k _ _ (Int.emod_nonneg _ (by omega)) (Int.emod_lt_of_pos _ hm0) ⟨a, b, c + 1, upd_same, hb0, hb1, by omega, by omega⟩
theorem scO : FnScope ["_law_well_here", "_law_some"] ["_law_well_here", "_law_some"] (defScope sOne) := ⟨rfl, rfl, rfl, by decide +kernel, rfl, by decide +kernel, by decide +kernel⟩
theorem ok_one {f g : Addr} {fd fdD : FuncData} (F : Fun K "_law_one" "_law_one" sOne f fd) (T : Bl mg) (FD : Fun K "_law_draw" "_law_draw" sDraw g fdD) (bD : Binds K fdD ["_law_well_here", "_law_base"] []) (mD : mg "_law_draw" = some (.ref g)) : FnOk P w K mg base CX0 2 f fd ["_law_well_here", "_law_some"] (spOne K) := by
  have GD : FnOk P w K mg base CX0 1 g fdD ["_law_well_here", "_law_base"] spDraw := ok_draw FD T
  refine F.ok scO (fun vs H Q E h => ?_) (fun cdv A outer s H vs Q E hr h => ?_)
  · obtain ⟨p, q, n, ys, rfl, _⟩ := h
    rfl
  · obtain ⟨p, q, n, ys, rfl, hW, hn, hne, hq, h0, h1, k⟩ := h
    refine ⟨_, pss_one (ps_ret (pe_ix ix_list (pv 1) (pe_call GD hr rfl mD FD.kp bD .nil pass0 (pa_cons (pv 0) (pa_cons (pe_callB call_len_seq (by rfl) T.len PySem.boot_len (pa_cons (pv 1) pa_nil)) pa_nil))) (fun _ _ => rfl))), ?_⟩
    refine ⟨_, rfl, _, rfl, _, rfl, q, ys, rfl, .inl hq, p, _, n, rfl, hW, hn, by omega, by omega, fun r xs r0 r1 hW' => ?_⟩
    have hr2 : r.toNat < ys.length := by omega
    have e1 : ys[r.toNat]? = some ys[r.toNat] := by simp [hr2]
    refine ⟨q, ys, r, _, rfl, rfl, ?_, at_of (j := r.toNat) (by omega) e1, k r.toNat _ xs e1 hW'⟩
    rcases hq with (z | ⟨o, z⟩) | z
    · exact .inl (.inl (by rw [upd_ne (fun e => hne e.symm)]; exact z))
    · exact .inl (.inr ⟨o, by rw [upd_ne (fun e => hne e.symm)]; exact z⟩)
    · exact .inr z
end
end Kx
namespace Kx
open PySem L2 PySem.Spec PyProof.Rows
section
variable {X : Cx}
theorem pe_ownX {W : WX} {op : Operator} {k : Nat} {f C : Addr} {fd : FuncData} {ps : List PySem.Str} {sp : Sp} {e1 e2 : Expr} {ta tb : TE} {pos : Pos} (tk : L2N.Takes X W) (hc : PySem.W.selfFirst X.K C = true) (hs : PySem.W.findIn X.K (.ref C) (PySem.dunder op.info.2) = some (some (.ref f))) (hf : PySem.W.isFn X.K (.ref f) = true)
    (F : FnOk X.prog X.w X.K X.mg X.base (L2N.CX X.prog X.w) k f fd ps sp) (hr : Room k X.A) (hb : Binds X.K fd ps []) (h1 : PE X e1 ta) (h2 : PE X e2 tb) :
    PE X (.BinOp e1 op e2 pos) (fun σ H Q => ta σ H fun x H1 => tb σ H1 fun y H2 => rOwn C sp (WE W σ) x y H2 Q) := by
  refine ⟨fun pins s σ H Q I h => ?_⟩
  refine wpAny_BinOp (binT h1 h2 I h fun v u s2 x y H2 I2 rx ry q => ?_)
  obtain ⟨a, b, dx, dy, fs, gs, rfl, rfl, ha, hb', q⟩ := q
  obtain rfl : v = Value.ref a := rx
  obtain rfl : u = Value.ref b := ry
  obtain ⟨m, fr⟩ := I2.fr
  obtain ⟨_, O1, _⟩ := ins_get I2.hok ha
  obtain ⟨o1, J1, _⟩ := O1.look
  obtain ⟨_, O2, _⟩ := ins_get I2.hok hb'
  obtain ⟨o2, J2, _⟩ := O2.look
  refine PySem.W.binop_K fr I2.ok.mod.kin J1 J2.type hc hs hf ?_
  refine thn (run_fnS (E := WE W) (us := [.ref a, .ref b]) (vs := [.ref a, .ref b]) F hr hb (L2N.passAt tk σ) I2 (.cons rfl (.cons rfl .nil)) q) fun z s' ⟨zv, H', I', rz, q'⟩ => ?_
  cases z <;> first | exact ⟨zv, H', I', rz, q'⟩ | (cases zv <;> first | (obtain ⟨_, z⟩ := rz; cases z) | cases rz)
theorem pe_xfE {a C : Addr} {oe : Obj} {cls : Value} {d : Option Addr} {pn : List (Addr × Obj)} {e : Expr} {te : TE} {pos : Pos} {n : PySem.Str} (T : XfC X.K C) (hno : PySem.W.findIn X.K (.ref C) n = some none) (hz : Zc cls d oe) (hf : ∃ vs, oe.data = .fields vs)
    (he : PE (X.suite a ((a, oe) :: pn)) e te) (hb : attributeBase e n X.env (eval e X.env) = eval e X.env := by rfl) : PE (X.suite a ((a, oe) :: pn)) (.Attribute e n pos)
      (fun σ H Q => te σ H fun x H1 => x = .ref a ∧ cls = .ref C ∧ ∃ (dd : Addr) (fs : List (PySem.Str × V)) (v : V), d = some dd ∧ H1 dd = some (exd dd fs) ∧ fs.lookup n = some v ∧ Q v H1) := by
  refine ⟨fun pins s σ H Q I h => attr_of hb (thn (he.run pins s σ H _ I h) fun u s1 hh => ?_)⟩
  obtain ⟨x, H1, I1, rx, rfl, rfl, dd, fs, v, rfl, ea, l, q⟩ := hh
  obtain rfl : u = Value.ref a := rx
  obtain ⟨ha, _⟩ := I1.pin (a, oe) (List.mem_append_left _ List.mem_cons_self)
  obtain ⟨vs, hd⟩ := hf
  obtain ⟨mA, hns, hr⟩ := exd_at I1.hok ea
  obtain ⟨od, ho, hl⟩ := lookIn_ns hns
  obtain ⟨u, hu, ru⟩ := RelO.some_of (v := v) (o := mA n) (by rw [← l]; exact hr n)
  have J : PySem.W.InstAt s1.heap a oe C (some od) := ⟨ha, hz.1, by unfold PySem.W.notCls; rw [hd] <;> rfl, by rw [hz.2]; exact ho⟩
  exact HandSPX.exc_get I1.kIn J T.ga T.gg T.exC (PySem.W.findObj_own T.hdC hno rfl (by rw [hl, hu])) (handed_of ru) ⟨v, H1, I1.tok _, ru, q⟩
end
end Kx
namespace Kx
open PySem L2 PySem.Spec PyProof.Rows
abbrev sNum : Stmt := top 28
/-- all stands but what is at p -/
def KeepB (p : Addr) (H H' : Hp) : Prop := ∀ b u, b ≠ p → H b = some u → H' b = some u
theorem KeepB.trans {p : Addr} {H1 H2 H3 : Hp} (a : KeepB p H1 H2) (b : KeepB p H2 H3) : KeepB p H1 H3 := fun x u n z => b x u n (a x u n z)
theorem KeepB.of {p : Addr} {H1 H2 : Hp} (a : Same H1 H2) : KeepB p H1 H2 := fun x u _ z => a x u z
theorem KeepB.at {p : Addr} {H : Hp} {o : HO} : KeepB p H (upd H p o) := fun x u n z => by rw [upd_ne n]; exact z
theorem WellAt.mono {H : Hp} {p : Addr} {n m : Int} (h : WellAt H p n) (l : n ≤ m) : WellAt H p m := let ⟨a, b, c, e, h0, h1, h2, h3⟩ := h; ⟨a, b, c, e, h0, h1, h2, by omega⟩
theorem WellAt.same {H H' : Hp} {p : Addr} {n : Int} (h : WellAt H p n) (s : Same H H') : WellAt H' p n := let ⟨a, b, c, e, r⟩ := h; ⟨a, b, c, s _ _ e, r⟩
theorem WellAt.lst {H : Hp} {p : Addr} {n : Int} (h : WellAt H p n) : ∃ ms, H p = some (.lst ms) := let ⟨_, _, _, e, _⟩ := h; ⟨_, e⟩
structure Drw (K : PySem.W.Frag) (mg : PySem.Str → Option Value) : Prop where
  T : Bl mg
  well : ∃ f fd, Fs K mg "_law_well" sWell ["_law_cell"] f fd
  draw : ∃ f fd, Fs K mg "_law_draw" sDraw ["_law_well_here", "_law_base"] f fd
  one : ∃ f fd, Fs K mg "_law_one" sOne ["_law_well_here", "_law_some"] f fd
/-- what a drawn number lies within -/
def Bd (i : Int) : Prop := -(1000000000000000000000000000000000000000000000000000000000100) ≤ i ∧ i ≤ 1000000000000000000000000000000000000000000000000000000000100
/-- a drawn number: some number -/
def spNum : Sp := fun vs H Q _ => ∃ (p : Addr) (n : Int), vs = [.ref p] ∧ WellAt H p n ∧ n + 10 ≤ 1000000 ∧ ∀ r H', Bd r → KeepB p H H' → WellAt H' p (n + 10) → Q (.int r) H'
theorem dr_go {m c n : Int} {p : Addr} {σ : L2.St} {H : Hp} {Q : VK} (hσ : σ[0]? = some (some (.ref p))) (hW : WellAt H p n) (hn : n ≤ 1000000) (h0 : 0 < m) (h1 : m < 1000000)
    (k : ∀ (i : Int) (xs : List V), -c ≤ i → i < m - c → WellAt (upd H p (.lst xs)) p (n + 1) → Q (.int i) (upd H p (.lst xs))) :
    tOp (rI0 fun i j => V.int (i - j)) (tCall spDraw [] E0 (tCons (tVar 0) (tCons (tC (V.int m)) tNil))) (tC (V.int c)) σ H Q :=
  ⟨_, hσ, p, m, n, rfl, hW, hn, h0, h1, fun r xs a b hw => ⟨r, c, rfl, rfl, k _ xs (by omega) (by omega) hw⟩⟩
theorem ints_get {ys : List V} {B : Int → Prop} (h : ∀ v ∈ ys, ∃ i, v = V.int i ∧ B i) {r : Nat} {v : V} (g : ys[r]? = some v) : ∃ i, v = V.int i ∧ B i := h v (List.mem_of_getElem? g)
section
variable {P : Program} {w : World} {K : PySem.W.Frag} {mg : PySem.Str → Option Value} {base : Heap}
theorem scNum : FnScope ["_law_well_here", "_law_great"] ["_law_well_here"] (defScope sNum) := ⟨rfl, rfl, rfl, by decide +kernel, rfl, by decide +kernel, by decide +kernel⟩
theorem ok_num {f : Addr} {fd : FuncData} (F : Fun K "_law_number" "_law_number" sNum f fd) (D : Drw K mg) : FnOk P w K mg base CX0 3 f fd ["_law_well_here"] spNum := by
  obtain ⟨_, _, dD⟩ := D.draw
  obtain ⟨_, _, dO⟩ := D.one
  have GD : FnOk P w K mg base CX0 1 _ _ ["_law_well_here", "_law_base"] spDraw := ok_draw dD.F D.T
  have GO : FnOk P w K mg base CX0 2 _ _ ["_law_well_here", "_law_some"] (spOne K) := ok_one dO.F D.T dD.F dD.b dD.m
  refine F.ok scNum (fun vs H Q E h => ?_) (fun cdv A outer s H vs Q E hr h => ?_)
  · obtain ⟨p, n, rfl, _⟩ := h
    rfl
  · obtain ⟨p, n, rfl, hW, hn, k⟩ := h
    have hr1 : Room 1 (A.deeper (envOfC "_law_number" (defScope sNum) s.heap.objs.size f cdv)) := hr.mono (by decide)
    refine ⟨_, pss_cons (ps_set (i := 1) scNum.nd rfl (Or.inl rfl) (pe_op op_add (pe_op op_sub (pe_call GD hr1 (by rfl) dD.m dD.F.kp dD.b .nil pass0 (pa_cons (pv 0) (pa_cons pe_int pa_nil))) pe_int)
        (pe_call GO hr (by rfl) dO.m dO.F.kp dO.b .nil pass0 (pa_cons (pv 0) (pa_cons (pe_lst (pa_cons (pe_op op_pow pe_int pe_int) (pa_cons (pe_un un_neg (pe_op op_pow pe_int pe_int)) (pa_cons (pe_op op_pow pe_int pe_int) pa_nil)))) pa_nil)))))
      (pss_one (ps_ret (pe_call GO hr (by rfl) dO.m dO.F.kp dO.b .nil pass0 (pa_cons (pv 0) (pa_cons (pe_lst (pa_cons (pe_op op_sub (pe_call GD hr1 (by rfl) dD.m dD.F.kp dD.b .nil pass0 (pa_cons (pv 0) (pa_cons pe_int pa_nil))) pe_int)
        (pa_cons (pe_op op_sub (pe_call GD hr1 (by rfl) dD.m dD.F.kp dD.b .nil pass0 (pa_cons (pv 0) (pa_cons pe_int pa_nil))) pe_int) (pa_cons (pe_op op_sub (pe_call GD hr1 (by rfl) dD.m dD.F.kp dD.b .nil pass0 (pa_cons (pv 0) (pa_cons pe_int pa_nil))) pe_int) (pa_cons (pv 1) pa_nil))))) pa_nil))))), ?_⟩
    refine dr_go rfl hW (by omega) (by decide) (by decide) fun i1 xs1 a1 b1 w1 => ?_
    generalize hH1 : upd H p (.lst xs1) = H1 at w1 ⊢
    have k1 : KeepB p H H1 := by rw [← hH1]; exact KeepB.at
    refine ⟨_, rfl, _, _, rfl, rfl, ⟨by decide, by decide, by decide⟩, _, _, rfl, rfl, ⟨by decide, by decide, by decide⟩, _, rfl, _, _, rfl, rfl, ⟨by decide, by decide, by decide⟩, by show 3 ≤ sizeLine; decide, fun q1 m1 => ?_⟩
    generalize hy1 : ([_, _, _] : List V) = ys1
    have np1 : p ≠ q1 := fun z => by
      obtain ⟨_, e⟩ := w1.lst
      rw [z, m1] at e
      cases e
    have w2 := w1.same (new_same (o := .lst ys1) m1)
    refine ⟨p, q1, n + 1, ys1, rfl, w2, by omega, np1, SqL.of upd_same, by rw [← hy1]; show 0 < 3; decide, by rw [← hy1]; show 3 < 1000000; decide, fun r1 v1 xs2 hv1 w3 => ?_⟩
    obtain ⟨g, rfl, bg⟩ := ints_get (B := fun i => -(1000000000000000000000000000000000000000000000000000000000000) ≤ i ∧ i ≤ 1000000000000000000000000000000000000000000000000000000000000) (by rw [← hy1]; intro v hv; simp only [List.mem_cons, List.not_mem_nil, or_false] at hv; rcases hv with h | h | h <;> exact ⟨_, h, by decide⟩) hv1
    have k3 : KeepB p H (upd (upd H1 q1 (.lst ys1)) p (.lst xs2)) := k1.trans ((KeepB.of (new_same m1)).trans KeepB.at)
    generalize upd (upd H1 q1 (.lst ys1)) p (.lst xs2) = H3 at w3 k3 ⊢
    refine ⟨_, _, rfl, rfl, ?_⟩
    refine ⟨_, rfl, ?_⟩
    refine dr_go rfl w3 (by omega) (by decide) (by decide) fun i4 xs4 a4 b4 w4 => ?_
    refine dr_go rfl w4 (by omega) (by decide) (by decide) fun i5 xs5 a5 b5 w5 => ?_
    refine dr_go rfl w5 (by omega) (by decide) (by decide) fun i6 xs6 a6 b6 w6 => ?_
    have k6 := ((k3.trans (KeepB.at (o := .lst xs4))).trans (KeepB.at (o := .lst xs5))).trans (KeepB.at (o := .lst xs6))
    generalize upd (upd (upd H3 p (.lst xs4)) p (.lst xs5)) p (.lst xs6) = H6 at w6 k6 ⊢
    refine ⟨_, rfl, by show 4 ≤ sizeLine; decide, fun q2 m2 => ?_⟩
    generalize hy2 : ([_, _, _, _] : List V) = ys2
    have np2 : p ≠ q2 := fun z => by
      obtain ⟨_, e⟩ := w6.lst
      rw [z, m2] at e
      cases e
    have w7 := w6.same (new_same (o := .lst ys2) m2)
    refine ⟨p, q2, _, ys2, rfl, w7, by omega, np2, SqL.of upd_same, by rw [← hy2]; show 0 < 4; decide, by rw [← hy2]; show 4 < 1000000; decide, fun r2 v2 xs8 hv2 w8 => ?_⟩
    have bd : ∀ i : Int, -1000 ≤ i → i ≤ 1000 → Bd i := fun i x y => by unfold Bd; omega
    have bgr : Bd (i1 + g) := by unfold Bd; omega
    obtain ⟨g2, rfl, b2⟩ := ints_get (B := Bd) (by rw [← hy2]; intro v hv; simp only [List.mem_cons, List.not_mem_nil, or_false] at hv; rcases hv with h | h | h | h; exact ⟨_, h, bd _ (by omega) (by omega)⟩; exact ⟨_, h, bd _ (by omega) (by omega)⟩; exact ⟨_, h, bd _ (by omega) (by omega)⟩; exact ⟨_, h, bgr⟩) hv2
    exact k g2 _ b2 (k6.trans ((KeepB.of (new_same m2)).trans KeepB.at)) (w8.mono (by omega))
end
end Kx
namespace Kx
open PySem L2 PySem.Spec PyProof.Rows
open StX (pe_makeR tMakeR)
abbrev sCond2 : Stmt := top 31
abbrev NoF : XK → Hp → Int → Prop := fun _ _ _ => False
theorem init_ok {K : PySem.W.Frag} {H H1 : Hp} {C : Addr} {vs : List V} {cs : List (List Lit)} {Q : VK} {E : XK} (s1 : Same H H1) (hp : Paired (IsC K H1) vs cs) (hsh : shortC cs) (hl : cs.length ≤ 1000) (hw : firstWrong cs = none)
    (k : ∀ r dz p q ys H', CondF K H' r C dz p q cs ys → Same H H' → H r = none → Q (.ref r) H') : ∀ x dx, H1 x = none → H1 dx = none → dx ≠ x →
      spInit K C NoF (V.ref x :: vs) (upd (upd H1 dx (.own x)) x (.ins C dx [])) (fun v H2 => v = .non ∧ Q (.ref x) H2) E := by
  intro r dz hr0 hdz hne
  have hml : vs.length = cs.length := Paired.length hp
  refine ⟨[.ref r], vs, rfl, rfl, Nat.le_of_lt (small1000 (by omega)), fun p2 hp2 => ?_⟩
  have s5 : Same H1 (upd (upd H1 dz (.own r)) r (.ins C dz [])) := same_upd hr0 (new_same hdz)
  have s6 : Same H1 (upd (upd (upd H1 dz (.own r)) r (.ins C dz [])) p2 (.tup vs)) := fun b u z => new_same hp2 _ _ (s5 _ _ z)
  have hrp : r ≠ p2 := fun z => by
    rw [← z, upd_same] at hp2
    cases hp2
  refine ⟨r, dz, p2, vs, cs, rfl, (by rw [upd_ne hrp]; exact upd_same), ⟨SqT.of upd_same, pairedC_same s6 hp, hl⟩, hsh, fun _ H' q2 zs hF hk => ⟨rfl, ?_⟩, fun i z => ?_⟩
  · refine k r dz p2 q2 zs H' hF (fun b u z => hk b u (fun e => ?_) (s6 _ _ (s1 _ _ z))) (Same.free s1 hr0)
    rw [e, Same.free s1 hr0] at z
    cases z
  · rw [hw] at z
    cases z
theorem CondF.same {K : PySem.W.Frag} {H H' : Hp} {a C dx p q : Addr} {cs : List (List Lit)} {ys : List PySem.Str} (s : Same H H') (h : CondF K H a C dx p q cs ys) : CondF K H' a C dx p q cs ys :=
  ⟨s _ _ h.ins, Exists.imp (fun _ z => Cs.same s z) h.cl, SqT.same s h.tm, h.so, h.nd, h.mem⟩
theorem SqL.same {K : PySem.W.Frag} {H H' : Hp} {a : Addr} {xs : List V} (s : Same H H') (h : SqL K H a xs) : SqL K H' a xs := by
  rcases h with (h | ⟨o, h⟩) | h
  · exact .inl (.inl (s _ _ h))
  · exact .inl (.inr ⟨o, s _ _ h⟩)
  · exact .inr h
theorem makeZ_go {K : PySem.W.Frag} {H : Hp} {C : Addr} {Q : VK} {E : XK} {σ : L2.St}
    (k : ∀ r dz p q ys H', CondF K H' r C dz p q [] ys → Same H H' → H r = none → Q (.ref r) H') : tMakeR C (spInit K C NoF) E tNil σ H Q :=
  init_ok (fun _ _ z => z) .nil (fun _ z => nomatch z) (by decide) rfl k
theorem make1_go {K : PySem.W.Frag} {H : Hp} {C : Addr} {Q : VK} {E : XK} {σ : L2.St} {i : Nat} {x : V} {c : List Lit} (hσ : σ[i]? = some (some x)) (hx : IsC K H x c) (hs : shortC [c]) (hw : firstWrong [c] = none)
    (k : ∀ r dz p q ys H', CondF K H' r C dz p q [c] ys → Same H H' → H r = none → Q (.ref r) H') : tMakeR C (spInit K C NoF) E (tCons (tVar i) tNil) σ H Q :=
  ⟨x, hσ, init_ok (fun _ _ z => z) (.cons hx .nil) hs (by show 1 ≤ 1000; decide) hw k⟩
theorem passN {X : Cx} : Passes (L2N.CX X.prog X.w) X E0 := fun _ _ _ _ _ _ _ h => by
  obtain ⟨_, _, _, _, _, _, _, _, _, _, _, _, z⟩ := h
  exact z.elim
theorem merge_idem (l : List (List Lit)) : ∀ i, merge [] (merge [] (l.take i)) = merge [] (l.take i)
  | 0 => rfl
  | i + 1 => by
    have ih := merge_idem l i
    rw [List.take_add_one]
    cases e : l[i]? with
    | none => show merge [] (merge [] (l.take i ++ [])) = merge [] (l.take i ++ []); rw [List.append_nil]; exact ih
    | some c =>
      show merge [] (merge [] (l.take i ++ [c])) = merge [] (l.take i ++ [c])
      rw [merge_snoc c (l.take i) []]
      by_cases h : c ∈ merge [] (l.take i)
      · rw [if_pos h]; exact ih
      · rw [if_neg h, merge_snoc c, ih, if_neg h]
theorem merge_step {l : List (List Lit)} {i : Nat} {c : List Lit} (h : l[i]? = some c) : merge [] (merge [] (l.take i) ++ [c]) = merge [] (l.take (i + 1)) := by
  rw [merge_snoc c, merge_idem, List.take_add_one, h]
  show _ = merge [] (l.take i ++ [c])
  rw [merge_snoc c]
/-- clauses that can be joined one by one -/
def spCond2 (K : PySem.W.Frag) (C : Addr) : Sp := fun vs H Q _ => ∃ (l : Addr) (ms : List V) (cs : List (List Lit)), vs = [.ref l] ∧ SqL K H l ms ∧ Paired (IsC K H) ms cs ∧ shortC cs ∧ okC cs ∧ cs.length ≤ 900 ∧ (∀ i, firstWrong (merge [] (cs.take i)) = none) ∧ (∀ c ∈ cs, firstWrong [c] = none) ∧
  ∀ r dz p q ys H', CondF K H' r C dz p q (merge [] cs) ys → Same H H' → H r = none → Q (.ref r) H'
section
variable {P : Program} {w : World} {K : PySem.W.Frag} {mg : PySem.Str → Option Value} {base : Heap} {B CB fB C fI : Addr} {fdB fdI : FuncData}
structure AndOf (K : PySem.W.Frag) (mg : PySem.Str → Option Value) (B CB fB C fI fA : Addr) (fdB fdI fdA : FuncData) : Prop where
  A : CondAll K mg B CB fB C fI fdB fdI
  F : Fun K "__and__" "Cond.__and__" sAnd fA fdA
  b : Binds K fdA ["self", "other"] []
  hc : PySem.W.selfFirst K C = true
  hs : PySem.W.findIn K (.ref C) (PySem.dunder (Operator.info .BitAnd).2) = some (some (.ref fA))
  hf : PySem.W.isFn K (.ref fA) = true
  G : Gt K B
  gB : mg "ContractError" = some (.ref B)
abbrev nC2 : List PySem.Str := ["_law_clauses", "_law_found", "_law_clause"]
theorem scCond2 : FnScope nC2 ["_law_clauses"] (defScope sCond2) := ⟨rfl, rfl, rfl, by decide +kernel, rfl, by decide +kernel, by decide +kernel⟩
theorem ok_cond2 {f fA : Addr} {fd fdA : FuncData} (F : Fun K "_law_cond" "_law_cond" sCond2 f fd) (N : AndOf K mg B CB fB C fI fA fdB fdI fdA) : FnOk P w K mg base CX0 9 f fd ["_law_clauses"] (spCond2 K C) := by
  have M := N.A
  have D := M.D
  have T := D.M.T
  have GI : FnR P w K mg base CX0 6 fI (spInit K C NoF) := fnR_init0 M.I D
  have GA : FnOk P w K mg base (L2N.CX P w) 8 fA fdA ["self", "other"] (spAnd K C CB) := ok_and N.F N.A
  refine F.ok scCond2 (fun vs H Q E h => ?_) (fun cdv A outer s H vs Q E hr h => ?_)
  · obtain ⟨l, ms, cs, rfl, _⟩ := h
    rfl
  · obtain ⟨l, ms, cs, rfl, hl, hp, hsh, hok, h4, hw, hw1, k⟩ := h
    have hml : ms.length = cs.length := Paired.length hp
    have hr7 : Room 7 (A.deeper (envOfC "_law_cond" (defScope sCond2) s.heap.objs.size f cdv)) := hr.mono (by decide)
    refine ⟨_, pss_cons (ps_set (i := 1) scCond2.nd rfl (Or.inl rfl) (pe_makeZ (k := 6) (E := E0) M.mkI GI hr7 (by rfl) D.gC pass0))
      (pss_cons (ps_for PassesOwn.never rfl (pi_list (pv 0)) (pg_name (i := 2) scCond2.nd rfl (Or.inl rfl))
        (pss_one (ps_set (i := 1) scCond2.nd rfl (Or.inl rfl) (pe_op (op_own (E := E0) N.hc N.hs N.hf GA hr N.b passN) (pv 1) (pe_makeR (k := 6) (E := E0) M.mkI GI hr7 (by rfl) D.gC pass0 (pa_cons (pv 2) pa_nil))))))
      (pss_one (ps_ret (pv 1)))), ?_⟩
    refine makeZ_go (E := E0) (σ := []) (Q := fun x H1 => gName 1 x (L2.start nC2 [V.ref l]) H1 _) fun r0 dz0 p0 q0 ys0 H1 hF0 s1 hr0 => ?_
    refine ⟨_, rfl, l, rfl, ⟨ms, Kx.SqL.same s1 hl⟩, ?_⟩
    refine for_list (xs := ms) (fun i σ H3 => (∃ v2 r dz p q ys, σ = [some (.ref l), some (.ref r), v2] ∧ CondF K H3 r C dz p q (merge [] (cs.take i)) ys ∧ H r = none) ∧ Same H H3)
      ⟨⟨none, r0, dz0, p0, q0, ys0, rfl, hF0, hr0⟩, s1⟩ (fun i σ H3 _ h => Kx.SqL.same h.2 hl) ?_ ?_
    · rintro i x σ H3 hx ⟨⟨v2, r, dz, p, q, ys, rfl, hF, hrn⟩, s3⟩
      obtain ⟨c, hcl, hxc⟩ := paired_get hp hx
      have hcm : c ∈ cs := List.mem_of_getElem? hcl
      have hsub : ∀ d ∈ merge [] (cs.take i) ++ [c], d ∈ cs := fun d hd => by
        rcases List.mem_append.mp hd with z | z
        · rcases merge_sub _ _ _ z with z | z
          · cases z
          · exact List.mem_of_mem_take z
        · rw [List.mem_singleton.mp z]
          exact hcm
      refine ⟨_, rfl, ?_⟩
      refine make1_go (E := E0) (C := C) (i := 2) (σ := [some (.ref l), some (.ref r), some x]) (Q := fun y H2 => rOwn C (spAnd K C CB) E0 (.ref r) y H2 _) rfl (IsC.same s3 hxc) (fun d hd => by rw [List.mem_singleton.mp hd]; exact hsh c hcm) (hw1 c hcm) fun r' dz' p' q' ys' H4 hF' s4 hr' => ?_
      have hFk : CondF K H4 r C dz p q (merge [] (cs.take i)) ys := CondF.same s4 hF
      refine ⟨r, r', dz, dz', _, _, rfl, rfl, hFk.ins, hF'.ins, r, r', dz, dz', p, q, p', q', merge [] (cs.take i), [c], ys, ys', rfl, hFk, hF', fun d hd => hsh d (hsub d hd), fun d hd => hok d (hsub d hd), ?_, ?_, ?_⟩
      · have e2 := merge_len (cs.take i) []
        rw [List.length_take] at e2
        have e3 : ([] : List (List Lit)).length = 0 := rfl
        rw [List.length_append]
        show _ + 1 ≤ 1000
        omega
      · rw [merge_step hcl]
        intro _ r5 dz5 p5 q5 ys5 H5 hF5 s5 hr5
        have s35 : Same H H5 := fun b u z => s5 _ _ (s4 _ _ (s3 _ _ z))
        exact ⟨⟨_, r5, dz5, p5, q5, ys5, rfl, hF5, Same.free (show Same H H4 from fun b u z => s4 _ _ (s3 _ _ z)) hr5⟩, s35⟩
      · intro j hj
        rw [merge_step hcl, hw] at hj
        cases hj
    · rintro σ H3 ⟨⟨v2, r, dz, p, q, ys, rfl, hF, hrn⟩, s3⟩
      rw [hml, List.take_of_length_le (Nat.le_refl _)] at hF
      exact ⟨_, rfl, k r dz p q ys H3 hF s3 hrn⟩
end
end Kx
namespace Kx
open PySem L2 PySem.Spec PyProof.Rows
open StX (CallO InsC insC_at callO_with)
section
variable {X : Cx}
/-- f(e, ..), f an instance of C, within a try -/
theorem pe_callOX {W : WX} {k : Nat} {g C : Addr} {fd : FuncData} {ps : List PySem.Str} {sp : Sp} {fe e : Expr} {es : List Expr} {tf : TE} {t : TA} {pos : Pos} (tk : L2N.Takes X W) (hf : PE X fe tf) (c : CallO X.K C g)
    (F : FnOk X.prog X.w X.K X.mg X.base (L2N.CX X.prog X.w) k g fd ps sp) (hr : Room k X.A) (hb : Binds X.K fd ps []) (ha : PA X (e :: es) t)
    (ht : eval (.Call fe (e :: es) [] pos) X.env = (do callWith pos (← eval fe X.env) [] (backTo pos (starEach (e :: es) X.env)) (backToKw pos (keywordEach [] X.env))) := by rfl)
    (he : starEach (e :: es) X.env = (false, eval e X.env) :: starEach es X.env := by rfl) (hpl : (backTo pos (starEach es X.env)).any (·.1) = false := by rfl) :
    PE X (.Call fe (e :: es) [] pos) (fun σ H Q => tf σ H fun y H1 => ∃ a, y = V.ref a ∧ t σ H1 fun vs H2 => InsC X H2 a C ∧ sp (V.ref a :: vs) H2 Q (WE W σ)) := by
  refine ⟨fun pins s σ H Q I h => ?_⟩
  refine Call_ (thn (hf.run pins s σ H _ I h) fun u s1 ⟨y, H1, I1, ry, a, ey, q⟩ => ?_) ht
  subst ey
  obtain rfl : u = Value.ref a := ry
  refine callO_with (thn (ha.run pos pins s1 σ H1 _ I1 q) fun us s2 ⟨vs, H2, I2, r, hi, q2⟩ => ?_) he hpl
  obtain ⟨ox, od, J, hd⟩ := insC_at I2 hi
  refine ⟨⟨C, ox, od, J, hd⟩, ?_⟩
  have r2 : Vals (V.ref a :: vs) (Value.ref a :: us) := .cons rfl r
  have hl : (Value.ref a :: us).length = ps.length := by rw [← r2.length]; exact F.len _ _ _ _ q2
  have b := hb s2 (.ref a :: us) I2.kIn (by rw [List.append_nil]; exact hl)
  rw [List.append_nil] at b
  refine wpAny_call (PySem.W.kco_code I2.kIn J hd c.at_ c.fn c.fi (codeAny_mono (F.run X.A X.stack s2 H2 ⟨.ref a :: us, []⟩ (.ref a :: us) (V.ref a :: vs) Q (WE W σ) hr I2.env0 b r2 q2) fun rr s' hq => ?_))
  cases rr with
  | error e => exact L2N.passAt tk σ pins H2 s2 e s' I2 hq
  | ok fl =>
    cases fl with
    | ret u => exact I2.after hq
    | next => exact False.elim hq
    | brk => exact False.elim hq
    | cont => exact False.elim hq
end
end Kx
namespace Kx
open PySem L2 PySem.Spec PyProof.Rows
open StX (CallO)
def PinIs (p : Addr × Obj) (C : Addr) (H : Hp) : Prop := ∃ vs d, p.2.data = .fields vs ∧ Zc (.ref C) d p.2 ∧ (d = none ∨ ∃ dd fs, d = some dd ∧ H dd = some (exd dd fs))
theorem PinIs.same {p : Addr × Obj} {C : Addr} {H H' : Hp} (h : PinIs p C H) (s : Same H H') : PinIs p C H' := by
  obtain ⟨vs, d, h1, h2, h3⟩ := h
  exact ⟨vs, d, h1, h2, h3.imp id fun ⟨dd, fs, e, z⟩ => ⟨dd, fs, e, s _ _ z⟩⟩
section
variable {X : Cx} {B : Addr}
def rIsPin (K : PySem.W.Frag) (p : Addr × Obj) (B : Addr) : List V → Hp → VK → Prop := fun xs H Q => ∃ (C : Addr) (c : V) (u : Value) (b : Bool), xs = [.ref p.1, c] ∧ PinIs p C H ∧ Ct K B C ∧ ClsV c u ∧ PySem.W.kitOne K (.ref C) u = some b ∧ Q (.bl b) H
theorem call_isPin {p : Addr × Obj} (G : Gt X.K B) (hp : p ∈ X.pn) : CallR X (.builtin "isinstance") (rIsPin X.K p B) := by
  intro pins s σ H xs us Q I r h
  obtain ⟨C, c, u, b, rfl, ⟨vs, d, hd, hz, hdd⟩, T, k, e, q⟩ := h
  obtain ⟨u1, u2, rfl, r1, r2⟩ := vals2 r
  have z1 : u1 = Value.ref p.1 := r1
  subst z1
  have e2 := k.eq r2
  subst e2
  obtain ⟨a, oc, odd, oda, osl⟩ := p
  obtain ⟨g, _⟩ := I.pin _ (List.mem_append_left pins hp)
  obtain ⟨y1, y2⟩ := hz
  dsimp only at g hd y1 y2
  subst y1 y2 hd
  have J : ∃ od, PySem.W.InstAt s.heap a ⟨.ref C, odd, .fields vs, osl⟩ C od := by
    rcases hdd with rfl | ⟨dd, fs, rfl, hx⟩
    · exact ⟨none, g, rfl, rfl, trivial⟩
    · obtain ⟨mA, hn, _⟩ := exd_at I.hok hx
      obtain ⟨od, e2, _⟩ := lookIn_ns hn
      exact ⟨some od, g, rfl, rfl, e2⟩
  obtain ⟨od, J⟩ := J
  exact PySem.W.kia_one (PySem.W.kitx_exc T.isC T.ga T.gg T.base T.ha G.hn G.ht (by rw [T.mro]; rfl)) I.kIn J e (fun z => nomatch z) fun tk => ⟨.bl b, H, I.tok tk, rfl, q⟩
/-- isinstance(e, c) in the suite, told by the class and the dict of e alone -/
def rIsCls (K : PySem.W.Frag) (B a : Addr) (cls : Value) (d : Option Addr) : List V → Hp → VK → Prop := fun xs H Q => ∃ (C : Addr) (c : V) (u : Value) (b : Bool), xs = [.ref a, c] ∧ cls = .ref C ∧ (d = none ∨ ∃ dd fs, d = some dd ∧ H dd = some (exd dd fs)) ∧ Ct K B C ∧ ClsV c u ∧ PySem.W.kitOne K (.ref C) u = some b ∧ Q (.bl b) H
theorem call_isCls {a : Addr} {oe : Obj} {cls : Value} {d : Option Addr} {pn : List (Addr × Obj)} (G : Gt X.K B) (hz : Zc cls d oe) (hf : ∃ vs, oe.data = .fields vs) : CallR (X.suite a ((a, oe) :: pn)) (.builtin "isinstance") (rIsCls X.K B a cls d) := by
  intro pins s σ H xs us Q I r h
  obtain ⟨C, c, u, b, rfl, rfl, hd, T, k, e, q⟩ := h
  obtain ⟨vs, hv⟩ := hf
  exact call_isPin (X := X.suite a ((a, oe) :: pn)) (p := (a, oe)) G List.mem_cons_self pins s σ H _ us Q I r ⟨C, c, u, b, rfl, ⟨vs, d, hv, hz, hd⟩, T, k, e, q⟩
end
abbrev sSaid2 : Stmt := top 30
instance (kvs : List (Key × V)) (t : PySem.Str) : Decidable (okT kvs t) := by unfold okT; infer_instance
/-- the first term without a number -/
def firstMiss (kvs : List (Key × V)) (cs : List (List Lit)) : Option PySem.Str := (asked cs).find? fun t => !decide (okT kvs t)
/-- what a condition tells of numbers -/
def dueC (kvs : List (Key × V)) (f : PySem.Str → Int) (cs : List (List Lit)) : PyData := match firstMiss kvs cs with
  | some t => .tuple [.str "term", .str t]
  | none => .tuple [.str "told", .bool (cs.all (holds f))]
theorem find_split {α : Type} {p : α → Bool} : ∀ {l pre rest : List α} {t : α}, l = pre ++ t :: rest → (∀ x ∈ pre, p x = false) → p t = true → l.find? p = some t
  | _, [], rest, t, rfl, _, h => by show (t :: rest).find? p = some t; rw [List.find?_cons_of_pos h]
  | _, a :: pre, rest, t, rfl, hp, h => by
    show (a :: (pre ++ t :: rest)).find? p = some t
    rw [List.find?_cons_of_neg (by rw [hp a List.mem_cons_self]; decide)]
    exact find_split rfl (fun x hx => hp x (List.mem_cons_of_mem _ hx)) h
theorem miss_none {kvs : List (Key × V)} {cs : List (List Lit)} (h : ∀ t ∈ asked cs, okT kvs t) : firstMiss kvs cs = none := by
  unfold firstMiss
  rw [List.find?_eq_none]
  intro t ht
  rw [decide_eq_true (h t ht)]
  decide
theorem miss_some {kvs : List (Key × V)} {cs : List (List Lit)} {pre rest : List PySem.Str} {t : PySem.Str} (e : asked cs = pre ++ t :: rest) (h : ∀ x ∈ pre, okT kvs x) (n : ¬ okT kvs t) : firstMiss kvs cs = some t :=
  find_split e (fun x hx => by rw [decide_eq_true (h x hx)]; rfl) (by rw [decide_eq_false n]; rfl)
def spSaid2 (K : PySem.W.Frag) (C : Addr) : Sp := fun vs H Q _ => ∃ (a d dx p q : Addr) (cs : List (List Lit)) (ys : List PySem.Str) (kvs : List (Key × V)) (f : PySem.Str → Int), vs = [.ref a, .ref d] ∧ CondF K H a C dx p q cs ys ∧ H d = some (.dK kvs) ∧ (∀ t ∈ asked cs, okT kvs t → Worth kvs f t) ∧
  ∀ v H', Same H H' → Dp K H' v (dueC kvs f cs) → Q v H'
section
variable {P : Program} {w : World} {K : PySem.W.Frag} {mg : PySem.Str → Option Value} {base : Heap} {B CN fN C : Addr} {fdN : FuncData}
structure CallOf (K : PySem.W.Frag) (mg : PySem.Str → Option Value) (B CN fN C fC gH gW : Addr) (fdN fdC fdH fdW : FuncData) : Prop where
  F : Fun K "__call__" "Cond.__call__" sCall fC fdC
  b : Binds K fdC ["self", "values"] []
  cls : Cls K C
  nc : NoAttr K C "clauses"
  N : NoV K mg B CN fN fdN
  Hd : Fs K mg "_holds" sHolds ["clause", "values"] gH fdH
  Wd : Fs K mg "_worth" sWorth ["term", "values"] gW fdW
  any : mg "any" = none
  enum : mg "enumerate" = none
  bro : ∃ g fd, Fs K mg "first_broken" sBroken ["clauses", "values"] g fd
  isi : mg "isinstance" = none
  co : CallO K C fC
  G : Gt K B
  gB : mg "ContractError" = some (.ref B)
abbrev nS2 : List PySem.Str := ["_law_cond_here", "_law_numbers", "e"]
theorem scSaid2 : FnScope nS2 ["_law_cond_here", "_law_numbers"] (defScope sSaid2) := ⟨rfl, rfl, rfl, by decide +kernel, rfl, by decide +kernel, by decide +kernel⟩
theorem ok_said2 {f fC gH gW : Addr} {fd fdC fdH fdW : FuncData} (F : Fun K "_law_said" "_law_said" sSaid2 f fd) (N : CallOf K mg B CN fN C fC gH gW fdN fdC fdH fdW) : FnOk P w K mg base CX0 5 f fd ["_law_cond_here", "_law_numbers"] (spSaid2 K C) := by
  obtain ⟨_, _, dBr⟩ := N.bro
  have GC : FnOk P w K mg base (L2N.CX P w) 4 fC fdC ["self", "values"] (spCall K C CN) := ok_call N.F N.cls N.nc N.N N.Hd N.Wd dBr N.any N.enum
  refine F.ok scSaid2 (fun vs H Q E h => ?_) (fun cdv A outer s H vs Q E hr h => ?_)
  · obtain ⟨a, d, dx, p, q, cs, ys, kvs, f, rfl, _⟩ := h
    rfl
  · obtain ⟨a, d, dx, p, q, cs, ys, kvs, f0, rfl, ha, hd, hwo, k⟩ := h
    refine ⟨_, pss_one (L2N.ps_try_as (i := 2) (Wout := fun _ _ _ _ => False)
      (tb := fun W => tRet (tTup (tCons (tC (.str "told")) (tCons (fun σ H Q => tVar 0 σ H fun y H1 => ∃ a, y = V.ref a ∧ (tCons (tVar 1) tNil) σ H1 fun vs H2 => StX.InsC (cxOf CX0 P w K mg base nS2 "_law_said" (defScope sSaid2) f cdv A outer s H E).nox H2 a C ∧ spCall K C CN (V.ref a :: vs) H2 Q (WE W σ)) tNil))))
      (ts := fun a cls d => tRet (tIf (tB (tCB (rIsCls K B a cls d) (tCons (tVar 2) (tCons (tC (.ref CN)) tNil)))) (tTup (tCons (tC (.str "term")) (tCons (fun σ H Q => tVar 2 σ H fun x H1 => x = .ref a ∧ cls = .ref CN ∧ ∃ (dd : Addr) (fs : List (PySem.Str × V)) (v : V), d = some dd ∧ H1 dd = some (exd dd fs) ∧ fs.lookup ("term" : PySem.Str) = some v ∧ Q v H1) tNil))) (tTup (tCons (tC (.str "other")) (tCons (tC .non) tNil)))))
      rfl rfl scSaid2.nd rfl rfl ⟨rfl, by decide, .inl N.gB⟩ takesN0
      (fun W pn xe tk _ => pss_one (ps_ret (pe_tup (pa_cons pe_str (pa_cons (pe_callOX (C := C) (g := fC) tk (pv 0) N.co GC hr N.b (pa_cons (pv 1) pa_nil)) pa_nil)))))
      (fun a oe cls d pn hz hf => pss_one (ps_ret (pe_ifExp (pt_val (pe_callB (call_isCls N.G hz.zc hf) (by rfl) N.isi boot_isinstance (pa_cons (pv 2) (pa_cons (pe_glob (v := .ref CN) (by rfl) N.N.gm rfl) pa_nil))))
        (pe_tup (pa_cons pe_str (pa_cons (pe_xfE (X := (cxOf CX0 P w K mg base nS2 "_law_said" (defScope sSaid2) f cdv A outer s H E).nox) (n := "term") (C := CN) N.N.T.xf (N.N.no _ (by simp)) hz.zc hf (pv 2)) pa_nil))) (pe_tup (pa_cons pe_str (pa_cons pe_non pa_nil))))))), ?_⟩
    refine ⟨_, rfl, a, rfl, _, rfl, .inr ⟨dx, _, ha.ins⟩, a, d, dx, p, q, cs, ys, kvs, f0, rfl, ha, hd, hwo, fun hall H' s' => ?_, fun pre t rest he hpre hn d' H' s' hd' => ?_⟩
    · refine ⟨by show 2 ≤ sizeLine; decide, fun t ht => k _ _ (fun b u z => new_same ht _ _ (s' _ _ z)) ?_⟩
      unfold dueC
      rw [miss_none hall]
      exact .tup (SqT.of upd_same) (.cons (.str _) (.cons (.bl _) .nil))
    · refine ⟨true, PySem.W.exm_ref N.G.bsB N.G.hdB N.G.tyB (by show PySem.W.mroIn K CN _ = _; rw [N.N.T.mro]; simp), fun _ a' na => ?_, fun z => nomatch z⟩
      refine ⟨_, rfl, CN, .ref CN, _, true, rfl, rfl, .inr ⟨d', _, rfl, hd'⟩, N.N.T, .own CN, kit_yes N.N.T, true, rfl, iteT ?_⟩
      refine ⟨_, rfl, rfl, rfl, d', _, .str t, rfl, hd', (by simp [List.lookup]), (by show 2 ≤ sizeLine; decide), fun t2 ht => k _ _ (fun b u z => new_same ht _ _ (s' _ _ z)) ?_⟩
      unfold dueC
      rw [miss_some he hpre hn]
      exact .tup (SqT.of upd_same) (.cons (.str _) (.cons (.str _) .nil))
end
end Kx
namespace Kx
open PySem L2 PySem.Spec PyProof.Rows
abbrev sDue2 : Stmt := top 29
abbrev nD2 : List PySem.Str := ["_law_clauses", "_law_numbers", "_law_clause", "_law_left", "_law_right", "_law_number_here", "_law_term", "_law_known", "_law_one_here"]
def spDue2 (K : PySem.W.Frag) : Sp := fun vs H Q _ => ∃ (l d : Addr) (ms : List V) (cs : List (List Lit)) (kvs : List (Key × V)) (f : PySem.Str → Int), vs = [.ref l, .ref d] ∧ SqL K H l ms ∧ Paired (IsC K H) ms cs ∧ okC cs ∧ H d = some (.dK kvs) ∧ kvs.length < sizeLine ∧
  (∀ t ∈ asked cs, okT kvs t → Worth kvs f t) ∧ ∀ v H', Same H H' → Dp K H' v (dueC kvs f cs) → Q v H'
theorem worth_put {kvs : List (Key × V)} {f : PySem.Str → Int} {t : PySem.Str} (h : Worth kvs f t) : valV (putK kvs (.inr "") (.int 0)) (.inr t) = some (.int (f t)) := by
  rw [valV_put]
  rcases h with ⟨e, z⟩ | ⟨e, z⟩
  · rw [if_pos (by rw [e]), z]
  · rw [if_neg (fun y => e (Sum.inr.inj y))]
    exact z
def ttD (K : PySem.W.Frag) : TT := tTest (tOp (rI0 fun i j => V.bl (decide (i ≤ j))) (tDGet (tVar 7) (tOp (rIxT K) (tVar 8) (tC (.int 0)))) (tOp (rI0 fun i j => V.int (i + j)) (tDGet (tVar 7) (tOp (rIxT K) (tVar 8) (tC (.int 1)))) (tOp (rIxT K) (tVar 8) (tC (.int 2)))))
def goodL (f : PySem.Str → Int) (l : Lit) : Bool := decide (f l.1 ≤ f l.2.1 + l.2.2)
theorem filter_nil {f : PySem.Str → Int} {c : List Lit} (h : c.filter (goodL f) = []) : holds f c = false := by
  show c.any (goodL f) = false
  rw [List.any_eq_false]
  intro l hl z
  have : l ∈ c.filter (goodL f) := List.mem_filter.mpr ⟨hl, z⟩
  rw [h] at this
  cases this
theorem filter_cons {f : PySem.Str → Int} {c : List Lit} (h : c.filter (goodL f) ≠ []) : holds f c = true := by
  show c.any (goodL f) = true
  cases e : c.filter (goodL f) with
  | nil => exact (h e).elim
  | cons l r =>
    have m := List.mem_filter.mp (show l ∈ c.filter (goodL f) by rw [e]; exact List.mem_cons_self)
    exact List.any_eq_true.mpr ⟨l, m.1, m.2⟩
theorem eqv_nil (c : List Lit) : PyData.eqv (.list (c.map litD)) (.list []) = decide (c = []) := by
  cases c with
  | nil => rfl
  | cons l r => rfl
section
variable {P : Program} {w : World} {K : PySem.W.Frag} {mg : PySem.Str → Option Value} {base : Heap}
theorem scDue2 : FnScope nD2 ["_law_clauses", "_law_numbers"] (defScope sDue2) := ⟨rfl, rfl, rfl, by decide +kernel, rfl, by decide +kernel, by decide +kernel⟩
theorem ok_due2 {f : Addr} {fd : FuncData} (F : Fun K "_law_due" "_law_due" sDue2 f fd) (hdict : mg "dict" = none) : FnOk P w K mg base CX0 2 f fd ["_law_clauses", "_law_numbers"] (spDue2 K) := by
  refine F.ok scDue2 (fun vs H Q E h => ?_) (fun cdv A outer s H vs Q E hr h => ?_)
  · obtain ⟨l, d, ms, cs, kvs, f, rfl, _⟩ := h
    rfl
  · obtain ⟨l, d, ms, cs, kvs, f0, rfl, hl, hp, hok, hd, hk, hwo, k⟩ := h
    have hu : (cxOf CX0 P w K mg base nD2 "_law_due" (defScope sDue2) f cdv A outer s H E).nox.A.units + 1 < cLine := hu_of hr
    have hu64 : (cxOf CX0 P w K mg base nD2 "_law_due" (defScope sDue2) f cdv A outer s H E).nox.A.units + 64 < cLine := hr.units
    refine ⟨_, pss_cons (ps_for PassesOwn.never rfl (pi_list (pv 0)) (pg_name (i := 2) scDue2.nd rfl (Or.inl rfl))
        (pss_one (ps_for PassesOwn.never rfl (pi_tup (pv 2)) (pg_tup rfl (pgs_cons (pg_name (i := 3) scDue2.nd rfl (Or.inl rfl)) (pgs_cons (pg_name (i := 4) scDue2.nd rfl (Or.inl rfl)) (pgs_cons (pg_name (i := 5) scDue2.nd rfl (Or.inl rfl)) pgs_nil))))
          (pss_one (ps_for PassesOwn.never rfl (pi_tup (pe_tup (pa_cons (pv 3) (pa_cons (pv 4) pa_nil)))) (pg_name (i := 6) scDue2.nd rfl (Or.inl rfl))
            (pss_one (ps_if (PW.pt (pw_and (pt_cmpR op_ne (pv 6) pe_str (nomark _)) (pw_and1 (pt_cmp (pc_dnotin hu (pv 6) (pv 1)) (by with_unfolding_all rfl)))))
              (pss_one (ps_ret (pe_tup (pa_cons pe_str (pa_cons (pv 6) pa_nil))))) pss_nil)))))))
      (pss_cons (ps_set (i := 7) scDue2.nd rfl (Or.inr rfl) (pe_callTy call_dictD (by rfl) hdict (by decide +kernel) (pa_cons (pv 1) pa_nil)))
      (pss_cons (ps_asg pe_int (pg_sub (pv 7) pe_str (set_dict hu)))
      (pss_cons (ps_for PassesOwn.never rfl (pi_list (pv 0)) (pg_name (i := 2) scDue2.nd rfl (Or.inl rfl))
        (pss_one (ps_if (pt_cmpR (op_eqD hu64)
          (pe_lc (own := [("_law_one_here", 8)]) (g := gName 8) (tt := ttD K) (te := tVar 8) rfl scDue2.nd (pi_tup (pv 2)) (blkOk_by (N := nD2) (sc := defScope sDue2) (by decide +kernel))
            (fun _ _ _ _ _ => pg_name (i := 8) scDue2.nd rfl (Or.inl rfl))
            (fun _ _ _ _ _ => pts_one (pt_cmpR op_le (pe_dget hu (pv 7) (pe_ix ix_tup (pv 8) pe_int (fun _ _ => rfl)) (fun _ _ => rfl)) (pe_op op_add (pe_dget hu (pv 7) (pe_ix ix_tup (pv 8) pe_int (fun _ _ => rfl)) (fun _ _ => rfl)) (pe_ix ix_tup (pv 8) pe_int (fun _ _ => rfl))) (nomark _)))
            (fun _ _ _ _ _ => pv 8)) (pe_lst pa_nil) (nomark _))
          (pss_one (ps_ret (pe_tup (pa_cons pe_str (pa_cons pe_bl pa_nil))))) pss_nil)))
      (pss_one (ps_ret (pe_tup (pa_cons pe_str (pa_cons pe_bl pa_nil)))))))), ?_⟩
    have hml : ms.length = cs.length := Paired.length hp
    refine ⟨_, rfl, l, rfl, ⟨ms, hl⟩, ?_⟩
    refine for_list (xs := ms) (fun i σ H3 => (∃ o2 o3 o4 o5 o6, σ = [some (.ref l), some (.ref d), o2, o3, o4, o5, o6, none, none]) ∧ Same H H3 ∧ ∀ t ∈ asked (cs.take i), okT kvs t) ⟨⟨_, _, _, _, _, rfl⟩, fun _ _ z => z, fun t ht => nomatch ht⟩ (fun i σ H3 _ h => Kx.SqL.same h.2.1 hl) ?_ ?_
    · rintro i x σ H3 hx ⟨⟨o2, o3, o4, o5, o6, rfl⟩, s3, hok3⟩
      obtain ⟨c, hci, b, zs, rfl, hb⟩ := paired_get hp hx
      have hzl : zs.length = c.length := hb.len
      refine ⟨_, rfl, b, rfl, ⟨_, SqT.same s3 hb.sq⟩, ?_⟩
      refine for_tup (xs := zs) (fun j σ H4 => (∃ o3 o4 o5 o6, σ = [some (.ref l), some (.ref d), some (.ref b), o3, o4, o5, o6, none, none]) ∧ Same H H4 ∧ ∀ t ∈ asked (cs.take i) ++ asC (c.take j), okT kvs t) ⟨⟨_, _, _, _, rfl⟩, s3, fun t ht => hok3 t (by rw [show asC (c.take 0) = [] from rfl, List.append_nil] at ht; exact ht)⟩ (fun j σ H4 _ h => SqT.same h.2.1 hb.sq) ?_ ?_
      · rintro j x σ H4 hx4 ⟨⟨o3, o4, o5, o6, rfl⟩, s4, hok4⟩
        obtain ⟨l', hlj, e, rfl, he⟩ := paired_get hb.p hx4
        refine ⟨e, _, rfl, SqT.same s4 he, rfl, _, _, rfl, _, _, rfl, _, _, rfl, rfl, ?_⟩
        refine ⟨_, rfl, _, rfl, by show 2 ≤ sizeLine; decide, fun q5 h5 => ⟨q5, rfl, ⟨_, SqT.of upd_same⟩, ?_⟩⟩
        refine for_tup (xs := [V.str l'.1, V.str l'.2.1]) (fun k σ H6 => (∃ o6, σ = [some (.ref l), some (.ref d), some (.ref b), some (.str l'.1), some (.str l'.2.1), some (.int l'.2.2), o6, none, none]) ∧ Same H H6 ∧ H6 q5 = some (.tup [.str l'.1, .str l'.2.1]) ∧ ∀ t ∈ asked (cs.take i) ++ asC (c.take j) ++ [l'.1, l'.2.1].take k, okT kvs t)
          ⟨⟨_, rfl⟩, fun b u z => new_same h5 _ _ (s4 _ _ z), upd_same, fun t ht => hok4 t (by rw [show [l'.1, l'.2.1].take 0 = ([] : List PySem.Str) from rfl, List.append_nil] at ht; exact ht)⟩ (fun k σ H6 _ h => SqT.of h.2.2.1) ?_ ?_
        · rintro k6 x σ H6 hx6 ⟨⟨o6, rfl⟩, s6, g6, hok6⟩
          obtain ⟨t, ht, rfl⟩ : ∃ t, [l'.1, l'.2.1][k6]? = some t ∧ x = .str t := by
            have e : [V.str l'.1, V.str l'.2.1] = [l'.1, l'.2.1].map V.str := rfl
            rw [e, List.getElem?_map] at hx6
            obtain ⟨t, h1, h2⟩ := Option.map_eq_some_iff.mp hx6
            exact ⟨t, h1, h2.symm⟩
          have more : okT kvs t → ∀ x ∈ asked (cs.take i) ++ asC (c.take j) ++ [l'.1, l'.2.1].take (k6 + 1), okT kvs x := fun h x hx => by
            rw [List.take_add_one, ht, ← List.append_assoc] at hx
            rcases List.mem_append.mp hx with z | z
            · exact hok6 x z
            · rw [List.mem_singleton.mp (show x ∈ [t] from z)]
              exact h
          refine ⟨_, rfl, rfl, _, rfl, ?_⟩
          by_cases hz : t = ""
          · rw [show (!decide (V.str t = V.str "")) = false from by rw [hz]; decide]
            exact iteF (iteF ⟨⟨_, rfl⟩, s6, g6, more (.inl hz)⟩)
          rw [show (!decide (V.str t = V.str "")) = true from by rw [decide_eq_false fun z => hz (V.str.inj z)]; rfl]
          refine iteT ⟨_, rfl, _, rfl, d, valV kvs (.inr t), rfl, DGet.k (k := .inr t) (s6 _ _ hd), _, rfl, ?_⟩
          by_cases hs : (valV kvs (.inr t)).isSome = true
          · rw [hs]
            exact iteF ⟨⟨_, rfl⟩, s6, g6, more (.inr hs)⟩
          · rw [Bool.not_eq_true] at hs
            rw [hs]
            obtain ⟨rest, hr'⟩ := asked_split hci hlj ht
            refine iteT ⟨_, rfl, by show 2 ≤ sizeLine; decide, fun t2 ht2 => k _ _ (fun b u z => new_same ht2 _ _ (s6 _ _ z)) ?_⟩
            unfold dueC
            rw [miss_some hr' hok6 (fun z => z.elim hz fun y => by rw [hs] at y; cases y)]
            exact .tup (SqT.of upd_same) (.cons (.str _) (.cons (.str _) .nil))
        · rintro σ H6 ⟨⟨o6, rfl⟩, s6, g6, hok6⟩
          refine ⟨⟨_, _, _, _, rfl⟩, s6, fun t ht => hok6 t ?_⟩
          rw [List.take_add_one, hlj] at ht
          have e : asC (c.take j ++ (some l').toList) = asC (c.take j) ++ [l'.1, l'.2.1] := List.flatMap_append
          rw [e, ← List.append_assoc] at ht
          exact ht
      · rintro σ H4 ⟨⟨o3, o4, o5, o6, rfl⟩, s4, hok4⟩
        refine ⟨⟨_, _, _, _, _, rfl⟩, s4, fun t ht => hok4 t ?_⟩
        rw [hzl, List.take_of_length_le (Nat.le_refl _)]
        rw [List.take_add_one, hci] at ht
        have e : asked (cs.take i ++ (some c).toList) = asked (cs.take i) ++ (asC c ++ []) := List.flatMap_append
        rw [e, List.append_nil] at ht
        exact ht
    · rintro σ H3 ⟨⟨o2, o3, o4, o5, o6, rfl⟩, s3, hok3⟩
      rw [hml, List.take_of_length_le (Nat.le_refl _)] at hok3
      have hmiss := miss_none hok3
      refine ⟨_, rfl, d, kvs, rfl, .inl (s3 _ _ hd), fun n hn => ?_⟩
      refine ⟨_, rfl, n, _, rfl, DPut.k (k := .inr "") upd_same hk, ?_⟩
      generalize hH5 : upd (upd H3 n (.dK kvs)) n (.dK (putK kvs (.inr "") (.int 0))) = H5
      have s5 : Same H H5 := fun b u z => by
        rw [← hH5]
        exact same_upd hn (new_same hn) _ _ (s3 _ _ z)
      have gn : H5 n = some (.dK (putK kvs (.inr "") (.int 0))) := by rw [← hH5]; exact upd_same
      refine ⟨_, rfl, l, rfl, ⟨ms, Kx.SqL.same s5 hl⟩, ?_⟩
      refine for_list (xs := ms) (fun i σ H6 => (∃ o2 o3 o4 o5 o6, σ = [some (.ref l), some (.ref d), o2, o3, o4, o5, o6, some (.ref n), none]) ∧ Same H5 H6 ∧ (cs.take i).all (holds f0) = true) ⟨⟨_, _, _, _, _, rfl⟩, fun _ _ z => z, rfl⟩ (fun i σ H6 _ h => Kx.SqL.same h.2.1 (Kx.SqL.same s5 hl)) ?_ ?_
      · rintro i x σ H6 hx ⟨⟨o2, o3, o4, o5, o6, rfl⟩, s6, hall⟩
        obtain ⟨c, hci, b, zs, rfl, hb⟩ := paired_get hp hx
        have hcm : c ∈ cs := List.mem_of_getElem? hci
        have hzl : zs.length = c.length := hb.len
        have s56 : Same H H6 := fun b u z => s6 _ _ (s5 _ _ z)
        have hin : ∀ l ∈ c, Worth kvs f0 l.1 ∧ Worth kvs f0 l.2.1 := fun l hl => by
          have m1 : l.1 ∈ asked cs := List.mem_flatMap.mpr ⟨c, hcm, List.mem_flatMap.mpr ⟨l, hl, by simp⟩⟩
          have m2 : l.2.1 ∈ asked cs := List.mem_flatMap.mpr ⟨c, hcm, List.mem_flatMap.mpr ⟨l, hl, by simp⟩⟩
          exact ⟨hwo _ m1 (hok3 _ m1), hwo _ m2 (hok3 _ m2)⟩
        refine ⟨_, rfl, b, rfl, ⟨_, SqT.same s56 hb.sq⟩, fun D hD => ?_⟩
        refine lc_it (walk_tup (xs := zs)) (fun j H7 => Same H6 H7 ∧ ∃ acc, H7 D = some (.lst acc) ∧ Paired (IsLit K H) acc ((c.take j).filter (goodL f0))) ⟨new_same hD, [], upd_same, .nil⟩ (fun j H7 _ h => SqT.same h.1 (SqT.same s56 hb.sq)) ?_ ?_
        · rintro j x H7 H8 hj ⟨s7, acc, gD, hacc⟩ ⟨rfl, hx⟩
          obtain ⟨l', hlj, hx'⟩ := paired_get hb.p hx
          obtain ⟨e, rfl, he⟩ := hx'
          have s67 : Same H H8 := fun b u z => s7 _ _ (s56 _ _ z)
          have he' := SqT.same s67 he
          obtain ⟨w1, w2⟩ := hin l' (List.mem_of_getElem? hlj)
          have g1 := DGet.k (k := .inr l'.1) (s7 _ _ (s6 _ _ gn))
          have g2 := DGet.k (k := .inr l'.2.1) (s7 _ _ (s6 _ _ gn))
          rw [worth_put w1] at g1
          rw [worth_put w2] at g2
          have et : (c.take (j + 1)).filter (goodL f0) = (c.take j).filter (goodL f0) ++ (if goodL f0 l' = true then [l'] else []) := by
            rw [List.take_add_one, hlj, List.filter_append]
            congr 1
            show List.filter (goodL f0) [l'] = _
            by_cases hg : goodL f0 l' = true
            · rw [if_pos hg, List.filter_cons_of_pos hg]; rfl
            · rw [if_neg hg, List.filter_cons_of_neg hg]; rfl
          have hal : acc.length ≤ 1000 := by
            have e1 : acc.length = ((c.take j).filter (goodL f0)).length := Paired.length hacc
            have e2 := List.length_filter_le (goodL f0) (c.take j)
            have e3 := hb.l2
            rw [List.length_take] at e2
            omega
          refine ⟨rfl, ?_⟩
          refine ⟨_, rfl, _, rfl, e, _, 0, .str l'.1, rfl, rfl, he', rfl, n, .int (f0 l'.1), rfl, g1, ?_⟩
          refine ⟨_, rfl, _, rfl, e, _, 1, .str l'.2.1, rfl, rfl, he', rfl, n, .int (f0 l'.2.1), rfl, g2, ?_⟩
          refine ⟨_, rfl, e, _, 2, .int l'.2.2, rfl, rfl, he', rfl, _, _, rfl, rfl, _, _, rfl, rfl, _, rfl, ?_⟩
          show if goodL f0 l' = true then _ else _
          by_cases hg : goodL f0 l' = true
          · rw [if_pos hg] at et ⊢
            refine ⟨_, rfl, acc, gD, small1000 hal, same_upd hD s7, _, upd_same, ?_⟩
            rw [et]
            exact paired_app hacc (.cons ⟨e, rfl, he⟩ .nil)
          · rw [if_neg hg] at et ⊢
            refine ⟨s7, acc, gD, ?_⟩
            rw [et, List.append_nil]
            exact hacc
        · rintro H7 ⟨s7, acc, gD, hacc⟩
          rw [hzl, List.take_of_length_le (Nat.le_refl _)] at hacc
          have s67 : Same H H7 := fun b u z => s7 _ _ (s56 _ _ z)
          refine ⟨by show 0 ≤ sizeLine; decide, fun m hm => ?_⟩
          have s78 := new_same (o := .lst []) hm
          have hd1 : DpAll K (upd H7 m (.lst [])) acc ((c.filter (goodL f0)).map litD) := dp_all (fun _ _ z => dp_lit z) (L2.Paired.mapP hacc fun _ _ z => IsLit.same (fun b u y => s78 _ _ (s67 _ _ y)) z)
          refine ⟨.list ((c.filter (goodL f0)).map litD), .list [], .lst (SqL.of (s78 _ _ gD)) hd1, .lst (SqL.of upd_same) .nil, shaped_cl (fun l hl => hok c hcm l (List.mem_filter.mp hl).1), rfl, _, rfl, ?_⟩
          rw [eqv_nil]
          by_cases hn : c.filter (goodL f0) = []
          · rw [decide_eq_true hn]
            refine iteT ⟨by show 2 ≤ sizeLine; decide, fun t2 ht2 => k _ _ (fun b u z => new_same ht2 _ _ (s78 _ _ (s67 _ _ z))) ?_⟩
            unfold dueC
            rw [hmiss]
            have hf : cs.all (holds f0) = false := by
              rw [List.all_eq_false]
              exact ⟨c, hcm, by rw [filter_nil hn]; decide⟩
            rw [hf]
            exact .tup (SqT.of upd_same) (.cons (.str _) (.cons (.bl _) .nil))
          · rw [decide_eq_false hn]
            refine iteF ⟨⟨_, _, _, _, _, rfl⟩, fun b u z => s78 _ _ (s7 _ _ (s6 _ _ z)), ?_⟩
            rw [List.take_add_one, hci, List.all_append, hall]
            show (true && (holds f0 c && true)) = true
            rw [filter_cons hn] <;> rfl
      · rintro σ H6 ⟨⟨o2, o3, o4, o5, o6, rfl⟩, s6, hall⟩
        rw [hml, List.take_of_length_le (Nat.le_refl _)] at hall
        refine ⟨by show 2 ≤ sizeLine; decide, fun t2 ht2 => k _ _ (fun b u z => new_same ht2 _ _ (s6 _ _ (s5 _ _ z))) ?_⟩
        unfold dueC
        rw [hmiss, hall]
        exact .tup (SqT.of upd_same) (.cons (.str _) (.cons (.bl _) .nil))
end
end Kx
namespace Kx
open PySem L2 PySem.Spec PyProof.Rows
theorem miss_ok {kvs : List (Key × V)} {cs : List (List Lit)} {t : PySem.Str} (h : okC cs) (e : firstMiss kvs cs = some t) : PyData.strOk t = true := by
  have m : t ∈ asked cs := List.mem_of_find?_eq_some e
  obtain ⟨c, hc, m⟩ := List.mem_flatMap.mp m
  obtain ⟨l, hl, m⟩ := List.mem_flatMap.mp m
  rcases List.mem_cons.mp m with rfl | m
  · exact (h c hc l hl).1
  · rw [List.mem_singleton.mp m]
    exact (h c hc l hl).2
theorem dueC_ok {kvs : List (Key × V)} {f : PySem.Str → Int} {cs : List (List Lit)} (h : okC cs) : SeqAt.shaped (dueC kvs f cs) = true ∧ PyData.eqv (dueC kvs f cs) (dueC kvs f cs) = true := by
  have hs : SeqAt.shaped (dueC kvs f cs) = true := by
    unfold dueC
    cases e : firstMiss kvs cs with
    | some t =>
      unfold SeqAt.shaped
      rw [Bool.and_eq_true, decide_eq_true_eq]
      refine ⟨?_, by show max 0 (max 0 0) + 1 ≤ 64; omega⟩
      show (PyData.strOk "term" && (PyData.strOk t && true)) = true
      rw [show PyData.strOk "term" = true from by decide +kernel, miss_ok h e]
      rfl
    | none =>
      unfold SeqAt.shaped
      rw [Bool.and_eq_true, decide_eq_true_eq]
      refine ⟨?_, by show max 0 (max 0 0) + 1 ≤ 64; omega⟩
      show (PyData.strOk "told" && (true && true)) = true
      rw [show PyData.strOk "told" = true from by decide +kernel]
      rfl
  exact ⟨hs, SeqAt.eqv_refl _ (SeqAt.canLay_of_shaped hs)⟩
/-- how many clauses have two literals -/
def wd (cs : List (List Lit)) : Nat := (cs.filter fun c => decide (c.length = 2)).length
theorem wrong_free : ∀ (cs : List (List Lit)) (i d : Nat), (∀ c ∈ cs, stands c = true) → d + wd cs ≤ 1 → wrongAt i d cs = none
  | [], _, _, _, _ => rfl
  | c :: r, i, d, hs, hw => by
    have hr : ∀ e ∈ r, stands e = true := fun e he => hs e (List.mem_cons_of_mem _ he)
    unfold wrongAt
    rw [if_pos (hs c List.mem_cons_self)]
    by_cases h2 : c.length = 2
    · have e : wd (c :: r) = wd r + 1 := by
        unfold wd
        rw [List.filter_cons_of_pos (by simp [h2]), List.length_cons]
      rw [if_pos h2, if_neg (by omega)]
      exact wrong_free r _ _ hr (by omega)
    · have e : wd (c :: r) = wd r := by
        unfold wd
        rw [List.filter_cons_of_neg (by simp [h2])]
      rw [if_neg h2, if_neg (by omega)]
      exact wrong_free r _ _ hr (by omega)
theorem merge_new : ∀ (l m : List (List Lit)), (m ++ l).Nodup → merge m l = m ++ l
  | [], m, _ => (List.append_nil m).symm
  | c :: r, m, h => by
    have hn : c ∉ m := fun z => by
      have := (List.nodup_append.mp h).2.2 c z c List.mem_cons_self
      exact this rfl
    show merge (if c ∈ m then m else m ++ [c]) r = m ++ c :: r
    rw [if_neg hn, merge_new r (m ++ [c]) (by rw [List.append_assoc]; exact h), List.append_assoc]
    rfl
theorem wd_take (cs : List (List Lit)) (i : Nat) : wd (cs.take i) ≤ wd cs := List.Sublist.length_le ((List.take_sublist i cs).filter _)
/-- drawn clauses can be joined one by one -/
theorem joins {cs : List (List Lit)} (hn : cs.Nodup) (h4 : cs.length ≤ 4) (hs : ∀ c ∈ cs, stands c = true) (hw : wd cs ≤ 1) : (∀ i, firstWrong (merge [] (cs.take i)) = none) ∧ ∀ c ∈ cs, firstWrong [c] = none := by
  refine ⟨fun i => ?_, fun c hc => ?_⟩
  · rw [merge_new (cs.take i) [] (by show (cs.take i).Nodup; exact hn.sublist (List.take_sublist i cs))]
    show firstWrong (cs.take i) = none
    unfold firstWrong
    rw [if_neg (by rw [List.length_take]; omega)]
    exact wrong_free _ _ _ (fun c hc => hs c (List.mem_of_mem_take hc)) (by have := wd_take cs i; omega)
  · unfold firstWrong
    rw [if_neg (by show ¬ 4 < 1; decide)]
    refine wrong_free _ _ _ (fun d hd => by rw [List.mem_singleton.mp hd]; exact hs c hc) ?_
    have e : wd [c] ≤ 1 := Nat.le_trans (List.length_filter_le _ _) (Nat.le_refl 1)
    omega
end Kx
namespace Kx
open PySem L2 PySem.Spec PyProof.Rows
/-- the terms that the law draws -/
def names6 : List PySem.Str := ["x", "y", "", "self.f", "result", "p.q"]
theorem names_ok : ∀ t ∈ names6, Short t ∧ PyData.strOk t = true ∧ isTerm t = true := by
  intro t ht
  unfold names6 at ht
  simp only [List.mem_cons, List.not_mem_nil, or_false] at ht
  rcases ht with rfl | rfl | rfl | rfl | rfl | rfl <;> exact ⟨⟨by decide +kernel, by decide +kernel, by decide +kernel⟩, by decide +kernel, by decide +kernel⟩
def drawn (cs : List (List Lit)) : Prop := ∀ c ∈ cs, c.length ≤ 2 ∧ ∀ l ∈ c, l.1 ∈ names6 ∧ l.2.1 ∈ names6
theorem drawn_stand {cs : List (List Lit)} (h : drawn cs) : ∀ c ∈ cs, stands c = true := fun c hc => by
  obtain ⟨h1, h2⟩ := h c hc
  unfold stands
  rw [decide_eq_true (by omega), Bool.true_and, List.all_eq_true]
  intro l hl
  rw [(names_ok _ (h2 l hl).1).2.2, (names_ok _ (h2 l hl).2).2.2]
  rfl
theorem drawn_short {cs : List (List Lit)} (h : drawn cs) : shortC cs := fun c hc l hl => ⟨(names_ok _ ((h c hc).2 l hl).1).1, (names_ok _ ((h c hc).2 l hl).2).1⟩
theorem drawn_ok {cs : List (List Lit)} (h : drawn cs) : okC cs := fun c hc l hl => ⟨(names_ok _ ((h c hc).2 l hl).1).2.1, (names_ok _ ((h c hc).2 l hl).2).2.1⟩
/-- one more clause, if it is new -/
theorem drawn_snoc {cs : List (List Lit)} {c : List Lit} (h : drawn cs) (h1 : c.length ≤ 2) (h2 : ∀ l ∈ c, l.1 ∈ names6 ∧ l.2.1 ∈ names6) : drawn (cs ++ [c]) := fun d hd => by
  rcases List.mem_append.mp hd with z | z
  · exact h d z
  · rw [List.mem_singleton.mp z]
    exact ⟨h1, h2⟩
theorem nodup_snoc {cs : List (List Lit)} {c : List Lit} (h : cs.Nodup) (n : c ∉ cs) : (cs ++ [c]).Nodup := by
  refine List.nodup_append.mpr ⟨h, by simp, fun a ha b hb e => n ?_⟩
  rw [← List.mem_singleton.mp hb, ← e]
  exact ha
theorem wd_snoc {cs : List (List Lit)} {c : List Lit} : wd (cs ++ [c]) = wd cs + (if c.length = 2 then 1 else 0) := by
  unfold wd
  rw [List.filter_append, List.length_append]
  congr 1
  by_cases h : c.length = 2
  · rw [if_pos h, List.filter_cons_of_pos (by simp [h])]; rfl
  · rw [if_neg h, List.filter_cons_of_neg (by simp [h])]; rfl
end Kx
namespace Kx
open PySem L2 PySem.Spec PyProof.Rows
def kvD (ns : List (PySem.Str × Int)) : List (Key × V) := ns.map fun x => (.inr x.1, .int x.2)
def ddD (ns : List (PySem.Str × Int)) : PyData := .dict (ns.map fun x => (.str x.1, .int x.2))
/-- repr of a dict from texts to numbers -/
def rShowD : List V → Hp → VK → Prop := fun xs H Q => ∃ (a : Addr) (ns : List (PySem.Str × Int)), xs = [.ref a] ∧ H a = some (.dK (kvD ns)) ∧ (ddD ns).showable = true ∧ (ddD ns).shown.length ≤ sizeLine ∧ (ddD ns).depth ≤ 60 ∧ Q (.str (ddD ns).shown) H
theorem pairs_d {h : Heap} : ∀ (ns : List (PySem.Str × Int)) {vs : List (Key × Value)}, KV (kvD ns) vs → PyProof.V.PairsRead h (fun k : Key => match k with | .inl i => PyData.int i | .inr y => PyData.str y) vs (ns.map fun x => (PyData.str x.1, PyData.int x.2)) []
  | [], _, .nil => .nil
  | x :: r, _, .cons (b := q) hk hr => by
    obtain ⟨key, val⟩ := q
    obtain ⟨k1, k2⟩ := hk
    obtain ⟨t1, k2⟩ := (show ∃ t, val = Value.int x.2 t from k2)
    subst k2
    have k1 : (Sum.inr x.1 : Key) = key := k1
    subst k1
    exact .cons (.int x.2 t1) (pairs_d r hr)
section
variable {X : Cx}
theorem call_showD (hg : X.A.guards = some []) (hu : X.A.units + 64 < cLine) : CallR X (.builtin "repr") rShowD := by
  intro pins s σ H xs us Q I r h
  obtain ⟨a, ns, rfl, h, hs, hz, hd, q⟩ := h
  obtain ⟨u, rfl, ru⟩ := vals1 r
  cases (show u = Value.ref _ from ru)
  obtain ⟨_, hsys, vs, kv, hdd⟩ := (show ObjOk X.prog X.w H s.heap a (.dK (kvD ns)) from I.hok a _ h)
  have e := PyProof.V.reads_dictOf (enc := fun k : Key => match k with | .inl i => PyData.int i | .inr y => PyData.str y) (h := s.heap) (fun k key hk => by
    rcases keyIs_shape hk with ⟨i, t, rfl, rfl⟩ | ⟨y, t, rfl, rfl⟩
    · exact Reads.int i t
    · exact Reads.str y t) hdd (pairs_d ns kv)
  have hd' : (PyData.dict (ns.map fun x => (PyData.str x.1, PyData.int x.2))).depth ≤ 60 := hd
  exact repr_of_reads' e hs (fun _ hm => by
    simp at hm
    subst hm
    simp at hsys) hg (by omega) (fun _ _ e => e) (fun h' u tk k => ⟨.str _, H, I.kept (t' := tk) k, ⟨u, rfl⟩, q⟩) hz
end
end Kx
namespace Kx
open PySem L2 PySem.Spec PyProof.Rows
theorem bd_log {i : Int} (h : Bd i) : i.natAbs.log2 < 1920 := by
  unfold Bd at h
  by_cases z : i.natAbs = 0
  · rw [z]
    show Nat.log2 0 < 1920
    decide
  · rw [Nat.log2_lt z]
    have a : i.natAbs < 2 ^ 201 := by
      have e : (2 : Nat) ^ 201 = 3213876088517980551083924184682325205044405987565585670602752 := by decide +kernel
      rw [e]
      omega
    exact Nat.lt_of_lt_of_le a (Nat.pow_le_pow_right (by decide) (by decide))
theorem dd_showable : ∀ {ns : List (PySem.Str × Int)}, (∀ x ∈ ns, Bd x.2) → (ddD ns).showable = true := by
  intro ns h
  unfold ddD PyData.showable
  induction ns with
  | nil => rfl
  | cons x r ih =>
    show (true && decide (x.2.natAbs.log2 < 1920) && PyData.showableKv (r.map fun x => (PyData.str x.1, PyData.int x.2))) = true
    rw [decide_eq_true (bd_log (h x List.mem_cons_self)), ih fun y hy => h y (List.mem_cons_of_mem _ hy)]
    rfl
theorem dd_depth : ∀ {ns : List (PySem.Str × Int)}, (ddD ns).depth ≤ 60 := by
  intro ns
  unfold ddD PyData.depth
  suffices h : PyData.depthKv (ns.map fun x => (PyData.str x.1, PyData.int x.2)) = 0 by rw [h]; decide
  induction ns with
  | nil => rfl
  | cons x r ih =>
    show max (max 0 0) (PyData.depthKv (r.map fun x => (PyData.str x.1, PyData.int x.2))) = 0
    rw [ih]
    rfl
end Kx
namespace Kx
open PySem L2 PySem.Spec PyProof.Rows
/-- the keys that the law draws -/
def keys8 : List PySem.Str := ["x", "y", "", "self.f", "result", "p.q", "zz", "other.f"]
theorem key_ok : ∀ t ∈ keys8, (PyData.str t).leavesShort 64 = true ∧ (PyData.str t).weight ≤ 8 := by decide +kernel
theorem bd_text {i : Int} (h : Bd i) : (PyData.int i).leavesShort 64 = true := by
  have a : i.natAbs < 10 ^ 61 := by
    unfold Bd at h
    have e : (10 : Nat) ^ 61 = 10000000000000000000000000000000000000000000000000000000000000 := by decide +kernel
    rw [e]
    omega
  have e := int_text_length_le10 (k := 61) (by decide) a
  show decide ((Str.ofString (toString i)).length ≤ 64) = true
  rw [PySem.ofString_length]
  exact decide_eq_true (by omega)
theorem bd_weight {i : Int} (h : Bd i) : (PyData.int i).weight ≤ 1920 := by
  have l := bd_log h
  show (if i == 0 then 0 else i.natAbs.log2 + 1) ≤ 1920
  split <;> omega
theorem dd_fits {ns : List (PySem.Str × Int)} (h : ∀ x ∈ ns, x.1 ∈ keys8 ∧ Bd x.2) (hl : ns.length ≤ 8) : (ddD ns).shown.length ≤ sizeLine := by
  have a : PyData.leavesShortKv 64 (ns.map fun x => (PyData.str x.1, PyData.int x.2)) = true := by
    clear hl
    induction ns with
    | nil => rfl
    | cons x r ih =>
      obtain ⟨h1, h2⟩ := h x List.mem_cons_self
      show ((PyData.str x.1).leavesShort 64 && (PyData.int x.2).leavesShort 64 && PyData.leavesShortKv 64 (r.map fun x => (PyData.str x.1, PyData.int x.2))) = true
      rw [(key_ok _ h1).1, bd_text h2, ih fun y hy => h y (List.mem_cons_of_mem _ hy)]
      rfl
  have b : PyData.weightKv (ns.map fun x => (PyData.str x.1, PyData.int x.2)) ≤ 1930 * ns.length := by
    clear hl a
    induction ns with
    | nil => exact Nat.zero_le _
    | cons x r ih =>
      obtain ⟨h1, h2⟩ := h x List.mem_cons_self
      have i1 := ih fun y hy => h y (List.mem_cons_of_mem _ hy)
      have i2 := (key_ok _ h1).2
      have i3 := bd_weight h2
      show (PyData.str x.1).weight + (PyData.int x.2).weight + 2 + PyData.weightKv (r.map fun x => (PyData.str x.1, PyData.int x.2)) ≤ 1930 * (r.length + 1)
      omega
  have c := PyData.shown_le 64 (by decide) (ddD ns) a
  have d : (ddD ns).weight ≤ 1930 * 8 := Nat.le_trans b (Nat.mul_le_mul_left _ hl)
  rw [sizeLine_eq]
  omega
end Kx
namespace Kx
open PySem L2 PySem.Spec PyProof.Rows
/-! a dict of drawn numbers -/
structure NumD (kvs : List (Key × V)) (m : Nat) : Prop where
  of : ∀ kv ∈ kvs, ∃ (t : PySem.Str) (i : Int), kv = (.inr t, .int i) ∧ t ∈ keys8 ∧ Bd i
  le : kvs.length ≤ m
theorem NumD.nil : NumD [] 0 := ⟨(fun _ h => nomatch h), Nat.le_refl _⟩
theorem NumD.put {kvs : List (Key × V)} {m : Nat} {t : PySem.Str} {i : Int} (h : NumD kvs m) (ht : t ∈ keys8) (hi : Bd i) : NumD (putK kvs (.inr t) (.int i)) (m + 1) := by
  unfold putK
  by_cases a : (kvs.any fun kv => decide (kv.1 = Sum.inr t)) = true
  · rw [if_pos a]
    refine ⟨fun kv hk => ?_, by rw [List.length_map]; have := h.le; omega⟩
    obtain ⟨x, hx, rfl⟩ := List.mem_map.mp hk
    obtain ⟨t', i', rfl, h1, h2⟩ := h.of x hx
    by_cases e : (Sum.inr t' : Key) = Sum.inr t
    · rw [if_pos e]
      exact ⟨t', i, rfl, h1, hi⟩
    · rw [if_neg e]
      exact ⟨t', i', rfl, h1, h2⟩
  · rw [if_neg a]
    refine ⟨fun kv hk => ?_, by rw [List.length_append]; have := h.le; show _ + 1 ≤ m + 1; omega⟩
    rcases List.mem_append.mp hk with z | z
    · exact h.of kv z
    · rw [List.mem_singleton.mp z]
      exact ⟨t, i, rfl, ht, hi⟩
theorem NumD.drop {kvs : List (Key × V)} {m : Nat} {k : Key} (h : NumD kvs m) : NumD (dropK kvs k) m := ⟨fun kv hk => h.of kv (List.mem_filter.mp hk).1, Nat.le_trans (List.length_filter_le _ _) h.le⟩
theorem NumD.merge : ∀ (ms : List (PySem.Str × Int)) {kvs : List (Key × V)} {m : Nat}, NumD kvs m → (∀ x ∈ ms, x.1 ∈ keys8 ∧ Bd x.2) → NumD (mergeK kvs (kvD ms)) (m + ms.length)
  | [], _, _, h, _ => h
  | x :: r, kvs, m, h, hx => by
    have h1 := hx x List.mem_cons_self
    have := NumD.merge r (h.put h1.1 h1.2) fun y hy => hx y (List.mem_cons_of_mem _ hy)
    exact ⟨this.of, by have := this.le; show _ ≤ m + (r.length + 1); exact Nat.le_trans this (by omega)⟩
theorem merge_has : ∀ (ms : List (PySem.Str × Int)) {kvs : List (Key × V)} {t : PySem.Str}, ((valV kvs (.inr t)).isSome = true ∨ t ∈ ms.map (·.1)) → (valV (mergeK kvs (kvD ms)) (.inr t)).isSome = true
  | [], _, _, h => h.elim id fun z => nomatch z
  | x :: r, kvs, t, h => by
    refine merge_has r (kvs := putK kvs (.inr x.1) (.int x.2)) (t := t) ?_
    rw [valV_put]
    by_cases e : (Sum.inr t : Key) = Sum.inr x.1
    · rw [if_pos e]; exact .inl rfl
    · rw [if_neg e]
      rcases h with h | h
      · exact .inl h
      · rcases List.mem_cons.mp h with z | z
        · exact (e (by rw [z])).elim
        · exact .inr z
theorem NumD.ns : ∀ {kvs : List (Key × V)} {m : Nat}, NumD kvs m → ∃ ns, kvs = kvD ns ∧ (∀ x ∈ ns, x.1 ∈ keys8 ∧ Bd x.2) ∧ ns.length ≤ m
  | [], m, h => ⟨[], rfl, (fun _ z => nomatch z), Nat.zero_le _⟩
  | kv :: r, m, h => by
    obtain ⟨t, i, rfl, h1, h2⟩ := h.of kv List.mem_cons_self
    obtain ⟨ns, rfl, a, b⟩ := NumD.ns (kvs := r) (m := m - 1) ⟨fun x hx => h.of x (List.mem_cons_of_mem _ hx), by have := h.le; rw [List.length_cons] at this; omega⟩
    refine ⟨(t, i) :: ns, rfl, fun x hx => ?_, by have := h.le; rw [List.length_cons] at this ⊢; omega⟩
    rcases List.mem_cons.mp hx with rfl | z
    · exact ⟨h1, h2⟩
    · exact a x z
def fOf (kvs : List (Key × V)) (t : PySem.Str) : Int := if t = "" then 0 else match valV kvs (.inr t) with
  | some (.int i) => i
  | _ => 0
theorem valV_mem {kvs : List (Key × V)} {k : Key} {v : V} (h : valV kvs k = some v) : ∃ kv ∈ kvs, kv.2 = v := by
  unfold valV at h
  obtain ⟨kv, h1, h2⟩ := Option.map_eq_some_iff.mp h
  exact ⟨kv, List.mem_of_find?_eq_some h1, h2⟩
theorem NumD.worth {kvs : List (Key × V)} {m : Nat} (h : NumD kvs m) {t : PySem.Str} (ok : okT kvs t) : Worth kvs (fOf kvs) t := by
  by_cases e : t = ""
  · exact .inl ⟨e, by unfold fOf; rw [if_pos e]⟩
  · refine .inr ⟨e, ?_⟩
    rcases ok with z | z
    · exact (e z).elim
    · obtain ⟨v, hv⟩ := Option.isSome_iff_exists.mp z
      obtain ⟨kv, h1, h2⟩ := valV_mem hv
      obtain ⟨t', i, rfl, _, _⟩ := h.of kv h1
      have h2 : V.int i = v := h2
      rw [hv, ← h2]
      unfold fOf
      rw [if_neg e, hv, ← h2]
/-! the rows of names -/
def nameRows : List (List PySem.Str) := [["x", ""], ["x", "y", ""], ["x", "self.f", "result", ""], ["p.q", "x", "y", ""]]
theorem rows_ok : ∀ ts ∈ nameRows, (∀ t ∈ ts, t ∈ names6) ∧ (∀ t ∈ ts, t ∈ keys8) ∧ 0 < ts.length ∧ ts.length ≤ 4 ∧ ∃ t r, ts = t :: r ∧ t ≠ "" := by
  intro ts h
  unfold nameRows at h
  simp only [List.mem_cons, List.not_mem_nil, or_false] at h
  rcases h with rfl | rfl | rfl | rfl
  · exact ⟨by decide +kernel, by decide +kernel, by decide, by decide, _, _, rfl, by decide⟩
  · exact ⟨by decide +kernel, by decide +kernel, by decide, by decide, _, _, rfl, by decide⟩
  · exact ⟨by decide +kernel, by decide +kernel, by decide, by decide, _, _, rfl, by decide⟩
  · exact ⟨by decide +kernel, by decide +kernel, by decide, by decide, _, _, rfl, by decide⟩
abbrev tS (s : PySem.Str) : TE := tC (.str s)
abbrev tNames : TE := tLst (tCons (tLst (tCons (tS "x") (tCons (tS "") tNil))) (tCons (tLst (tCons (tS "x") (tCons (tS "y") (tCons (tS "") tNil)))) (tCons (tLst (tCons (tS "x") (tCons (tS "self.f") (tCons (tS "result") (tCons (tS "") tNil)))))
  (tCons (tLst (tCons (tS "p.q") (tCons (tS "x") (tCons (tS "y") (tCons (tS "") tNil))))) tNil))))
section
variable {K : PySem.W.Frag} {p : Addr} {n : Int} {σ : L2.St} {H : Hp} {Q : VK}
theorem WellAt.ne {q : Addr} {o : HO} (hW : WellAt H p n) (h : H q = some o) (e : ∀ a b c, o ≠ .lst [.int a, .int b, .int c]) : q ≠ p := fun z => by
  obtain ⟨a, b, c, g, _⟩ := hW
  rw [z, g] at h
  exact e a b c (Option.some.inj h).symm
theorem strs_ne {ts : List PySem.Str} (h : 0 < ts.length) : ∀ a b c : Int, HO.lst (ts.map V.str) ≠ .lst [.int a, .int b, .int c] := fun a b c e => by
  cases ts with
  | nil => exact absurd h (by decide)
  | cons t r => injection e with e; injection e with e1 _; cases e1
theorem names_go (h2 : σ[2]? = some (some (.ref p))) (hW : WellAt H p n) (hn : n ≤ 1000000)
    (k : ∀ q ts H', ts ∈ nameRows → H' q = some (.lst (ts.map V.str)) → H q = none → KeepB p H H' → WellAt H' p (n + 1) → Q (.ref q) H') : tCall (spOne K) [] E0 (tCons (tVar 2) (tCons tNames tNil)) σ H Q := by
  refine ⟨_, h2, by show 2 ≤ sizeLine; decide, fun p1 m1 => ⟨by show 3 ≤ sizeLine; decide, fun p2 m2 => ⟨by show 4 ≤ sizeLine; decide, fun p3 m3 => ⟨by show 4 ≤ sizeLine; decide, fun p4 m4 => ⟨by show 4 ≤ sizeLine; decide, fun l ml => ?_⟩⟩⟩⟩⟩
  have s1 := new_same (o := .lst [V.str "x", .str ""]) m1
  have s2 := new_same (o := .lst [V.str "x", .str "y", .str ""]) m2
  have s3 := new_same (o := .lst [V.str "x", .str "self.f", .str "result", .str ""]) m3
  have s4 := new_same (o := .lst [V.str "p.q", .str "x", .str "y", .str ""]) m4
  have s5 := new_same (o := .lst [V.ref p1, .ref p2, .ref p3, .ref p4]) ml
  generalize hH1 : upd H p1 (.lst [V.str "x", .str ""]) = H1 at *
  have g1 : H1 p1 = some (.lst ([("x" : PySem.Str), ""].map V.str)) := by rw [← hH1]; exact upd_same
  generalize hH2 : upd H1 p2 (.lst [V.str "x", .str "y", .str ""]) = H2 at *
  have g2 : H2 p2 = some (.lst ([("x" : PySem.Str), "y", ""].map V.str)) := by rw [← hH2]; exact upd_same
  generalize hH3 : upd H2 p3 (.lst [V.str "x", .str "self.f", .str "result", .str ""]) = H3 at *
  have g3 : H3 p3 = some (.lst ([("x" : PySem.Str), "self.f", "result", ""].map V.str)) := by rw [← hH3]; exact upd_same
  generalize hH4 : upd H3 p4 (.lst [V.str "p.q", .str "x", .str "y", .str ""]) = H4 at *
  have g4 : H4 p4 = some (.lst ([("p.q" : PySem.Str), "x", "y", ""].map V.str)) := by rw [← hH4]; exact upd_same
  generalize hH5 : upd H4 l (.lst [V.ref p1, .ref p2, .ref p3, .ref p4]) = H5 at *
  have gl : H5 l = some (.lst [V.ref p1, .ref p2, .ref p3, .ref p4]) := by rw [← hH5]; exact upd_same
  have s13 : Same H H2 := fun b u z => s2 _ _ (s1 _ _ z)
  have s14 : Same H H3 := fun b u z => s3 _ _ (s13 _ _ z)
  have s15 : Same H H4 := fun b u z => s4 _ _ (s14 _ _ z)
  have s : Same H H5 := fun b u z => s5 _ _ (s15 _ _ z)
  have w5 := hW.same s
  have nl : l ≠ p := WellAt.ne w5 gl fun a b c e => by injection e with e; injection e with e _; cases e
  refine ⟨p, l, n, _, rfl, w5, hn, Ne.symm nl, SqL.of gl, by show 0 < 4; decide, by show 4 < 1000000; decide, fun r v xs hv hw => ?_⟩
  have fin : ∀ q ts, ts ∈ nameRows → H5 q = some (.lst (ts.map V.str)) → H q = none → Q (.ref q) (upd H5 p (.lst xs)) := fun q ts ht g hq => by
    have nq : q ≠ p := WellAt.ne w5 g (strs_ne (rows_ok ts ht).2.2.1)
    exact k q ts _ ht (by rw [upd_ne nq]; exact g) hq ((KeepB.of s).trans KeepB.at) hw
  have hm := List.mem_of_getElem? hv
  simp only [List.mem_cons, List.not_mem_nil, or_false] at hm
  rcases hm with rfl | rfl | rfl | rfl
  · exact fin p1 _ (by unfold nameRows; simp) (s5 _ _ (s4 _ _ (s3 _ _ (s2 _ _ g1)))) m1
  · exact fin p2 _ (by unfold nameRows; simp) (s5 _ _ (s4 _ _ (s3 _ _ g2))) (Same.free s1 m2)
  · exact fin p3 _ (by unfold nameRows; simp) (s5 _ _ (s4 _ _ g3)) (Same.free s13 m3)
  · exact fin p4 _ (by unfold nameRows; simp) (s5 _ _ g4) (Same.free s14 m4)
abbrev tOneN (K : PySem.W.Frag) : TE := tCall (spOne K) [] E0 (tCons (tVar 2) (tCons (tVar 3) tNil))
abbrev tNumN : TE := tCall spNum [] E0 (tCons (tVar 2) tNil)
theorem one_go {q : Addr} {ts : List PySem.Str} (h2 : σ[2]? = some (some (.ref p))) (h3 : σ[3]? = some (some (.ref q))) (hW : WellAt H p n) (hn : n ≤ 1000000) (hq : H q = some (.lst (ts.map V.str))) (h0 : 0 < ts.length) (hl : ts.length ≤ 4)
    (k : ∀ s H', s ∈ ts → KeepB p H H' → WellAt H' p (n + 1) → Q (.str s) H') : tOneN K σ H Q := by
  have nq : q ≠ p := WellAt.ne hW hq (strs_ne h0)
  refine ⟨_, h2, _, h3, p, q, n, _, rfl, hW, hn, Ne.symm nq, SqL.of hq, by rw [List.length_map]; exact h0, by rw [List.length_map]; omega, fun r v xs hv hw => ?_⟩
  obtain ⟨s, hs, rfl⟩ := List.mem_map.mp (List.mem_of_getElem? hv)
  exact k s _ hs KeepB.at hw
theorem lit_go {q : Addr} {ts : List PySem.Str} (h2 : σ[2]? = some (some (.ref p))) (h3 : σ[3]? = some (some (.ref q))) (hW : WellAt H p n) (hn : n + 12 ≤ 1000000) (hq : H q = some (.lst (ts.map V.str))) (ht : ts ∈ nameRows)
    (k : ∀ t (l : Lit) H', KeepB p H H' → WellAt H' p (n + 12) → H t = none → H' t = some (.tup [.str l.1, .str l.2.1, .int l.2.2]) → l.1 ∈ names6 → l.2.1 ∈ names6 → Q (.ref t) H') :
    tTup (tCons (tOneN K) (tCons (tOneN K) (tCons tNumN tNil))) σ H Q := by
  obtain ⟨r1, _, r3, r4, _⟩ := rows_ok ts ht
  have nq : q ≠ p := WellAt.ne hW hq (strs_ne r3)
  refine one_go h2 h3 hW (by omega) hq r3 r4 fun a H1 ha k1 w1 => ?_
  refine one_go h2 h3 w1 (by omega) (k1 q _ nq hq) r3 r4 fun b H2 hb k2 w2 => ?_
  refine ⟨_, h2, p, n + 1 + 1, rfl, w2, by omega, fun i H3 _ k3 w3 => ?_⟩
  refine ⟨by show 3 ≤ sizeLine; decide, fun t mt => ?_⟩
  have k13 := (k1.trans k2).trans k3
  have hWp : ∃ u, H p = some u := let ⟨_, _, _, g, _⟩ := hW; ⟨_, g⟩
  have hWp3 : ∃ u, H3 p = some u := let ⟨_, _, _, g, _⟩ := w3; ⟨_, g⟩
  have ntp : t ≠ p := fun z => by
    obtain ⟨u, g⟩ := hWp3
    rw [z, g] at mt
    cases mt
  have mH : H t = none := by
    cases e : H t with
    | none => rfl
    | some u => rw [k13 t u ntp e] at mt; cases mt
  exact k t (a, b, i) _ (k13.trans (KeepB.of (new_same mt))) ((w3.same (new_same mt)).mono (by omega)) mH upd_same (r1 a ha) (r1 b hb)
end
end Kx
namespace Kx
open PySem L2 PySem.Spec PyProof.Rows
theorem seq_set {te : TE} {i : Nat} {u : TS} {D : Ends} {σ : L2.St} {H : Hp} (h : te σ H fun x H1 => u D (σ.set i (some x)) H1) : tSeq (tAsg te (gName i)) u D σ H := h
theorem seq_asg {te : TE} {g : TG} {u : TS} {D : Ends} {σ : L2.St} {H : Hp} (h : te σ H fun x H1 => g x σ H1 (u D)) : tSeq (tAsg te g) u D σ H := h
theorem seq_if {c : TT} {t e u : TS} {D : Ends} {σ : L2.St} {H : Hp} (h : c σ H fun b H1 => if b = true then t { D with nx := u D } σ H1 else e { D with nx := u D } σ H1) : tSeq (tIfS c t e) u D σ H := h
theorem seq_for {wi : TI} {g : TG} {tb u : TS} {D : Ends} {σ : L2.St} {H : Hp} (h : tFor wi g tb { D with nx := u D } σ H) : tSeq (tFor wi g tb) u D σ H := h
theorem seq_par {i j : Nat} {ta : TA} {u : TS} {D : Ends} {σ : L2.St} {H : Hp} (h : ta σ H fun vs H1 => ∃ v w, vs = [v, w] ∧ u D ((σ.set i (some v)).set j (some w)) H1) : tSeq (tPar i j ta) u D σ H := h
theorem nm_go {i : Nat} {x : V} {σ : L2.St} {H : Hp} {T : L2.St → Hp → Prop} (h : T (σ.set i (some x)) H) : gName i x σ H T := h
abbrev tLit (K : PySem.W.Frag) : TE := tTup (tCons (tOneN K) (tCons (tOneN K) (tCons tNumN tNil)))
abbrev tDrw (m : Int) : TE := tCall spDraw [] E0 (tCons (tVar 2) (tCons (tC (.int m)) tNil))
section
variable {K : PySem.W.Frag} {p : Addr} {n : Int} {σ : L2.St} {H : Hp}
theorem cl_go {Q : VK} {q : Addr} {ts : List PySem.Str} (h2 : σ[2]? = some (some (.ref p))) (h3 : σ[3]? = some (some (.ref q))) (hW : WellAt H p n) (hn : n + 12 ≤ 1000000) (hq : H q = some (.lst (ts.map V.str))) (ht : ts ∈ nameRows)
    (k : ∀ t u (l : Lit) H', KeepB p H H' → WellAt H' p (n + 12) → H t = none → SqT K H' t [.ref u] → IsLit K H' (.ref u) l → l.1 ∈ names6 → l.2.1 ∈ names6 → Q (.ref t) H') :
    tTup (tCons (tLit K) tNil) σ H Q := by
  show tLit K σ H fun x H1 => ([x] : List V).length ≤ sizeLine ∧ ∀ p, H1 p = none → Q (.ref p) (upd H1 p (.tup [x]))
  refine lit_go h2 h3 hW hn hq ht fun u l H1 k1 w1 nu gu a b => ⟨by show 1 ≤ sizeLine; decide, fun t mt => ?_⟩
  have s := new_same (o := .tup [V.ref u]) mt
  have ntp : t ≠ p := fun z => by
    obtain ⟨_, _, _, g, _⟩ := w1
    rw [z, g] at mt
    cases mt
  have mH : H t = none := by
    cases e : H t with
    | none => rfl
    | some u => rw [k1 t u ntp e] at mt; cases mt
  exact k t u l _ (k1.trans (KeepB.of s)) (w1.same s) mH (SqT.of upd_same) ⟨u, rfl, SqT.of (s _ _ gu)⟩ a b
theorem SqT.keep {H H' : Hp} {p b : Addr} {ms xs : List V} (hp : H p = some (.lst ms)) (k : KeepB p H H') (h : SqT K H b xs) : SqT K H' b xs := by
  rcases h with (h | ⟨o, h⟩) | h
  · exact .inl (.inl (k _ _ (fun e => by rw [e, hp] at h; cases h) h))
  · exact .inl (.inr ⟨o, k _ _ (fun e => by rw [e, hp] at h; cases h) h⟩)
  · exact .inr h
theorem IsLit.keep {H H' : Hp} {p : Addr} {ms : List V} {x : V} {l : Lit} (hp : H p = some (.lst ms)) (k : KeepB p H H') (h : IsLit K H x l) : IsLit K H' x l := let ⟨a, e, q⟩ := h; ⟨a, e, SqT.keep hp k q⟩
theorem Cl.keep {H H' : Hp} {p b : Addr} {ms xs : List V} {c : List Lit} (hp : H p = some (.lst ms)) (k : KeepB p H H') (h : Cl K H b xs c) : Cl K H' b xs c :=
  ⟨SqT.keep hp k h.sq, L2.Paired.mapP h.p fun _ _ z => IsLit.keep hp k z, h.l1, h.l2⟩
theorem IsC.keep {H H' : Hp} {p : Addr} {ms : List V} {x : V} {c : List Lit} (hp : H p = some (.lst ms)) (k : KeepB p H H') (h : IsC K H x c) : IsC K H' x c := let ⟨a, ys, e, q⟩ := h; ⟨a, ys, e, Cl.keep hp k q⟩
theorem WellAt.upd {p D : Addr} {o : HO} (h : WellAt H p n) (ne : D ≠ p) : WellAt (L2.upd H D o) p n := let ⟨a, b, c, e, r⟩ := h; ⟨a, b, c, by rw [upd_ne (Ne.symm ne)]; exact e, r⟩
theorem KeepB.upd {H H' : Hp} {p D : Addr} {o : HO} (h : KeepB p H H') (hD : H D = none) : KeepB p H (L2.upd H' D o) := fun b u nb z => by
  have e : b ≠ D := fun y => by rw [y, hD] at z; cases z
  rw [upd_ne e]
  exact h b u nb z
/-- a drawn clause, of two literals where none had two before -/
def Dc (c : List Lit) : Prop := c.length ≤ 2 ∧ ∀ l ∈ c, l.1 ∈ names6 ∧ l.2.1 ∈ names6
theorem turn_go {u : TS} {D : Ends} {q : Addr} {ts : List PySem.Str} {o0 o1 o4 o6 o7 o8 o9 o10 o11 o12 : Option V} {wide : Bool}
    (hW : WellAt H p n) (hn : n + 40 ≤ 1000000) (hq : H q = some (.lst (ts.map V.str))) (ht : ts ∈ nameRows)
    (k : ∀ t (w : Bool) c H', KeepB p H H' → WellAt H' p (n + 40) → IsC K H' (.ref t) c → Dc c → ((c.length = 1 ∧ w = wide) ∨ (c.length = 2 ∧ wide = false ∧ w = true)) →
      u D [o0, o1, some (.ref p), some (.ref q), o4, some (.bl w), o6, some (.ref t), o8, o9, o10, o11, o12] H') :
    tSeq (tAsg (tTup (tCons (tLit K) tNil)) (gName 7)) (tSeq (tIfS (tAnd (tNot (tB (tVar 5))) (tTest (tOp rEq (tDrw 3) (tC (.int 0))))) (tPar 7 5 (tCons (tOp (rCatT K) (tVar 7) (tTup (tCons (tLit K) tNil))) (tCons (tC (.bl true)) tNil))) tNext) u) D
      [o0, o1, some (.ref p), some (.ref q), o4, some (.bl wide), o6, o7, o8, o9, o10, o11, o12] H := by
  obtain ⟨_, _, r3, _, _⟩ := rows_ok ts ht
  have nq : q ≠ p := WellAt.ne hW hq (strs_ne r3)
  refine seq_set ?_
  refine cl_go rfl rfl hW (by omega) hq ht fun t v l H1 k1 w1 nt gt hl a b => ?_
  have c1 : IsC K H1 (.ref t) [l] := ⟨t, _, rfl, gt, .cons hl .nil, Nat.le_refl _, by show 1 ≤ 1000; decide⟩
  have d1 : Dc [l] := ⟨by show 1 ≤ 2; decide, fun m hm => by rw [List.mem_singleton.mp hm]; exact ⟨a, b⟩⟩
  refine seq_if ⟨_, rfl, wide, rfl, ?_⟩
  cases wide with
  | true =>
    refine iteF (iteF ?_)
    exact k t true [l] H1 k1 (w1.mono (by omega)) c1 d1 (.inl ⟨rfl, rfl⟩)
  | false =>
    refine iteT ⟨_, rfl, p, 3, n + 12, rfl, w1, by omega, by decide, by decide, fun r xs r0 r1 w2 => ⟨rfl, _, rfl, ?_⟩⟩
    obtain ⟨ms1, hp1⟩ := w1.lst
    have k2 : KeepB p H1 (upd H1 p (.lst xs)) := KeepB.at
    by_cases h0 : r = 0
    case neg =>
      rw [show decide (V.int r = V.int 0) = false from decide_eq_false fun y => h0 (V.int.inj y)]
      refine iteF ?_
      exact k t false [l] _ (k1.trans k2) (w2.mono (by omega)) (IsC.keep hp1 k2 c1) d1 (.inl ⟨rfl, rfl⟩)
    case pos =>
      rw [show decide (V.int r = V.int 0) = true from by rw [h0]; exact decide_eq_true rfl]
      refine iteT ⟨_, rfl, ?_⟩
      obtain ⟨ms2, hp2⟩ := w2.lst
      have k12 := k1.trans k2
      refine cl_go rfl rfl w2 (by omega) (k12 q _ nq hq) ht fun t' v' l' H3 k3 w3 nt' gt' hl' a' b' => ?_
      have g3 := SqT.keep hp2 k3 (SqT.keep hp1 k2 gt)
      have hl3 := IsLit.keep hp2 k3 (IsLit.keep hp1 k2 hl)
      refine ⟨t, t', _, _, rfl, rfl, g3, gt', List.cons_ne_nil _ _, by show 1 + 1 ≤ sizeLine; decide, fun z => (List.cons_ne_nil _ _ z).elim, fun _ t2 m2 => ⟨_, _, rfl, ?_⟩⟩
      have s := new_same (o := .tup ([V.ref v] ++ [V.ref v'])) m2
      refine k t2 true [l, l'] _ ((k12.trans k3).trans (KeepB.of s)) ((w3.same s).mono (by omega)) ⟨t2, [V.ref v, V.ref v'], rfl, SqT.of upd_same, .cons (IsLit.same s hl3) (.cons (IsLit.same s hl') .nil), by show 1 ≤ 2; decide, by show 2 ≤ 1000; decide⟩ ⟨Nat.le_refl _, fun m hm => ?_⟩ (.inr ⟨rfl, rfl, rfl⟩)
      rcases List.mem_cons.mp hm with rfl | hm
      · exact ⟨a, b⟩
      · rw [List.mem_singleton.mp hm]
        exact ⟨a', b'⟩
end
end Kx
namespace Kx
open PySem L2 PySem.Spec PyProof.Rows
mutual
theorem Dp.same {K : PySem.W.Frag} {H H' : Hp} (s : Same H H') : ∀ {v : V} {d : PyData}, Dp K H v d → Dp K H' v d
  | _, _, .non => .non
  | _, _, .bl b => .bl b
  | _, _, .int i => .int i
  | _, _, .str x => .str x
  | _, _, .lst h a => .lst (SqL.same s h) (DpAll.same s a)
  | _, _, .tup h a => .tup (SqT.same s h) (DpAll.same s a)
theorem DpAll.same {K : PySem.W.Frag} {H H' : Hp} (s : Same H H') : ∀ {vs : List V} {ds : List PyData}, DpAll K H vs ds → DpAll K H' vs ds
  | _, _, .nil => .nil
  | _, _, .cons h a => .cons (Dp.same s h) (DpAll.same s a)
end
theorem paired_mapr {α β γ : Type} {R : α → γ → Prop} {f : β → γ} : ∀ {xs : List α} {ys : List β}, Paired (fun x y => R x (f y)) xs ys → Paired R xs (ys.map f)
  | _, _, .nil => .nil
  | _, _, .cons h t => .cons h (paired_mapr t)
theorem ne_ok {K : PySem.W.Frag} {ta tb : TE} {σ : L2.St} {H : Hp} {Q : Bool → Hp → Prop} {d : PyData} (hd : SeqAt.shaped d = true ∧ PyData.eqv d d = true) (ha : ∀ R : VK, (∀ v H1, Same H H1 → Dp K H1 v d → R v H1) → ta σ H R)
    (hb : ∀ H1, Same H H1 → ∀ R : VK, (∀ v H2, Same H1 H2 → Dp K H2 v d → R v H2) → tb σ H1 R) (k : ∀ H2, Same H H2 → Q false H2) : tTest (tOp (rNeD K) ta tb) σ H Q := by
  refine ha _ fun v H1 s1 d1 => hb H1 s1 _ fun u H2 s2 d2 => ⟨d, d, Dp.same s2 d1, d2, hd.1, hd.1, _, rfl, ?_⟩
  rw [hd.2]
  exact k H2 fun b u z => s2 _ _ (s1 _ _ z)
section
variable {K : PySem.W.Frag} {p : Addr} {n : Int} {σ : L2.St} {H : Hp}
theorem CondF.keep {H' : Hp} {a C dx q r : Addr} {ms : List V} {cs : List (List Lit)} {ys : List PySem.Str} (hp : H p = some (.lst ms)) (k : KeepB p H H') (h : CondF K H a C dx q r cs ys) : CondF K H' a C dx q r cs ys :=
  ⟨k _ _ (fun e => by have z := h.ins; rw [e, hp] at z; cases z) h.ins, let ⟨xs, z⟩ := h.cl; ⟨xs, SqT.keep hp k z.sq, L2.Paired.mapP z.p fun _ _ y => IsC.keep hp k y, z.l⟩, SqT.keep hp k h.tm, h.so, h.nd, h.mem⟩
/-- the dict of numbers for the names -/
theorem dict_go {Q : VK} {q : Addr} {ts : List PySem.Str} (h2 : ∀ x, (σ.set 12 (some x))[2]? = some (some (.ref p))) (h3 : σ[3]? = some (some (.ref q))) (h12 : ∀ x, (σ.set 12 (some x))[12]? = some (some x)) (hw : wipe σ [12] = σ) (hws : ∀ x, wipe (σ.set 12 (some x)) [12] = σ)
    (hW : WellAt H p n) (hn : n + 40 ≤ 1000000) (hq : H q = some (.lst (ts.map V.str))) (ht : ts ∈ nameRows)
    (k : ∀ d kvs H', KeepB p H H' → WellAt H' p (n + 40) → H d = none → H' d = some (.dK kvs) → NumD kvs 4 → (∀ t ∈ ts, t ≠ "" → (valV kvs (.inr t)).isSome = true) → Q (.ref d) H') :
    tCB (fun xs H Q => ∃ (a : Addr) (ps : List Addr) (kvs : List (Key × V)), xs = [.ref a] ∧ SqL K H a (ps.map V.ref) ∧ Paired (fun p kv => SqT K H p [kV kv.1, kv.2]) ps kvs ∧ ∀ p, H p = none → Q (.ref p) (upd H p (.dK (mergeK [] kvs))))
      (tCons (tLc (iList K (tRevL K (tVar 3))) (gName 12) (tTest (tOp rNe (tVar 12) (tC (.str "")))) (tTup (tCons (tVar 12) (tCons tNumN tNil))) [12]) tNil) σ H Q := by
  obtain ⟨_, rk, r3, r4, _⟩ := rows_ok ts ht
  have nq : q ≠ p := WellAt.ne hW hq (strs_ne r3)
  refine ⟨_, h3, q, _, rfl, SqL.of hq, fun lr mr => ?_⟩
  have sr := new_same (o := .lst (ts.map V.str).reverse) mr
  have wr := hW.same sr
  have gr : (upd H lr (.lst (ts.map V.str).reverse)) lr = some (.lst (ts.map V.str).reverse) := upd_same
  generalize upd H lr (.lst (ts.map V.str).reverse) = Hr at sr wr gr ⊢
  have nlr : lr ≠ p := fun z => by
    obtain ⟨_, _, _, g, _⟩ := hW
    rw [z, g] at mr
    cases mr
  refine ⟨lr, rfl, ⟨_, SqL.of gr⟩, fun D mD => ?_⟩
  have nD : D ≠ p := fun z => by
    obtain ⟨_, _, _, g, _⟩ := wr
    rw [z, g] at mD
    cases mD
  have nlD : lr ≠ D := fun z => by rw [← z, gr] at mD; cases mD
  have erev : (ts.map V.str).reverse = ts.reverse.map V.str := List.map_reverse.symm
  refine lc_it (walk_list (xs := (ts.map V.str).reverse)) (fun i H5 => KeepB p Hr H5 ∧ WellAt H5 p (n + 10 * i) ∧ ∃ (ps : List Addr) (pr : List (PySem.Str × Int)), H5 D = some (.lst (ps.map V.ref)) ∧ Paired (fun b x => SqT K H5 b [.str x.1, .int x.2]) ps pr ∧ pr.length ≤ i ∧ (∀ x ∈ pr, x.1 ∈ keys8 ∧ Bd x.2) ∧ ∀ t ∈ ts.reverse.take i, t ≠ "" → t ∈ pr.map (·.1))
    ⟨KeepB.of (new_same mD), (wr.same (new_same mD)).mono (by omega), [], [], upd_same, .nil, Nat.le_refl _, (fun _ z => nomatch z), (fun _ z => nomatch z)⟩ (fun i H5 _ h => SqL.of (h.1 lr _ nlr gr)) ?_ ?_
  · rintro i x H5 H6 hi ⟨k5, w5, ps, pr, gD, hps, hpl, hpk, hpt⟩ ⟨rfl, hx⟩
    rw [erev, List.getElem?_map] at hx
    obtain ⟨t, hti, rfl⟩ := Option.map_eq_some_iff.mp hx
    have hts : t ∈ ts := List.mem_reverse.mp (List.mem_of_getElem? hti)
    have hi4 : i < 4 := by rw [List.length_reverse, List.length_map] at hi; omega
    have et : ts.reverse.take (i + 1) = ts.reverse.take i ++ [t] := by rw [List.take_add_one, hti]; rfl
    refine ⟨by rw [hw, hws], ?_⟩
    rw [hw]
    refine ⟨_, h12 _, rfl, _, rfl, ?_⟩
    by_cases hz : t = ""
    · rw [show (!decide (V.str t = V.str "")) = false from by rw [hz]; decide]
      refine iteF ⟨k5, w5.mono (by omega), ps, pr, gD, hps, by omega, hpk, fun t' ht' n' => ?_⟩
      rw [et] at ht'
      rcases List.mem_append.mp ht' with z | z
      · exact hpt t' z n'
      · exact (n' (by rw [List.mem_singleton.mp z, hz])).elim
    · rw [show (!decide (V.str t = V.str "")) = true from by rw [decide_eq_false fun z => hz (V.str.inj z)]; rfl]
      refine iteT ⟨_, h12 _, _, h2 _, p, n + 10 * i, rfl, w5, by omega, fun v H7 bv k7 w7 => ⟨by show 2 ≤ sizeLine; decide, fun b mb => ?_⟩⟩
      obtain ⟨msp, hp5⟩ := w5.lst
      have gD7 := k7 D _ nD gD
      have sb := new_same (o := .tup [V.str t, V.int v]) mb
      have gD8 := sb _ _ gD7
      refine ⟨_, gD8, small1000 (by rw [List.length_map, Paired.length hps]; omega), ((k5.trans k7).trans (KeepB.of sb)).upd mD, ((w7.same sb).upd nD).mono (by omega), ps ++ [b], pr ++ [(t, v)], by rw [upd_same, List.map_append]; rfl, ?_, by rw [List.length_append]; show _ + 1 ≤ i + 1; omega, fun y hy => ?_, fun t' ht' n' => ?_⟩
      · exact paired_app (L2.Paired.mapP hps fun _ _ z => SqT.lst gD8 (SqT.same sb (SqT.keep hp5 k7 z))) (.cons (SqT.lst gD8 (SqT.of upd_same)) .nil)
      · rcases List.mem_append.mp hy with z | z
        · exact hpk y z
        · rw [List.mem_singleton.mp z]
          exact ⟨rk t hts, bv⟩
      · rw [List.map_append]
        rw [et] at ht'
        rcases List.mem_append.mp ht' with z | z
        · exact List.mem_append_left _ (hpt t' z n')
        · rw [List.mem_singleton.mp z]
          exact List.mem_append_right _ (List.mem_singleton.mpr rfl)
  · rintro H5 ⟨k5, w5, ps, pr, gD, hps, hpl, hpk, hpt⟩
    rw [List.length_reverse, List.length_map] at hpl w5 hpt
    rw [List.take_of_length_le (by rw [List.length_reverse]; exact Nat.le_refl _)] at hpt
    refine ⟨D, ps, kvD pr, rfl, SqL.of gD, paired_mapr hps, fun d md => ?_⟩
    have s := new_same (o := .dK (mergeK [] (kvD pr))) md
    have kk := ((KeepB.of sr).trans k5).trans (KeepB.of s)
    have md0 : H d = none := by
      cases e : H d with
      | none => rfl
      | some u =>
        have ndp : d ≠ p := fun z => by
          obtain ⟨_, _, _, g, _⟩ := w5
          rw [z, g] at md
          cases md
        rw [k5 d u ndp (sr _ _ e)] at md
        cases md
    have hN := NumD.merge pr NumD.nil hpk
    refine k d _ _ kk ((w5.same s).mono (by omega)) md0 upd_same ⟨hN.of, by have := hN.le; omega⟩ fun t ht' n' => ?_
    exact merge_has pr (.inr (hpt t (List.mem_reverse.mpr ht') n'))
/-- all stands but what is at p and at d -/
def Keep2 (p d : Addr) (H H' : Hp) : Prop := ∀ b u, b ≠ p → b ≠ d → H b = some u → H' b = some u
theorem keep2 {d : Addr} {H0 H H' : Hp} (k : KeepB p H0 H) (k2 : Keep2 p d H H') (n : H0 d = none) : KeepB p H0 H' := fun b u nb z => k2 b u nb (fun e => by rw [e, n] at z; cases z) (k b u nb z)
theorem pop_go {u : TS} {D : Ends} {q d : Addr} {ts : List PySem.Str} {kvs : List (Key × V)} (h2 : σ[2]? = some (some (.ref p))) (h3 : σ[3]? = some (some (.ref q))) (h10 : σ[10]? = some (some (.ref d)))
    (hW : WellAt H p n) (hn : n + 1 ≤ 1000000) (hq : H q = some (.lst (ts.map V.str))) (ht : ts ∈ nameRows) (hd : H d = some (.dK kvs)) (hN : NumD kvs 4) (hk : ∀ t ∈ ts, t ≠ "" → (valV kvs (.inr t)).isSome = true)
    (k : ∀ kvs' H', Keep2 p d H H' → WellAt H' p (n + 1) → H' d = some (.dK kvs') → NumD kvs' 4 → u D σ H') :
    tSeq (tIfS (tTest (tOp rEq (tDrw 4) (tC (.int 0)))) (tDrop (tDPop1 (tVar 10) (tOp (rIxL K) (tVar 3) (tC (.int 0))))) tNext) u D σ H := by
  obtain ⟨_, _, r3, _, t0, r, rfl, n0⟩ := rows_ok ts ht
  have nq : q ≠ p := WellAt.ne hW hq (strs_ne r3)
  have nd : d ≠ p := WellAt.ne hW hd fun _ _ _ e => by cases e
  refine seq_if ⟨_, h2, p, 4, n, rfl, hW, by omega, by decide, by decide, fun i xs i0 i1 w2 => ⟨rfl, _, rfl, ?_⟩⟩
  have gq : (upd H p (.lst xs)) q = some (.lst ((t0 :: r).map V.str)) := by rw [upd_ne nq]; exact hq
  have gd : (upd H p (.lst xs)) d = some (.dK kvs) := by rw [upd_ne nd]; exact hd
  by_cases h0 : i = 0
  · rw [show decide (V.int i = V.int 0) = true from by rw [h0]; exact decide_eq_true rfl]
    obtain ⟨v, hv⟩ := Option.isSome_iff_exists.mp (hk t0 List.mem_cons_self n0)
    refine iteT ⟨_, h10, d, rfl, .inl ⟨kvs, .inl gd⟩, _, h3, q, _, 0, .str t0, rfl, rfl, SqL.of gq, atI_nat (j := 0) rfl, kvs, .inr t0, v, gd, rfl, hv, ?_⟩
    exact k _ _ (fun b u nb nd' z => by rw [upd_ne nd', upd_ne nb]; exact z) (w2.upd nd) upd_same hN.drop
  · rw [show decide (V.int i = V.int 0) = false from decide_eq_false fun y => h0 (V.int.inj y)]
    exact iteF (k _ _ (fun b u nb _ z => by rw [upd_ne nb]; exact z) w2 gd hN)
theorem put_go {u : TS} {D : Ends} {d : Addr} {kvs : List (Key × V)} (h2 : σ[2]? = some (some (.ref p))) (h10 : σ[10]? = some (some (.ref d)))
    (hW : WellAt H p n) (hn : n + 11 ≤ 1000000) (hd : H d = some (.dK kvs)) (hN : NumD kvs 4)
    (k : ∀ kvs' H', Keep2 p d H H' → WellAt H' p (n + 11) → H' d = some (.dK kvs') → NumD kvs' 5 → u D σ H') :
    tSeq (tAsg tNumN (gSub (tVar 10) (tCall (spOne K) [] E0 (tCons (tVar 2) (tCons (tLst (tCons (tS "zz") (tCons (tS "x") (tCons (tS "other.f") tNil)))) tNil))) rSetD)) u D σ H := by
  refine seq_asg ⟨_, h2, p, n, rfl, hW, by omega, fun v H1 bv k1 w1 => ?_⟩
  have nd : d ≠ p := WellAt.ne hW hd fun _ _ _ e => by cases e
  refine ⟨_, h10, _, h2, by show 3 ≤ sizeLine; decide, fun l ml => ?_⟩
  have s := new_same (o := .lst [V.str "zz", .str "x", .str "other.f"]) ml
  have gl : (upd H1 l (.lst [V.str "zz", .str "x", .str "other.f"])) l = some (.lst ([("zz" : PySem.Str), "x", "other.f"].map V.str)) := upd_same
  have w2 := w1.same s
  have gd2 := s _ _ (k1 d _ nd hd)
  generalize upd H1 l (.lst [V.str "zz", .str "x", .str "other.f"]) = H2 at s gl w2 gd2 ⊢
  have nl : l ≠ p := WellAt.ne w2 gl (strs_ne (by decide))
  refine ⟨p, l, n + 10, _, rfl, w2, by omega, Ne.symm nl, SqL.of gl, by show 0 < 3; decide, by show 3 < 1000000; decide, fun r y xs hy w3 => ?_⟩
  obtain ⟨t, ht, rfl⟩ := List.mem_map.mp (List.mem_of_getElem? hy)
  have hk8 : t ∈ keys8 := (by decide +kernel : ∀ t ∈ [("zz" : PySem.Str), "x", "other.f"], t ∈ keys8) t ht
  have gd3 : (upd H2 p (.lst xs)) d = some (.dK kvs) := by rw [upd_ne nd]; exact gd2
  refine ⟨d, _, rfl, DPut.k (k := .inr t) gd3 (small1000 (Nat.le_trans hN.le (by decide))), ?_⟩
  exact k _ _ (fun b u nb nd' z => by rw [upd_ne nd', upd_ne nb]; exact s _ _ (k1 b u nb z)) ((w3.upd nd).mono (by omega)) upd_same (hN.put hk8 bv)
/-! the law's last row -/
abbrev lastC : List (List Lit) := [[("", "", -1)]]
abbrev toldD : PyData := .tuple [.str "told", .bool false]
theorem told_ok : SeqAt.shaped toldD = true := by decide +kernel
theorem told_eq : PyData.eqv toldD toldD = true := SeqAt.eqv_refl _ (SeqAt.canLay_of_shaped told_ok)
theorem last_due : dueC [] (fOf []) lastC = toldD := by
  have h : ∀ t ∈ asked lastC, okT [] t := fun t ht => by
    have e : t ∈ [("" : PySem.Str), ""] := ht
    simp only [List.mem_cons, List.not_mem_nil, or_false, or_self] at e
    exact .inl e
  unfold dueC
  rw [miss_none h]
  rfl
theorem makeT_go {C : Addr} {E : XK} {Q : VK}
    (k : ∀ r dz p q ys H', CondF K H' r C dz p q lastC ys → Same H H' → Q (.ref r) H') :
    StX.tMakeR C (spInit K C NoF) E (tCons (tTup (tCons (tTup (tCons (tS "") (tCons (tS "") (tCons (tUn (rU fun i => .int (-i)) (tC (.int 1))) tNil)))) tNil)) tNil) σ H Q := by
  refine ⟨1, rfl, by show 3 ≤ sizeLine; decide, fun u mu => ⟨by show 1 ≤ sizeLine; decide, fun t mt => ?_⟩⟩
  have s1 := new_same (o := .tup [V.str "", .str "", .int (-1)]) mu
  have s2 := new_same (o := .tup [V.ref u]) mt
  have hc : IsC K (upd (upd H u (.tup [V.str "", .str "", .int (-1)])) t (.tup [V.ref u])) (.ref t) [("", "", -1)] := ⟨t, _, rfl, SqT.of upd_same, .cons ⟨u, rfl, SqT.of (s2 _ _ upd_same)⟩ .nil, Nat.le_refl _, by show 1 ≤ 1000; decide⟩
  have h0 := (names_ok "" (by unfold names6; simp)).1
  exact init_ok (cs := lastC) (fun _ _ z => s2 _ _ (s1 _ _ z)) (.cons hc .nil) (fun c hc l hl => by rw [List.mem_singleton.mp hc] at hl; rw [List.mem_singleton.mp hl]; exact ⟨h0, h0⟩) (by show 1 ≤ 1000; decide) (by decide +kernel)
    fun r dz p q ys H' F s _ => k r dz p q ys H' F s
theorem lastSaid_go {C : Addr} {R : VK} (k : ∀ v H', Same H H' → Dp K H' v toldD → R v H') :
    tCall (spSaid2 K C) [] E0 (tCons (StX.tMakeR C (spInit K C NoF) E0 (tCons (tTup (tCons (tTup (tCons (tS "") (tCons (tS "") (tCons (tUn (rU fun i => .int (-i)) (tC (.int 1))) tNil)))) tNil)) tNil)) (tCons tDNewK tNil)) σ H R := by
  show StX.tMakeR C (spInit K C NoF) E0 (tCons (tTup (tCons (tTup (tCons (tS "") (tCons (tS "") (tCons (tUn (rU fun i => .int (-i)) (tC (.int 1))) tNil)))) tNil)) tNil) σ H (fun x H1 => tDNewK σ H1 fun y H2 => spSaid2 K C [x, y] H2 R E0)
  refine makeT_go fun r dz p q ys H1 F s1 d md => ?_
  have sd := new_same (o := .dK []) md
  exact ⟨r, d, dz, p, q, lastC, ys, [], fOf [], rfl, CondF.same sd F, upd_same, fun t _ ok => NumD.worth NumD.nil ok, fun v H' s' d' => k v H' (fun b u z => s' _ _ (sd _ _ (s1 _ _ z))) (by rw [last_due] at d'; exact d')⟩
end
end Kx
namespace Kx
open PySem L2 PySem.Spec PyProof.Rows
abbrev sLaw : Stmt := top 32
abbrev nL : List PySem.Str := ["_law_script", "_law_cell", "_law_well_here", "_law_names", "_law_clauses", "_law_is_wide", "_law_k", "_law_clause", "_law_cond_here", "_law_turn", "_law_numbers", "_law_kept", "_law_name"]
theorem cut_mem {xs : List V} {lo hi : Option Int} : ∀ v ∈ cutV xs lo hi, v ∈ xs := fun v h => List.mem_of_mem_drop (List.mem_of_mem_take h)
structure LawOf (K : PySem.W.Frag) (mg : PySem.Str → Option Value) (B CB fB CN fN C fI fA fC gH gW : Addr) (fdB fdN fdI fdA fdC fdH fdW : FuncData) : Prop where
  N : AndOf K mg B CB fB C fI fA fdB fdI fdA
  Co : CallOf K mg B CN fN C fC gH gW fdN fdC fdH fdW
  D : Drw K mg
  rng : mg "range" = none
  dict : mg "dict" = none
  rep : mg "repr" = none
  num : ∃ f fd, Fs K mg "_law_number" sNum ["_law_well_here"] f fd
  cond : ∃ f fd, Fs K mg "_law_cond" sCond2 ["_law_clauses"] f fd
  due : ∃ f fd, Fs K mg "_law_due" sDue2 ["_law_clauses", "_law_numbers"] f fd
  said : ∃ f fd, Fs K mg "_law_said" sSaid2 ["_law_cond_here", "_law_numbers"] f fd
section
variable {P : Program} {w : World} {K : PySem.W.Frag} {mg : PySem.Str → Option Value} {base : Heap} {B CB fB CN fN C fI fA fC gH gW : Addr} {fdB fdN fdI fdA fdC fdH fdW : FuncData}
theorem scL : FnScope nL ["_law_script"] (defScope sLaw) := ⟨rfl, rfl, rfl, by decide +kernel, rfl, by decide +kernel, by decide +kernel⟩
theorem law_body {a : Addr} {ns : List Int} (M : LawOf K mg B CB fB CN fN C fI fA fC gH gW fdB fdN fdI fdA fdC fdH fdW) (f : Addr) (cdv : Value) (A : Around) (hg : A.guards = some []) (outer : List Env) (s : Shared) (H : Hp) (E : XK) (hr : Room 9 (A.deeper (envOfC "law" (defScope sLaw) s.heap.objs.size f cdv)))
    (hS : SqL K H a (ns.map V.int)) (hn : ns.length ≤ 63) : ∃ t, PSs (cxOf CX0 P w K mg base nL "law" (defScope sLaw) f cdv A outer s H E).nox (defBody sLaw) t ∧ t { nx := fun _ _ => V.non = V.bl true, rt := fun v _ => v = V.bl true } (start nL [.ref a]) H := by
  have T := M.N.A.D.M.T
  have D := M.N.A.D
  obtain ⟨_, _, dW⟩ := M.D.well
  obtain ⟨_, _, dD⟩ := M.D.draw
  obtain ⟨_, _, dO⟩ := M.D.one
  obtain ⟨_, _, dN⟩ := M.num
  obtain ⟨_, _, dC⟩ := M.cond
  obtain ⟨_, _, dU⟩ := M.due
  obtain ⟨_, _, dX⟩ := M.said
  have GW : FnOk P w K mg base CX0 1 _ _ ["_law_cell"] spWell := ok_well dW.F M.D.T
  have GD : FnOk P w K mg base CX0 1 _ _ ["_law_well_here", "_law_base"] spDraw := ok_draw dD.F M.D.T
  have GO : FnOk P w K mg base CX0 2 _ _ ["_law_well_here", "_law_some"] (spOne K) := ok_one dO.F M.D.T dD.F dD.b dD.m
  have GN : FnOk P w K mg base CX0 3 _ _ ["_law_well_here"] spNum := ok_num dN.F M.D
  have GC : FnOk P w K mg base CX0 9 _ _ ["_law_clauses"] (spCond2 K C) := ok_cond2 dC.F M.N
  have GU : FnOk P w K mg base CX0 2 _ _ ["_law_clauses", "_law_numbers"] (spDue2 K) := ok_due2 dU.F M.dict
  have GX : FnOk P w K mg base CX0 5 _ _ ["_law_cond_here", "_law_numbers"] (spSaid2 K C) := ok_said2 dX.F M.Co
  have GI : FnR P w K mg base CX0 6 fI (spInit K C NoF) := fnR_init0 M.N.A.I D
  obtain ⟨_, _, dBr⟩ := M.Co.bro
  have GF : FnOk P w K mg base (L2N.CX P w) 4 fC fdC ["self", "values"] (spCall K C CN) := ok_call M.Co.F M.Co.cls M.Co.nc M.Co.N M.Co.Hd M.Co.Wd dBr M.Co.any M.Co.enum
  have hr5 : Room 5 _ := hr.mono (by decide)
  have hr1 : Room 1 _ := hr.mono (by decide)
  have hr2 : Room 2 _ := hr.mono (by decide)
  have hr3 : Room 3 _ := hr.mono (by decide)
  have hr4 : Room 4 _ := hr.mono (by decide)
  have hr7 : Room 7 _ := hr.mono (by decide)
  have hu : (cxOf CX0 P w K mg base nL "law" (defScope sLaw) f cdv A outer s H E).nox.A.units + 64 < cLine := hr.units
  have hu1 : (cxOf CX0 P w K mg base nL "law" (defScope sLaw) f cdv A outer s H E).nox.A.units + 1 < cLine := hu_of hr
  have hu65 : (cxOf CX0 P w K mg base nL "law" (defScope sLaw) f cdv A outer s H E).nox.A.units + 65 < cLine := by
    have := hr.un
    show (A.deeper (envOfC "law" (defScope sLaw) s.heap.objs.size f cdv)).units + 65 < cLine
    omega
  have hgg : (cxOf CX0 P w K mg base nL "law" (defScope sLaw) f cdv A outer s H E).nox.A.guards = some [] := hg
  refine ⟨_, pss_cons (ps_for PassesOwn.never rfl (pi_list (pe_op op_cat (pe_slice sl_list (pv 0) po_none (po_some pe_int)) (pe_lst (pa_cons pe_int pa_nil)))) (pg_name (i := 1) scL.nd rfl (Or.inl rfl))
      (pss_cons (ps_set (i := 2) scL.nd rfl (Or.inr rfl) (pe_call GW hr1 (by rfl) dW.m dW.F.kp dW.b .nil pass0 (pa_cons (pv 1) pa_nil)))
      (pss_cons (ps_set (i := 3) scL.nd rfl (Or.inl rfl) (pe_call GO hr2 (by rfl) dO.m dO.F.kp dO.b .nil pass0 (pa_cons (pv 2) (pa_cons (pe_lst (pa_cons (pe_lst (pa_cons pe_str (pa_cons pe_str pa_nil))) (pa_cons (pe_lst (pa_cons pe_str (pa_cons pe_str (pa_cons pe_str pa_nil))))
        (pa_cons (pe_lst (pa_cons pe_str (pa_cons pe_str (pa_cons pe_str (pa_cons pe_str pa_nil))))) (pa_cons (pe_lst (pa_cons pe_str (pa_cons pe_str (pa_cons pe_str (pa_cons pe_str pa_nil))))) pa_nil))))) pa_nil))))
      (pss_cons (ps_par (i := 4) (j := 5) rfl scL.nd rfl rfl (by decide) rfl rfl (pa_cons (pe_lst pa_nil) (pa_cons pe_bl pa_nil)) (by rfl))
      (pss_cons (ps_for PassesOwn.never rfl (pi_range1 rfl M.rng (pa_cons (pe_call GD hr1 (by rfl) dD.m dD.F.kp dD.b .nil pass0 (pa_cons (pv 2) (pa_cons pe_int pa_nil))) pa_nil)) (pg_name (i := 6) scL.nd rfl (Or.inl rfl))
        (pss_cons (ps_set (i := 7) scL.nd rfl (Or.inl rfl) (pe_tup (pa_cons (pe_tup (pa_cons (pe_call GO hr2 (by rfl) dO.m dO.F.kp dO.b .nil pass0 (pa_cons (pv 2) (pa_cons (pv 3) pa_nil))) (pa_cons (pe_call GO hr2 (by rfl) dO.m dO.F.kp dO.b .nil pass0 (pa_cons (pv 2) (pa_cons (pv 3) pa_nil)))
          (pa_cons (pe_call GN hr3 (by rfl) dN.m dN.F.kp dN.b .nil pass0 (pa_cons (pv 2) pa_nil)) pa_nil)))) pa_nil)))
        (pss_cons (ps_if (PW.pt (pw_and (pt_not (pt_val (pv 5))) (pw_and1 (pt_cmpR op_eq (pe_call GD hr1 (by rfl) dD.m dD.F.kp dD.b .nil pass0 (pa_cons (pv 2) (pa_cons pe_int pa_nil))) pe_int (nomark _)))))
          (pss_one (ps_par (i := 7) (j := 5) rfl scL.nd rfl rfl (by decide) rfl rfl (pa_cons (pe_op op_catT (pv 7) (pe_tup (pa_cons (pe_tup (pa_cons (pe_call GO hr2 (by rfl) dO.m dO.F.kp dO.b .nil pass0 (pa_cons (pv 2) (pa_cons (pv 3) pa_nil))) (pa_cons (pe_call GO hr2 (by rfl) dO.m dO.F.kp dO.b .nil pass0 (pa_cons (pv 2) (pa_cons (pv 3) pa_nil)))
            (pa_cons (pe_call GN hr3 (by rfl) dN.m dN.F.kp dN.b .nil pass0 (pa_cons (pv 2) pa_nil)) pa_nil)))) pa_nil))) (pa_cons pe_bl pa_nil)) (by rfl))) pss_nil)
        (pss_one (ps_if (pt_cmpR (op_notInD hu65) (pv 7) (pv 4) (by with_unfolding_all rfl)) (pss_one (ps_expr (pe_bm PySem.F.plainAttrs_list PySem.F.slot_list_append PySem.F.type_list_append mt_append (pv 4) (pa_cons (pv 7) pa_nil)))) pss_nil)))))
      (pss_cons (ps_set (i := 8) scL.nd rfl (Or.inl rfl) (pe_call GC hr (by rfl) dC.m dC.F.kp dC.b .nil pass0 (pa_cons (pv 4) pa_nil)))
      (pss_one (ps_for PassesOwn.never rfl (pi_range1 rfl M.rng (pa_cons pe_int pa_nil)) (pg_name (i := 9) scL.nd rfl (Or.inl rfl))
        (pss_cons (ps_set (i := 10) scL.nd rfl (Or.inl rfl) (pe_callTy (call_dictP rfl) (by rfl) M.dict (by decide +kernel) (pa_cons
          (pe_lc (own := [("_law_name", 12)]) (g := gName 12) (tt := tTest (tOp rNe (tVar 12) (tC (.str "")))) (te := tTup (tCons (tVar 12) (tCons tNumN tNil))) rfl scL.nd (pi_list (pe_revL (pv 3))) (blkOk_by (N := nL) (sc := defScope sLaw) (by decide +kernel))
            (fun _ _ _ _ _ => pg_name (i := 12) scL.nd rfl (Or.inl rfl)) (fun _ _ _ _ _ => pts_one (pt_cmpR op_ne (pv 12) pe_str (nomark _)))
            (fun _ _ _ _ _ => pe_tup (pa_cons (pv 12) (pa_cons (pe_call GN hr3 (by rfl) dN.m dN.F.kp dN.b .nil pass0 (pa_cons (pv 2) pa_nil)) pa_nil)))) pa_nil)))
        (pss_cons (ps_if (pt_cmpR op_eq (pe_call GD hr1 (by rfl) dD.m dD.F.kp dD.b .nil pass0 (pa_cons (pv 2) (pa_cons pe_int pa_nil))) pe_int (nomark _))
          (pss_one (ps_expr (pe_dpop1 (pv 10) (pe_ix ix_list (pv 3) pe_int (fun _ _ => rfl)) ⟨by rfl, by rfl, by rfl, by rfl⟩))) pss_nil)
        (pss_cons (ps_asg (pe_call GN hr3 (by rfl) dN.m dN.F.kp dN.b .nil pass0 (pa_cons (pv 2) pa_nil)) (pg_sub (pv 10) (pe_call GO hr2 (by rfl) dO.m dO.F.kp dO.b .nil pass0 (pa_cons (pv 2) (pa_cons (pe_lst (pa_cons pe_str (pa_cons pe_str (pa_cons pe_str pa_nil)))) pa_nil))) (set_dict hu1)))
        (pss_cons (ps_set (i := 11) scL.nd rfl (Or.inl rfl) (pe_callB (call_showD hgg hu) (by rfl) M.rep (by decide +kernel) (pa_cons (pv 10) pa_nil)))
        (pss_one (ps_if (PW.pt (pw_or (pt_cmpR (op_neD hu) (pe_call GX hr5 (by rfl) dX.m dX.F.kp dX.b .nil pass0 (pa_cons (pv 8) (pa_cons (pv 10) pa_nil))) (pe_call GU hr2 (by rfl) dU.m dU.F.kp dU.b .nil pass0 (pa_cons (pv 4) (pa_cons (pv 10) pa_nil))) (nomark _))
          (pw_or1 (pt_cmpR op_ne (pe_callB (call_showD hgg hu) (by rfl) M.rep (by decide +kernel) (pa_cons (pv 10) pa_nil)) (pv 11) (nomark _))))) (pss_one (ps_ret pe_bl)) pss_nil))))))))))))))
    (pss_one (ps_ret (pe_and (pe_cmpR op_isBl (pe_callOX (C := C) (g := fC) takesN0 (pe_makeZ (k := 6) (E := E0) M.N.A.mkI GI hr7 (by rfl) D.gC pass0) M.Co.co GF hr4 M.Co.b (pa_cons pe_dnewK pa_nil)) pe_bl (nomark _))
      (pe_one (pe_cmpR (op_eqD hu) (pe_call GX hr5 (by rfl) dX.m dX.F.kp dX.b .nil pass0 (pa_cons (StX.pe_makeR (k := 6) (E := E0) M.N.A.mkI GI hr7 (by rfl) D.gC pass0 (pa_cons (pe_tup (pa_cons (pe_tup (pa_cons pe_str (pa_cons pe_str (pa_cons (pe_un un_neg pe_int) pa_nil)))) pa_nil)) pa_nil)) (pa_cons pe_dnewK pa_nil)))
        (pe_tup (pa_cons pe_str (pa_cons pe_bl pa_nil))) (nomark _)))))), ?_⟩
  have hc : ∀ v ∈ cutV (ns.map V.int) none (some 10) ++ [V.int 0], ∃ c, v = V.int c := by
    intro v hv
    rcases List.mem_append.mp hv with h | h
    · obtain ⟨c, _, e⟩ := List.mem_map.mp (cut_mem v h)
      exact ⟨c, e.symm⟩
    · exact ⟨0, by simpa using h⟩
  have hcl : (cutV (ns.map V.int) none (some 10)).length ≤ 63 := Nat.le_trans (cutV_length _ _ _) (by rw [List.length_map]; exact hn)
  refine ⟨_, rfl, _, rfl, a, _, rfl, hS, fun l0 n0 => ?_⟩
  refine ⟨by show 1 ≤ sizeLine; decide, fun l1 n1 => ?_⟩
  have e01 : l0 ≠ l1 := ne_of_none (o := .lst (cutV (ns.map V.int) none (some 10))) upd_same n1
  refine ⟨l0, l1, _, _, rfl, rfl, (by rw [upd_ne e01]; exact upd_same), upd_same, (Nat.le_of_lt (small1000 (by show _ + 1 ≤ 1000; omega))), fun l2 n2 => ?_⟩
  refine ⟨l2, rfl, ⟨_, SqL.of upd_same⟩, ?_⟩
  refine for_list (K := K) (a := l2) (xs := cutV (ns.map V.int) none (some 10) ++ [V.int 0])
    (fun i σ H2 => ∃ o1 o2 o3 o4 o5 o6 o7 o8 o9 o10 o11 : Option V, σ = [some (.ref a), o1, o2, o3, o4, o5, o6, o7, o8, o9, o10, o11, none] ∧ H2 l2 = some (.lst (cutV (ns.map V.int) none (some 10) ++ [V.int 0])))
    ⟨none, none, none, none, none, none, none, none, none, none, none, rfl, upd_same⟩ (fun i σ H2 _ ⟨_, _, _, _, _, _, _, _, _, _, _, _, h2⟩ => SqL.of h2) ?_ ?_
  · rintro i y σ H2 hi ⟨o1, o2, o3, o4, o5, o6, o7, o8, o9, o10, o11, rfl, h2⟩
    obtain ⟨c, rfl⟩ := hc y (List.mem_of_getElem? hi)
    refine ⟨_, rfl, c, rfl, fun wl H3 nw s3 hW => ?_⟩
    have nl2 : l2 ≠ wl := ne_of_none h2 nw
    refine nm_go (i := 2) (x := V.ref wl) ?_
    dsimp only
    refine seq_set ?_
    refine names_go rfl hW (by decide) fun q ts H4 ht gq nq k4 w4 => ?_
    have h24 := k4 l2 _ nl2 (s3 _ _ h2)
    refine seq_par ⟨by show 0 ≤ sizeLine; decide, fun D1 mD => ⟨_, _, rfl, ?_⟩⟩
    refine seq_for ?_
    have wD := w4.same (new_same (o := .lst []) mD)
    have nq : q ≠ wl := by
      obtain ⟨_, _, r3, _, _⟩ := rows_ok ts ht
      exact WellAt.ne w4 gq (strs_ne r3)
    have nD : D1 ≠ wl := fun z => by
      obtain ⟨_, _, _, g, _⟩ := w4
      rw [z, g] at mD
      cases mD
    refine ⟨_, rfl, wl, 5, _, rfl, wD, by omega, by decide, by decide, fun r xs r0 r1 hW1 => ⟨r, rfl, by omega, by omega, ?_⟩⟩
    refine for_range (lo := 0) (n := r.toNat) (fun i σ H6 => ∃ (o6 o7 : Option V) (wide : Bool) (ms : List V) (cs : List (List Lit)), σ = [some (.ref a), some (.int c), some (.ref wl), some (.ref q), some (.ref D1), some (.bl wide), o6, o7, o8, o9, o10, o11, none] ∧ KeepB wl H4 H6 ∧ WellAt H6 wl (2 + 40 * i) ∧
        H6 D1 = some (.lst ms) ∧ Paired (IsC K H6) ms cs ∧ cs.Nodup ∧ cs.length ≤ i ∧ drawn cs ∧ wd cs ≤ (if wide = true then 1 else 0))
      ⟨o6, o7, false, [], [], rfl, (KeepB.of (new_same mD)).trans KeepB.at, hW1.mono (by omega), (by rw [upd_ne nD]; exact upd_same), .nil, List.nodup_nil, Nat.le_refl _, (fun _ z => nomatch z), Nat.le_refl _⟩ ?_ ?_
    · rintro i σ H6 hi ⟨o6, o7, wide, ms, cs, rfl, k6, w6, g6, hms, hnd, hcl, hdr, hwd⟩
      refine nm_go (i := 6) ?_
      dsimp only
      refine turn_go (wide := wide) (q := q) (ts := ts) w6 (by omega) (k6 q _ nq gq) ht fun t v cl H7 k7 w7 hc7 dc hlw => ?_
      obtain ⟨msw, hpw⟩ := w6.lst
      have g7 := k7 D1 _ nD g6
      have hms7 := L2.Paired.mapP hms fun _ _ z => IsC.keep hpw k7 z
      have hml : ms.length = cs.length := Paired.length hms
      refine ⟨_, rfl, _, rfl, clD cl, _, dp_cl hc7, .lst (SqL.of g7) (dp_all (fun _ _ z => dp_cl z) hms7), shaped_cl (fun l hl => ⟨(names_ok _ (dc.2 l hl).1).2.1, (names_ok _ (dc.2 l hl).2).2.1⟩), shaped_list (drawn_ok hdr), _, rfl, ?_⟩
      rw [any_cl]
      have hwd0 : wd cs ≤ (if v = true then 1 else 0) := by
        rcases hlw with ⟨_, e⟩ | ⟨_, _, e⟩
        · rw [e]; exact hwd
        · rw [e, if_pos rfl]
          refine Nat.le_trans hwd ?_
          split <;> omega
      by_cases hin : cl ∈ cs
      · rw [decide_eq_true hin]
        exact iteF ⟨_, _, v, ms, cs, rfl, k6.trans k7, w7.mono (by omega), g7, hms7, hnd, by omega, hdr, hwd0⟩
      · rw [decide_eq_false hin]
        refine iteT ⟨_, rfl, .inl ⟨rfl, ms, SqL.of g7⟩, _, rfl, D1, ms, _, rfl, rfl, g7, small1000 (by omega), ?_⟩
        refine ⟨_, _, v, ms ++ [V.ref t], cs ++ [cl], rfl, (k6.trans k7).upd mD, (w7.upd nD).mono (by omega), upd_same, ?_, nodup_snoc hnd hin, by rw [List.length_append]; show _ + 1 ≤ i + 1; omega, drawn_snoc hdr dc.1 dc.2, ?_⟩
        · exact paired_app (L2.Paired.mapP hms7 fun _ _ z => IsC.lst g7 z) (.cons (IsC.lst g7 hc7) .nil)
        · rw [wd_snoc]
          rcases hlw with ⟨e1, e⟩ | ⟨e1, e2, e⟩
          · rw [if_neg (by omega), Nat.add_zero]
            exact hwd0
          · rw [if_pos e1, e, if_pos rfl]
            rw [e2, if_neg Bool.false_ne_true] at hwd
            omega
    rintro σ H6 ⟨o6, o7, wide, ms, cs, rfl, k6, w6, g6, hms, hnd, hcl, hdr, hwd⟩
    dsimp only
    have h4 : cs.length ≤ 4 := by omega
    have w1 : wd cs ≤ 1 := Nat.le_trans hwd (by split <;> omega)
    obtain ⟨j1, j2⟩ := joins hnd h4 (drawn_stand hdr) w1
    refine seq_set ⟨_, rfl, D1, ms, cs, rfl, SqL.of g6, hms, drawn_short hdr, drawn_ok hdr, by omega, j1, j2, fun r8 dz p8 q8 ys H7 F7 s7 n7 => ?_⟩
    rw [merge_new cs [] (by show cs.Nodup; exact hnd)] at F7
    refine ⟨4, rfl, by decide, by decide, ?_⟩
    have w7 : WellAt H7 wl 300 := (w6.same s7).mono (by omega)
    have kq7 := s7 _ _ (k6 q _ nq gq)
    have gD7 := s7 _ _ g6
    have hms7 := pairedC_same s7 hms
    obtain ⟨msw, hp7⟩ := w7.lst
    have gl7 := s7 _ _ (k6 l2 _ nl2 h24)
    refine for_range (lo := 0) (n := 4) (fun i σ H8 => ∃ (o9 o10 o11 : Option V), σ = [some (.ref a), some (.int c), some (.ref wl), some (.ref q), some (.ref D1), some (.bl wide), o6, o7, some (.ref r8), o9, o10, o11, none] ∧ KeepB wl H7 H8 ∧ WellAt H8 wl (300 + 100 * i))
      ⟨o9, o10, o11, rfl, (fun _ _ _ z => z), w7.mono (by omega)⟩ ?_ ?_
    · rintro i σ H8 hi ⟨o9, o10, o11, rfl, k8, w8⟩
      refine nm_go (i := 9) ?_
      dsimp only
      refine seq_set ?_
      refine dict_go (q := q) (ts := ts) (p := wl) (fun x => rfl) rfl (fun x => rfl) rfl (fun x => rfl) w8 (by omega) (k8 q _ nq kq7) ht fun d kvs H9 k9 w9 nd gd hN hk => ?_
      have nd7 : H7 d = none := by
        cases e : H7 d with
        | none => rfl
        | some u =>
          have ndp : d ≠ wl := WellAt.ne w9 gd fun _ _ _ e => by cases e
          rw [k8 d u ndp e] at nd
          cases nd
      have k79 := k8.trans k9
      refine pop_go (q := q) (ts := ts) (d := d) (kvs := kvs) (p := wl) rfl rfl rfl w9 (by omega) (k79 q _ nq kq7) ht gd hN hk fun kvs2 Ha ka wa ga hNa => ?_
      have k7a := keep2 k79 ka nd7
      refine put_go (d := d) (kvs := kvs2) (p := wl) rfl rfl wa (by omega) ga hNa fun kvs3 Hb kb wb gb hNb => ?_
      have k7b := keep2 k7a kb nd7
      obtain ⟨nsb, e, hns, hnl⟩ := NumD.ns hNb
      have gbD : Hb d = some (.dK (kvD nsb)) := by rw [gb, e]
      refine seq_set ⟨_, rfl, d, nsb, rfl, gbD, dd_showable (fun x hx => (hns x hx).2), dd_fits hns (by omega), dd_depth, ?_⟩
      have Fb := CondF.keep hp7 k7b F7
      have gDb := k7b D1 _ nD gD7
      have hmsb := L2.Paired.mapP hms7 fun _ _ z => IsC.keep hp7 k7b z
      refine ne_ok (d := dueC kvs3 (fOf kvs3) cs) (dueC_ok (drawn_ok hdr)) (fun R k => ?_) (fun Hc sc R k => ?_) fun Hc sc => iteF ?_
      · exact ⟨_, rfl, _, rfl, r8, d, dz, p8, q8, cs, ys, kvs3, fOf kvs3, rfl, Fb, gb, fun t _ ok => NumD.worth hNb ok, k⟩
      · exact ⟨_, rfl, _, rfl, D1, d, ms, cs, kvs3, fOf kvs3, rfl, SqL.of (sc _ _ gDb), pairedC_same sc hmsb, drawn_ok hdr, sc _ _ gb, small1000 (Nat.le_trans hNb.le (by decide)), fun t _ ok => NumD.worth hNb ok, k⟩
      · refine ⟨_, rfl, d, nsb, rfl, sc _ _ gbD, dd_showable (fun x hx => (hns x hx).2), dd_fits hns (by omega), dd_depth, _, rfl, rfl, _, rfl, ?_⟩
        rw [show (!decide (V.str (ddD nsb).shown = V.str (ddD nsb).shown)) = false from by rw [decide_eq_true rfl]; rfl]
        exact iteF ⟨_, _, _, rfl, k7b.trans (KeepB.of sc), (wb.same sc).mono (by omega)⟩
    · rintro σ H8 ⟨o9, o10, o11, rfl, k8, w8⟩
      exact ⟨_, _, _, _, _, _, _, _, _, _, _, rfl, k8 l2 _ nl2 gl7⟩
  · rintro σ H2 ⟨o1, o2, o3, o4, o5, o6, o7, o8, o9, o10, o11, rfl, h2⟩
    unfold tRet tAndV tOp
    dsimp only
    refine makeZ_go (E := E0) fun r dz p q ys H3 F s n => ?_
    refine ⟨r, rfl, fun d md => ?_⟩
    have sd := new_same (o := .dK []) md
    have F' := CondF.same sd F
    refine ⟨.inr ⟨dz, _, F'.ins⟩, r, d, dz, p, q, [], ys, [], fOf [], rfl, F', upd_same, (fun _ z => nomatch z), fun _ H4 s4 => ?_, fun pre t rest e => ?_⟩
    · refine ⟨_, _, rfl, rfl, _, rfl, iteT ?_⟩
      refine lastSaid_go fun v H5 s5 d5 => ⟨by show 2 ≤ sizeLine; decide, fun t mt => ?_⟩
      refine ⟨toldD, toldD, Dp.same (new_same mt) d5, .tup (SqT.of upd_same) (.cons (.str _) (.cons (.bl _) .nil)), told_ok, told_ok, ?_⟩
      rw [told_eq]
    · exact absurd e (by intro z; cases pre <;> cases z)
end
end Kx
namespace Kx
open PySem L2 PySem.Spec PyProof.Rows
/-! the law's own call, by a caller around whom nothing is being shown -/
section
variable {P : Program} {w : World} {K : PySem.W.Frag} {mg mb : Str → Option Value} {fa a : Addr} {s : Shared} {vs : List Value} {ns : List Int}
abbrev oScript (vs : List Value) : Obj := { cls := .type "list", data := .seq vs.toArray }
/-- what may be tracked at the entry: the script, and nothing else -/
structure Entry (K : PySem.W.Frag) (H : Hp) (a : Addr) (vs : List Value) (ns : List Int) : Prop where
  only : ∀ b u, H b = some u → b = a ∧ u = .frz (oScript vs) (.lst (ns.map V.int)) ∧ K.lookup a = none
  seq : SqL K H a (ns.map V.int)
theorem entry_run {oc kV doc pm cdv ct : Value} {od an : Option Addr} {osl : Array (Option Value)} {H : Hp} (En : Entry K H a vs ns)
    (KX : K.In s.heap) (hns : s.heap.Ns mainGlobals mg) (hb : s.heap.Ns builtinsNs mb) (hbb : ∀ x : Str, x ≠ "__name__" → mb x = bootBuiltins x) (hlim : s.heap.NoLimit) (hg : s.gens = #[])
    (ha : s.heap.get? a = some (oScript vs)) (hi : IntsAre vs ns) (hl : ns.length ≤ 63)
    (lk : K.lookup fa = some ⟨oc, od, .func (PySem.W.fnOf "law" "law" (defArgs sLaw) (defBody sLaw) (defScope sLaw) .none kV doc pm an cdv ct), osl⟩) (hcd : PySem.W.codeIn K cdv "law" = true)
    (body : ∀ (base : Heap), K.In base → base.Ns mainGlobals mg → ∃ t, PSs (cxOf CX0 P w K mg base nL "law" (defScope sLaw) fa cdv callerA [] s H E0).nox (defBody sLaw) t ∧ t { nx := fun _ _ => V.non = V.bl true, rt := fun v _ => v = V.bl true } (start nL [.ref a]) H) :
    codeAny (model P w) callerA (.call (.ref fa) ⟨[.ref a], []⟩) (fun r s' => r = .ok (.ret (.bool true)) ∧ OldK s.heap s'.heap ∧ s'.os = s.os ∧ AllBare s'.gens) s := by
  have rv := vals_ints hi
  have free : ∀ {b : Addr} {o : Obj}, s.heap.get? b = some o → (b = a → o ≠ oScript vs) → H b = none := fun {b o} e d => by
    cases q : H b with
    | none => rfl
    | some u =>
      obtain ⟨rfl, _, _⟩ := En.only b u q
      rw [ha] at e
      exact absurd (Option.some.inj e).symm (d rfl)
  have freeD : ∀ {b : Addr} {o : Obj} {es : Array DictEntry} {ep : Nat}, s.heap.get? b = some o → o.data = .dict es ep → H b = none := fun {b o es ep} e d =>
    free e fun _ z => by
      rw [z] at d
      cases d
  have nsB : ∀ {b : Addr} {m : Str → Option Value}, s.heap.Ns b m → (hidT s.heap H).Ns b m := fun {b m} ⟨o, es, ep, e, d, r⟩ => ⟨o, es, ep, hidT_get e (freeD e d), d, r⟩
  have KB : K.In (hidT s.heap H) := fun b o e => hidT_get (KX b o e) (by
    cases q : H b with
    | none => rfl
    | some u =>
      obtain ⟨rfl, _, n⟩ := En.only b u q
      rw [n] at e
      cases e)
  have M : Mod K mg (hidT s.heap H) := ⟨KB, nsB hns, ⟨mb, nsB hb, hbb⟩, let ⟨mc, h1, h2⟩ := hlim; ⟨mc, nsB h1, h2⟩⟩
  have ok : HOk P w H s.heap := fun b u q => by
    obtain ⟨rfl, rfl, _⟩ := En.only b u q
    exact ⟨ha, by rw [List.length_map]; exact Nat.le_of_lt (small1000 (by omega)), vs, _, rv, ha⟩
  have e0 : Env0 P w K mg (hidT s.heap H) callerA [] s H := ⟨rfl, M, fun b o e => of_hidT e, Nat.le_of_eq (hidT_size _ _), trivial, fun b hb => absurd (show b ∈ ([] : List Addr) from hb) (by simp), ok, .of_eq hg⟩
  have F : FnScope nL ["_law_script"] (defScope sLaw) := scL
  have bd : BindsTo s (PySem.W.fnOf "law" "law" (defArgs sLaw) (defBody sLaw) (defScope sLaw) .none kV doc pm an cdv ct) ⟨[.ref a], []⟩ [("_law_script", .ref a)] := .of_eq rfl
  refine codeAny_call_function (by decide) (KX _ _ lk) rfl F.co F.gen rfl (PySem.W.codeRec_of KX hcd) (bd _ _ _ _ ?_)
  refine wpAny_newFunctionEnv_cells F.kind (fun y hy => ?_) fun env he s1 x => ?_
  · rw [List.mem_singleton.mp hy]
    exact .inl (by rfl)
  · subst he
    refine ⟨hlim.keeps x.toInCall.keep, codeAny_func ?_⟩
    obtain ⟨t, ht, hq⟩ := body _ KB (nsB hns)
    have I := inv_start (CX := CX0) (E := E0) (us := [.ref a]) (vs := [.ref a]) F (show callerA.handled = none from rfl) e0 rfl (.cons rfl .nil) x
    refine wpAny_mono (ht.run [] s1 _ H _ (I.wish _) hq) (fun fl s' hs => ?_) fun e s' hs => False.elim hs
    · cases fl with
      | ret u =>
        obtain ⟨v, σ', H', J, r, q⟩ := hs
        have q' : v = .bl true := q
        subst q'
        obtain rfl : u = Value.bool true := r
        refine ⟨rfl, OldK.of_keep fun b o e => ?_, J.os, J.bare⟩
        cases z : H b with
        | none => exact J.base.keep b o e z (fun y => absurd (show b ∈ ([] : List Addr) from y) (by simp)) (fun y => absurd (show b ∈ ([] : List Addr) from y) (by simp))
        | some u =>
          obtain ⟨rfl, rfl, _⟩ := En.only b u z
          obtain ⟨e2, _⟩ := J.hok b _ (J.base.frzs b _ _ z)
          rw [ha] at e
          cases e
          exact e2
      | next =>
        obtain ⟨_, _, _, q⟩ := hs
        cases (show V.non = V.bl true from q)
      | brk =>
        obtain ⟨_, _, _, q⟩ := hs
        exact False.elim q
      | cont =>
        obtain ⟨_, _, _, q⟩ := hs
        exact False.elim q
end
end Kx
namespace Kx
open PySem L2 PySem.Spec PyProof.Rows
/-! what the top has left, and the law's head -/
structure Law (K : PySem.W.Frag) (mg : Str → Option Value) (fa : Addr) : Prop where
  ex : ∃ (B CB fB CN fN C fI fA fC gH gW : Addr) (fdB fdN fdI fdA fdC fdH fdW : FuncData), LawOf K mg B CB fB CN fN C fI fA fC gH gW fdB fdN fdI fdA fdC fdH fdW
  fn : ∃ (oc kV doc pm cdv ct : Value) (od an : Option Addr) (osl : Array (Option Value)), K.lookup fa = some ⟨oc, od, .func (PySem.W.fnOf "law" "law" (defArgs sLaw) (defBody sLaw) (defScope sLaw) .none kV doc pm an cdv ct), osl⟩ ∧ PySem.W.codeIn K cdv "law" = true
theorem walk {l : PySem.W.OpenLaw} {q : Program} {loose : List Str} {XP : (Str → Option Value) → Heap → Prop} {YP : World → Heap → Prop} {d : DefRec} {K : Params → PySem.W.Frag} (hn : l.most = some 63) (hdf : d.params.defaults = [])
    (hY : ∀ (w : World) (h : Heap), YP w h → (K w.params).In h)
    (F : ∀ (w : World) (mg : Str → Option Value) (fa : Addr) (h : Heap), (K w.params).In h → h.Ns mainGlobals mg → mg d.name = some (.ref fa) → Law (K w.params) mg fa) :
    PySem.W.WalkO q loose XP YP l.row.toRowW d [] (fun f vs => PySem.call f vs) := by
  refine Att.attach_call hn hdf fun w s₀ s₁ mg mb fa o pm cd doc a vs ns G Y ho hd hcd hmg hobj hints hlen hg => ?_
  have KX := hY w _ Y
  obtain ⟨⟨B, CB, fB, CN, fN, C, fI, fA, fC, gH, gW, fdB, fdN, fdI, fdA, fdC, fdH, fdW, M⟩, ⟨oc, kV, dc, pm', cdv, ct, od, an, osl, lk, hc⟩⟩ := F w mg fa _ KX G.T.g hmg
  have go : ∀ H, Entry (K w.params) H a vs ns → _ := fun H En => entry_run (P := l.prog) (w := w) En KX G.T.g G.T.b G.T.builtins G.T.nolimit hg hobj hints hlen lk hc fun base _ _ =>
    law_body (P := l.prog) (w := w) (base := base) M fa cdv callerA rfl [] s₁ H E0 (Room.deeper (k := 9) (A := callerA) ⟨rfl, by decide, by decide⟩ _) En.seq hlen
  cases hk : (K w.params).lookup a with
  | some ob =>
    have e := KX a ob hk
    rw [hobj] at e
    cases e
    exact go (fun _ => none) ⟨fun b u z => (by cases (show (none : Option HO) = some u from z)), .inr ⟨_, vs.toArray, _, hk, rfl, rfl, rfl, by rw [List.size_toArray, hints.length]; exact Nat.le_of_lt (small1000 (by omega)), by simpa using vals_ints hints⟩⟩
  | none =>
    refine go (fun b => if b = a then some (.frz (oScript vs) (.lst (ns.map V.int))) else none) ⟨fun b u z => ?_, .inl (.inr ⟨oScript vs, if_pos rfl⟩)⟩
    by_cases hb : b = a
    · have z' := (if_pos hb).symm.trans z
      exact ⟨hb, (Option.some.inj z').symm, hk⟩
    · have z' := (if_neg hb).symm.trans z
      cases z'
end Kx
namespace Kx
open PySem L2 PySem.Spec PyProof.Rows
section
variable {K : PySem.W.Frag} {mg : Str → Option Value} {h : Heap} {B C : Addr}
theorem ct_mk {nm q : Str} {N : Addr} {bs : List Value} {sn : List Str} {sub : List Value} {ab : Bool} {col : Option Bool} {dd : Option Addr} {k0 k1 k2 k3 k5 : Option Value}
    (x : K.lookup C = some (excClassObj nm q C N bs (.ref B :: veL) true sn sub ab col dd k0 k1 k2 k3 k5 "ValueError.__new__")) (sa : PySem.W.findIn K (.ref C) "__setattr__" = some (some (.builtin "object.__setattr__")))
    (ga : PySem.W.findIn K (.ref C) "__getattribute__" = some (some (.builtin "BaseException.__getattribute__"))) (gg : PySem.W.findIn K (.ref C) "__getattr__" = some none) (tyC : PySem.W.typeIn K (.ref C) = some (.type "type")) (kC : PySem.W.keepIn K (.ref C) = true)
    (hdC : PySem.W.hasDictIn K C = true) (ha : PySem.W.findIn K (.ref C) "__class__" = some (some (.builtin "object.__class__"))) : Ct K B C := ⟨⟨nm, q, N, bs, sn, sub, ab, col, dd, k0, k1, k2, k3, k5, x⟩, sa, ga, gg, tyC, kC, hdC, ha⟩
theorem def_mk {x : Str} {st : Stmt} {ps : List Str} {f : Addr} {oc : Value} {od an : Option Addr} {osl : Array (Option Value)} {kV doc pm cdv ct : Value} (X : K.In h) (G : h.Ns mainGlobals mg) (m : PySem.W.nsIn K mainGlobals x = some (some (.ref f)))
    (l : K.lookup f = some ⟨oc, od, .func (PySem.W.fnOf x x (defArgs st) (defBody st) (defScope st) .none kV doc pm an cdv ct), osl⟩) (c : PySem.W.codeIn K cdv x = true) (k : PySem.W.keepIn K (.ref f) = true)
    (b : ∀ (kV doc pm : Value) (an : Option Addr) (cdv ct : Value) (us : List Value), us.length = ps.length → bindArgs (PySem.W.fnOf x x (defArgs st) (defBody st) (defScope st) .none kV doc pm an cdv ct) ⟨us, []⟩ = pure (ps.zip us)) :
    ∃ f fd, Fs K mg x st ps f fd := ⟨f, _, fun_mk l c k, (fun_mk (st := st) l c k).binds b, PySem.W.mg_of X G m⟩
theorem bad_mk {CB f : Addr} {oc : Value} {od an : Option Addr} {osl : Array (Option Value)} {kV doc pm cdv ct : Value} (T : Ct K B CB) (iC : PySem.W.findIn K (.ref CB) "__init__" = some (some (.ref f))) (tI : PySem.W.typeIn K (.ref f) = some (.type "function"))
    (l : K.lookup f = some ⟨oc, od, .func (PySem.W.fnOf "__init__" "BadCond.__init__" (defArgs (inClass (top 3) 0)) (defBody (inClass (top 3) 0)) (defScope (inClass (top 3) 0)) .none kV doc pm an cdv ct), osl⟩) (c : PySem.W.codeIn K cdv "BadCond.__init__" = true) (k : PySem.W.keepIn K (.ref f) = true)
    (no : ∀ x ∈ ([("clause" : Str)] : List Str), PySem.W.findIn K (.ref CB) x = some none) (gm : mg "BadCond" = some (.ref CB)) : ∃ fd, Bad K mg B CB f fd :=
  ⟨_, T, no, iC, tI, fun_mk l c k, (fun_mk (st := inClass (top 3) 0) l c k).binds (fun _ _ _ _ _ _ us hl => match us, hl with | [_, _], _ => rfl), gm⟩
theorem nov_mk {CB f : Addr} {oc : Value} {od an : Option Addr} {osl : Array (Option Value)} {kV doc pm cdv ct : Value} (T : Ct K B CB) (iC : PySem.W.findIn K (.ref CB) "__init__" = some (some (.ref f))) (tI : PySem.W.typeIn K (.ref f) = some (.type "function"))
    (l : K.lookup f = some ⟨oc, od, .func (PySem.W.fnOf "__init__" "NoValue.__init__" (defArgs (inClass (top 4) 0)) (defBody (inClass (top 4) 0)) (defScope (inClass (top 4) 0)) .none kV doc pm an cdv ct), osl⟩) (c : PySem.W.codeIn K cdv "NoValue.__init__" = true) (k : PySem.W.keepIn K (.ref f) = true)
    (no : ∀ x ∈ ([("term" : Str)] : List Str), PySem.W.findIn K (.ref CB) x = some none) (gm : mg "NoValue" = some (.ref CB)) : ∃ fd, NoV K mg B CB f fd :=
  ⟨_, T, no, iC, tI, fun_mk l c k, (fun_mk (st := inClass (top 4) 0) l c k).binds (fun _ _ _ _ _ _ us hl => match us, hl with | [_, _], _ => rfl), gm⟩
theorem and_mk {f : Addr} {oc : Value} {od an : Option Addr} {osl : Array (Option Value)} {kV doc pm cdv ct : Value} (l : K.lookup f = some ⟨oc, od, .func (PySem.W.fnOf "__and__" "Cond.__and__" (defArgs sAnd) (defBody sAnd) (defScope sAnd) .none kV doc pm an cdv ct), osl⟩) (c : PySem.W.codeIn K cdv "Cond.__and__" = true) (k : PySem.W.keepIn K (.ref f) = true) :
    ∃ fd, Fun K "__and__" "Cond.__and__" sAnd f fd ∧ Binds K fd ["self", "other"] [] := ⟨_, fun_mk l c k, (fun_mk (st := sAnd) l c k).binds (fun _ _ _ _ _ _ us hl => match us, hl with | [_, _], _ => rfl)⟩
theorem call_mk {f : Addr} {oc : Value} {od an : Option Addr} {osl : Array (Option Value)} {kV doc pm cdv ct : Value} (l : K.lookup f = some ⟨oc, od, .func (PySem.W.fnOf "__call__" "Cond.__call__" (defArgs sCall) (defBody sCall) (defScope sCall) .none kV doc pm an cdv ct), osl⟩) (c : PySem.W.codeIn K cdv "Cond.__call__" = true) (k : PySem.W.keepIn K (.ref f) = true) :
    ∃ fd, Fun K "__call__" "Cond.__call__" sCall f fd ∧ Binds K fd ["self", "values"] [] := ⟨_, fun_mk l c k, (fun_mk (st := sCall) l c k).binds (fun _ _ _ _ _ _ us hl => match us, hl with | [_, _], _ => rfl)⟩
theorem init_mk {f : Addr} {oc : Value} {od an : Option Addr} {osl : Array (Option Value)} {kV doc pm cdv ct : Value} (l : K.lookup f = some ⟨oc, od, .func (PySem.W.fnOf "__init__" "Cond.__init__" (defArgs sInit) (defBody sInit) (defScope sInit) .none kV doc pm an cdv ct), osl⟩) (c : PySem.W.codeIn K cdv "Cond.__init__" = true) (k : PySem.W.keepIn K (.ref f) = true) :
    ∃ fd, Fun K "__init__" "Cond.__init__" sInit f fd := ⟨_, fun_mk l c k⟩
end
theorem all_mk {K : PySem.W.Frag} {mg : Str → Option Value} {h : Heap} {B CB fB C fI fa fl fA CN fN fC : Addr} {t1 t2 t3 t4 : Tok} {oc kV doc pm cdv ct : Value} {od an0 : Option Addr} {osl : Array (Option Value)} (X : K.In h) (G : h.Ns mainGlobals mg)
    (mC : PySem.W.nsIn K mainGlobals "Cond" = some (some (.ref C))) (mCB : PySem.W.nsIn K mainGlobals "BadCond" = some (some (.ref CB))) (mCN : PySem.W.nsIn K mainGlobals "NoValue" = some (some (.ref CN))) (mB : PySem.W.nsIn K mainGlobals "ContractError" = some (some (.ref B))) (mLet : PySem.W.nsIn K mainGlobals "LETTERS" = some (some (.str lets t1))) (mLong : PySem.W.nsIn K mainGlobals "LONGEST_WORD" = some (some (.int 8 t2))) (mML : PySem.W.nsIn K mainGlobals "MOST_LITERALS" = some (some (.int 2 t3))) (mMC : PySem.W.nsIn K mainGlobals "MOST_CLAUSES" = some (some (.int 4 t4))) (z_isinstance : PySem.W.nsIn K mainGlobals "isinstance" = some none) (z_int : PySem.W.nsIn K mainGlobals "int" = some none) (z_bool : PySem.W.nsIn K mainGlobals "bool" = some none) (z_str : PySem.W.nsIn K mainGlobals "str" = some none) (z_tuple : PySem.W.nsIn K mainGlobals "tuple" = some none) (z_len : PySem.W.nsIn K mainGlobals "len" = some none) (z_all : PySem.W.nsIn K mainGlobals "all" = some none) (z_sorted : PySem.W.nsIn K mainGlobals "sorted" = some none) (z_enumerate : PySem.W.nsIn K mainGlobals "enumerate" = some none) (z_range : PySem.W.nsIn K mainGlobals "range" = some none) (z_any : PySem.W.nsIn K mainGlobals "any" = some none) (z_dict : PySem.W.nsIn K mainGlobals "dict" = some none) (z_repr : PySem.W.nsIn K mainGlobals "repr" = some none) (c1 : PySem.W.plainGet K C Str.empty = true) (c2 : PySem.W.hasDictIn K C = true) (c3 : PySem.W.plainOver K C = true) (c4 : PySem.W.findIn K (.ref C) "__setattr__" = some (some (.builtin "object.__setattr__"))) (nc : PySem.W.findIn K (.ref C) "clauses" = some none) (nt : PySem.W.findIn K (.ref C) "terms" = some none) (k1 : PySem.W.makesIn K C = true) (k2 : PySem.W.findIn K (.ref C) "__init__" = some (some (.ref fI))) (k3 : PySem.W.isFn K (.ref fI) = true) (k4 : PySem.W.keepIn K (.ref C) = true) (y1 : PySem.W.findIn K (.ref C) "__class__" = some (some (.builtin "object.__class__"))) (y2 : PySem.W.specialIn K (.builtin "object.__class__") "__get__" = some (some (.builtin "getset_descriptor.__get__"))) (y3 : PySem.W.takesIn K (.builtin "object.__class__") = some true) (y4 : PySem.W.mroIn K C (.type "object") = some true) (s1 : PySem.W.selfFirst K C = true) (s2 : PySem.W.findIn K (.ref C) (PySem.dunder (Operator.info .BitAnd).2) = some (some (.ref fA))) (s3 : PySem.W.isFn K (.ref fA) = true) (q1 : PySem.W.findIn K (.ref C) "__call__" = some (some (.ref fC))) (q2 : PySem.W.isFn K (.ref fC) = true) (q3 : PySem.W.fnIn K fC = true) (g3 : PySem.W.isClsIn K B = true) (g4 : PySem.W.typeIn K (.ref B) = some (.type "type")) (g5 : PySem.W.subIn K (.ref B) (.type "BaseException") = some true) (g6 : PySem.W.hasDictIn K B = true)
    (bad : mg "BadCond" = some (.ref CB) → ∃ fd, Bad K mg B CB fB fd) (nov : mg "NoValue" = some (.ref CN) → ∃ fd, NoV K mg B CN fN fd) (ini : ∃ fd, Fun K "__init__" "Cond.__init__" sInit fI fd) (an : ∃ fd, Fun K "__and__" "Cond.__and__" sAnd fA fd ∧ Binds K fd ["self", "other"] []) (cal : ∃ fd, Fun K "__call__" "Cond.__call__" sCall fC fd ∧ Binds K fd ["self", "values"] []) (d_int : ∃ f fd, Fs K mg "is_integer" sIsInt ["thing"] f fd) (d_word : ∃ f fd, Fs K mg "is_word" sIsWord ["thing"] f fd) (d_term : ∃ f fd, Fs K mg "is_term" sIsTerm ["thing"] f fd) (d_lit : ∃ f fd, Fs K mg "is_literal" sIsLit ["thing"] f fd) (d_litT : ∃ f fd, Fs K mg "is_literal_over_terms" sLitT ["thing"] f fd) (d_cl : ∃ f fd, Fs K mg "is_clause" sIsCl ["thing", "most"] f fd) (d_stand : ∃ f fd, Fs K mg "_can_stand" sStand ["thing"] f fd) (d_first : ∃ f fd, Fs K mg "_first_wrong" sFirst ["clauses"] f fd) (d_holds : ∃ f fd, Fs K mg "_holds" sHolds ["clause", "values"] f fd) (d_worth : ∃ f fd, Fs K mg "_worth" sWorth ["term", "values"] f fd) (d_broken : ∃ f fd, Fs K mg "first_broken" sBroken ["clauses", "values"] f fd) (d_well : ∃ f fd, Fs K mg "_law_well" sWell ["_law_cell"] f fd) (d_draw : ∃ f fd, Fs K mg "_law_draw" sDraw ["_law_well_here", "_law_base"] f fd) (d_one : ∃ f fd, Fs K mg "_law_one" sOne ["_law_well_here", "_law_some"] f fd) (d_num : ∃ f fd, Fs K mg "_law_number" sNum ["_law_well_here"] f fd) (d_cond : ∃ f fd, Fs K mg "_law_cond" sCond2 ["_law_clauses"] f fd) (d_due : ∃ f fd, Fs K mg "_law_due" sDue2 ["_law_clauses", "_law_numbers"] f fd) (d_said : ∃ f fd, Fs K mg "_law_said" sSaid2 ["_law_cond_here", "_law_numbers"] f fd)
    (hfa : mg "law" = some (.ref fa)) (mL : PySem.W.nsIn K mainGlobals "law" = some (some (.ref fl))) (lL : K.lookup fl = some ⟨oc, od, .func (PySem.W.fnOf "law" "law" (defArgs sLaw) (defBody sLaw) (defScope sLaw) .none kV doc pm an0 cdv ct), osl⟩) (cL : PySem.W.codeIn K cdv "law" = true) : Law K mg fa := by
  have e := hfa.symm.trans (PySem.W.mg_of X G mL)
  cases e
  obtain ⟨fdB, bad⟩ := bad (PySem.W.mg_of X G mCB)
  obtain ⟨fdI, ini⟩ := ini
  have kt : PySem.W.kitOne K (.ref C) (.ref C) = some true := by
    unfold PySem.W.kitOne
    rw [if_pos (beq_self_eq_true _)]
  have cl : Cls K C := ⟨c1, c2, c3, c4⟩
  have T : Bx mg := ⟨PySem.W.mg_none_of X G z_isinstance, PySem.W.mg_none_of X G z_int, PySem.W.mg_none_of X G z_bool, PySem.W.mg_none_of X G z_str, PySem.W.mg_none_of X G z_tuple, PySem.W.mg_none_of X G z_len, PySem.W.mg_none_of X G z_all, PySem.W.mg_none_of X G z_sorted, PySem.W.mg_none_of X G z_enumerate, ⟨_, PySem.W.mg_of X G mLet⟩, ⟨_, PySem.W.mg_of X G mLong⟩⟩
  have M : Forms K mg := ⟨T, ⟨_, PySem.W.mg_of X G mML⟩, ⟨_, PySem.W.mg_of X G mMC⟩, d_int, d_word, d_term, d_lit, d_cl, d_stand, d_litT⟩
  have D : Cnd K mg C := ⟨cl, nc, nt, PySem.W.mg_of X G mC, d_first, M⟩
  have A : CondAll K mg B CB fB C fI fdB fdI := ⟨D, bad, ini, ⟨k1, k2, k3, k4⟩, fun H a dx fs e => .base (.ins e cl y1 y2 y3 y4), kt⟩
  have gt : Gt K B := ⟨y2, y3, by unfold PySem.W.isClsIn at g3; exact g3, g4, g5, g6⟩
  obtain ⟨fdA, an1, an2⟩ := an
  have N : AndOf K mg B CB fB C fI fA fdB fdI fdA := ⟨A, an1, an2, s1, s2, s3, gt, PySem.W.mg_of X G mB⟩
  obtain ⟨fdN, nov⟩ := nov (PySem.W.mg_of X G mCN)
  obtain ⟨fdC, cal1, cal2⟩ := cal
  obtain ⟨gH, fdH, dH⟩ := d_holds
  obtain ⟨gW, fdW, dWo⟩ := d_worth
  have Co : CallOf K mg B CN fN C fC gH gW fdN fdC fdH fdW := ⟨cal1, cal2, cl, nc, nov, dH, dWo, PySem.W.mg_none_of X G z_any, PySem.W.mg_none_of X G z_enumerate, d_broken, PySem.W.mg_none_of X G z_isinstance, ⟨q1, q2, q3⟩, gt, PySem.W.mg_of X G mB⟩
  exact ⟨⟨B, CB, fB, CN, fN, C, fI, fA, fC, gH, gW, fdB, fdN, fdI, fdA, fdC, fdH, fdW, N, Co, ⟨⟨PySem.W.mg_none_of X G z_int, PySem.W.mg_none_of X G z_len⟩, d_well, d_draw, d_one⟩, PySem.W.mg_none_of X G z_range, PySem.W.mg_none_of X G z_dict, PySem.W.mg_none_of X G z_repr, d_num, d_cond, d_due, d_said⟩, ⟨oc, kV, doc, pm, cdv, ct, od, an0, osl, lL, cL⟩⟩
end Kx
open PySem PySem.W PyProof.Rows
set_option maxRecDepth 100000 in
set_option maxHeartbeats 0 in
theorem PySem.Challenge.cw_contractheirs_k02_conditions_asked_holds : PySem.Challenge.rw_contractheirs_k02_conditions_asked.Holds := by
  w_on; o_law; k_head; (case hw => w_witness2)
  k_fill
  refine Kx.walk (l := PySem.Challenge.rw_contractheirs_k02_conditions_asked) rfl rfl (fun w h Y => PySem.W.kIn_of Y) ?F
  case F =>
    intro w mg fa h KX G hmg
    refine' Kx.all_mk KX G ?u_mC ?u_mCB ?u_mCN ?u_mB ?u_mLet ?u_mLong ?u_mML ?u_mMC ?u_z_isinstance ?u_z_int ?u_z_bool ?u_z_str ?u_z_tuple ?u_z_len ?u_z_all ?u_z_sorted ?u_z_enumerate ?u_z_range ?u_z_any ?u_z_dict ?u_z_repr ?u_c1 ?u_c2 ?u_c3 ?u_c4 ?u_nc ?u_nt ?u_k1 ?u_k2 ?u_k3 ?u_k4 ?u_y1 ?u_y2 ?u_y3 ?u_y4 ?u_s1 ?u_s2 ?u_s3 ?u_q1 ?u_q2 ?u_q3 ?u_g3 ?u_g4 ?u_g5 ?u_g6 (fun gm => Kx.bad_mk (Kx.ct_mk ?ux ?ua ?ub ?uc ?ue ?uf ?ug ?uh) ?ui ?uj ?uk ?ul ?um ?uo gm) (fun gm => Kx.nov_mk (Kx.ct_mk ?nx ?na ?nb ?nc ?ne ?nf ?ng ?nh) ?ni ?nj ?nk ?nl ?nm ?no gm) (Kx.init_mk ?vii ?vij ?vik) (Kx.and_mk ?vai ?vaj ?vak) (Kx.call_mk ?vci ?vcj ?vck) (Kx.def_mk KX G ?uda0 ?udb0 ?udc0 ?udd0 (fun _ _ _ _ _ _ us hl => match us, hl with | [_], _ => rfl)) (Kx.def_mk KX G ?uda1 ?udb1 ?udc1 ?udd1 (fun _ _ _ _ _ _ us hl => match us, hl with | [_], _ => rfl)) (Kx.def_mk KX G ?uda2 ?udb2 ?udc2 ?udd2 (fun _ _ _ _ _ _ us hl => match us, hl with | [_], _ => rfl)) (Kx.def_mk KX G ?uda3 ?udb3 ?udc3 ?udd3 (fun _ _ _ _ _ _ us hl => match us, hl with | [_], _ => rfl)) (Kx.def_mk KX G ?uda4 ?udb4 ?udc4 ?udd4 (fun _ _ _ _ _ _ us hl => match us, hl with | [_], _ => rfl)) (Kx.def_mk KX G ?uda5 ?udb5 ?udc5 ?udd5 (fun _ _ _ _ _ _ us hl => match us, hl with | [_, _], _ => rfl)) (Kx.def_mk KX G ?uda6 ?udb6 ?udc6 ?udd6 (fun _ _ _ _ _ _ us hl => match us, hl with | [_], _ => rfl)) (Kx.def_mk KX G ?uda7 ?udb7 ?udc7 ?udd7 (fun _ _ _ _ _ _ us hl => match us, hl with | [_], _ => rfl)) (Kx.def_mk KX G ?uda8 ?udb8 ?udc8 ?udd8 (fun _ _ _ _ _ _ us hl => match us, hl with | [_, _], _ => rfl)) (Kx.def_mk KX G ?uda9 ?udb9 ?udc9 ?udd9 (fun _ _ _ _ _ _ us hl => match us, hl with | [_, _], _ => rfl)) (Kx.def_mk KX G ?uda10 ?udb10 ?udc10 ?udd10 (fun _ _ _ _ _ _ us hl => match us, hl with | [_, _], _ => rfl)) (Kx.def_mk KX G ?uda11 ?udb11 ?udc11 ?udd11 (fun _ _ _ _ _ _ us hl => match us, hl with | [_], _ => rfl)) (Kx.def_mk KX G ?uda12 ?udb12 ?udc12 ?udd12 (fun _ _ _ _ _ _ us hl => match us, hl with | [_, _], _ => rfl)) (Kx.def_mk KX G ?uda13 ?udb13 ?udc13 ?udd13 (fun _ _ _ _ _ _ us hl => match us, hl with | [_, _], _ => rfl)) (Kx.def_mk KX G ?uda14 ?udb14 ?udc14 ?udd14 (fun _ _ _ _ _ _ us hl => match us, hl with | [_], _ => rfl)) (Kx.def_mk KX G ?uda15 ?udb15 ?udc15 ?udd15 (fun _ _ _ _ _ _ us hl => match us, hl with | [_], _ => rfl)) (Kx.def_mk KX G ?uda16 ?udb16 ?udc16 ?udd16 (fun _ _ _ _ _ _ us hl => match us, hl with | [_, _], _ => rfl)) (Kx.def_mk KX G ?uda17 ?udb17 ?udc17 ?udd17 (fun _ _ _ _ _ _ us hl => match us, hl with | [_, _], _ => rfl)) hmg ?umL ?ulL ?ucL
    (case u_mC => k_is)
    (case u_mCB => k_is)
    (case u_mCN => k_is)
    (case u_mB => k_is)
    (case u_mLet => k_is)
    (case u_mLong => k_is)
    (case u_mML => k_is)
    (case u_mMC => k_is)
    (case u_z_isinstance => k_is)
    (case u_z_int => k_is)
    (case u_z_bool => k_is)
    (case u_z_str => k_is)
    (case u_z_tuple => k_is)
    (case u_z_len => k_is)
    (case u_z_all => k_is)
    (case u_z_sorted => k_is)
    (case u_z_enumerate => k_is)
    (case u_z_range => k_is)
    (case u_z_any => k_is)
    (case u_z_dict => k_is)
    (case u_z_repr => k_is)
    (case u_c1 => k_is)
    (case u_c2 => k_is)
    (case u_c3 => k_is)
    (case u_c4 => k_is)
    (case u_nc => k_is)
    (case u_nt => k_is)
    (case u_k1 => k_is)
    (case u_k2 => k_is)
    (case u_k3 => k_is)
    (case u_k4 => k_is)
    (case u_y1 => k_is)
    (case u_y2 => k_is)
    (case u_y3 => k_is)
    (case u_y4 => k_is)
    (case u_s1 => k_is)
    (case u_s2 => k_is)
    (case u_s3 => k_is)
    (case u_q1 => k_is)
    (case u_q2 => k_is)
    (case u_q3 => k_is)
    (case u_g3 => k_is)
    (case u_g4 => k_is)
    (case u_g5 => k_is)
    (case u_g6 => k_is)
    (case ux => k_is)
    (case ua => k_is)
    (case ub => k_is)
    (case uc => k_is)
    (case ue => k_is)
    (case uf => k_is)
    (case ug => k_is)
    (case uh => k_is)
    (case ui => k_is)
    (case uj => k_is)
    (case uk => k_is)
    (case ul => k_is)
    (case um => k_is)
    (case uo => (intro x hx; cases List.mem_singleton.mp hx; k_is))
    (case nx => k_is)
    (case na => k_is)
    (case nb => k_is)
    (case nc => k_is)
    (case ne => k_is)
    (case nf => k_is)
    (case ng => k_is)
    (case nh => k_is)
    (case ni => k_is)
    (case nj => k_is)
    (case nk => k_is)
    (case nl => k_is)
    (case nm => k_is)
    (case no => (intro x hx; cases List.mem_singleton.mp hx; k_is))
    (case vii => k_is)
    (case vij => k_is)
    (case vik => k_is)
    (case vai => k_is)
    (case vaj => k_is)
    (case vak => k_is)
    (case vci => k_is)
    (case vcj => k_is)
    (case vck => k_is)
    (case uda0 => k_is)
    (case udb0 => k_is)
    (case udc0 => k_is)
    (case udd0 => k_is)
    (case uda1 => k_is)
    (case udb1 => k_is)
    (case udc1 => k_is)
    (case udd1 => k_is)
    (case uda2 => k_is)
    (case udb2 => k_is)
    (case udc2 => k_is)
    (case udd2 => k_is)
    (case uda3 => k_is)
    (case udb3 => k_is)
    (case udc3 => k_is)
    (case udd3 => k_is)
    (case uda4 => k_is)
    (case udb4 => k_is)
    (case udc4 => k_is)
    (case udd4 => k_is)
    (case uda5 => k_is)
    (case udb5 => k_is)
    (case udc5 => k_is)
    (case udd5 => k_is)
    (case uda6 => k_is)
    (case udb6 => k_is)
    (case udc6 => k_is)
    (case udd6 => k_is)
    (case uda7 => k_is)
    (case udb7 => k_is)
    (case udc7 => k_is)
    (case udd7 => k_is)
    (case uda8 => k_is)
    (case udb8 => k_is)
    (case udc8 => k_is)
    (case udd8 => k_is)
    (case uda9 => k_is)
    (case udb9 => k_is)
    (case udc9 => k_is)
    (case udd9 => k_is)
    (case uda10 => k_is)
    (case udb10 => k_is)
    (case udc10 => k_is)
    (case udd10 => k_is)
    (case uda11 => k_is)
    (case udb11 => k_is)
    (case udc11 => k_is)
    (case udd11 => k_is)
    (case uda12 => k_is)
    (case udb12 => k_is)
    (case udc12 => k_is)
    (case udd12 => k_is)
    (case uda13 => k_is)
    (case udb13 => k_is)
    (case udc13 => k_is)
    (case udd13 => k_is)
    (case uda14 => k_is)
    (case udb14 => k_is)
    (case udc14 => k_is)
    (case udd14 => k_is)
    (case uda15 => k_is)
    (case udb15 => k_is)
    (case udc15 => k_is)
    (case udd15 => k_is)
    (case uda16 => k_is)
    (case udb16 => k_is)
    (case udc16 => k_is)
    (case udd16 => k_is)
    (case uda17 => k_is)
    (case udb17 => k_is)
    (case udc17 => k_is)
    (case udd17 => k_is)
    (case umL => k_is)
    (case ulL => k_is)
    (case ucL => k_is)
