import PyProof.Rows.All
import Wide.All
import OpenK.AllK
import Wide.FinOn
import HandS.ForMost
import HandS.SetBool
import HandS.SetTxt0
import HandS.Strs
import KE.GoesMore
import HandS.Iter
import HandS.ForExc
import HandS.Wide
import HandS.IsInst
import HandS.Flow
import HandS.Walk
import HandS.Text
import HandS.Conv
import HandS.Star
import HandS.TupAny
import HandS.ExcInit
import HandS.ExcValue
import HandS.ExcCtx
import HandS.HotCalls
import HandS.ExcIs
import HandS.ExcField
import KE.KExcIs
import OpenK.KMeth
import HandS.Deep
import PySem.Challenge.RW_contractheirs_k03_conditions_joined
set_option Elab.async false
set_option linter.all false
set_option maxRecDepth 100000
set_option maxHeartbeats 8000000
namespace Kx
open PySem L2 PySem.Spec PyProof.Rows PySem.Froz
/-! sets of texts that can be walked and sorted -/
structure GoodX (P : Program) (w : World) (D : SD) (l : List Str) : Prop where
  tx : TxOk P w D l
  nd : l.Nodup
  ris : Ris D.2.2.place.toList
  led : w.params.followText "set-order" = true ∨ D.2.2.led = true
theorem tailTx_ris {ep : Nat} {es : Array (Int × Value)} {t : SetTable} {b : Bool} (r : Ris t.place.toList) : Ris (tailTx ep es t b).2.2.place.toList := by
  unfold tailTx
  by_cases c : (!b && t.tooFull) = true
  · rw [if_pos c]; exact relayAll_ris _ _ _
  · rw [if_neg c]; exact r
theorem tailTx_led {ep : Nat} {es : Array (Int × Value)} {t : SetTable} {b : Bool} : (tailTx ep es t b).2.2.led = t.led := by
  unfold tailTx
  by_cases c : (!b && t.tooFull) = true
  · rw [if_pos c]; exact relayAll_led _ _ _
  · rw [if_neg c]
theorem off_ris {t : SetTable} (r : Ris t.place.toList) : Ris (if t.plain = true then { t with plain := false } else t).place.toList := by
  by_cases c : t.plain = true
  · rw [if_pos c]; exact r
  · rw [if_neg c]; exact r
theorem off_led {t : SetTable} : (if t.plain = true then { t with plain := false } else t).led = t.led := by
  by_cases c : t.plain = true
  · rw [if_pos c]
  · rw [if_neg c]
theorem addTx_ris {hh : Int} {v : Value} {D : SD} (r : Ris D.2.2.place.toList) : Ris (addTx hh v D).2.2.place.toList := by
  unfold addTx
  exact tailTx_ris (off_ris (layNew_ris _ _ _ _ r))
theorem addTx_led {hh : Int} {v : Value} {D : SD} : (addTx hh v D).2.2.led = D.2.2.led := by
  unfold addTx
  rw [tailTx_led, off_led, layNew_led]
theorem GoodX.add {P : Program} {w : World} {D : SD} {l : List Str} {k : Str} (u : Tok) (G : GoodX P w D l) (hk : k ∉ l) : GoodX P w (addTx (hashStr w k) (.str k u) D) (k :: l) :=
  ⟨add_ok u G.tx, List.nodup_cons.mpr ⟨hk, G.nd⟩, addTx_ris G.ris, G.led.imp id fun z => by rw [addTx_led]; exact z⟩
section
variable {P : Program} {w : World} {A : Around} {E : Value → Shared → Prop} {s : Shared}
theorem add_old {a : Addr} {D : SD} {l : List Str} {k : Str} {u : Tok} {Q : Bool → Shared → Prop} (ho : s.heap.get? a = some (sObj "set" D)) (F : TxOk P w D l) (hk : k ∈ l) (hb : l.length < scanBound)
    (h : Q false s) : wpAny (model P w) A (setAddHashed a (.str k u) (hashStr w k)) Q E s := by
  obtain ⟨es, ep, t⟩ := D
  have hd : (sObj "set" (es, ep, t)).data = .set es ep t := rfl
  have hf : t.fits es.size = true := F.fit
  have he : ElemsOf (strKind P w) es.toList := F.el
  have hz : es.size < scanBound := by rw [show es.size = l.length from F.sz]; exact hb
  unfold setAddHashed setAddHashedIn
  refine wpAny_holding (wpAny_bind (wpAny_setState_of ho hd hf ?_))
  dsimp only
  rw [byScan_of rfl hz he]
  simp only [↓reduceIte]
  unfold setAddByScan
  refine wpAny_bind (wpAny_bind (wpAny_rule (wpAny_bind (wpAny_setScan_of (knd := strKind P w) (k := k) (is_str k u) ho hd hf he ?_))))
  cases hr : List.findIdx? (fun e => (strKind P w).is k e.2) es.toList with
  | some j => exact wpAny_pure (wpAny_pure h)
  | none =>
    obtain ⟨e, hm, q⟩ := (F.mem k).mp hk
    have c := List.findIdx?_eq_none_iff.mp hr e hm
    rw [q] at c
    cases c
end
/-- the set of texts at a: its members, each once -/
def TxAt (P : Program) (w : World) (h : Heap) (a : Addr) (l : List Str) : Prop := ∃ D, h.get? a = some (sObj "set" D) ∧ GoodX P w D l
/-- a text put into a list of texts -/
def put (l : List Str) (k : Str) : List Str := if k ∈ l then l else k :: l
theorem mem_put {l : List Str} {k x : Str} : x ∈ put l k ↔ x ∈ l ∨ x = k := by
  unfold put
  by_cases h : k ∈ l
  · rw [if_pos h]
    exact ⟨.inl, fun z => z.elim id fun e => e ▸ h⟩
  · rw [if_neg h, List.mem_cons]
    exact Or.comm
theorem put_len {l : List Str} {k : Str} : (put l k).length ≤ l.length + 1 := by
  unfold put
  by_cases h : k ∈ l
  · rw [if_pos h]; exact Nat.le_succ _
  · rw [if_neg h]; exact Nat.le_refl _
section
variable {P : Program} {w : World} {A : Around} {E : Value → Shared → Prop} {s : Shared}
theorem txAt_new {h : Heap} : TxAt P w (h.push { cls := .type "set", dict := none, data := .set #[] 0 (.fresh 0 0 (!w.params.followText "set-order")) }) h.objs.size [] :=
  ⟨(#[], 0, .fresh 0 0 (!w.params.followText "set-order")), Heap.get?_push_size _ rfl, TxOk.nil rfl, List.nodup_nil, List.Pairwise.nil, by
    show _ ∨ (!w.params.followText "set-order") = true
    cases w.params.followText "set-order"
    · exact .inr rfl
    · exact .inl rfl⟩
/-- found.add(k) -/
theorem tx_add {a : Addr} {l : List Str} {k : Str} {u : Tok} {Q : Value → Shared → Prop} (R : TxAt P w s.heap a l) (room : l.length + 1 < scanBound)
    (hQ : ∀ h' : Heap, Heap.SameBut a s.heap h' → TxAt P w h' a (put l k) → Q .none { s with heap := h', toks := s.toks + 1 }) :
    wpAny (model P w) A (call (.builtin "set.add") [.ref a, .str k u]) Q E s := by
  obtain ⟨D, ho, G⟩ := R
  have hT : s.TypeIs (.ref a) "set" := ⟨_, ho, rfl⟩
  refine wpAny_call_entry F.slot_set_add hT F.entry_set_add ?_ (F.args_set_add_2 _ _)
  unfold Builtin.«set.add» Builtin.Frozenset.oneOther
  simp only [List.isEmpty_nil, bind_assoc]
  unfold Builtin.Frozenset.addrOf setAdd
  refine wpAny_bind (wpAny_pure ?_)
  try dsimp only
  refine wpAny_bind (wpAny_pure ?_)
  try dsimp only
  refine wpAny_bind (wpAny_holding (wpAny_bind ((strKind P w).pyHash (is_str k u) ?_)))
  by_cases hk : k ∈ l
  · refine add_old (s := { s with toks := s.toks + 1 }) ho G.tx hk (by omega) ?_
    have q := hQ s.heap (Heap.SameBut.refl a s.heap) ⟨D, ho, by unfold put; rw [if_pos hk]; exact G⟩
    show wpAny _ _ (ret Value.none) _ _ _
    exact wpAny_pure ⟨_, rfl, q⟩
  · refine add_x (s := { s with toks := s.toks + 1 }) ho G.tx hk room ?_
    have q := hQ _ (Heap.SameBut.update s.heap a (fun _ => sObj "set" (addTx (hashStr w k) (.str k u) D))) ⟨_, get_upd _ ho rfl, by unfold put; rw [if_neg hk]; exact G.add u hk⟩
    show wpAny _ _ (ret Value.none) _ _ _
    exact wpAny_pure ⟨_, rfl, q⟩
theorem strs_of_kind {l : List Str} {D : SD} (F : TxOk P w D l) : ∀ v ∈ D.1.toList.map (·.2), ∃ x t, v = Value.str x t := fun v hv => by
  obtain ⟨e, he, rfl⟩ := List.mem_map.mp hv
  obtain ⟨⟨k, h1, _⟩, _⟩ := F.el e he
  obtain ⟨t, z⟩ := Value.isStrOf_shape (x := k) (v := e.2) h1
  exact ⟨k, t, z⟩
def txt : Value → Str
  | .str x _ => x
  | _ => ⟨#[]⟩
theorem strsAre_txt : ∀ {vs : List Value}, (∀ v ∈ vs, ∃ x t, v = Value.str x t) → StrsAre vs (vs.map txt)
  | [], _ => .nil
  | v :: vs, h => by
    obtain ⟨x, t, rfl⟩ := h v List.mem_cons_self
    exact .cons x t (strsAre_txt fun u hu => h u (List.mem_cons_of_mem _ hu))
theorem perm_of_sub : ∀ {l m : List Str}, l.Nodup → (∀ x ∈ l, x ∈ m) → m.length = l.length → m.Perm l
  | [], m, _, _, h => by
    rw [List.eq_nil_of_length_eq_zero h]
  | x :: l, m, nd, sub, h => by
    obtain ⟨n1, n2⟩ := List.nodup_cons.mp nd
    have hx : x ∈ m := sub x List.mem_cons_self
    have p := List.perm_cons_erase hx
    have hl : (m.erase x).length = l.length := by
      have q := p.length_eq
      rw [List.length_cons] at q h
      omega
    refine p.trans (List.Perm.cons x (perm_of_sub n2 (fun y hy => ?_) hl))
    have ne : y ≠ x := fun e => n1 (e ▸ hy)
    exact (List.mem_erase_of_ne ne).mpr (sub y (List.mem_cons_of_mem _ hy))
/-- sorted(found), fewer than 64 members -/
theorem tx_sorted {a : Addr} {l : List Str} {Q : Value → Shared → Prop} (R : TxAt P w s.heap a l) (hh : A.handled = none) (h64 : l.length < 64)
    (hQ : ∀ (s' : Shared) (p : Addr) (out : Array Value) (c : Nat) (ys : List Str), (∀ b o, s.heap.get? b = some o → s'.heap.get? b = some o) → s'.gens = s.gens → s'.os = s.os → s.heap.objs.size ≤ p →
      s'.heap.get? p = some (seqObj "list" out c) → StrsAre out.toList ys → sortedS ys = true → ys.Perm l → Q (.ref p) s') :
    wpAny (model P w) A (call (.builtin "sorted") [.ref a]) Q E s := by
  obtain ⟨⟨es, ep, t⟩, ho, G⟩ := R
  have hz : es.size = l.length := G.tx.sz
  have lim : scanBound > 64 := by decide
  refine Calls.call_function_entry kind_sorted plain_sorted entry_sorted (args_sorted1 _) ?_
  unfold Builtin.«sorted»
  refine wpAny_bind (m := checkCount "sorted" 1 1 _) (wpAny_pure ?_)
  refine wpAny_bind (collect_set (A := A.in1) hh ⟨_, ho, rfl, rfl⟩ G.tx.fit (by show es.size < _; omega) G.ris G.led fun s1 vs k1 z1 g1 o1 pm => ?_)
  have pm' : vs.Perm (es.toList.map (·.2)) := pm
  have hvl : vs.length = l.length := by rw [pm'.length_eq, List.length_map, Array.length_toList]; exact hz
  have hstr : ∀ v ∈ vs, ∃ x t, v = Value.str x t := fun v hv => strs_of_kind G.tx v (pm'.mem_iff.mp hv)
  have hS := strsAre_txt hstr
  have hperm : (vs.map txt).Perm l := (pm'.map txt).trans <| perm_of_sub G.nd (fun x hx => by
      obtain ⟨e, he, q⟩ := (G.tx.mem x).mp hx
      obtain ⟨t', z⟩ := Value.isStrOf_shape (x := x) (v := e.2) q
      exact List.mem_map.mpr ⟨e.2, List.mem_map.mpr ⟨e, he, rfl⟩, by rw [z]; rfl⟩) (by rw [List.length_map, List.length_map, Array.length_toList]; exact hz)
  refine wpAny_bind (wpAny_newList ?_ (by rw [hvl, sizeLine_eq]; omega))
  have hoL : (s1.heap.push (seqObj "list" vs.toArray 0)).get? s1.heap.objs.size = some (seqObj "list" vs.toArray 0) := Heap.get?_push_size _ rfl
  refine wpAny_bind (wpAny_holding (wpAny_call_entry slot_list_sort ⟨_, hoL, rfl⟩ entry_list_sort
    (list_sort_treeK strKind_oneLt hoL hS.keysOf (fun v₁ v₂ rest e => keyKind_strs (by rw [← e]; exact hS)) (by rw [hvl]; exact h64) fun st' a1 a2 => ⟨_, rfl, ?_⟩) (args_list_sort _)))
  obtain ⟨ys, b1, b2, b3⟩ := sorted_out_str hS a1 a2
  obtain ⟨c, hc⟩ := sortedHeap_at (vs := vs) (out := (arrOf st').map (·.2)) hoL
  refine wpAny_pure ⟨_, rfl, hQ _ s1.heap.objs.size _ c ys (fun b u e => ?_) g1 o1 z1 hc b1 b3 (b2.trans hperm)⟩
  have q := k1 b u e
  have hlt := Heap.lt_size q
  show (sortedHeap (s1.heap.push (seqObj "list" vs.toArray 0)) s1.heap.objs.size vs _).get? b = some u
  rw [sortedHeap_old (Nat.ne_of_lt hlt) (by rw [size_push']; exact Nat.lt_succ_of_lt hlt)]
  exact Heap.get?_push_of_some _ q
end
/-! ### as tracked things -/
def SetX (P : Program) (w : World) (a : Addr) (l : List Str) : HO := .ext fun h => TxAt P w h a l
theorem setX_new {w : World} {P : Program} {H : Hp} {h : Heap} {a : Addr} {l : List Str} (R : TxAt P w h a l) : ObjOk P w H h a (SetX P w a l) := by
  obtain ⟨D, ho, G⟩ := R
  exact ⟨⟨D, ho, G⟩, ⟨_, ho⟩, fun h1 h2 p k => let ⟨D', ho', G'⟩ := p; ⟨D', k _ ho', G'⟩⟩
section
variable {X : Cx}
theorem setX_get {pins : List (Addr × Obj)} {σ : L2.St} {H : Hp} {s : Shared} {a : Addr} {l : List Str} (I : Inv X pins σ H s) (ha : H a = some (SetX X.prog X.w a l)) : TxAt X.prog X.w s.heap a l := (I.hok a _ ha).1
theorem addX_ok {pins : List (Addr × Obj)} {σ : L2.St} {H : Hp} {s : Shared} {E : Value → Shared → Prop} {D : Addr} {l : List Str} {k : Str} {u : Tok} {Q : Value → Shared → Prop} (I : Inv X pins σ H s) (hD : H D = some (SetX X.prog X.w D l)) (room : l.length + 1 < scanBound)
    (h : ∀ s', Inv X pins σ (upd H D (SetX X.prog X.w D (put l k))) s' → Q .none s') : wpAny (model X.prog X.w) X.A (call (.builtin "set.add") [.ref D, .str k u]) Q E s := by
  refine tx_add (setX_get I hD) room fun h' sb new => ?_
  have he : ∃ u, h'.get? D = some u := let ⟨_, ho, _⟩ := new; ⟨_, ho⟩
  exact h _ (I.write (e := D) (t' := s.toks + 1) (by rw [hD]; trivial) (.inl rfl) (fun b u hb hu => (sb.2 b hb).trans hu) he (setX_new new))
def rSortedX (P : Program) (w : World) : List V → Hp → VK → Prop := fun vs H Q => ∃ (a : Addr) (l : List Str), vs = [V.ref a] ∧ H a = some (SetX P w a l) ∧ l.length < 64 ∧
  ∀ (ys : List Str) (p : Addr), sortedS ys = true → ys.Perm l → H p = none → Q (.ref p) (upd H p (.lst (ys.map V.str)))
theorem cr_sortedX (hc : X.calm = true) : CallR X (.builtin "sorted") (rSortedX X.prog X.w) := by
  intro pins s σ H vs us Q I r h
  obtain ⟨a, l, rfl, ha, h64, q⟩ := h
  rw [Vals.ref1 r]
  refine tx_sorted (setX_get I ha) (I.ok.hd hc) h64 fun s' p out c ys k g o hp hg hi hs hl => ?_
  have hlen : (ys.map V.str).length ≤ sizeLine := by rw [List.length_map, hl.length_eq, sizeLine_eq]; omega
  have hn : H p = none := I.hok.fresh hp
  have J : Inv X pins σ (upd H p (.lst (ys.map V.str))) { s with heap := s'.heap, gens := s'.gens, drawn := s'.drawn, toks := s'.toks } :=
    I.call (ch := []) (Un.laid k hp hn) (I.hok.laid k hp ⟨hlen, out.toList, c, vals_of_strs hi, hg⟩) (by rw [g]; exact I.bare) (fun _ z => nomatch z)
  have e : s' = { s with heap := s'.heap, gens := s'.gens, drawn := s'.drawn, toks := s'.toks } := by
    cases s'; cases s; cases o; rfl
  rw [e]
  exact ⟨.ref p, _, J, rfl, q ys p hs hl hn⟩
end
end Kx
namespace Kx
open PySem L2 PySem.Spec PyProof.Rows PpSet
/-! set comprehensions of texts, with several clauses -/
/-- one turn of a clause, whatever is done with an element that passes -/
def turnOf (tg : Expr) (pos : Pos) (ifs : List Expr) (body : Sem Unit) (c : Expr) (j : Nat) (it acc : Value) (env : Env) : Sem Fin := do
  standAt pos
  match ← pyNext it with
  | none => pure (.done .next)
  | some v =>
    letOwnedTupleGo tg it v
    assign tg env v
    let mut ok := true
    for c in ifs do
      if ok then ok ← isTrue c env (eval c env)
    if ok then body
    again (.compLoop c j it acc env)
abbrev testsOf (ifs : List Expr) (env : Env) : Sem Bool := forIn ifs true fun c r => if r = true then do let ok ← isTrue c env (eval c env); pure (ForInStep.yield ok) else pure (ForInStep.yield r)
section
variable {P : Program} {w : World} {A : Around} {R : Result → Shared → Prop} {s : Shared} {elt tg : Expr} {gs : List Comprehension} {scope : Scope} {cp : Pos} {j : Nat} {ifs : List Expr} {pos : Pos} {it acc : Value} {env : Env} {body : Sem Unit}
abbrev NoE : Value → Shared → Prop := fun _ _ => False
theorem loop_gen (hturn : compTurn (.SetComp elt gs scope cp) j it acc env = turnOf tg pos ifs body (.SetComp elt gs scope cp) j it acc env) (I : Nat → Shared → Prop)
    (turn : ∀ n s, I n s → wpAny (model P w) A (pyNext it) (fun r s1 => match r with
      | none => R (.ok .next) s1
      | some v => wpAny (model P w) A (letOwnedTupleGo tg it v) (fun _ s2 => wpAny (model P w) A (assign tg env v) (fun _ s3 => wpAny (model P w) A (testsOf ifs env) (fun ok s4 =>
          if ok = true then wpAny (model P w) A body (fun _ s5 => ∃ m, m < n ∧ I m s5) NoE s4 else ∃ m, m < n ∧ I m s4) NoE s3) NoE s2) NoE s1) NoE s)
    (n : Nat) (h : I n s) : codeAny (model P w) A (.compLoop (.SetComp elt gs scope cp) j it acc env) R s := by
  refine codeAny_loop rfl I (fun n s hI => ?_) n h
  show wpAny _ A ((compTurn (.SetComp elt gs scope cp) j it acc env).onRaise (fun x => do noteFrame x env; theTreesLotGoes x)) _ _ s
  refine wpAny_noted ?_
  rw [hturn]
  unfold turnOf
  refine wpAny_bind (wpAny_standAt (wpAny_bind (thnF (turn n s hI) fun r s1 h1 => ?_)))
  cases r with
  | none => exact wpAny_pure h1
  | some v =>
    refine wpAny_bind (thnF h1 fun _ s2 h2 => ?_)
    refine wpAny_bind (thnF h2 fun _ s3 h3 => wpAny_bind (thnF h3 fun ok s4 h4 => ?_))
    cases ok with
    | false => exact wpAny_pure ⟨rfl, h4⟩
    | true => exact wpAny_bind (thnF h4 fun _ s5 h5 => wpAny_pure ⟨rfl, h5⟩)
end
abbrev TB := L2.St → Hp → (Hp → Prop) → Prop
/-- what is done with an element, in a block -/
structure PB (Y : Cx) (body : Sem Unit) (vs : List Nat) (tb : TB) : Prop where
  run : ∀ (pins : List (Addr × Obj)) (s : Shared) (σ : L2.St) (H : Hp) (Q : Hp → Prop), Inv Y pins σ H s → tb σ H Q → wpAny (model Y.prog Y.w) Y.A body (fun _ s' => ∃ H', Inv Y pins (wipe σ vs) H' s' ∧ Q H') NoE s
def tElt (P : Program) (w : World) (te : TE) (D : Addr) : TB := fun σ H Q => te σ H fun y H1 => ∃ (l : List Str) (k : Str), y = .str k ∧ H1 D = some (SetX P w D l) ∧ l.length + 1 < scanBound ∧ Q (upd H1 D (SetX P w D (put l k)))
def tNest (wi : TI) (g : TG) (tt : TT) (tb : TB) (vs : List Nat) : TB := fun σ H Q => wi σ H fun J H1 => ∃ W : Nat → Nat → Hp → Prop, (∃ m, W 0 m H1) ∧ ∀ i m H, W i m H →
  (J.stop i H ∧ Q H) ∨ (J.go i H ∧ ∃ Nx : Hp → Prop, (∀ H', Nx H' → ∃ m', m' < m ∧ W (i + 1) m' H') ∧ ∀ x H', J.yld i H x H' → g x (wipe σ vs) H' fun σ2 H2 => wipe σ2 vs = wipe σ vs ∧ tt σ2 H2 fun b H3 => if b = true then tb σ2 H3 Nx else Nx H3)
section
variable {Y : Cx} {elt tg iter ee : Expr} {gs : List Comprehension} {scope : Scope} {cp : Pos} {ifs : List Expr} {te : TE} {D : Addr} {wi : TI} {g : TG} {tt : TT} {tb : TB} {vs vs' : List Nat} {j : Nat} {acc : Value} {body : Sem Unit}
theorem pb_elt (hx : Y.xe = NoE) (he : PE Y elt te) : PB Y (do let v ← eval elt Y.env; standAt elt.pos; let _ ← call (.builtin "set.add") [.ref D, v]) [] (tElt Y.prog Y.w te D) := by
  refine ⟨fun pins s σ H Q I h => ?_⟩
  have z := he.run pins s σ H _ I h
  rw [hx] at z
  refine wpAny_bind (thnF z fun u s1 ⟨y, H1, I1, r, l, k, e, hD, room, q⟩ => wpAny_bind (wpAny_standAt ?_))
  subst e
  obtain ⟨t, rfl⟩ := r
  exact wpAny_bind (addX_ok I1 hD room fun s2 I2 => wpAny_pure ⟨_, I2, q⟩)
/-- a further clause's start -/
def StartOk (c : Expr) (j : Nat) (acc : Value) (env : Env) : Prop := ∀ (P : Program) (w : World) (A : Around) (R : Result → Shared → Prop) (s : Shared) (it : Value), codeAny (model P w) A (.compLoop c j it acc env) R s →
  (∀ E, wpAny (model P w) A (pyIter it) (fun it' s' => codeAny (model P w) A (.compLoop c j it' acc env) R s') E s) → codeAny (model P w) A (.compStart c j it acc env) R s
theorem pb_nest (sub : ∀ i ∈ vs', i ∈ vs) (hc : Y.calm = true) (hx : Y.xe = NoE) (hi : PI Y tg iter wi) (hg : PG Y tg g) (ht : PTs Y ifs tt) (hb : PB Y body vs' tb) (hs : ∀ x, foldedSetIterable iter Y.env x = pure x)
    (hturn : ∀ it, compTurn (.SetComp ee gs scope cp) j (.ref it) acc Y.env = turnOf tg iter.pos ifs body (.SetComp ee gs scope cp) j (.ref it) acc Y.env) (hst : StartOk (.SetComp ee gs scope cp) j acc Y.env) :
    PB Y (do let x ← eval iter Y.env; standAt iter.pos; let x ← foldedSetIterable iter Y.env x; let _ ← runOwn (.compStart (.SetComp ee gs scope cp) j (← holding [x] (pyIter x)) acc Y.env) Y.env) vs (tNest wi g tt tb vs) := by
  refine ⟨fun pins s σ H Q I h => ?_⟩
  have z := hi.run pins s σ H _ I h
  rw [hx] at z
  refine wpAny_bind (thnF z fun xv s1 hv => ?_)
  refine wpAny_bind (wpAny_standAt (wpAny_bind (wpAny_of_eq (hs xv) (wpAny_bind (wpAny_holding (thnF hv fun itv s2 h2 => ?_))))))
  obtain ⟨it, fp, tn, J, H1, e, I1, T, st, fo, W, ⟨m0, w0⟩, turn⟩ := h2
  subst e
  refine wpAny_bind (wpAny_runOwn ?_)
  rw [Around.mark_none]
  have stat : ∀ {H' : Hp}, (∀ b ∈ fp, H' b = none) → ∀ b ∈ fp, FpOk Y pins H' b := fun hn b hb => ⟨hn b hb, (fo b hb).2⟩
  have loop : codeAny (model Y.prog Y.w) Y.A (.compLoop (.SetComp ee gs scope cp) j (.ref it) acc Y.env) (fun r s' => match r with
      | .ok _ => ∃ H', Inv Y pins (wipe σ vs) H' s' ∧ Q H'
      | .error _ => False) s2 := by
    refine loop_gen (hturn it) (fun k s' => ∃ i H', Inv Y pins (wipe σ vs) H' s' ∧ tn i s'.heap ∧ (∀ b ∈ fp, H' b = none) ∧ W i k H') ?_ m0 ⟨0, H1, I1.weak (wipe_length _ _) (fun j v e => (wipe_some e).1), st, fun b hb => (fo b hb).1, w0⟩
    rintro k s3 ⟨i, H3, I3, st3, n3, w3⟩
    rcases turn i k H3 w3 with ⟨stop, q⟩ | ⟨go, Nx, hNx, step⟩
    · refine thnF (T.done Y rfl rfl rfl hc i _ s3 (wipe σ vs) H3 NoE I3 (stat n3) st3 stop) fun r s4 ⟨hr, I4⟩ => ?_
      subst hr
      exact ⟨H3, I4, q⟩
    · refine thnF (T.item Y rfl rfl rfl hc i _ s3 (wipe σ vs) H3 NoE I3 (stat n3) st3 go) fun r s4 ⟨u, hr, h4⟩ => ?_
      subst hr
      refine thnF h4 fun _ s5 ⟨x, H5, I5, r5, y5, st5, n5⟩ => ?_
      have I5' := I5.pinned (stat n5) (T.obj _ _ st5)
      have z6 := hg.run _ s5 (wipe σ vs) H5 x u _ I5' r5 (step x H5 y5)
      rw [hx] at z6
      refine thnF z6 fun _ s6 ⟨σ6, H6, I6, hw, q6⟩ => ?_
      have z7 := ht.run _ s6 σ6 H6 _ I6 q6
      rw [hx] at z7
      refine thnF z7 fun b s7 ⟨H7, I7, q7⟩ => ?_
      have fin : ∀ {vs1 : List Nat} {s' : Shared} {H' : Hp}, (∀ i ∈ vs1, i ∈ vs) → Inv Y (pins ++ pinsAt fp s5.heap) (wipe σ6 vs1) H' s' → Nx H' → ∃ m, m < k ∧ ∃ i H', Inv Y pins (wipe σ vs) H' s' ∧ tn i s'.heap ∧ (∀ b ∈ fp, H' b = none) ∧ W i m H' := fun {vs1 s' H'} hv I' nx => by
        obtain ⟨m', hm, w'⟩ := hNx H' nx
        have pin' : ∀ b ∈ fp, ∀ o, s5.heap.get? b = some o → s'.heap.get? b = some o ∧ H' b = none := fun b hb o e =>
          let z := I'.pin (b, o) (List.mem_append_right _ (List.mem_append_right _ (mem_pinsAt hb e)))
          ⟨z.1, z.2.1⟩
        refine ⟨m', hm, i + 1, H', I'.unpinned.weak (by rw [← hw, wipe_length, wipe_length]) (fun j v e => ?_), T.keep _ _ _ st5 fun b hb o e => (pin' b hb o e).1, fun b hb => ?_, w'⟩
        · rw [← hw] at e
          obtain ⟨e1, e2⟩ := wipe_some e
          rw [wipe_out fun z => e2 (hv j z)]
          exact e1
        · obtain ⟨o, e, _⟩ := T.obj _ _ st5 b hb
          exact (pin' b hb o e).2
      cases b with
      | false =>
        simp only [Bool.false_eq_true, if_false] at q7 ⊢
        exact fin (vs1 := []) (fun i z => nomatch z) I7 q7
      | true =>
        simp only [if_true] at q7 ⊢
        exact thnF (hb.run _ s7 σ6 H7 _ I7 q7) fun _ s8 ⟨H8, I8, q8⟩ => fin sub I8 q8
  refine codeAny_mono (hst _ _ _ _ _ _ loop fun E => T.self Y.A 0 _ _ _ st loop) fun r s' hr => ?_
  cases r with
  | ok f =>
    first
      | exact wpAny_pure hr
      | exact wpAny_bind (wpAny_pure (wpAny_pure hr))
  | error e => exact hr.elim
end
end Kx
namespace Kx
open PySem L2 PySem.Spec PyProof.Rows PpSet
def tScN (P : Program) (w : World) (wi : TI) (g : TG) (tt : TT) (tb : Addr → TB) (vs : List Nat) : TE := fun σ H Q => wi σ H fun J H1 => ∀ D, H1 D = none → ∃ W : Nat → Nat → Hp → Prop, (∃ m, W 0 m (upd H1 D (SetX P w D []))) ∧ ∀ i m H, W i m H →
  (J.stop i H ∧ Q (.ref D) H) ∨ (J.go i H ∧ ∃ Nx : Hp → Prop, (∀ H', Nx H' → ∃ m', m' < m ∧ W (i + 1) m' H') ∧ ∀ x H', J.yld i H x H' → g x (wipe σ vs) H' fun σ2 H2 => wipe σ2 vs = wipe σ vs ∧ tt σ2 H2 fun b H3 => if b = true then tb D σ2 H3 Nx else Nx H3)
section
variable {X : Cx} {elt tg iter : Expr} {ifs : List Expr} {gs : List Comprehension} {scope : Scope} {own : List (PySem.Str × Nat)} {cp : Pos} {wi : TI} {g : TG} {tt : TT} {tb : Addr → TB} {body : Addr → Env → Sem Unit} {vs' : List Nat}
theorem pe_scN (hc : X.calm = true) (hN : X.N.Nodup) (hi : PI X tg iter wi) (ok : BlkOk X.N X.env.scope scope own) (sub : ∀ i ∈ vs', i ∈ own.map (·.2))
    (hg : ∀ (s : Shared) (H : Hp) (C : Addr) (cl : List (PySem.Str × Addr)) (fp : List Addr), PG (X.blk s H scope (compEnvC scope cl C X.env) fp) tg g)
    (ht : ∀ (s : Shared) (H : Hp) (C : Addr) (cl : List (PySem.Str × Addr)) (fp : List Addr), PTs (X.blk s H scope (compEnvC scope cl C X.env) fp) ifs tt)
    (hb : ∀ (s : Shared) (H : Hp) (C : Addr) (cl : List (PySem.Str × Addr)) (fp : List Addr) (D : Addr), PB (X.blk s H scope (compEnvC scope cl C X.env) fp) (body D (compEnvC scope cl C X.env)) vs' (tb D))
    (hturn : ∀ it D env, compTurn (.SetComp elt (⟨tg, iter, ifs, 0⟩ :: gs) scope cp) 0 (.ref it) (.ref D) env = turnOf tg iter.pos ifs (body D env) (.SetComp elt (⟨tg, iter, ifs, 0⟩ :: gs) scope cp) 0 (.ref it) (.ref D) env)
    (hs : ∀ x, foldedSetIterable iter X.env x = pure x := by intro _; rfl) : PE X (.SetComp elt (⟨tg, iter, ifs, 0⟩ :: gs) scope cp) (tScN X.prog X.w wi g tt tb (own.map (·.2))) := by
  refine ⟨fun pins s σ H Q I h => ?_⟩
  rw [eval_SetComp]
  have fr : ∀ y ∈ scope.names, y.2 = .free → ∃ c, X.env.cells.lookup y.1 = some c := fun y hy e => I.ok.has _ (ok.free y hy e)
  refine wpAny_comprehension_free (use := none) rfl hs (closure_ok fr) ok.kind (fun y hy e => by rw [ok.uniq y hy, e]) (thn (hi.run pins s σ H _ I h) fun xv sa hx => thn hx fun itv sb hb' => ?_)
  obtain ⟨it, fp, tn, J, Hb, e, Ib, T, stb, fb, q⟩ := hb'
  subst e
  refine newSet_ok (newEnv_comp ?_)
  obtain ⟨D, hD⟩ : ∃ D, sb.heap.objs.size = D := ⟨_, rfl⟩
  have hDn : Hb D = none := Ib.hok.fresh (Nat.le_of_eq hD)
  obtain ⟨W, ⟨m0, w0⟩, turn⟩ := q D hDn
  obtain ⟨sc, hsc⟩ : ∃ sc : Shared, ({ sb with heap := sb.heap.push { cls := .type "set", dict := none, data := .set #[] 0 (.fresh 0 0 (!X.w.params.followText "set-order")) } } : Shared) = sc := ⟨_, rfl⟩
  have hch : sc.heap = sb.heap.push { cls := .type "set", dict := none, data := .set #[] 0 (.fresh 0 0 (!X.w.params.followText "set-order")) } := by rw [← hsc]
  have Ic : Inv X pins σ (upd Hb D (SetX X.prog X.w D [])) sc := by
    rw [← hsc]
    refine Ib.laid (t' := sb.toks) (fun b o z => Heap.get?_push_of_some _ z) (Nat.le_of_eq hD) ?_
    rw [← hD]
    exact setX_new txAt_new
  have lt : ∀ b ∈ fp, b < sb.heap.objs.size := fun b hb => let ⟨o, z, _⟩ := T.obj _ _ stb b hb; Heap.lt_size z
  have fc : ∀ b ∈ fp, FpOk X pins (upd Hb D (SetX X.prog X.w D [])) b ∧ b < sc.heap.objs.size := fun b hb =>
    ⟨⟨by rw [upd_ne (by rw [← hD]; exact Nat.ne_of_lt (lt b hb))]; exact (fb b hb).1, (fb b hb).2⟩, by rw [hch, Heap.size_push]; exact Nat.lt_succ_of_lt (lt b hb)⟩
  have stc : tn 0 sc.heap := T.keep _ _ _ stb fun b _ o z => by rw [hch]; exact Heap.get?_push_of_some _ z
  have Id0 := block_start Ic ok hN fc
  rw [hD]
  have pg := hg sc (upd Hb D (SetX X.prog X.w D [])) sc.heap.objs.size (cellsFrom (sc.heap.objs.size + 1) scope.names (cloFrom X.env.cells scope.names [])) fp
  have pt := ht sc (upd Hb D (SetX X.prog X.w D [])) sc.heap.objs.size (cellsFrom (sc.heap.objs.size + 1) scope.names (cloFrom X.env.cells scope.names [])) fp
  have pb := hb sc (upd Hb D (SetX X.prog X.w D [])) sc.heap.objs.size (cellsFrom (sc.heap.objs.size + 1) scope.names (cloFrom X.env.cells scope.names [])) fp D
  rw [show ({ sb with heap := sb.heap.push { cls := .type "set", dict := none, data := .set #[] 0 (.fresh 0 0 (!X.w.params.followText "set-order")) } } : Shared) = sc from hsc]
  obtain ⟨ce, hce⟩ : ∃ ce, compEnvC scope (cellsFrom (sc.heap.objs.size + 1) scope.names (cloFrom X.env.cells scope.names [])) sc.heap.objs.size X.env = ce := ⟨_, rfl⟩
  have cL : ce.locals = sc.heap.objs.size := by rw [← hce] <;> rfl
  obtain ⟨Hc, hHc⟩ : ∃ Hc, upd Hb D (SetX X.prog X.w D []) = Hc := ⟨_, rfl⟩
  obtain ⟨sd, hsd⟩ : ∃ sd : Shared, ({ sc with heap := pushCells (sc.heap.push { cls := .type "dict", data := .dict #[] }) scope.names } : Shared) = sd := ⟨_, rfl⟩
  have kd : ∀ b o, sc.heap.get? b = some o → sd.heap.get? b = some o := fun b o z => by rw [← hsd]; exact pushCells_keeps _ _ _ _ (Heap.get?_push_of_some _ z)
  rw [hce] at Id0 pg pt pb
  rw [hHc] at Id0 pg pt pb w0 Ic fc
  rw [hsd] at Id0
  have std : tn 0 sd.heap := T.keep _ _ _ stc fun b _ o z => kd b o z
  have stat : ∀ {σ' : L2.St} {H' : Hp} {s' : Shared}, Inv (X.blk sc Hc scope ce fp) [] σ' H' s' → (∀ b ∈ fp, H' b = none) → ∀ b ∈ fp, FpOk (X.blk sc Hc scope ce fp) [] H' b := fun {σ' H' s'} I' hn b hb =>
    ⟨hn b hb, (I'.ok.exf b hb).1, I'.ok.exfs b hb, .inl hb, fun x c z => (I'.ok.exf b hb).2 x c z, fun p hp => absurd (show p ∈ ([] : List (Addr × Obj)) ++ [] from hp) (by simp)⟩
  have loop : codeAny (model X.prog X.w) X.A (.compLoop (.SetComp elt (⟨tg, iter, ifs, 0⟩ :: gs) scope cp) 0 (.ref it) (.ref D) ce) (compPost (model X.prog X.w) X.A X.xe none (EP X pins σ Q) (.ref D) sc.heap.objs.size) sd := by
    refine loop_gen (hturn it D ce) (fun n s' => ∃ i H', Inv (X.blk sc Hc scope ce fp) [] (wipe σ (own.map (·.2))) H' s' ∧ tn i s'.heap ∧ (∀ b ∈ fp, H' b = none) ∧ W i n H') ?_ m0 ⟨0, Hc, Id0, std, fun b hb => (fc b hb).1.1, w0⟩
    rintro n s5 ⟨i, H5, I5, st5, n5, w5⟩
    rcases turn i n H5 w5 with ⟨stop, qq⟩ | ⟨go, Nx, hNx, step⟩
    · refine thnF (T.done (X.blk sc Hc scope ce fp) rfl rfl rfl hc i [] s5 _ H5 NoE I5 (stat I5 n5) st5 stop) fun r s6 ⟨hr, I6⟩ => ?_
      subst hr
      have I7 : Inv X pins σ H5 s6 := Ic.call' (ch := fp) I6.os I6.base I6.hok I6.bare fun b hb => ⟨(fc b hb).1.2.2.2.1, (fc b hb).1.2.1, (fc b hb).1.2.2.2.2.1, (fc b hb).1.2.2.2.2.2⟩
      have nC : H5 sc.heap.objs.size = none := by
        have z : H5 ce.locals = none := I6.free
        rw [cL] at z
        exact z
      obtain ⟨m, hn, _⟩ := I6.loc
      have hn : s6.heap.Ns ce.locals m := hn
      rw [cL] at hn
      obtain ⟨f0, f1, f2, f3, f4, f5⟩ := Ic.fpOk (Nat.le_refl _) nC
      exact ⟨m, hn, fun h'' sb' => ⟨.ref D, H5, I7.turned (t' := s6.toks) (fun b o hb z => (sb'.2 b hb).trans z) f0 f1 f3 f4 f5, rfl, qq⟩⟩
    · refine thnF (T.item (X.blk sc Hc scope ce fp) rfl rfl rfl hc i [] s5 _ H5 NoE I5 (stat I5 n5) st5 go) fun r s6 ⟨u, hr, h6⟩ => ?_
      subst hr
      refine thnF h6 fun _ s7 ⟨x, H7, I7, r7, y7, st7, n7⟩ => ?_
      have J7 := I7.pinned (stat I7 n7) (T.obj _ _ st7)
      refine thnF (pg.run _ s7 _ H7 x u _ J7 r7 (step x H7 y7)) fun _ s8 ⟨σ8, H8, I8, hw8, q8⟩ => ?_
      refine thnF (pt.run _ s8 σ8 H8 _ I8 q8) fun b s9 ⟨H9, I9, q9⟩ => ?_
      have fin : ∀ {vs1 : List Nat} {s' : Shared} {H' : Hp}, (∀ i ∈ vs1, i ∈ own.map (·.2)) → Inv (X.blk sc Hc scope ce fp) ([] ++ pinsAt fp s7.heap) (wipe σ8 vs1) H' s' → Nx H' → ∃ m, m < n ∧ ∃ i H', Inv (X.blk sc Hc scope ce fp) [] (wipe σ (own.map (·.2))) H' s' ∧ tn i s'.heap ∧ (∀ b ∈ fp, H' b = none) ∧ W i m H' := fun {vs1 s' H'} hv I' nx => by
        obtain ⟨m', hm, w'⟩ := hNx H' nx
        have pin' : ∀ b ∈ fp, ∀ o, s7.heap.get? b = some o → s'.heap.get? b = some o ∧ H' b = none := fun b hb o z =>
          let k := I'.pin (b, o) (List.mem_append_right _ (List.mem_append_right _ (mem_pinsAt hb z)))
          ⟨k.1, k.2.1⟩
        refine ⟨m', hm, i + 1, H', (I'.unpinned (pins := [])).weak (by rw [← hw8, wipe_length, wipe_length]) (fun j v z => ?_), T.keep _ _ _ st7 fun b hb o z => (pin' b hb o z).1, fun b hb => ?_, w'⟩
        · rw [← hw8] at z
          obtain ⟨e1, e2⟩ := wipe_some z
          rw [wipe_out fun k => e2 (hv j k)]
          exact e1
        · obtain ⟨o, z, _⟩ := T.obj _ _ st7 b hb
          exact (pin' b hb o z).2
      cases b with
      | false =>
        simp only [Bool.false_eq_true, if_false] at q9 ⊢
        exact fin (vs1 := []) (fun i z => nomatch z) I9 q9
      | true =>
        simp only [if_true] at q9 ⊢
        exact thnF (pb.run _ s9 σ8 H9 _ I9 q9) fun _ s10 ⟨H10, I10, q10⟩ => fin sub I10 q10
  rw [← hce] at loop
  rw [← hsd] at loop
  exact codeAny_compStart_set loop (T.self X.A 0 _ _ _ (by rw [hsd]; exact std) loop)
end
/-! three clauses -/
section
variable {elt t0 i0 t1 i1 t2 i2 : Expr} {f0 f1 f2 : List Expr} {scope : Scope} {cp : Pos}
theorem start1 (acc : Value) (env : Env) : StartOk (.SetComp elt [⟨t0, i0, f0, 0⟩, ⟨t1, i1, f1, 0⟩, ⟨t2, i2, f2, 0⟩] scope cp) 1 acc env := by
  intro P w A R s it h0 h
  refine codeAny_of_tree ?_
  show wpAny _ _ ((compStart (.SetComp elt [⟨t0, i0, f0, 0⟩, ⟨t1, i1, f1, 0⟩, ⟨t2, i2, f2, 0⟩] scope cp) 1 it acc env).onRaise (fun x => do noteFrame x env; standAt theWindowsPlace)) _ _ s
  refine wpAny_notedAt ?_
  unfold compStart
  show wpAny _ _ (ask >>= _) _ _ s
  refine wpAny_bind (wpAny_askSetting (wpAny_ite ?_))
  split
  · first
      | exact wpAny_bind (wpAny_pure (wpAny_pure (And.intro rfl h0)))
      | exact wpAny_pure (And.intro rfl h0)
  · refine wpAny_bind (wpAny_rule ?_)
    show wpAny _ _ (standAt i1.pos >>= _) _ _ s
    exact wpAny_bind (wpAny_standAt (wpAny_bind (thn (h _) fun it' s' h' => wpAny_pure (And.intro rfl h'))))
theorem start2 (acc : Value) (env : Env) : StartOk (.SetComp elt [⟨t0, i0, f0, 0⟩, ⟨t1, i1, f1, 0⟩, ⟨t2, i2, f2, 0⟩] scope cp) 2 acc env := by
  intro P w A R s it h0 h
  refine codeAny_of_tree ?_
  show wpAny _ _ ((compStart (.SetComp elt [⟨t0, i0, f0, 0⟩, ⟨t1, i1, f1, 0⟩, ⟨t2, i2, f2, 0⟩] scope cp) 2 it acc env).onRaise (fun x => do noteFrame x env; standAt theWindowsPlace)) _ _ s
  refine wpAny_notedAt ?_
  unfold compStart
  show wpAny _ _ (ask >>= _) _ _ s
  refine wpAny_bind (wpAny_askSetting (wpAny_ite ?_))
  split
  · first
      | exact wpAny_bind (wpAny_pure (wpAny_pure (And.intro rfl h0)))
      | exact wpAny_pure (And.intro rfl h0)
  · refine wpAny_bind (wpAny_rule ?_)
    show wpAny _ _ (standAt i2.pos >>= _) _ _ s
    exact wpAny_bind (wpAny_standAt (wpAny_bind (thn (h _) fun it' s' h' => wpAny_pure (And.intro rfl h'))))
abbrev c3 (elt t0 i0 t1 i1 t2 i2 : Expr) (f0 f1 f2 : List Expr) (scope : Scope) (cp : Pos) : Expr := .SetComp elt [⟨t0, i0, f0, 0⟩, ⟨t1, i1, f1, 0⟩, ⟨t2, i2, f2, 0⟩] scope cp
abbrev bElt (elt : Expr) (D : Addr) (env : Env) : Sem Unit := do let v ← eval elt env; standAt elt.pos; let _ ← call (.builtin "set.add") [.ref D, v]
abbrev bNest (c : Expr) (j : Nat) (iter : Expr) (D : Addr) (env : Env) : Sem Unit := do let x ← eval iter env; standAt iter.pos; let x ← foldedSetIterable iter env x; let _ ← runOwn (.compStart c j (← holding [x] (pyIter x)) (.ref D) env) env
theorem turn3_0 (it D : Addr) (env : Env) : compTurn (c3 elt t0 i0 t1 i1 t2 i2 f0 f1 f2 scope cp) 0 (.ref it) (.ref D) env = turnOf t0 i0.pos f0 (bNest (c3 elt t0 i0 t1 i1 t2 i2 f0 f1 f2 scope cp) 1 i1 D env) (c3 elt t0 i0 t1 i1 t2 i2 f0 f1 f2 scope cp) 0 (.ref it) (.ref D) env := by
  have e : compTurn (c3 elt t0 i0 t1 i1 t2 i2 f0 f1 f2 scope cp) 0 (.ref it) (.ref D) env = (do
      standAt i0.pos
      match ← pyNext (.ref it) with
      | none => pure (.done .next)
      | some v =>
        letOwnedTupleGo t0 (.ref it) v
        assign t0 env v
        let mut ok := true
        for c in f0 do
          if ok then ok ← isTrue c env (eval c env)
        if ok then
          let x ← eval i1 env
          standAt i1.pos
          let x ← foldedSetIterable i1 env x
          let _ ← runOwn (.compStart (c3 elt t0 i0 t1 i1 t2 i2 f0 f1 f2 scope cp) 1 (← holding [x] (pyIter x)) (.ref D) env) env
        again (.compLoop (c3 elt t0 i0 t1 i1 t2 i2 f0 f1 f2 scope cp) 0 (.ref it) (.ref D) env)) := by rfl
  rw [e]
  unfold turnOf
  simp only [bind_assoc, pure_bind]
  all_goals rfl
theorem turn3_1 (it D : Addr) (env : Env) : compTurn (c3 elt t0 i0 t1 i1 t2 i2 f0 f1 f2 scope cp) 1 (.ref it) (.ref D) env = turnOf t1 i1.pos f1 (bNest (c3 elt t0 i0 t1 i1 t2 i2 f0 f1 f2 scope cp) 2 i2 D env) (c3 elt t0 i0 t1 i1 t2 i2 f0 f1 f2 scope cp) 1 (.ref it) (.ref D) env := by
  have e : compTurn (c3 elt t0 i0 t1 i1 t2 i2 f0 f1 f2 scope cp) 1 (.ref it) (.ref D) env = (do
      standAt i1.pos
      match ← pyNext (.ref it) with
      | none => pure (.done .next)
      | some v =>
        letOwnedTupleGo t1 (.ref it) v
        assign t1 env v
        let mut ok := true
        for c in f1 do
          if ok then ok ← isTrue c env (eval c env)
        if ok then
          let x ← eval i2 env
          standAt i2.pos
          let x ← foldedSetIterable i2 env x
          let _ ← runOwn (.compStart (c3 elt t0 i0 t1 i1 t2 i2 f0 f1 f2 scope cp) 2 (← holding [x] (pyIter x)) (.ref D) env) env
        again (.compLoop (c3 elt t0 i0 t1 i1 t2 i2 f0 f1 f2 scope cp) 1 (.ref it) (.ref D) env)) := by rfl
  rw [e]
  unfold turnOf
  simp only [bind_assoc, pure_bind]
  all_goals rfl
theorem turn3_2 (it D : Addr) (env : Env) : compTurn (c3 elt t0 i0 t1 i1 t2 i2 f0 f1 f2 scope cp) 2 (.ref it) (.ref D) env = turnOf t2 i2.pos f2 (bElt elt D env) (c3 elt t0 i0 t1 i1 t2 i2 f0 f1 f2 scope cp) 2 (.ref it) (.ref D) env := by rfl
end
section
variable {X : Cx} {elt t0 i0 t1 i1 t2 i2 : Expr} {f0 f1 f2 : List Expr} {scope : Scope} {own : List (PySem.Str × Nat)} {cp : Pos} {w0 w1 w2 : TI} {g0 g1 g2 : TG} {tt0 tt1 tt2 : TT} {te : TE} {vs1 vs2 : List Nat}
theorem pe_sc3 (hc : X.calm = true) (hN : X.N.Nodup) (hi : PI X t0 i0 w0) (ok : BlkOk X.N X.env.scope scope own) (h1 : ∀ i ∈ vs1, i ∈ own.map (·.2)) (h2 : ∀ i ∈ vs2, i ∈ vs1)
    (hg0 : ∀ (s : Shared) (H : Hp) (C : Addr) (cl : List (PySem.Str × Addr)) (fp : List Addr), PG (X.blk s H scope (compEnvC scope cl C X.env) fp) t0 g0)
    (ht0 : ∀ (s : Shared) (H : Hp) (C : Addr) (cl : List (PySem.Str × Addr)) (fp : List Addr), PTs (X.blk s H scope (compEnvC scope cl C X.env) fp) f0 tt0)
    (hi1 : ∀ (s : Shared) (H : Hp) (C : Addr) (cl : List (PySem.Str × Addr)) (fp : List Addr), PI (X.blk s H scope (compEnvC scope cl C X.env) fp) t1 i1 w1)
    (hg1 : ∀ (s : Shared) (H : Hp) (C : Addr) (cl : List (PySem.Str × Addr)) (fp : List Addr), PG (X.blk s H scope (compEnvC scope cl C X.env) fp) t1 g1)
    (ht1 : ∀ (s : Shared) (H : Hp) (C : Addr) (cl : List (PySem.Str × Addr)) (fp : List Addr), PTs (X.blk s H scope (compEnvC scope cl C X.env) fp) f1 tt1)
    (hi2 : ∀ (s : Shared) (H : Hp) (C : Addr) (cl : List (PySem.Str × Addr)) (fp : List Addr), PI (X.blk s H scope (compEnvC scope cl C X.env) fp) t2 i2 w2)
    (hg2 : ∀ (s : Shared) (H : Hp) (C : Addr) (cl : List (PySem.Str × Addr)) (fp : List Addr), PG (X.blk s H scope (compEnvC scope cl C X.env) fp) t2 g2)
    (ht2 : ∀ (s : Shared) (H : Hp) (C : Addr) (cl : List (PySem.Str × Addr)) (fp : List Addr), PTs (X.blk s H scope (compEnvC scope cl C X.env) fp) f2 tt2)
    (he : ∀ (s : Shared) (H : Hp) (C : Addr) (cl : List (PySem.Str × Addr)) (fp : List Addr), PE (X.blk s H scope (compEnvC scope cl C X.env) fp) elt te)
    (hs : ∀ x, foldedSetIterable i0 X.env x = pure x := by intro _; rfl) (hs1 : ∀ env x, foldedSetIterable i1 env x = pure x := by intro _ _; rfl) (hs2 : ∀ env x, foldedSetIterable i2 env x = pure x := by intro _ _; rfl) :
    PE X (c3 elt t0 i0 t1 i1 t2 i2 f0 f1 f2 scope cp) (tScN X.prog X.w w0 g0 tt0 (fun D => tNest w1 g1 tt1 (tNest w2 g2 tt2 (tElt X.prog X.w te D) vs2) vs1) (own.map (·.2))) :=
  pe_scN (gs := [⟨t1, i1, f1, 0⟩, ⟨t2, i2, f2, 0⟩]) (body := fun D env => bNest (c3 elt t0 i0 t1 i1 t2 i2 f0 f1 f2 scope cp) 1 i1 D env) hc hN hi ok h1 hg0 ht0
    (fun s H C cl fp D => pb_nest (ee := elt) (gs := [⟨t0, i0, f0, 0⟩, ⟨t1, i1, f1, 0⟩, ⟨t2, i2, f2, 0⟩]) (scope := scope) (cp := cp) (Y := X.blk s H scope (compEnvC scope cl C X.env) fp) h2 hc rfl (hi1 s H C cl fp) (hg1 s H C cl fp) (ht1 s H C cl fp)
      (pb_nest (ee := elt) (gs := [⟨t0, i0, f0, 0⟩, ⟨t1, i1, f1, 0⟩, ⟨t2, i2, f2, 0⟩]) (scope := scope) (cp := cp) (Y := X.blk s H scope (compEnvC scope cl C X.env) fp) (vs' := []) (fun i z => nomatch z) hc rfl (hi2 s H C cl fp) (hg2 s H C cl fp) (ht2 s H C cl fp)
        (pb_elt (Y := X.blk s H scope (compEnvC scope cl C X.env) fp) rfl (he s H C cl fp)) (hs2 _) (fun it => turn3_2 it D _) (start2 _ _))
      (hs1 _) (fun it => turn3_1 it D _) (start1 _ _))
    (fun it D env => turn3_0 it D env) hs
end
end Kx
/-! enumerate over a tuple -/
namespace PySem
open Sem (wp)
open AutoSeq1 (wpAny_loadPart')
theorem new_enumT (t : Addr) (its : Array Value) (n : Nat) (dd : Option Addr) (sl : Array (Option Value)) : Meets (Builtin.«enumerate.__new__» ⟨[.type "enumerate", .ref t], []⟩)
    (fun _ R s => s.heap.get? t = some { cls := .type "tuple", dict := dd, data := .seq its n, slots := sl } ∧ R (.ok (.ret (.ref (s.heap.push { cls := .type "tuple_iterator", data := .fields #[.ref t, .int 0 0] }).objs.size)))
      { s with heap := (s.heap.push { cls := .type "tuple_iterator", data := .fields #[.ref t, .int 0 0] }).push { cls := .type "enumerate", data := .fields #[.none, .bool false, .ref s.heap.objs.size, rawInt 0, .none, .none] } }) :=
  .of_wp fun P w A R s h => by
    obtain ⟨hp, g, d, k, os⟩ := s
    obtain ⟨ht, h⟩ := h
    have hs := sub_enumerate
    have hT : Heap.IsTuple (Shared.heap ⟨hp, g, d, k, os⟩) t its := ⟨_, ht, rfl, n, rfl⟩
    wp_walk using wpAny_loadPart' ht
    refine wpAny_stack_any fun st => wpAny_pure ?_
    split
    · rename_i c _ _ _ _ _
      cases (c == Value.type "enumerate") <;>
        (wp_walk using wpAny_loadPart' ht, wpAny_pyIter_tuple hT; exact ⟨_, rfl, h⟩)
    · wp_walk using wpAny_loadPart' ht, wpAny_pyIter_tuple hT
      exact ⟨_, rfl, h⟩
section
variable {P : Program} {w : World} {A : Around} {E : Value → Shared → Prop} {s : Shared}
theorem call_enumT {t : Addr} {its : Array Value} {Q : Value → Shared → Prop} (hT : s.heap.IsTuple t its)
    (h : ∀ h' : Heap, IsEnum h' (s.heap.objs.size + 1) s.heap.objs.size 0 .none → h'.IsTupleIter s.heap.objs.size t 0 → h'.objs.size = s.heap.objs.size + 2 → (∀ b o, s.heap.get? b = some o → h'.get? b = some o) → Q (.ref (s.heap.objs.size + 1)) { s with heap := h' }) :
    wpAny (model P w) A (call (.type "enumerate") [.ref t]) Q E s := by
  obtain ⟨⟨c, dd, dt, sl⟩, ht, hc, n, hd⟩ := hT
  have hc' : c = .type "tuple" := hc
  have hd' : dt = .seq its n := hd
  subst hc' hd'
  refine callType_new F.called_enumerate (by decide) (F.typeCall_enumerate_1 _) (F.newCall_enumerate_1 _) (fun obj => F.args_object_init_2 obj _) F.entry_enumerate_new (new_enumT t its n dd sl) ⟨ht, ?_⟩
  obtain ⟨h1, e1⟩ : ∃ h1, s.heap.push { cls := .type "tuple_iterator", data := .fields #[.ref t, .int 0 0] } = h1 := ⟨_, rfl⟩
  have z1 : h1.objs.size = s.heap.objs.size + 1 := by rw [← e1]; exact Heap.size_push ..
  have i1 : h1.get? s.heap.objs.size = some { cls := .type "tuple_iterator", data := .fields #[.ref t, .int 0 0] } := by rw [← e1]; exact Heap.get?_push_size _ rfl
  have k1 : ∀ b o, s.heap.get? b = some o → h1.get? b = some o := fun b o z => by rw [← e1]; exact Heap.get?_push_of_some _ z
  rw [e1]
  have g2 := Heap.get?_push_size h1 (o := { cls := .type "enumerate", data := .fields #[.none, .bool false, .ref s.heap.objs.size, rawInt 0, .none, .none] }) rfl
  rw [z1] at g2
  show _ ∧ _
  rw [z1]
  exact ⟨⟨_, g2, rfl⟩, h _ g2 ⟨_, Heap.get?_push_of_some _ i1, rfl, rfl⟩ (by rw [Heap.size_push, z1]) fun b o z => Heap.get?_push_of_some _ (k1 b o z)⟩
end
end PySem
namespace Kx
open PySem L2 PySem.Spec PyProof.Rows
/-- the tuple at a, each item in a new pair with its number -/
def IteT (K : PySem.W.Frag) (a : Addr) : It :=
  ⟨fun i H => ∃ (xs : List V) (x : V), SqT K H a xs ∧ xs[i]? = some x, fun i H v H' => ∃ T x, v = .ref T ∧ H T = none ∧ H' = upd H T (.tup [.int (i : Nat), x]) ∧ ∀ xs, SqT K H a xs → xs[i]? = some x, fun i H => ∃ xs : List V, SqT K H a xs ∧ xs.length ≤ i⟩
theorem turn_enumT {P : Program} {w : World} {K : PySem.W.Frag} {elts : List Expr} {kk : Nat} {tpos : Pos} (a e it : Addr) :
    Turn P w K (.Tuple elts kk tpos) (IteT K a) [e, it] e (fun i h => (∃ old, IsEnum h e it ((i : Nat) : Int) old) ∧ h.IsTupleIter it a i ∧ e ≠ it ∧ a ≠ it ∧ a ≠ e) where
  mem := by simp
  obj := fun i h st b hb => by
    obtain ⟨⟨old, he⟩, ⟨o, ho, hc, hd⟩, _⟩ := st
    rcases (show b = e ∨ b = it by simpa using hb) with z | z
    · rw [z]; exact ⟨_, he, fun v q => nomatch q⟩
    · rw [z]; exact ⟨o, ho, fun v q => by rw [hd] at q; cases q⟩
  keep := fun i h h' st k => let ⟨⟨old, he⟩, hi, hn⟩ := st; ⟨⟨old, k e (by simp) _ he⟩, hi.at fun o q => k it (by simp) o q, hn⟩
  item := by
    intro X hP hw hK hc i pins s σ H E I hf st hg
    subst hP hw hK
    obtain ⟨⟨old, he⟩, hit, hne, n1, n2⟩ := st
    obtain ⟨xs, x, hq, hx⟩ := hg
    obtain ⟨its, rv, p, hz⟩ := I.tuple hq
    obtain ⟨u, hu, ru⟩ := rv.get hx
    have hT : s.heap.IsTuple a its.toArray := p
    have hu' : its.toArray[i]? = some u := by simpa using hu
    have hlt : i < its.toArray.size := (Array.getElem?_eq_some_iff.mp hu').1
    have hel : e < s.heap.objs.size := Heap.lt_size he
    have hil : it < s.heap.objs.size := by obtain ⟨_, q, _⟩ := hit; exact Heap.lt_size q
    have ni : it ≠ a := fun z => n1 z.symm
    refine wpAny_pyNext_enum_itemD (Draws.tuple (A := X.A.in1) (I.ok.hd hc) it a n1 its.toArray) he ⟨hit, hT⟩ hlt hne (by simp [hne, Ne.symm n2]) fun y h' tk hy ho hit' hTn hsz hk => ?_
    have ey : y = u := Option.some.inj ((show its.toArray[i]? = some y from hy).symm.trans hu')
    subst ey
    refine ⟨_, rfl, wpAny_letOwnedTupleGo_enum (s := { s with heap := h', toks := tk + 1 }) ho fun h2 he2 sb => ?_⟩
    have hT2 : h2.get? s.heap.objs.size = some { cls := .type "tuple", data := .seq #[.int i tk, y] } := (sb.2 _ (Nat.ne_of_gt hel)).trans hTn
    have new : ObjOk X.prog X.w (upd H s.heap.objs.size (.tup [.int (i : Nat), x])) h2 s.heap.objs.size (.tup [.int (i : Nat), x]) :=
      ⟨by show 2 ≤ sizeLine; decide, [.int i tk, y], .cons ⟨_, rfl⟩ (.cons ru .nil), ⟨_, hT2, rfl, _, rfl⟩⟩
    have I1 : Inv X pins σ (upd H s.heap.objs.size (.tup [.int (i : Nat), x])) { s with heap := h2, toks := tk + 1 } :=
      I.turnedNew (ch := [e, it]) (fun b ob hb q => (sb.2 b (fun z => hb (by simp [z]))).trans (hk b ob (fun z => hb (by simp [z])) (fun z => hb (by simp [z])) q)) hf (Nat.le_refl _) new
    have lt2 : ∀ b ∈ [e, it], b < s.heap.objs.size := fun b hb => by
      rcases (show b = e ∨ b = it by simpa using hb) with z | z
      · rw [z]; exact hel
      · rw [z]; exact hil
    refine ⟨.ref s.heap.objs.size, _, I1, rfl, ⟨_, x, rfl, I.hok.fresh (Nat.le_refl _), rfl, fun ys hy' => by rw [I.tuple_inj hy' hq]; exact hx⟩, ⟨⟨y, ?_⟩, hit'.1.at fun o q => (sb.2 it (Ne.symm hne)).trans q, hne, n1, n2⟩, fun b hb => ?_⟩
    · rw [show ((i + 1 : Nat) : Int) = (i : Int) + 1 from by omega]
      exact he2
    · rw [upd_ne (Nat.ne_of_lt (lt2 b hb))]
      exact (hf b hb).1
  done := by
    intro X hP hw hK hc i pins s σ H E I hf st hg
    subst hP hw hK
    obtain ⟨⟨old, he⟩, hit, hne, n1, n2⟩ := st
    obtain ⟨xs, hq, hx⟩ := hg
    obtain ⟨its, rv, p, hz⟩ := I.tuple hq
    obtain ⟨f0, f1, f2, f3, f4, f5⟩ := hf it (by simp)
    have hl := rv.length
    have hT : s.heap.IsTuple a its.toArray := p
    unfold pyNext
    have hTy : s.TypeIs (.ref e) "enumerate" := ⟨_, he, rfl⟩
    refine wpAny_bind (wpAny_attempt (wpAny_callSpecial?_slot (name := Str.ofString "__next__") hTy F.slot_enumerate_next
      (wpAny_call_entry F.slot_enumerate_next hTy F.entry_enumerate_next ?_ (F.args_enumerate_next_1 _))))
    show wpAny _ _ (field (.ref e) 2 >>= fun r => Builtin.SmallTypes.nextOf r >>= _) _ _ _
    refine wpAny_bind (wpAny_field he rfl (x := .ref it) rfl ?_)
    refine wpAny_bind (wpAny_nextOf_tuple_end (I.ok.hd hc) hit hT (Array.getElem?_eq_none (by simp; omega)) fun h' x e1 e2 => ?_)
    obtain ⟨o, ho, hco⟩ := e2
    refine wpAny_bind (wpAny_isInstance (T := "StopIteration") (b := true) ⟨o, ho, hco⟩ isSubtype_stop ?_)
    exact wpAny_pure ⟨rfl, I.turned (t' := s.toks) (fun b o hb q => e1 b o hb q) f0 f1 f3 f4 f5⟩
  self := fun A i s Q E st h => let ⟨⟨_, he⟩, _⟩ := st; wpAny_pyIter_enum he h
def iEnumT (K : PySem.W.Frag) (ta : TA) : TI := fun σ H R => ta σ H fun vs H1 => ∃ a xs, vs = [.ref a] ∧ SqT K H1 a xs ∧ R (IteT K a) H1
theorem pi_enumT {X : Cx} {e : Expr} {ta : TA} {p pos tpos : Pos} {elts : List Expr} {kk : Nat} (hg : Gl X "enumerate") (hm : X.mg "enumerate" = none) (ha : PA X [e] ta) (hs : starEach [e] X.env = [(false, eval e X.env)] := by rfl) :
    PI X (.Tuple elts kk tpos) (.Call (.Name "enumerate" p) [e] [] pos) (iEnumT X.K ta) := by
  refine ⟨fun pins s σ H R I h => ?_⟩
  refine Call_ (ld_blt I hg hm boot_enumerate (PyProof.Rows.callWith_type1 (thn (ha.run pos pins s σ H _ I h) fun us s1 ⟨vs, H1, I1, r1, a, xs, ex, hq, q⟩ => ?_) hs rfl))
  subst ex
  cases r1 with
  | cons r rr =>
    cases rr
    cases r
    obtain ⟨its, rv, p', hz⟩ := I1.tuple hq
    have hT : s1.heap.IsTuple a its.toArray := p'
    have hlt : a < s1.heap.objs.size := by obtain ⟨_, z, _⟩ := hT; exact Heap.lt_size z
    refine call_enumT hT fun h' he hit hsz hk => wpAny_pyIter_enum he ?_
    have I2 : Inv X pins σ H1 { s1 with heap := h' } := I1.kept (t' := s1.toks) hk
    refine ⟨s1.heap.objs.size + 1, [s1.heap.objs.size + 1, s1.heap.objs.size], _, _, H1, rfl, I2, turn_enumT a (s1.heap.objs.size + 1) s1.heap.objs.size, ⟨⟨.none, he⟩, hit, Nat.succ_ne_self _, Nat.ne_of_lt hlt, Nat.ne_of_lt (Nat.lt_succ_of_lt hlt)⟩, fun b hb => ?_, q⟩
    have hle : s1.heap.objs.size ≤ b := by
      rcases (show b = s1.heap.objs.size + 1 ∨ b = s1.heap.objs.size by simpa using hb) with z | z
      · rw [z]; exact Nat.le_add_right _ _
      · rw [z]; exact Nat.le_refl _
    exact I1.fpOk hle (I1.hok.fresh hle)
/-- over a tuple that the body leaves as it is -/
theorem for_enumT {K : PySem.W.Frag} {a : Addr} {xs : List V} {g : TG} {tb : TS} {D : Ends} {σ : L2.St} {H : Hp} (Pv : Nat → L2.St → Hp → Prop) (h0 : Pv 0 σ H) (hl : ∀ i σ H, i ≤ xs.length → Pv i σ H → SqT K H a xs)
    (hs : ∀ i x σ H T, xs[i]? = some x → Pv i σ H → H T = none → g (.ref T) σ (upd H T (.tup [.int (i : Nat), x])) fun σ2 H2 => tb { D with nx := Pv (i + 1), ct := Pv (i + 1), bk := D.nx } σ2 H2) (hd : ∀ σ H, Pv xs.length σ H → D.nx σ H) :
    ∃ W : Nat → Nat → L2.St → Hp → Prop, (∃ m, W 0 m σ H) ∧ ∀ i m σ H, W i m σ H →
      ((IteT K a).stop i H ∧ D.nx σ H) ∨ ((IteT K a).go i H ∧ ∃ N : L2.St → Hp → Prop, (∀ σ' H', N σ' H' → ∃ m', m' < m ∧ W (i + 1) m' σ' H') ∧ ∀ x H', (IteT K a).yld i H x H' → g x σ H' fun σ2 H2 => tb { D with nx := N, ct := N, bk := D.nx } σ2 H2) := by
  refine ⟨fun i m σ H => m = xs.length - i ∧ i ≤ xs.length ∧ Pv i σ H, ⟨xs.length, by simp, Nat.zero_le _, h0⟩, ?_⟩
  rintro i m σ H ⟨rfl, hi, p⟩
  have q := hl i σ H hi p
  rcases Nat.lt_or_eq_of_le hi with hlt | e
  · refine .inr ⟨⟨xs, xs[i], q, by simp [hlt]⟩, Pv (i + 1), fun σ' H' p' => ⟨xs.length - (i + 1), by omega, rfl, hlt, p'⟩, fun v H' ⟨T, x, ev, hT, eH, hx⟩ => ?_⟩
    subst ev eH
    exact hs i x σ H T (hx xs q) p hT
  · subst e
    exact .inl ⟨⟨xs, q, Nat.le_refl _⟩, hd σ H p⟩
end Kx
namespace Kx
open PySem L2 PySem.Spec PyProof.Rows
def top (i : Nat) : Stmt := PySem.Challenge.pw_contractheirs_k03_conditions_joined.main.body.getD i (.Pass ⟨0, 0, 0, 0⟩)
abbrev sIsInt : Stmt := top 8
abbrev sIsWord : Stmt := top 9
abbrev sIsTerm : Stmt := top 10
abbrev sIsLit : Stmt := top 11
abbrev sLitT : Stmt := top 12
abbrev sIsCl : Stmt := top 13
abbrev sStand : Stmt := top 17
abbrev sFirst : Stmt := top 18
/-! words, terms, literals, clauses -/
def lets : Str := "abcdefghijklmnopqrstuvwxyz"
def isWord (t : Str) : Bool := decide (1 ≤ t.length ∧ t.length ≤ 8) && t.cps.toList.all fun c => decide (c ∈ lets.cps.toList)
def isTerm (t : Str) : Bool := decide (t = "") || (decide ((Txt.split t ".").length ≤ 2) && (Txt.split t ".").all isWord)
structure Short (t : Str) : Prop where
  l : t.length ≤ 1000
  n : (Txt.split t ".").length ≤ 1000
  e : ∀ x ∈ Txt.split t ".", x.length ≤ 1000
structure Bx (mg : Str → Option Value) : Prop where
  isi : mg "isinstance" = none
  int : mg "int" = none
  bool : mg "bool" = none
  str : mg "str" = none
  tuple : mg "tuple" = none
  len : mg "len" = none
  all : mg "all" = none
  sorted : mg "sorted" = none
  enum : mg "enumerate" = none
  lets : ∃ t, mg "LETTERS" = some (.str lets t)
  longest : ∃ t, mg "LONGEST_WORD" = some (.int 8 t)
structure Fs (K : PySem.W.Frag) (mg : Str → Option Value) (x : Str) (st : Stmt) (ps : List Str) (f : Addr) (fd : FuncData) : Prop where
  F : Fun K x x st f fd
  b : Binds K fd ps []
  m : mg x = some (.ref f)
theorem yes_of {σ : L2.St} {H : Hp} {A B : Hp → Prop} (h : A H) : tYes σ H fun b H3 => if b = true then A H3 else B H3 := by
  show (if true = true then A H else B H)
  rw [if_pos rfl]
  exact h
theorem new_same {H : Hp} {D : Addr} {o : HO} (hD : H D = none) : Same H (upd H D o) := fun b u e => by
  have hb : b ≠ D := fun z => by
    rw [z, hD] at e
    cases e
  rw [upd_ne hb]
  exact e
/-- what is told at a new address stays told of what was there -/
theorem same_upd {H H2 : Hp} {D : Addr} {o : HO} (hD : H D = none) (s2 : Same H H2) : Same H (upd H2 D o) := fun b u e => by
  have hb : b ≠ D := fun z => by
    rw [z, hD] at e
    cases e
  rw [upd_ne hb]
  exact s2 b u e
theorem tyT {K : PySem.W.Frag} {H : Hp} {a : Addr} {xs : List V} (h : SqT K H a xs) : TyX K H (.ref a) (.type "tuple") := by
  rcases h with (h | ⟨o, h⟩) | ⟨o, its, n, hk, hc, _⟩
  · exact .base (.tup h)
  · exact .fTuple h
  · exact .kTuple hk hc
theorem SqT.same {K : PySem.W.Frag} {H H' : Hp} {a : Addr} {xs : List V} (s : Same H H') (h : SqT K H a xs) : SqT K H' a xs := by
  rcases h with (h | ⟨o, h⟩) | h
  · exact .inl (.inl (s _ _ h))
  · exact .inl (.inr ⟨o, s _ _ h⟩)
  · exact .inr h
def spIsInt : Sp := fun vs H Q _ => ∃ n : Int, vs = [.int n] ∧ Q (.bl true) H
def spIsWord : Sp := fun vs H Q _ => ∃ t : Str, vs = [.str t] ∧ t.length ≤ 1000 ∧ ∀ H', Same H H' → Q (.bl (isWord t)) H'
def spIsTerm : Sp := fun vs H Q _ => ∃ t : Str, vs = [.str t] ∧ Short t ∧ ∀ H', Same H H' → Q (.bl (isTerm t)) H'
abbrev Lit := Str × Str × Int
def IsLit (K : PySem.W.Frag) (H : Hp) (x : V) (l : Lit) : Prop := ∃ a, x = .ref a ∧ SqT K H a [.str l.1, .str l.2.1, .int l.2.2]
def spIsLit (K : PySem.W.Frag) : Sp := fun vs H Q _ => ∃ (x : V) (l : Lit), vs = [x] ∧ IsLit K H x l ∧ Q (.bl true) H
theorem IsLit.same {K : PySem.W.Frag} {H H' : Hp} {x : V} {l : Lit} (s : Same H H') (h : IsLit K H x l) : IsLit K H' x l := let ⟨a, e, q⟩ := h; ⟨a, e, SqT.same s q⟩
section
variable {P : Program} {w : World} {K : PySem.W.Frag} {mg : Str → Option Value} {base : Heap}
theorem scInt : FnScope ["thing"] ["thing"] (defScope sIsInt) := ⟨rfl, rfl, rfl, by decide +kernel, rfl, by decide +kernel, by decide +kernel⟩
theorem ok_isint {f : Addr} {fd : FuncData} (F : Fs K mg "is_integer" sIsInt ["thing"] f fd) (T : Bx mg) : FnOk P w K mg base CX0 1 f fd ["thing"] spIsInt := by
  refine F.F.ok scInt (fun vs H Q E h => ?_) (fun cdv A outer s H vs Q E hr h => ?_)
  · obtain ⟨n, rfl, _⟩ := h
    rfl
  · obtain ⟨n, rfl, q⟩ := h
    refine ⟨_, pss_one (ps_ret (pe_and (pe_callB call_isi (by rfl) T.isi boot_isinstance (pa_cons (pv 0) (pa_cons (pe_bltn (v := .ty "int") (by rfl) T.int (by decide +kernel) rfl) pa_nil)))
      (pe_one (pe_not (pe_callB call_isi (by rfl) T.isi boot_isinstance (pa_cons (pv 0) (pa_cons (pe_bltn (v := .ty "bool") (by rfl) T.bool (by decide +kernel) rfl) pa_nil))))))), ?_⟩
    refine ⟨_, rfl, .int n, .ty "int", _, _, true, rfl, .ty _, .base (.int n), kit_ty (by decide +kernel), true, rfl, iteT ?_⟩
    exact ⟨_, rfl, .int n, .ty "bool", _, _, false, rfl, .ty _, .base (.int n), kit_ty (by decide +kernel), false, rfl, q⟩
theorem scWord : FnScope ["thing", "letter"] ["thing"] (defScope sIsWord) := ⟨rfl, rfl, rfl, by decide +kernel, rfl, by decide +kernel, by decide +kernel⟩
theorem ok_isword {f : Addr} {fd : FuncData} (F : Fs K mg "is_word" sIsWord ["thing"] f fd) (T : Bx mg) : FnOk P w K mg base CX0 1 f fd ["thing"] spIsWord := by
  obtain ⟨tl, hL⟩ := T.lets
  obtain ⟨tw, hW⟩ := T.longest
  refine F.F.ok scWord (fun vs H Q E h => ?_) (fun cdv A outer s H vs Q E hr h => ?_)
  · obtain ⟨t, rfl, _⟩ := h
    rfl
  · obtain ⟨t, rfl, hs, q⟩ := h
    refine ⟨_, pss_cons (ps_if (PW.pt (pw_or (pt_not (pt_val (pe_callB call_isi (by rfl) T.isi boot_isinstance (pa_cons (pv 0) (pa_cons (pe_bltn (v := .ty "str") (by rfl) T.str (by decide +kernel) rfl) pa_nil)))))
        (pw_or1 (pt_not (pt_chain op_le op_le pe_int (pe_callB call_len_str (by rfl) T.len PySem.boot_len (pa_cons (pv 0) pa_nil)) (pe_glob (v := .int 8) (by rfl) hW ⟨_, rfl⟩)))))) (pss_one (ps_ret pe_bl)) pss_nil)
      (pss_one (ps_ret (pe_callB (cr_all rfl) (by rfl) T.all (by decide +kernel) (pa_cons
        (pe_lc (own := [("letter", 1)]) (g := gName 1) (tt := tYes) rfl scWord.nd (pi_str (pv 0)) (blkOk_by (N := ["thing", "letter"]) (sc := defScope sIsWord) (by decide +kernel))
          (fun _ _ _ _ _ => pg_name (i := 1) scWord.nd rfl (Or.inl rfl)) (fun _ _ _ _ _ => pts_nil) (fun _ _ _ _ _ => pe_cmpR op_in_sign (pv 1) (pe_glob (v := .str lets) (by rfl) hL ⟨_, rfl⟩) (by with_unfolding_all rfl))) pa_nil)))), ?_⟩
    have hz : t.length ≤ sizeLine := Nat.le_of_lt (small1000 hs)
    refine ⟨_, rfl, .str t, .ty "str", _, _, true, rfl, .ty _, .base (.str t), kit_ty (by decide +kernel), true, rfl, iteF ?_⟩
    refine ⟨_, rfl, t, rfl, hz, _, _, rfl, rfl, _, rfl, ?_⟩
    by_cases h1 : (1 : Int) ≤ (t.length : Int)
    case neg =>
      rw [decide_eq_false h1]
      have e : isWord t = false := by
        unfold isWord
        rw [decide_eq_false (by omega), Bool.false_and]
      refine iteF ⟨_, rfl, iteT ?_⟩
      have q' := q H fun _ _ z => z
      rw [e] at q'
      exact q'
    case pos =>
    rw [decide_eq_true h1]
    refine iteT ⟨_, _, rfl, rfl, _, rfl, ?_⟩
    by_cases h2 : (t.length : Int) ≤ 8
    case neg =>
      rw [decide_eq_false h2]
      have e : isWord t = false := by
        unfold isWord
        rw [decide_eq_false (by omega), Bool.false_and]
      refine iteT ?_
      have q' := q H fun _ _ z => z
      rw [e] at q'
      exact q'
    case pos =>
    rw [decide_eq_true h2]
    refine iteF ?_
    refine ⟨_, rfl, t, rfl, fun D hD => ?_⟩
    refine lc_it walk_str (fun i H2 => Same H H2 ∧ H2 D = some (.lst ((t.cps.toList.take i).map fun c => .bl (decide (c ∈ lets.cps.toList))))) ⟨new_same hD, upd_same⟩ (fun _ _ _ _ => trivial) ?_ ?_
    · rintro i x H2 H3 hi ⟨s2, g⟩ ⟨rfl, c, hc, rfl⟩
      refine ⟨rfl, yes_of ?_⟩
      have hc' : t.cps.toList[i]? = some c := by rw [Array.getElem?_toList]; exact hc
      refine ⟨_, rfl, c, lets, rfl, rfl, _, g, small1000 (by rw [List.length_map, List.length_take]; have e : t.length = t.cps.toList.length := Array.length_toList.symm; omega), same_upd hD s2, ?_⟩
      · rw [upd_same, List.take_add_one, hc', List.map_append]
        rfl
    · rintro H2 ⟨s2, g⟩
      refine ⟨D, t.cps.toList.map fun c => decide (c ∈ lets.cps.toList), rfl, SqL.of ?_, ?_⟩
      · rw [g, List.take_of_length_le (by rw [Array.length_toList]; exact Nat.le_refl _), List.map_map]
        rfl
      · have e : isWord t = (t.cps.toList.map fun c => decide (c ∈ lets.cps.toList)).all id := by
          unfold isWord
          rw [decide_eq_true (by omega), Bool.true_and, List.all_map]
          rfl
        rw [← e]
        exact q H2 s2
theorem scTerm : FnScope ["thing", "words", "word"] ["thing"] (defScope sIsTerm) := ⟨rfl, rfl, rfl, by decide +kernel, rfl, by decide +kernel, by decide +kernel⟩
theorem ok_isterm {f g : Addr} {fd fdW : FuncData} (F : Fs K mg "is_term" sIsTerm ["thing"] f fd) (W : Fs K mg "is_word" sIsWord ["thing"] g fdW) (T : Bx mg) : FnOk P w K mg base CX0 2 f fd ["thing"] spIsTerm := by
  have GW : FnOk P w K mg base CX0 1 g fdW ["thing"] spIsWord := ok_isword W T
  refine F.F.ok scTerm (fun vs H Q E h => ?_) (fun cdv A outer s H vs Q E hr h => ?_)
  · obtain ⟨t, rfl, _⟩ := h
    rfl
  · obtain ⟨t, rfl, hs, q⟩ := h
    refine ⟨_, pss_cons (ps_if (pt_not (pt_val (pe_callB call_isi (by rfl) T.isi boot_isinstance (pa_cons (pv 0) (pa_cons (pe_bltn (v := .ty "str") (by rfl) T.str (by decide +kernel) rfl) pa_nil))))) (pss_one (ps_ret pe_bl)) pss_nil)
      (pss_cons (ps_if (pt_cmpR op_eq (pv 0) pe_str (nomark _)) (pss_one (ps_ret pe_bl)) pss_nil)
      (pss_cons (ps_set (i := 1) scTerm.nd rfl (Or.inl rfl) (pe_split (pv 0) pe_str))
      (pss_one (ps_ret (pe_and (pe_cmpR op_le (pe_callB call_len_seq (by rfl) T.len PySem.boot_len (pa_cons (pv 1) pa_nil)) pe_int (nomark _))
        (pe_one (pe_callB (cr_all rfl) (by rfl) T.all (by decide +kernel) (pa_cons
          (pe_lc (own := [("word", 2)]) (g := gName 2) (tt := tYes) rfl scTerm.nd (pi_list (pv 1)) (blkOk_by (N := ["thing", "words", "word"]) (sc := defScope sIsTerm) (by decide +kernel))
            (fun _ _ _ _ _ => pg_name (i := 2) scTerm.nd rfl (Or.inl rfl)) (fun _ _ _ _ _ => pts_nil)
            (fun _ _ _ _ _ => pe_call GW hr rfl W.m W.F.kp W.b .nil pass0 (pa_cons (pv 2) pa_nil))) pa_nil)))))))), ?_⟩
    refine ⟨_, rfl, .str t, .ty "str", _, _, true, rfl, .ty _, .base (.str t), kit_ty (by decide +kernel), true, rfl, iteF ?_⟩
    refine ⟨_, rfl, rfl, _, rfl, ?_⟩
    by_cases ht : t = ""
    case pos =>
      have e : decide (V.str t = V.str "") = true := by rw [ht]; exact decide_eq_true rfl
      rw [e]
      refine iteT ?_
      have e : isTerm t = true := by
        unfold isTerm
        rw [decide_eq_true ht, Bool.true_or]
      have q' := q H fun _ _ z => z
      rw [e] at q'
      exact q'
    case neg =>
    have e : decide (V.str t = V.str "") = false := decide_eq_false fun z => ht (V.str.inj z)
    rw [e]
    refine iteF ?_
    have e0 : isTerm t = (decide ((Txt.split t ".").length ≤ 2) && (Txt.split t ".").all isWord) := by
      unfold isTerm
      rw [decide_eq_false ht, Bool.false_or]
    rw [e0] at q
    refine ⟨_, rfl, ⟨t, rfl⟩, t, ".", rfl, rfl, (by decide), (by have := hs.l; rw [sizeLine_eq]; omega), fun p hp => ?_⟩
    have gp : (upd H p (.lst ((Txt.split t ".").map V.str))) p = some (.lst ((Txt.split t ".").map V.str)) := upd_same
    refine ⟨_, rfl, p, _, rfl, .inl (SqL.of gp), _, _, rfl, rfl, _, rfl, ?_⟩
    rw [List.length_map]
    by_cases h2 : ((Txt.split t ".").length : Int) ≤ 2
    case neg =>
      rw [decide_eq_false (by omega), Bool.false_and] at q
      rw [decide_eq_false h2]
      exact iteF (q _ (new_same hp))
    case pos =>
    rw [decide_eq_true (by omega), Bool.true_and] at q
    rw [decide_eq_true h2]
    refine iteT ⟨_, rfl, p, rfl, ⟨_, SqL.of gp⟩, fun D hD => ?_⟩
    have nD : p ≠ D := fun z => by
      rw [← z, gp] at hD
      cases hD
    refine lc_it (walk_list (xs := (Txt.split t ".").map V.str)) (fun i H2 => Same (upd H p (.lst ((Txt.split t ".").map V.str))) H2 ∧ H2 D = some (.lst (((Txt.split t ".").take i).map fun x => .bl (isWord x)))) ⟨new_same hD, upd_same⟩ (fun i H2 _ h => SqL.of (h.1 _ _ gp)) ?_ ?_
    · rintro i x H2 H3 hi ⟨s2, gD⟩ ⟨rfl, hx⟩
      rw [List.getElem?_map] at hx
      obtain ⟨z, hz, rfl⟩ := Option.map_eq_some_iff.mp hx
      refine ⟨rfl, yes_of ⟨_, rfl, z, rfl, hs.e z (List.mem_of_getElem? hz), fun H4 s4 => ⟨_, s4 _ _ gD, small1000 (by rw [List.length_map, List.length_take]; have := hs.n; omega), same_upd hD (fun b u e => s4 _ _ (s2 _ _ e)), ?_⟩⟩⟩
      rw [upd_same, List.take_add_one, hz, List.map_append]
      rfl
    · rintro H2 ⟨s2, gD⟩
      refine ⟨D, (Txt.split t ".").map isWord, rfl, SqL.of ?_, ?_⟩
      · rw [gD, List.take_of_length_le (by rw [List.length_map]; exact Nat.le_refl _), List.map_map]
        rfl
      · have e : (Txt.split t ".").all isWord = ((Txt.split t ".").map isWord).all id := by
          rw [List.all_map]
          rfl
        rw [← e]
        exact q H2 fun b u z => s2 _ _ (new_same hp b u z)
theorem scLit : FnScope ["thing", "left", "right", "number"] ["thing"] (defScope sIsLit) := ⟨rfl, rfl, rfl, by decide +kernel, rfl, by decide +kernel, by decide +kernel⟩
theorem ok_islit {f g : Addr} {fd fdI : FuncData} (F : Fs K mg "is_literal" sIsLit ["thing"] f fd) (W : Fs K mg "is_integer" sIsInt ["thing"] g fdI) (T : Bx mg) : FnOk P w K mg base CX0 2 f fd ["thing"] (spIsLit K) := by
  have GI : FnOk P w K mg base CX0 1 g fdI ["thing"] spIsInt := ok_isint W T
  refine F.F.ok scLit (fun vs H Q E h => ?_) (fun cdv A outer s H vs Q E hr h => ?_)
  · obtain ⟨x, l, rfl, _⟩ := h
    rfl
  · obtain ⟨x, ⟨l1, l2, n⟩, rfl, ⟨a, rfl, ha⟩, q⟩ := h
    refine ⟨_, pss_cons (ps_if (PW.pt (pw_or (pt_not (pt_val (pe_callB call_isi (by rfl) T.isi boot_isinstance (pa_cons (pv 0) (pa_cons (pe_bltn (v := .ty "tuple") (by rfl) T.tuple (by decide +kernel) rfl) pa_nil)))))
        (pw_or1 (pt_cmpR op_ne (pe_callB call_len_seq (by rfl) T.len PySem.boot_len (pa_cons (pv 0) pa_nil)) pe_int (nomark _))))) (pss_one (ps_ret pe_bl)) pss_nil)
      (pss_cons (ps_asg (pv 0) (pg_tup rfl (pgs_cons (pg_name (i := 1) scLit.nd rfl (Or.inl rfl)) (pgs_cons (pg_name (i := 2) scLit.nd rfl (Or.inl rfl)) (pgs_cons (pg_name (i := 3) scLit.nd rfl (Or.inl rfl)) pgs_nil)))))
      (pss_one (ps_ret (pe_and (pe_callB call_isi (by rfl) T.isi boot_isinstance (pa_cons (pv 1) (pa_cons (pe_bltn (v := .ty "str") (by rfl) T.str (by decide +kernel) rfl) pa_nil)))
        (pe_and (pe_callB call_isi (by rfl) T.isi boot_isinstance (pa_cons (pv 2) (pa_cons (pe_bltn (v := .ty "str") (by rfl) T.str (by decide +kernel) rfl) pa_nil)))
        (pe_one (pe_call GI hr rfl W.m W.F.kp W.b .nil pass0 (pa_cons (pv 3) pa_nil)))))))), ?_⟩
    refine ⟨_, rfl, .ref a, .ty "tuple", _, _, true, rfl, .ty _, tyT ha, kit_ty (by decide +kernel), true, rfl, iteF ?_⟩
    refine ⟨_, rfl, a, _, rfl, .inr ha, rfl, _, rfl, ?_⟩
    refine iteF ?_
    refine ⟨_, rfl, a, _, rfl, ha, rfl, _, _, rfl, _, _, rfl, _, _, rfl, rfl, ?_⟩
    refine ⟨_, rfl, .str l1, .ty "str", _, _, true, rfl, .ty _, .base (.str l1), kit_ty (by decide +kernel), true, rfl, iteT ?_⟩
    refine ⟨_, rfl, .str l2, .ty "str", _, _, true, rfl, .ty _, .base (.str l2), kit_ty (by decide +kernel), true, rfl, iteT ?_⟩
    exact ⟨_, rfl, n, rfl, q⟩
def spLitT (K : PySem.W.Frag) : Sp := fun vs H Q _ => ∃ (x : V) (l : Lit), vs = [x] ∧ IsLit K H x l ∧ Short l.1 ∧ Short l.2.1 ∧ ∀ H', Same H H' → Q (.bl (isTerm l.1 && isTerm l.2.1)) H'
theorem scLitT : FnScope ["thing"] ["thing"] (defScope sLitT) := ⟨rfl, rfl, rfl, by decide +kernel, rfl, by decide +kernel, by decide +kernel⟩
theorem ok_litT {f g i t wd : Addr} {fd fdL fdI fdT fdW : FuncData} (F : Fs K mg "is_literal_over_terms" sLitT ["thing"] f fd) (L : Fs K mg "is_literal" sIsLit ["thing"] g fdL) (I : Fs K mg "is_integer" sIsInt ["thing"] i fdI)
    (Tm : Fs K mg "is_term" sIsTerm ["thing"] t fdT) (W : Fs K mg "is_word" sIsWord ["thing"] wd fdW) (T : Bx mg) : FnOk P w K mg base CX0 3 f fd ["thing"] (spLitT K) := by
  have GL : FnOk P w K mg base CX0 2 g fdL ["thing"] (spIsLit K) := ok_islit L I T
  have GT : FnOk P w K mg base CX0 2 t fdT ["thing"] spIsTerm := ok_isterm Tm W T
  refine F.F.ok scLitT (fun vs H Q E h => ?_) (fun cdv A outer s H vs Q E hr h => ?_)
  · obtain ⟨x, l, rfl, _⟩ := h
    rfl
  · obtain ⟨x, ⟨l1, l2, n⟩, rfl, ⟨a, rfl, ha⟩, sh1, sh2, q⟩ := h
    refine ⟨_, pss_one (ps_ret (pe_and (pe_call GL hr (by rfl) L.m L.F.kp L.b .nil pass0 (pa_cons (pv 0) pa_nil))
      (pe_and (pe_call GT hr (by rfl) Tm.m Tm.F.kp Tm.b .nil pass0 (pa_cons (pe_ix ix_tup (pv 0) pe_int (fun _ _ => rfl)) pa_nil))
      (pe_one (pe_call GT hr (by rfl) Tm.m Tm.F.kp Tm.b .nil pass0 (pa_cons (pe_ix ix_tup (pv 0) pe_int (fun _ _ => rfl)) pa_nil)))))), ?_⟩
    refine ⟨_, rfl, .ref a, (l1, l2, n), rfl, ⟨a, rfl, ha⟩, _, rfl, iteT ?_⟩
    refine ⟨_, rfl, a, _, _, .str l1, rfl, rfl, ha, rfl, l1, rfl, sh1, fun H4 s4 => ⟨_, rfl, ?_⟩⟩
    cases h3 : isTerm l1 with
    | false =>
      have q' := q H4 s4
      rw [show isTerm (l1, l2, n).1 = false from h3, Bool.false_and] at q'
      exact iteF q'
    | true =>
      refine iteT ⟨_, rfl, a, _, _, .str l2, rfl, rfl, SqT.same s4 ha, rfl, l2, rfl, sh2, fun H5 s5 => ?_⟩
      have q' := q H5 fun b u z => s5 _ _ (s4 _ _ z)
      rw [show isTerm (l1, l2, n).1 = true from h3, Bool.true_and] at q'
      exact q'
end
end Kx
namespace Kx
open PySem L2 PySem.Spec PyProof.Rows
structure Cl (K : PySem.W.Frag) (H : Hp) (a : Addr) (xs : List V) (c : List Lit) : Prop where
  sq : SqT K H a xs
  p : Paired (IsLit K H) xs c
  l1 : 1 ≤ c.length
  l2 : c.length ≤ 1000
theorem paired_same {K : PySem.W.Frag} {H H' : Hp} (s : Same H H') {xs : List V} {c : List Lit} (h : Paired (IsLit K H) xs c) : Paired (IsLit K H') xs c := L2.Paired.mapP h fun _ _ z => IsLit.same s z
theorem Cl.same {K : PySem.W.Frag} {H H' : Hp} {a : Addr} {xs : List V} {c : List Lit} (s : Same H H') (h : Cl K H a xs c) : Cl K H' a xs c := ⟨SqT.same s h.sq, paired_same s h.p, h.l1, h.l2⟩
theorem Cl.len {K : PySem.W.Frag} {H : Hp} {a : Addr} {xs : List V} {c : List Lit} (h : Cl K H a xs c) : xs.length = c.length := Paired.length h.p
def spIsCl (K : PySem.W.Frag) : Sp := fun vs H Q _ => ∃ (a : Addr) (xs : List V) (c : List Lit) (m : Int), vs = [.ref a, .int m] ∧ Cl K H a xs c ∧ ∀ H', Same H H' → Q (.bl (decide ((c.length : Int) ≤ m))) H'
def stands (c : List Lit) : Bool := decide ((c.length : Int) ≤ 2) && c.all fun l => isTerm l.1 && isTerm l.2.1
def spStand (K : PySem.W.Frag) : Sp := fun vs H Q _ => ∃ (a : Addr) (xs : List V) (c : List Lit), vs = [.ref a] ∧ Cl K H a xs c ∧ (∀ l ∈ c, Short l.1 ∧ Short l.2.1) ∧ ∀ H', Same H H' → Q (.bl (stands c)) H'
section
variable {P : Program} {w : World} {K : PySem.W.Frag} {mg : Str → Option Value} {base : Heap}
theorem scCl : FnScope ["thing", "most", "literal"] ["thing", "most"] (defScope sIsCl) := ⟨rfl, rfl, rfl, by decide +kernel, rfl, by decide +kernel, by decide +kernel⟩
theorem ok_iscl {f g i : Addr} {fd fdL fdI : FuncData} (F : Fs K mg "is_clause" sIsCl ["thing", "most"] f fd) (L : Fs K mg "is_literal" sIsLit ["thing"] g fdL) (I : Fs K mg "is_integer" sIsInt ["thing"] i fdI) (T : Bx mg) :
    FnOk P w K mg base CX0 3 f fd ["thing", "most"] (spIsCl K) := by
  have GL : FnOk P w K mg base CX0 2 g fdL ["thing"] (spIsLit K) := ok_islit L I T
  refine F.F.ok scCl (fun vs H Q E h => ?_) (fun cdv A outer s H vs Q E hr h => ?_)
  · obtain ⟨a, xs, c, m, rfl, _⟩ := h
    rfl
  · obtain ⟨a, xs, c, m, rfl, hc, q⟩ := h
    have hl := hc.len
    have h1 := hc.l1
    refine ⟨_, pss_cons (ps_if (PW.pt (pw_or (pt_not (pt_val (pe_callB call_isi (by rfl) T.isi boot_isinstance (pa_cons (pv 0) (pa_cons (pe_bltn (v := .ty "tuple") (by rfl) T.tuple (by decide +kernel) rfl) pa_nil)))))
        (pw_or1 (pt_not (pt_chain op_le op_le pe_int (pe_callB call_len_seq (by rfl) T.len PySem.boot_len (pa_cons (pv 0) pa_nil)) (pv 1)))))) (pss_one (ps_ret pe_bl)) pss_nil)
      (pss_one (ps_ret (pe_callB (cr_all rfl) (by rfl) T.all (by decide +kernel) (pa_cons
        (pe_lc (own := [("literal", 2)]) (g := gName 2) (tt := tYes) rfl scCl.nd (pi_tup (pv 0)) (blkOk_by (N := ["thing", "most", "literal"]) (sc := defScope sIsCl) (by decide +kernel))
          (fun _ _ _ _ _ => pg_name (i := 2) scCl.nd rfl (Or.inl rfl)) (fun _ _ _ _ _ => pts_nil)
          (fun _ _ _ _ _ => pe_call GL hr rfl L.m L.F.kp L.b .nil pass0 (pa_cons (pv 2) pa_nil))) pa_nil)))), ?_⟩
    refine ⟨_, rfl, .ref a, .ty "tuple", _, _, true, rfl, .ty _, tyT hc.sq, kit_ty (by decide +kernel), true, rfl, iteF ?_⟩
    refine ⟨_, rfl, a, xs, rfl, .inr hc.sq, _, _, rfl, rfl, _, rfl, ?_⟩
    rw [decide_eq_true (by rw [hl]; omega)]
    refine iteT ⟨_, rfl, _, _, rfl, rfl, _, rfl, ?_⟩
    rw [hl]
    by_cases h2 : (c.length : Int) ≤ m
    case neg =>
      rw [decide_eq_false h2] at q ⊢
      exact iteT (q H fun _ _ z => z)
    case pos =>
    rw [decide_eq_true h2] at q ⊢
    refine iteF ⟨_, rfl, a, rfl, ⟨_, hc.sq⟩, fun D hD => ?_⟩
    refine lc_it (walk_tup (xs := xs)) (fun i H2 => Same H H2 ∧ H2 D = some (.lst ((List.replicate i true).map V.bl))) ⟨new_same hD, upd_same⟩ (fun i H2 _ h => SqT.same h.1 hc.sq) ?_ ?_
    · rintro i x H2 H3 hi ⟨s2, gD⟩ ⟨rfl, hx⟩
      obtain ⟨l, hcl, hx'⟩ := paired_get hc.p hx
      refine ⟨rfl, yes_of ⟨_, rfl, x, l, rfl, IsLit.same s2 hx', _, gD, small1000 (by rw [List.length_map, List.length_replicate]; have := hc.l2; omega), same_upd hD s2, ?_⟩⟩
      rw [upd_same, List.replicate_succ', List.map_append]
      rfl
    · rintro H2 ⟨s2, gD⟩
      refine ⟨D, List.replicate xs.length true, rfl, SqL.of gD, ?_⟩
      have e : (List.replicate xs.length true).all id = true := List.all_eq_true.mpr fun b hb => by rw [(List.mem_replicate.mp hb).2]; rfl
      rw [e]
      exact q H2 s2
theorem scStand : FnScope ["thing", "literal"] ["thing"] (defScope sStand) := ⟨rfl, rfl, rfl, by decide +kernel, rfl, by decide +kernel, by decide +kernel⟩
theorem ok_stand {f g i c' t wd lt : Addr} {fd fdL fdI fdC fdT fdW fdLT : FuncData} (F : Fs K mg "_can_stand" sStand ["thing"] f fd) (C : Fs K mg "is_clause" sIsCl ["thing", "most"] c' fdC) (L : Fs K mg "is_literal" sIsLit ["thing"] g fdL) (I : Fs K mg "is_integer" sIsInt ["thing"] i fdI)
    (Tm : Fs K mg "is_term" sIsTerm ["thing"] t fdT) (W : Fs K mg "is_word" sIsWord ["thing"] wd fdW) (LT : Fs K mg "is_literal_over_terms" sLitT ["thing"] lt fdLT) (T : Bx mg) (hM : ∃ k, mg "MOST_LITERALS" = some (.int 2 k)) :
    FnOk P w K mg base CX0 4 f fd ["thing"] (spStand K) := by
  obtain ⟨tk, hM⟩ := hM
  have GC : FnOk P w K mg base CX0 3 c' fdC ["thing", "most"] (spIsCl K) := ok_iscl C L I T
  have GT : FnOk P w K mg base CX0 3 lt fdLT ["thing"] (spLitT K) := ok_litT LT L I Tm W T
  refine F.F.ok scStand (fun vs H Q E h => ?_) (fun cdv A outer s H vs Q E hr h => ?_)
  · obtain ⟨a, xs, c, rfl, _⟩ := h
    rfl
  · obtain ⟨a, xs, c, rfl, hc, hs, q⟩ := h
    have hl := hc.len
    refine ⟨_, pss_one (ps_ret (pe_and (pe_call GC hr (by rfl) C.m C.F.kp C.b .nil pass0 (pa_cons (pv 0) (pa_cons (pe_glob (v := .int 2) (by rfl) hM ⟨_, rfl⟩) pa_nil)))
      (pe_one (pe_callB (cr_all rfl) (by rfl) T.all (by decide +kernel) (pa_cons
        (pe_lc (own := [("literal", 1)]) (g := gName 1) (tt := tYes) rfl scStand.nd (pi_tup (pv 0)) (blkOk_by (N := ["thing", "literal"]) (sc := defScope sStand) (by decide +kernel))
          (fun _ _ _ _ _ => pg_name (i := 1) scStand.nd rfl (Or.inl rfl)) (fun _ _ _ _ _ => pts_nil)
          (fun _ _ _ _ _ => pe_call GT hr (by rfl) LT.m LT.F.kp LT.b .nil pass0 (pa_cons (pv 1) pa_nil))) pa_nil))))), ?_⟩
    refine ⟨_, rfl, a, xs, c, 2, rfl, hc, fun H1 s1 => ⟨_, rfl, ?_⟩⟩
    by_cases h2 : (c.length : Int) ≤ 2
    case neg =>
      rw [decide_eq_false h2]
      have e : stands c = false := by
        unfold stands
        rw [decide_eq_false h2, Bool.false_and]
      rw [e] at q
      exact iteF (q H1 s1)
    case pos =>
    rw [decide_eq_true h2]
    have e : stands c = c.all fun l => isTerm l.1 && isTerm l.2.1 := by
      unfold stands
      rw [decide_eq_true h2, Bool.true_and]
    rw [e] at q
    have hc1 := Cl.same s1 hc
    refine iteT ⟨_, rfl, a, rfl, ⟨_, hc1.sq⟩, fun D hD => ?_⟩
    refine lc_it (walk_tup (xs := xs)) (fun i H2 => Same H1 H2 ∧ H2 D = some (.lst ((c.take i).map fun l => .bl (isTerm l.1 && isTerm l.2.1)))) ⟨new_same hD, upd_same⟩ (fun i H2 _ h => SqT.same h.1 hc1.sq) ?_ ?_
    · rintro i x H2 H3 hi ⟨s2, gD⟩ ⟨rfl, hx⟩
      obtain ⟨l, hcl, hx'⟩ := paired_get hc1.p hx
      obtain ⟨sh1, sh2⟩ := hs l (List.mem_of_getElem? hcl)
      refine ⟨rfl, yes_of ⟨_, rfl, x, l, rfl, IsLit.same s2 hx', sh1, sh2, fun H4 s4 => ?_⟩⟩
      refine ⟨_, s4 _ _ gD, small1000 (by rw [List.length_map, List.length_take]; have := hc.l2; omega), same_upd hD (fun b u z => s4 _ _ (s2 _ _ z)), ?_⟩
      rw [upd_same, List.take_add_one, hcl, List.map_append]
      rfl
    · rintro H2 ⟨s2, gD⟩
      refine ⟨D, c.map fun l => isTerm l.1 && isTerm l.2.1, rfl, SqL.of ?_, ?_⟩
      · rw [gD, hl, List.take_of_length_le (Nat.le_refl _), List.map_map]
        rfl
      · have e : (c.all fun l => isTerm l.1 && isTerm l.2.1) = (c.map fun l => isTerm l.1 && isTerm l.2.1).all id := by
          rw [List.all_map]
          rfl
        rw [← e]
        exact q H2 fun b u z => s2 _ _ (s1 _ _ z)
end
end Kx
namespace Kx
open PySem L2 PySem.Spec PyProof.Rows
def IsC (K : PySem.W.Frag) (H : Hp) (x : V) (c : List Lit) : Prop := ∃ a ys, x = .ref a ∧ Cl K H a ys c
theorem IsC.same {K : PySem.W.Frag} {H H' : Hp} {x : V} {c : List Lit} (s : Same H H') (h : IsC K H x c) : IsC K H' x c := let ⟨a, ys, e, q⟩ := h; ⟨a, ys, e, Cl.same s q⟩
/-- a tuple of clauses -/
structure Cs (K : PySem.W.Frag) (H : Hp) (a : Addr) (xs : List V) (cs : List (List Lit)) : Prop where
  sq : SqT K H a xs
  p : Paired (IsC K H) xs cs
  l : cs.length ≤ 1000
theorem pairedC_same {K : PySem.W.Frag} {H H' : Hp} (s : Same H H') {xs : List V} {cs : List (List Lit)} (h : Paired (IsC K H) xs cs) : Paired (IsC K H') xs cs := L2.Paired.mapP h fun _ _ z => IsC.same s z
theorem Cs.same {K : PySem.W.Frag} {H H' : Hp} {a : Addr} {xs : List V} {cs : List (List Lit)} (s : Same H H') (h : Cs K H a xs cs) : Cs K H' a xs cs := ⟨SqT.same s h.sq, pairedC_same s h.p, h.l⟩
def shortC (cs : List (List Lit)) : Prop := ∀ c ∈ cs, ∀ l ∈ c, Short l.1 ∧ Short l.2.1
/-- where clauses are refused, from the i-th on, d of two literals before -/
def wrongAt : Nat → Nat → List (List Lit) → Option Int
  | _, _, [] => none
  | i, d, c :: r => if stands c = true then if (if c.length = 2 then d + 1 else d) = 2 then some (i : Int) else wrongAt (i + 1) (if c.length = 2 then d + 1 else d) r else some (i : Int)
def firstWrong (cs : List (List Lit)) : Option Int := if 4 < cs.length then some (-1) else wrongAt 0 0 cs
def optV : Option Int → V
  | none => .non
  | some i => .int i
def spFirst (K : PySem.W.Frag) : Sp := fun vs H Q _ => ∃ (a : Addr) (xs : List V) (cs : List (List Lit)), vs = [.ref a] ∧ Cs K H a xs cs ∧ shortC cs ∧ ∀ H', Same H H' → Q (optV (firstWrong cs)) H'
/-- the package's own defs, as they are bound -/
structure Forms (K : PySem.W.Frag) (mg : Str → Option Value) : Prop where
  T : Bx mg
  mL : ∃ k, mg "MOST_LITERALS" = some (.int 2 k)
  mC : ∃ k, mg "MOST_CLAUSES" = some (.int 4 k)
  int : ∃ f fd, Fs K mg "is_integer" sIsInt ["thing"] f fd
  word : ∃ f fd, Fs K mg "is_word" sIsWord ["thing"] f fd
  term : ∃ f fd, Fs K mg "is_term" sIsTerm ["thing"] f fd
  lit : ∃ f fd, Fs K mg "is_literal" sIsLit ["thing"] f fd
  cl : ∃ f fd, Fs K mg "is_clause" sIsCl ["thing", "most"] f fd
  stand : ∃ f fd, Fs K mg "_can_stand" sStand ["thing"] f fd
  litT : ∃ f fd, Fs K mg "is_literal_over_terms" sLitT ["thing"] f fd
section
variable {P : Program} {w : World} {K : PySem.W.Frag} {mg : Str → Option Value} {base : Heap}
theorem scFirst : FnScope ["clauses", "doubles", "at", "clause"] ["clauses"] (defScope sFirst) := ⟨rfl, rfl, rfl, by decide +kernel, rfl, by decide +kernel, by decide +kernel⟩
theorem ok_first {f : Addr} {fd : FuncData} (F : Fs K mg "_first_wrong" sFirst ["clauses"] f fd) (M : Forms K mg) : FnOk P w K mg base CX0 5 f fd ["clauses"] (spFirst K) := by
  obtain ⟨tk, hM⟩ := M.mC
  obtain ⟨_, _, dI⟩ := M.int
  obtain ⟨_, _, dW⟩ := M.word
  obtain ⟨_, _, dT⟩ := M.term
  obtain ⟨_, _, dL⟩ := M.lit
  obtain ⟨_, _, dC⟩ := M.cl
  obtain ⟨_, _, dS⟩ := M.stand
  obtain ⟨_, _, dLT⟩ := M.litT
  have T := M.T
  have GS : FnOk P w K mg base CX0 4 _ _ ["thing"] (spStand K) := ok_stand dS dC dL dI dT dW dLT T M.mL
  refine F.F.ok scFirst (fun vs H Q E h => ?_) (fun cdv A outer s H vs Q E hr h => ?_)
  · obtain ⟨a, xs, cs, rfl, _⟩ := h
    rfl
  · obtain ⟨a, xs, cs, rfl, hc, hs, q⟩ := h
    have hl : xs.length = cs.length := Paired.length hc.p
    refine ⟨_, pss_cons (ps_if (pt_cmpR op_gt (pe_callB call_len_seq (by rfl) T.len PySem.boot_len (pa_cons (pv 0) pa_nil)) (pe_glob (v := .int 4) (by rfl) hM ⟨_, rfl⟩) (nomark _)) (pss_one (ps_ret (pe_un un_neg pe_int))) pss_nil)
      (pss_cons (ps_set (i := 1) scFirst.nd rfl (Or.inl rfl) pe_int)
      (pss_cons (ps_for PassesOwn.never rfl (pi_enumT (by rfl) T.enum (pa_cons (pv 0) pa_nil)) (pg_tup rfl (pgs_cons (pg_name (i := 2) scFirst.nd rfl (Or.inl rfl)) (pgs_cons (pg_name (i := 3) scFirst.nd rfl (Or.inl rfl)) pgs_nil)))
        (pss_cons (ps_if (pt_not (pt_val (pe_call GS hr (by rfl) dS.m dS.F.kp dS.b .nil pass0 (pa_cons (pv 3) pa_nil)))) (pss_one (ps_ret (pv 2))) pss_nil)
        (pss_cons (ps_if (pt_cmpR op_eq (pe_callB call_len_seq (by rfl) T.len PySem.boot_len (pa_cons (pv 3) pa_nil)) pe_int (nomark _)) (pss_one (ps_aug (i := 1) scFirst.nd rfl (Or.inl rfl) pe_int ip_add)) pss_nil)
        (pss_one (ps_if (pt_cmpR op_eq (pv 1) pe_int (nomark _)) (pss_one (ps_ret (pv 2))) pss_nil)))))
      (pss_one (ps_ret pe_non)))), ?_⟩
    refine ⟨_, rfl, a, xs, rfl, .inr hc.sq, _, _, rfl, rfl, _, rfl, ?_⟩
    rw [hl]
    by_cases h4 : (4 : Int) < (cs.length : Int)
    case pos =>
      rw [decide_eq_true h4]
      have e : firstWrong cs = some (-1) := by
        unfold firstWrong
        rw [if_pos (by omega)]
      rw [e] at q
      exact iteT ⟨_, rfl, q H fun _ _ z => z⟩
    case neg =>
    rw [decide_eq_false h4]
    have e : firstWrong cs = wrongAt 0 0 cs := by
      unfold firstWrong
      rw [if_neg (by omega)]
    rw [e] at q
    obtain ⟨R, hR⟩ : ∃ R, wrongAt 0 0 cs = R := ⟨_, rfl⟩
    rw [hR] at q
    refine iteF ?_
    refine ⟨_, rfl, a, xs, rfl, hc.sq, ?_⟩
    refine for_enumT (xs := xs) (fun i σ H2 => Same H H2 ∧ ∃ (d : Nat) (v2 v3 : Option V), σ = [some (.ref a), some (.int d), v2, v3] ∧ d < 2 ∧ wrongAt i d (cs.drop i) = R) ⟨fun _ _ z => z, 0, none, none, rfl, by decide, hR⟩
      (fun i σ H2 _ h => SqT.same h.1 hc.sq) ?_ ?_
    · rintro i x σ H2 t hx ⟨s2, d, v2, v3, rfl, hd, hw⟩ ht
      obtain ⟨c, hcl, y, ys, rfl, hy⟩ := paired_get hc.p hx
      have hdrop : cs.drop i = c :: cs.drop (i + 1) := (List.drop_eq_getElem?_toList_append).trans (by rw [hcl]; rfl)
      rw [hdrop] at hw
      have s3 : Same H (upd H2 t (.tup [.int (i : Nat), .ref y])) := fun b u z => new_same ht b u (s2 b u z)
      have hy3 := Cl.same s3 hy
      refine ⟨t, _, rfl, SqT.of upd_same, rfl, _, _, rfl, _, _, rfl, rfl, ?_⟩
      refine ⟨_, rfl, y, ys, c, rfl, hy3, fun l hm => hs c (List.mem_of_getElem? hcl) l hm, fun H4 s4 => ⟨_, rfl, ?_⟩⟩
      have s14 : Same H H4 := fun b u z => s4 b u (s3 b u z)
      have hy4 := Cl.same s14 hy
      unfold wrongAt at hw
      cases hst : stands c with
      | false =>
        rw [hst, if_neg Bool.false_ne_true] at hw
        rw [← hw] at q
        exact iteT ⟨_, rfl, q H4 s14⟩
      | true =>
        rw [hst, if_pos rfl] at hw
        refine iteF ?_
        refine ⟨_, rfl, y, ys, rfl, .inr hy4.sq, rfl, _, rfl, ?_⟩
        rw [hy4.len]
        by_cases h2 : c.length = 2
        case pos =>
          rw [if_pos h2] at hw
          have e2 : decide (V.int (c.length : Int) = V.int 2) = true := by rw [h2]; exact decide_eq_true rfl
          rw [e2]
          refine iteT ⟨_, rfl, _, _, rfl, rfl, ?_⟩
          refine ⟨_, rfl, rfl, _, rfl, ?_⟩
          by_cases h5 : d + 1 = 2
          case pos =>
            rw [if_pos h5] at hw
            have e5 : decide (V.int ((d : Int) + 1) = V.int 2) = true := by
              have : d = 1 := by omega
              rw [this]
              exact decide_eq_true rfl
            rw [e5]
            rw [← hw] at q
            exact iteT ⟨_, rfl, q H4 s14⟩
          case neg =>
            rw [if_neg h5] at hw
            have e5 : decide (V.int ((d : Int) + 1) = V.int 2) = false := decide_eq_false fun z => h5 (by have := V.int.inj z; omega)
            rw [e5]
            exact iteF ⟨s14, d + 1, _, _, rfl, by omega, hw⟩
        case neg =>
          rw [if_neg h2] at hw
          have e2 : decide (V.int (c.length : Int) = V.int 2) = false := decide_eq_false fun z => h2 (by have := V.int.inj z; omega)
          rw [e2]
          refine iteF ?_
          refine ⟨_, rfl, rfl, _, rfl, ?_⟩
          have h5 : ¬ d = 2 := by omega
          rw [if_neg h5] at hw
          have e5 : decide (V.int (d : Int) = V.int 2) = false := decide_eq_false fun z => h5 (by have := V.int.inj z; omega)
          rw [e5]
          exact iteF ⟨s14, d, _, _, rfl, hd, hw⟩
    · rintro σ H2 ⟨s2, d, v2, v3, rfl, hd, hw⟩
      rw [List.drop_of_length_le (by rw [hl]; exact Nat.le_refl _)] at hw
      rw [← hw] at q
      exact q H2 s2
end
end Kx
namespace Kx
open PySem L2 PySem.Spec PyProof.Rows
/-! the terms of clauses, gathered -/
abbrev noE (t : Str) : Bool := !decide (t = "")
def termsL (l : Lit) : List Str := [l.1, l.2.1].filter noE
def termsC (c : List Lit) : List Str := c.flatMap termsL
def termsOf (cs : List (List Lit)) : List Str := cs.flatMap termsC
structure Col (l ts : List Str) (n : Nat) : Prop where
  nd : l.Nodup
  mem : ∀ t, t ∈ l ↔ t ∈ ts
  len : l.length ≤ n
theorem Col.nil : Col [] [] 0 := ⟨List.nodup_nil, fun _ => Iff.rfl, Nat.le_refl _⟩
theorem put_nodup {l : List Str} {k : Str} (h : l.Nodup) : (put l k).Nodup := by
  unfold put
  by_cases hk : k ∈ l
  · rw [if_pos hk]; exact h
  · rw [if_neg hk]; exact List.nodup_cons.mpr ⟨hk, h⟩
theorem Col.put {l ts : List Str} {n : Nat} {k : Str} (C : Col l ts n) : Col (Kx.put l k) (ts ++ [k]) (n + 1) :=
  ⟨put_nodup C.nd, fun t => by rw [mem_put, List.mem_append, C.mem t, List.mem_singleton], Nat.le_trans put_len (Nat.succ_le_succ C.len)⟩
theorem Col.more {l ts : List Str} {n m : Nat} (C : Col l ts n) (h : n ≤ m) : Col l ts m := ⟨C.nd, C.mem, Nat.le_trans C.len h⟩
theorem walk_it {J : It} {n : Nat} {G : Hp → Prop} {Y : Nat → Hp → V → Hp → Prop} (w : Walk J n G Y) {g : TG} {tt : TT} {tb : TB} {vs : List Nat} {σ : L2.St} {H0 : Hp} {Qd : Hp → Prop} (Pv : Nat → Hp → Prop) (h0 : Pv 0 H0) (hG : ∀ i H, i ≤ n → Pv i H → G H)
    (hs : ∀ i x H H', i < n → Pv i H → Y i H x H' → g x (wipe σ vs) H' fun σ2 H2 => wipe σ2 vs = wipe σ vs ∧ tt σ2 H2 fun b H3 => if b = true then tb σ2 H3 (Pv (i + 1)) else Pv (i + 1) H3) (hd : ∀ H, Pv n H → Qd H) :
    ∃ W : Nat → Nat → Hp → Prop, (∃ m, W 0 m H0) ∧ ∀ i m H, W i m H → (J.stop i H ∧ Qd H) ∨ (J.go i H ∧ ∃ Nx : Hp → Prop, (∀ H', Nx H' → ∃ m', m' < m ∧ W (i + 1) m' H') ∧
      ∀ x H', J.yld i H x H' → g x (wipe σ vs) H' fun σ2 H2 => wipe σ2 vs = wipe σ vs ∧ tt σ2 H2 fun b H3 => if b = true then tb σ2 H3 Nx else Nx H3) := by
  refine ⟨fun i m H => m = n - i ∧ i ≤ n ∧ Pv i H, ⟨n, (Nat.sub_zero n).symm, Nat.zero_le _, h0⟩, ?_⟩
  rintro i m H ⟨rfl, hi, p⟩
  have q := hG i H hi p
  rcases Nat.lt_or_eq_of_le hi with hlt | e
  · exact .inr ⟨w.goes i H hlt q, Pv (i + 1), fun H' p' => ⟨n - (i + 1), by omega, rfl, hlt, p'⟩, fun x H' y => hs i x H H' hlt p (w.yields i H x H' hlt q y)⟩
  · subst e
    exact .inl ⟨w.stops H q, hd H p⟩
theorem SqT.ins {K : PySem.W.Frag} {H : Hp} {a b C dx : Addr} {fs : List (Str × V)} {u : HO} {xs : List V} (ha : H a = some (.ins C dx fs)) (h : SqT K H b xs) : SqT K (upd H a u) b xs := by
  rcases h with (h | ⟨o, h⟩) | h
  · exact .inl (.inl (by rw [upd_ne (fun e => by rw [e, ha] at h; cases h)]; exact h))
  · exact .inl (.inr ⟨o, by rw [upd_ne (fun e => by rw [e, ha] at h; cases h)]; exact h⟩)
  · exact .inr h
theorem Cl.ins {K : PySem.W.Frag} {H : Hp} {a b C dx : Addr} {fs : List (Str × V)} {u : HO} {xs : List V} {c : List Lit} (ha : H a = some (.ins C dx fs)) (h : Cl K H b xs c) : Cl K (upd H a u) b xs c :=
  ⟨SqT.ins ha h.sq, L2.Paired.mapP h.p fun _ _ ⟨e, z, q⟩ => ⟨e, z, SqT.ins ha q⟩, h.l1, h.l2⟩
theorem Cs.ins {K : PySem.W.Frag} {H : Hp} {a b C dx : Addr} {fs : List (Str × V)} {u : HO} {xs : List V} {cs : List (List Lit)} (ha : H a = some (.ins C dx fs)) (h : Cs K H b xs cs) : Cs K (upd H a u) b xs cs :=
  ⟨SqT.ins ha h.sq, L2.Paired.mapP h.p fun _ _ ⟨e, ys, z, q⟩ => ⟨e, ys, z, Cl.ins ha q⟩, h.l⟩
theorem stands_len {c : List Lit} (h : stands c = true) : c.length ≤ 2 := by
  unfold stands at h
  rw [Bool.and_eq_true, decide_eq_true_eq] at h
  omega
theorem wrong_none : ∀ {cs : List (List Lit)} {i d : Nat}, wrongAt i d cs = none → ∀ c ∈ cs, stands c = true
  | [], _, _, _, c, hc => nomatch hc
  | c0 :: r, i, d, h, c, hc => by
    unfold wrongAt at h
    by_cases hs : stands c0 = true
    · rw [if_pos hs] at h
      generalize hd : (if c0.length = 2 then d + 1 else d) = d2 at h
      by_cases h2 : d2 = 2
      · rw [if_pos h2] at h
        cases h
      · rw [if_neg h2] at h
        rcases List.mem_cons.mp hc with e | e
        · rw [e]; exact hs
        · exact wrong_none h c e
    · rw [if_neg hs] at h
      cases h
theorem first_none {cs : List (List Lit)} (h : firstWrong cs = none) : cs.length ≤ 4 ∧ ∀ c ∈ cs, stands c = true := by
  unfold firstWrong at h
  by_cases h4 : 4 < cs.length
  · rw [if_pos h4] at h
    cases h
  · rw [if_neg h4] at h
    exact ⟨by omega, wrong_none h⟩
theorem Col.same {l ts ts' : List Str} {n : Nat} (C : Col l ts n) (e : ts = ts') : Col l ts' n := e ▸ C
theorem filt (r : List Str) (t : Str) : (r ++ [t]).filter noE = r.filter noE ++ (if t = "" then [] else [t]) := by
  rw [List.filter_append]
  by_cases h : t = ""
  · rw [if_pos h, List.filter_cons_of_neg (by simp [h])]
    rfl
  · rw [if_neg h, List.filter_cons_of_pos (by simp [h])]
    rfl
abbrev mth (i : Nat) : Stmt := inClass (top 23) i
abbrev sInit : Stmt := mth 0
abbrev nI : List Str := ["self", "clauses", "wrong", "clause", "one", "term"]
structure Cnd (K : PySem.W.Frag) (mg : Str → Option Value) (C : Addr) : Prop where
  cls : Cls K C
  nc : NoAttr K C "clauses"
  nt : NoAttr K C "terms"
  gC : mg "Cond" = some (.ref C)
  first : ∃ f fd, Fs K mg "_first_wrong" sFirst ["clauses"] f fd
  M : Forms K mg
/-- what Cond's own attributes tell -/
structure CondF (K : PySem.W.Frag) (H : Hp) (a C dx p q : Addr) (cs : List (List Lit)) (ys : List Str) : Prop where
  ins : H a = some (.ins C dx (putF "terms" (.ref q) (putF "clauses" (.ref p) [])))
  cl : ∃ xs, Cs K H p xs cs
  tm : SqT K H q (ys.map V.str)
  so : sortedS ys = true
  nd : ys.Nodup
  mem : ∀ t, t ∈ ys ↔ t ∈ termsOf cs
def raiseI : Stmt := match defBody sInit with
  | _ :: .If _ [r] _ _ :: _ => r
  | _ => .Pass ⟨0, 0, 0, 0⟩
def spInitB (K : PySem.W.Frag) (C : Addr) (F : Hp → Int → Prop) : Sp := fun vs H Q _ => ∃ (a dx p : Addr) (xs : List V) (cs : List (List Lit)), vs = [.ref a, .ref p] ∧ H a = some (.ins C dx []) ∧ Cs K H p xs cs ∧ shortC cs ∧
  (firstWrong cs = none → ∀ H' q ys, CondF K H' a C dx p q cs ys → (∀ b u, b ≠ a → H b = some u → H' b = some u) → Q .non H') ∧ ∀ i, firstWrong cs = some i → ∀ H1, Same H H1 → F H1 i
section
variable {P : Program} {w : World} {K : PySem.W.Frag} {mg : Str → Option Value} {base : Heap}
theorem scI : FnScope nI (([("self" : PySem.Str)] : List PySem.Str) ++ [("clauses" : PySem.Str)]) (defScope sInit) := ⟨rfl, rfl, rfl, by decide +kernel, rfl, by decide +kernel, by decide +kernel⟩
theorem body_init {f C : Addr} (D : Cnd K mg C) {CX : CXT} (cdv : Value) (A : Around) (outer : List Env) (s : Shared) (H : Hp) (vs : List V) (Q : VK) (E : XK) (F : Hp → Int → Prop) (hr : Room 5 (A.deeper (envOfC "Cond.__init__" (defScope sInit) s.heap.objs.size f cdv))) {tR : TS}
    (hR : PS (cxOf CX P w K mg base nI "Cond.__init__" (defScope sInit) f cdv A outer s H E) raiseI tR) (hF : ∀ (D' : Ends) v0 v1 i v3 v4 v5 H1, Same H H1 → F H1 i → tR D' [v0, v1, some (.int i), v3, v4, v5] H1) (h : spInitB K C F vs H Q E) :
    ∃ t, PSs (cxOf CX P w K mg base nI "Cond.__init__" (defScope sInit) f cdv A outer s H E) (defBody sInit) t ∧ t { nx := fun _ H' => Q .non H', rt := Q } (start nI vs) H := by
  obtain ⟨_, _, dF⟩ := D.first
  have GF : FnOk P w K mg base CX0 5 _ _ ["clauses"] (spFirst K) := ok_first dF D.M
  have T := D.M.T
  obtain ⟨a, dx, p, xs, cs, rfl, ha, hc, hsh, qn, qf⟩ := h
  refine ⟨_, pss_cons (ps_set (i := 2) scI.nd rfl (Or.inl rfl) (pe_call GF hr (by rfl) dF.m dF.F.kp dF.b .nil pass0 (pa_cons (pv 1) pa_nil)))
    (pss_cons (ps_if (pt_cmpR op_notN (pv 2) pe_non (nomark _)) (pss_one hR) pss_nil)
    (pss_cons (ps_fld (pv 0) (pv 1) (by rfl))
    (pss_one (ps_fld (pv 0) (pe_tupleOf (by rfl) T.tuple (pe_callB (cr_sortedX rfl) (by rfl) T.sorted (by decide +kernel) (pa_cons
      (pe_sc3 (own := [("clause", 3), ("one", 4), ("term", 5)]) (vs1 := [4, 5]) (vs2 := [5]) (g0 := gName 3) (g1 := gName 4) (g2 := gName 5) (tt0 := tYes) (tt1 := tYes) (w1 := iTup K (tVar 3)) (w2 := iTup K (tSl (rSlA K) (tVar 4) tNoPart (tPart (tC (.int 2))))) (tt2 := tTest (tOp rNe (tVar 5) (tC (.str "")))) (te := tVar 5) rfl scI.nd (pi_tup (pv 1)) (blkOk_by (N := nI) (sc := defScope sInit) (by decide +kernel)) (by decide) (by decide)
        (fun _ _ _ _ _ => pg_name (i := 3) scI.nd rfl (Or.inl rfl)) (fun _ _ _ _ _ => pts_nil)
        (fun _ _ _ _ _ => pi_tup (pv 3)) (fun _ _ _ _ _ => pg_name (i := 4) scI.nd rfl (Or.inl rfl)) (fun _ _ _ _ _ => pts_nil)
        (fun _ _ _ _ _ => pi_tup (pe_slice sl_tupA (pv 4) po_none (po_some pe_int))) (fun _ _ _ _ _ => pg_name (i := 5) scI.nd rfl (Or.inl rfl)) (fun _ _ _ _ _ => pts_one (pt_cmpR op_ne (pv 5) pe_str (nomark _)))
        (fun _ _ _ _ _ => pv 5)) pa_nil))) (by rfl))))), ?_⟩
  have bound : (64 : Nat) < scanBound := by decide
  have hl : xs.length = cs.length := Paired.length hc.p
  refine ⟨_, rfl, p, xs, cs, rfl, hc, hsh, fun H1 s1 => ?_⟩
  cases hw : firstWrong cs with
  | some i => exact ⟨_, rfl, rfl, _, rfl, iteT (hF _ _ _ _ _ _ _ _ s1 (qf i hw H1 s1))⟩
  | none =>
  have q := qn hw
  obtain ⟨n4, hst⟩ := first_none hw
  refine ⟨_, rfl, rfl, _, rfl, iteF ?_⟩
  refine ⟨_, rfl, _, rfl, a, C, dx, [], rfl, s1 _ _ ha, D.cls, D.nc, by decide, ?_⟩
  obtain ⟨H2, e2⟩ : ∃ H2, upd H1 a (.ins C dx (putF "clauses" (.ref p) [])) = H2 := ⟨_, rfl⟩
  have ha2 : H2 a = some (.ins C dx (putF "clauses" (.ref p) [])) := by rw [← e2]; exact upd_same
  have hc2 : Cs K H2 p xs cs := by rw [← e2]; exact Cs.ins (s1 _ _ ha) (Cs.same s1 hc)
  have k2 : ∀ b u, b ≠ a → H b = some u → H2 b = some u := fun b u nb z => by rw [← e2, upd_ne nb]; exact s1 _ _ z
  rw [e2]
  refine ⟨_, rfl, p, rfl, ⟨_, hc2.sq⟩, fun Ds hD => ?_⟩
  refine walk_it (walk_tup (xs := xs)) (fun i H3 => Same H2 H3 ∧ ∃ l, H3 Ds = some (SetX P w Ds l) ∧ Col l (termsOf (cs.take i)) (4 * i)) ⟨new_same hD, [], upd_same, Col.nil⟩ (fun i H3 _ h => SqT.same h.1 hc2.sq) ?_ ?_
  · rintro i x H3 H4 hi ⟨s3, l, gD, hC⟩ ⟨rfl, hx⟩
    obtain ⟨c, hcl, b, ys, rfl, hb⟩ := paired_get hc2.p hx
    have hcm : c ∈ cs := List.mem_of_getElem? hcl
    have c2 := stands_len (hst c hcm)
    have hi4 : i < 4 := by omega
    have hyl : ys.length = c.length := hb.len
    refine ⟨rfl, yes_of ⟨_, rfl, b, rfl, ⟨_, SqT.same s3 hb.sq⟩, ?_⟩⟩
    refine walk_it (walk_tup (xs := ys)) (fun j H5 => Same H2 H5 ∧ ∃ l, H5 Ds = some (SetX P w Ds l) ∧ Col l (termsOf (cs.take i) ++ termsC (c.take j)) (4 * i + 2 * j)) ⟨s3, l, gD, hC.same (List.append_nil _).symm⟩ (fun j H5 _ h => SqT.same h.1 hb.sq) ?_ ?_
    · rintro j x H5 H6 hj ⟨s5, l5, g5, hC5⟩ ⟨rfl, hx5⟩
      obtain ⟨lt, hlt, e, rfl, he⟩ := paired_get hb.p hx5
      obtain ⟨t1, t2, n⟩ := lt
      have he5 := SqT.same s5 he
      refine ⟨rfl, yes_of ?_⟩
      refine ⟨_, rfl, _, rfl, e, _, rfl, he5, fun z => absurd z.2 (by show ¬ HT.sIx 3 3 (some 2) = 3; decide), fun _ q5 hq5 => ?_⟩
      have s6 := same_upd hq5 (fun b u z => z : Same H6 H6) (o := .tup [.str t1, .str t2])
      have nq : q5 ≠ Ds := fun z => by
        rw [z, g5] at hq5
        cases hq5
      refine ⟨q5, rfl, ⟨_, SqT.of upd_same⟩, ?_⟩
      refine walk_it (walk_tup (xs := [V.str t1, V.str t2])) (fun k H7 => Same H2 H7 ∧ H7 q5 = some (.tup [.str t1, .str t2]) ∧ ∃ l, H7 Ds = some (SetX P w Ds l) ∧ Col l (termsOf (cs.take i) ++ termsC (c.take j) ++ ([t1, t2].take k).filter noE) (4 * i + 2 * j + k))
        ⟨fun b u z => s6 _ _ (s5 _ _ z), upd_same, l5, (by rw [upd_ne (Ne.symm nq)]; exact g5), hC5.same (List.append_nil _).symm⟩ (fun k H7 _ h => SqT.of h.2.1) ?_ ?_
      · rintro k x H7 H8 hk ⟨s7, g7, l7, gD7, hC7⟩ ⟨rfl, hx7⟩
        obtain ⟨t, ht, rfl⟩ : ∃ t, [t1, t2][k]? = some t ∧ x = .str t := by
          have e : [V.str t1, V.str t2] = [t1, t2].map V.str := rfl
          rw [e, List.getElem?_map] at hx7
          obtain ⟨t, h1, h2⟩ := Option.map_eq_some_iff.mp hx7
          exact ⟨t, h1, h2.symm⟩
        have hk2 : k < 2 := hk
        have et : ([t1, t2].take (k + 1)).filter noE = ([t1, t2].take k).filter noE ++ (if t = "" then [] else [t]) := by
          rw [List.take_add_one, ht]
          exact filt _ t
        refine ⟨rfl, _, rfl, rfl, _, rfl, ?_⟩
        by_cases hz : t = ""
        · have e : (!decide (V.str t = V.str "")) = false := by rw [hz]; decide
          rw [e, et, if_pos hz]
          exact iteF ⟨s7, g7, l7, gD7, (hC7.same (by rw [List.append_nil])).more (Nat.le_succ _)⟩
        · have e : (!decide (V.str t = V.str "")) = true := by
            rw [decide_eq_false fun z => hz (V.str.inj z)]
            rfl
          rw [e, et, if_neg hz]
          refine iteT ⟨_, rfl, l7, t, rfl, gD7, by have := hC7.len; omega, same_upd hD s7, by rw [upd_ne nq]; exact g7, _, upd_same, ?_⟩
          exact (hC7.put (k := t)).same (List.append_assoc _ _ _)
      · rintro H7 ⟨s7, g7, l7, gD7, hC7⟩
        refine ⟨s7, l7, gD7, (hC7.same ?_).more (by show 4 * i + 2 * j + 2 ≤ _; omega)⟩
        rw [List.take_add_one, hlt]
        unfold termsC
        rw [List.flatMap_append, List.append_assoc]
        simp [termsL]
    · rintro H5 ⟨s5, l5, g5, hC5⟩
      refine ⟨s5, l5, g5, (hC5.same ?_).more (by omega)⟩
      rw [hyl, List.take_of_length_le (Nat.le_refl _), List.take_add_one, hcl]
      unfold termsOf
      rw [List.flatMap_append]
      simp
  · rintro H3 ⟨s3, l, gD, hC⟩
    rw [hl, List.take_of_length_le (Nat.le_refl _)] at hC
    refine ⟨Ds, l, rfl, gD, by have := hC.len; omega, fun zs p3 hso hpm hp3 => .inl ⟨p3, _, rfl, SqL.of upd_same, fun q4 hq4 => ?_⟩⟩
    have s5 : Same H2 (upd (upd H3 p3 (.lst (zs.map V.str))) q4 (.tup (zs.map V.str))) := fun b u z => new_same hq4 _ _ (new_same hp3 _ _ (s3 _ _ z))
    have ha5 := s5 _ _ ha2
    have hc5 := Cs.same s5 hc2
    refine ⟨_, rfl, a, C, dx, _, rfl, ha5, D.cls, D.nt, (by show 1 < 1000; decide), ?_⟩
    refine q _ q4 zs ⟨upd_same, ⟨xs, Cs.ins ha5 hc5⟩, SqT.ins ha5 (SqT.of upd_same), hso, hpm.nodup_iff.mpr hC.nd, fun t => hpm.mem_iff.trans (hC.mem t)⟩ fun b u nb z => ?_
    rw [upd_ne nb]
    exact s5 _ _ (k2 b u nb z)
end
end Kx
namespace Kx
open PySem L2 PySem.Spec PyProof.Rows

/-! the classes of errors: what the walk asks of each -/
abbrev veL : List Value := [.type "ValueError", .type "Exception", .type "BaseException", .type "object"]
theorem ve_ok (B : Addr) : PySem.HandSPX.refsVE (.ref B :: veL) = true := by
  show PySem.HandSPX.refsVE veL = true
  decide +kernel
structure Ct (K : PySem.W.Frag) (B C : Addr) : Prop where
  cls : ∃ nm q N bs sn sub ab col dd k0 k1 k2 k3 k5, K.lookup C = some (excClassObj nm q C N bs (.ref B :: veL) true sn sub ab col dd k0 k1 k2 k3 k5 "ValueError.__new__")
  sa : PySem.W.findIn K (.ref C) "__setattr__" = some (some (.builtin "object.__setattr__"))
  ga : PySem.W.findIn K (.ref C) "__getattribute__" = some (some (.builtin "BaseException.__getattribute__"))
  gg : PySem.W.findIn K (.ref C) "__getattr__" = some none
  tyC : PySem.W.typeIn K (.ref C) = some (.type "type")
  kC : PySem.W.keepIn K (.ref C) = true
  hdC : PySem.W.hasDictIn K C = true
  ha : PySem.W.findIn K (.ref C) "__class__" = some (some (.builtin "object.__class__"))
structure Gt (K : PySem.W.Frag) (B : Addr) : Prop where
  hn : PySem.W.specialIn K (.builtin "object.__class__") "__get__" = some (some (.builtin "getset_descriptor.__get__"))
  ht : PySem.W.takesIn K (.builtin "object.__class__") = some true
  isB : (PySem.W.clsIn K B).isSome = true
  tyB : PySem.W.typeIn K (.ref B) = some (.type "type")
  bsB : PySem.W.subIn K (.ref B) (.type "BaseException") = some true
  hdB : PySem.W.hasDictIn K B = true
section
variable {K : PySem.W.Frag} {B C D : Addr}
theorem Ct.cd (T : Ct K B C) : ∃ cd, PySem.W.clsIn K C = some cd ∧ cd.mro = .ref C :: .ref B :: veL := by
  obtain ⟨nm, q, N, bs, sn, sub, ab, col, dd, k0, k1, k2, k3, k5, h⟩ := T.cls
  exact ⟨_, by unfold PySem.W.clsIn; rw [h] <;> rfl, rfl⟩
theorem Ct.mro (T : Ct K B C) (v : Value) : PySem.W.mroIn K C v = some ((.ref C :: .ref B :: veL : List Value).contains v) := by
  obtain ⟨cd, h, e⟩ := T.cd
  unfold PySem.W.mroIn
  rw [h, Option.bind_some, e] <;> rfl
theorem Ct.base (T : Ct K B C) : PySem.W.subIn K (.ref C) (.type "BaseException") = some true := by
  show PySem.W.mroIn K C _ = _
  rw [T.mro]
  rfl
theorem Ct.isC (T : Ct K B C) : (PySem.W.clsIn K C).isSome = true := by
  obtain ⟨cd, h, _⟩ := T.cd
  rw [h]; rfl
theorem Ct.oex (T : Ct K B C) : OexC K C := by
  obtain ⟨nm, q, N, bs, sn, sub, ab, col, dd, k0, k1, k2, k3, k5, h⟩ := T.cls
  exact ⟨⟨nm, q, N, bs, _, sn, sub, ab, col, dd, k0, k1, k2, k3, k5, h, ve_ok B⟩, T.sa, T.base, T.tyC, T.kC⟩
theorem Ct.xf (T : Ct K B C) : XfC K C := ⟨T.ga, T.gg, T.base, T.hdC⟩
theorem kit_ref (T : Ct K B C) {b : Bool} (hD : (PySem.W.clsIn K D).isSome = true) (tD : PySem.W.typeIn K (.ref D) = some (.type "type")) (hb : (.ref C :: .ref B :: veL : List Value).contains (.ref D) = b) : PySem.W.kitOne K (.ref C) (.ref D) = some b := by
  unfold PySem.W.kitOne
  by_cases h : ((Value.ref C == Value.ref D) = true)
  · rw [if_pos h]
    have e : Value.ref C = Value.ref D := beq_iff_eq.mp h
    rw [← hb, ← e]
    simp
  · rw [if_neg h]
    show (if ((PySem.W.clsIn K D).isSome && PySem.W.typeIn K (.ref D) == some (.type "type")) = true then PySem.W.subIn K (.ref C) (.ref D) else none) = _
    rw [hD, tD, if_pos (by rfl)]
    show PySem.W.mroIn K C _ = _
    rw [T.mro, hb]
theorem kit_yes (T : Ct K B C) : PySem.W.kitOne K (.ref C) (.ref C) = some true := kit_ref T T.isC T.tyC (by simp)
theorem kit_no (T : Ct K B C) (S : Ct K B D) (h1 : D ≠ C) (h2 : D ≠ B) : PySem.W.kitOne K (.ref C) (.ref D) = some false := kit_ref T S.isC S.tyC (by simp [h1, h2])
theorem kit_b (T : Ct K B C) (G : Gt K B) : PySem.W.kitOne K (.ref C) (.ref B) = some true := kit_ref T G.isB G.tyB (by simp)
theorem kit_ve (T : Ct K B C) : PySem.W.kitOne K (.ref C) (.type "ValueError") = some true := by
  unfold PySem.W.kitOne
  rw [if_neg (by simp)]
  show (if PySem.W.kitMeta "ValueError" = true then PySem.W.subIn K (.ref C) (.type "ValueError") else none) = _
  rw [if_pos (by decide +kernel)]
  show PySem.W.mroIn K C _ = _
  rw [T.mro]
  rfl
end

/-! an error of a class as it stands: with its fields, or without any -/
def HasF (H : Hp) (a C : Addr) (fs : List (Str × V)) : Prop := ∃ d, d ≠ a ∧ H a = some (exo a C (some d)) ∧ H d = some (exd d fs)
def Bare (H : Hp) (a C : Addr) : Prop := H a = some (ExO (.ref C) a)
def ErrAt (H : Hp) (a C : Addr) : Prop := (∃ fs, HasF H a C fs) ∨ Bare H a C

section
variable {X : Cx} {pins : List (Addr × Obj)} {σ : L2.St} {H : Hp} {s : Shared} {a B C : Addr}
theorem err_inst (I : Inv X pins σ H s) (h : ErrAt H a C) : ∃ ox od, PySem.W.InstAt s.heap a ox C od := by
  rcases h with ⟨fs, d, _, h1, h2⟩ | h
  · obtain ⟨t1, e1⟩ := exo_at I.hok h1
    obtain ⟨mA, hn, _⟩ := exd_at I.hok h2
    obtain ⟨od, e2, _⟩ := lookIn_ns hn
    exact ⟨_, some od, ⟨e1, rfl, rfl, e2⟩⟩
  · obtain ⟨⟨oe, vs, e1, hz, hd, _⟩, _, _⟩ := I.hok a _ h
    obtain ⟨oc, odd, oda, osl⟩ := oe
    obtain ⟨z1, z2⟩ := hz
    dsimp only at z1 z2 hd
    subst z1 z2 hd
    exact ⟨_, none, ⟨e1, rfl, rfl, trivial⟩⟩
/-- isinstance(e, c), e an error that stands -/
def rIsErr (K : PySem.W.Frag) (B : Addr) : List V → Hp → VK → Prop := fun xs H Q => ∃ (a C : Addr) (c : V) (u : Value) (b : Bool), xs = [.ref a, c] ∧ ErrAt H a C ∧ Ct K B C ∧ ClsV c u ∧ PySem.W.kitOne K (.ref C) u = some b ∧ Q (.bl b) H
theorem call_isErr (G : Gt X.K B) : CallR X (.builtin "isinstance") (rIsErr X.K B) := by
  intro pins s σ H xs us Q I r h
  obtain ⟨a, C, c, u, b, rfl, he, T, k, e, q⟩ := h
  obtain ⟨u1, u2, rfl, r1, r2⟩ := vals2 r
  have z1 : u1 = Value.ref a := r1
  subst z1
  have e2 := k.eq r2
  subst e2
  obtain ⟨ox, od, J⟩ := err_inst I he
  exact PySem.W.kia_one (PySem.W.kitx_exc T.isC T.ga T.gg T.base T.ha G.hn G.ht (by rw [T.mro]; rfl)) I.kIn J e (fun z => nomatch z) fun tk => ⟨.bl b, H, I.tok tk, rfl, q⟩
/-- e.f, e an error that stands -/
theorem pe_errF {e : Expr} {te : TE} {pos : Pos} {n : Str} (he : PE X e te) (hb : attributeBase e n X.env (eval e X.env) = eval e X.env := by rfl) :
    PE X (.Attribute e n pos) (fun σ H Q => te σ H fun x H1 => ∃ (a B C : Addr) (fs : List (Str × V)) (v : V), x = .ref a ∧ Ct X.K B C ∧ PySem.W.findIn X.K (.ref C) n = some none ∧ HasF H1 a C fs ∧ fs.lookup n = some v ∧ Q v H1) := by
  refine ⟨fun pins s σ H Q I h => ?_⟩
  refine attr_of hb (thn (he.run pins s σ H _ I h) fun u s1 hh => ?_)
  obtain ⟨x, H1, I1, rx, a, B, C, fs, v, ex, T, hno, ⟨d, _, h1, h2⟩, l, q⟩ := hh
  subst ex
  obtain rfl : u = Value.ref a := rx
  obtain ⟨t1, e1⟩ := exo_at I1.hok h1
  obtain ⟨mA, hns, hr⟩ := exd_at I1.hok h2
  obtain ⟨od, ho, hl⟩ := lookIn_ns hns
  obtain ⟨u, hu, ru⟩ := RelO.some_of (v := v) (o := mA n) (by rw [← l]; exact hr n)
  have J : PySem.W.InstAt s1.heap a _ C (some od) := ⟨e1, rfl, rfl, ho⟩
  exact HandSPX.exc_get I1.kIn J T.ga T.gg T.base (PySem.W.findObj_own T.hdC hno rfl (by rw [hl, hu])) (handed_of ru) ⟨v, H1, I1.tok _, ru, q⟩
end

/-! how an error is made: its __init__ stores each argument under its own name -/
def spI (K : PySem.W.Frag) (ns : List Str) : Sp := fun vs H Q _ => ∃ (a B C : Addr) (ws : List V), vs = .ref a :: ws ∧ ws.length = ns.length ∧ Ct K B C ∧ (∀ f ∈ ns, PySem.W.findIn K (.ref C) f = some none) ∧ H a = some (exo a C none) ∧
  ∀ dx H', H dx = none → dx ≠ a → H' a = some (exo a C (some dx)) → H' dx = some (exd dx (ns.zip ws).reverse) → (∀ b, b ≠ a → b ≠ dx → H' b = H b) → Q .non H'
section
variable {X : Cx} {e : Expr} {es : List Expr} {ta : TA} {p pos : Pos}
/-- C(e, ..) as a value: a new error with its fields -/
theorem pe_err {CX : CXT} {x : Str} {B C fI : Addr} {k : Nat} {fd : FuncData} {ps : List Str} {ns : List Str} (T : Ct X.K B C) (hno : ∀ f ∈ ns, PySem.W.findIn X.K (.ref C) f = some none) (iC : PySem.W.findIn X.K (.ref C) "__init__" = some (some (.ref fI))) (tI : PySem.W.typeIn X.K (.ref fI) = some (.type "function"))
    (F1 : FnOk X.prog X.w X.K X.mg X.base CX k fI fd ps (spI X.K ns)) (hr : Room (k + 1) X.A) (hb : Binds X.K fd ps []) (hx : Passes CX X (fun _ _ _ => False)) (hm : X.mg x = some (.ref C)) (ha : PA X (e :: es) ta) (hg : Gl X x := by rfl)
    (hdb : (x == ("__debug__" : Str)) = false := by decide) (he : starEach (e :: es) X.env = (false, eval e X.env) :: starEach es X.env := by rfl) (hpl : (backTo pos (starEach es X.env)).any (·.1) = false := by rfl) :
    PE X (.Call (.Name x p) (e :: es) [] pos) (fun σ H Q => ta σ H fun vs H1 => vs.length = ns.length ∧ ns.length ≤ 100 ∧ ∀ a H2, H1 a = none → HasF H2 a C (ns.zip vs).reverse → Same H1 H2 → Q (.ref a) H2) := by
  refine ⟨fun pins s σ H Q I h => ?_⟩
  obtain ⟨nm, q, N, bs, sn, sub, ab, col, dd, k0, k1, k2, k3, k5, hC⟩ := T.cls
  refine wpAny_Call_Name_kw (ld_glob I hg hm ?_ hdb)
  refine PySem.W.callWith_K (h₀ := X.base) I.ok.mod.kin T.kC (thn (ha.run pos pins s σ H _ I h) fun us s1 ⟨vs, H1, I1, r1, hz, hz2, q1⟩ => ⟨I1.kIn, ?_⟩) he hpl
  show wpAny _ _ (call (.ref C) us) _ _ _
  obtain ⟨hp, g, dr, tk, os⟩ := s1
  have hsz : hp.objs.size ≤ hp.objs.size + 1 := Nat.le_succ _
  have hn : H1 (hp.objs.size + 1) = none := I1.hok.fresh hsz
  have kk : ∀ b o, hp.get? b = some o → ((hp.push (PySem.W.kdv_tup us)).push (PySem.HandSPX.excO C hp.objs.size)).get? b = some o := fun b o z => Heap.get?_push_of_some _ (Heap.get?_push_of_some _ z)
  have hget : ((hp.push (PySem.W.kdv_tup us)).push (PySem.HandSPX.excO C hp.objs.size)).get? (hp.objs.size + 1) = some (PySem.HandSPX.excO C hp.objs.size) := by heap_get
  have I2 := I1.laid (t' := tk) (a := hp.objs.size + 1) (o := exo (hp.objs.size + 1) C none) (h' := (hp.push (PySem.W.kdv_tup us)).push (PySem.HandSPX.excO C hp.objs.size)) kk hsz (exo_ok hget)
  have r2 : Vals (V.ref (hp.objs.size + 1) :: vs) (Value.ref (hp.objs.size + 1) :: us) := .cons rfl r1
  have hq : spI X.K ns (V.ref (hp.objs.size + 1) :: vs) (upd H1 (hp.objs.size + 1) (exo (hp.objs.size + 1) C none)) (fun v H2 => v = .non ∧ Q (.ref (hp.objs.size + 1)) H2) (fun _ _ _ => False) := by
    refine ⟨_, B, C, vs, rfl, hz, T, hno, upd_same, fun dx H' n1 n2 e1 e2 e3 => ⟨rfl, q1 _ H' hn ⟨dx, n2, e1, e2⟩ fun b o z => ?_⟩⟩
    have nb : b ≠ hp.objs.size + 1 := ne_of_none z hn
    have n3 : H1 dx = none := by rw [← upd_ne (H := H1) (o := exo (hp.objs.size + 1) C none) n2]; exact n1
    rw [e3 b nb (ne_of_none z n3), upd_ne nb]
    exact z
  have hl : (Value.ref (hp.objs.size + 1) :: us).length = ps.length := by
    have z := r2.length
    rw [F1.len _ _ _ _ hq] at z
    exact z.symm
  have hus : us.length ≤ sizeLine := by
    rw [← Paired.length r1, sizeLine_eq]
    omega
  have hbs := hb ⟨(hp.push (PySem.W.kdv_tup us)).push (PySem.HandSPX.excO C hp.objs.size), g, dr, tk, os⟩ (Value.ref (hp.objs.size + 1) :: us) I2.kIn (by rw [List.append_nil]; exact hl)
  rw [List.append_nil] at hbs
  refine wpAny_call (PySem.HandSPX.call_own F.excBase_ValueError (fun Y => PySem.HandSPX.refsVE_contains Y _ (ve_ok B)) (I1.kIn _ _ hC) (PySem.W.looks_findIn I1.kIn iC) (fun self => PySem.W.bind_fn I1.kIn self tI) hus
    (codeAny_mono (F1.run _ X.stack _ _ ⟨Value.ref (hp.objs.size + 1) :: us, []⟩ (Value.ref (hp.objs.size + 1) :: us) _ _ (fun _ _ _ => False) (hr.make C us []) (I2.env0.make C us []) hbs r2 hq) fun r s' hq' => ?_))
  cases r with
  | error er => exact hx pins σ _ _ er s' I2 hq'
  | ok fl =>
    cases fl with
    | ret u =>
      obtain ⟨v, H2, os2, bare2, un2, hok2, rv, ev, q2⟩ := hq'
      subst ev
      exact ⟨rv, .ref (hp.objs.size + 1), H2, I2.call' (ch := []) os2 un2 hok2 bare2 (fun b z => absurd z (by simp)), rfl, q2⟩
    | next => exact False.elim hq'
    | brk => exact False.elim hq'
    | cont => exact False.elim hq'
end
end Kx
namespace Kx
open PySem L2 PySem.Spec PyProof.Rows
open StX (fn_star cxUp_none bind_star1 pe_makeR tMakeR run_makeR star_any pa_star CXUp)
theorem takesN0 {X : Cx} : L2N.Takes X (fun _ _ _ _ => False) := fun _ _ x => by
  obtain ⟨_, _, _, _, _, _, _, _, _, _, _, _, _, _, _, _, z⟩ := x
  exact z.elim
section
variable {X : Cx} {e : Expr} {te : TE}
theorem pmkN_err {K : PySem.W.Frag} {H0 : Hp} (hK : X.K = K) (hH : X.H_0 = H0) (hx : X.ex = []) (he : PE X e te) : L2N.PMk X e (fun σ H Q => te σ H fun x H1 => ∃ a B C d : Addr, x = .ref a ∧ Ct K B C ∧ H1 a = some (exo a C (some d)) ∧ Fr0 H0 a ∧ Q (.ref C) (some d) (delH H1 a)) := by
  subst hK hH
  intro pins s σ H Q I h
  refine thn (he.run pins s σ H _ I h) fun u s1 ⟨v, H1, I1, r1, a, B, C, d, ev, T, ha, h0, q⟩ => ?_
  subst ev
  obtain rfl : u = Value.ref a := r1
  obtain ⟨t1, ho⟩ := exo_at I1.hok ha
  obtain ⟨G, gs, ga, J⟩ := I1.untrack (show H1 a = some (.ext _) from ha) h0 hx
  exact ⟨a, _, _, { s1 with heap := G }, delH H1 a, .ref C, some d, rfl, J, gs, ga, ho, ⟨rfl, rfl, fun vs z => by cases z; rfl⟩, rfl, rfl, delH_same, rfl, I1.bare, raises_own T.base T.tyC, q⟩
end
section
variable {P : Program} {w : World} {K : PySem.W.Frag} {mg : Str → Option Value} {base : Heap}
theorem sc_BadCond : FnScope ["self", "clause"] ["self", "clause"] (defScope (inClass (top 3) 0)) := ⟨rfl, rfl, rfl, by decide +kernel, rfl, by decide +kernel, by decide +kernel⟩
theorem ok_BadCond {f : Addr} {fd : FuncData} (F : Fun K "__init__" "BadCond.__init__" (inClass (top 3) 0) f fd) : FnOk P w K mg base CX0 1 f fd ["self", "clause"] (spI K ["clause"]) := by
  refine F.ok sc_BadCond (fun vs H Q E h => ?_) (fun cdv A outer s H vs Q E hr h => ?_)
  · obtain ⟨a, B, C, ws, rfl, hl, _⟩ := h
    show ws.length + 1 = 2
    rw [hl] <;> rfl
  · obtain ⟨a, B, C, ws, rfl, hl, T, hno, ha, k⟩ := h
    obtain ⟨v0, rfl⟩ : ∃ v0, ws = [v0] := match ws, hl with | [v0], _ => ⟨v0, rfl⟩
    refine ⟨_, pss_one (ps_ost (pv 0) (pv 1)), ?_⟩
    refine ⟨_, rfl, _, rfl, a, C, rfl, T.oex, hno _ (by simp), .inl ⟨ha, fun dx n1 n2 => ?_⟩⟩
    exact k dx _ n1 n2 upd_same (by rw [upd_ne n2, upd_same]; rfl) (fun b h1 h2 => by rw [upd_ne h1, upd_ne h2])
end
theorem del_keep {H H1 : Hp} {a : Addr} (s : Same H H1) (n : H a = none) : Same H (delH H1 a) := fun b o e => by
  rw [delH_ne (ne_of_none e n)]
  exact s b o e
theorem cxUpN {P : Program} {w : World} : CXUp (L2N.CX P w) := by
  rintro outer s H s2 H2 E e s' un kp ho ⟨a, B, H', cls, d, ea, fl, hok, ub, na, os, ag, he⟩
  refine ⟨a, B, H', cls, d, ea, fl, hok, ⟨fun b o q n hb => ub.keep b o (kp b o q) (un.free b o q n (by simp)) hb, fun b o q hb => ub.slot b o (kp b o q) hb, fun b o q n => ub.free b o (kp b o q) (un.free b o q n (by simp)), fun b o q hb => ub.there b o (kp b o q) hb,
    fun b xs q => ub.tups b xs (un.tups b xs q), fun b o xs q => ub.frzs b o xs (un.frzs b o xs q), fun b ps q => ?_⟩, na, os.trans ho, ag, he⟩
  obtain ⟨m1, z1⟩ := un.tbls b ps q
  obtain ⟨m2, z2⟩ := ub.tbls b _ z1
  exact ⟨m1 ++ m2, by rw [z2, Array.append_assoc]⟩
/-- what is told of a refusal: its class and where -/
def refusal (CB : Addr) (E : XK) : Hp → Int → Prop := fun H1 i => ∀ d H', Same H1 H' → H' d = some (exd d [("clause", .int i)]) → E (.ref CB) (some d) H'
def spInit (K : PySem.W.Frag) (C : Addr) (F : XK → Hp → Int → Prop) : Sp := fun vs H Q E => ∃ ws rest, vs = ws ++ rest ∧ ws.length = ([("self" : PySem.Str)] : List PySem.Str).length ∧ rest.length ≤ sizeLine ∧ ∀ p, H p = Option.none → spInitB K C (F E) (ws ++ [V.ref p]) (upd H p (.tup rest)) Q E
structure Bad (K : PySem.W.Frag) (mg : Str → Option Value) (B CB fB : Addr) (fdB : FuncData) : Prop where
  T : Ct K B CB
  no : ∀ x ∈ ([("clause" : PySem.Str)] : List PySem.Str), PySem.W.findIn K (.ref CB) x = some none
  iC : PySem.W.findIn K (.ref CB) "__init__" = some (some (.ref fB))
  tI : PySem.W.typeIn K (.ref fB) = some (.type "function")
  F : Fun K "__init__" "BadCond.__init__" (inClass (top 3) 0) fB fdB
  b : Binds K fdB ["self", "clause"] []
  gm : mg "BadCond" = some (.ref CB)
section
variable {P : Program} {w : World} {K : PySem.W.Frag} {mg : Str → Option Value} {base : Heap}
theorem fnR_init0 {f C : Addr} {fd : FuncData} (F : Fun K "__init__" "Cond.__init__" sInit f fd) (D : Cnd K mg C) : FnR P w K mg base CX0 6 f (spInit K C fun _ _ _ => False) := by
  obtain ⟨oc, od, kV, doc, pm, an, cdv, ct, osl, rfl, lk, hcd⟩ := F.ex
  refine fn_star (sp := fun vs H Q E => spInitB K C (fun _ _ => False) vs H Q E) lk hcd scI cxUp_none (bind_star1 (B := fun xs => bindArgs (PySem.W.fnOf "__init__" "Cond.__init__" (defArgs sInit) (defBody sInit) (defScope sInit) .none kV doc pm an cdv ct) ⟨xs, []⟩) (p1 := "self") (pv := "clauses") (fun a => by rfl) (fun a r rs => by rfl)) (fun A outer s H vs Q E hr h => ?_)
  exact body_init (f := f) (tR := tNever) D cdv A outer s H vs Q E _ hr ps_never (fun _ _ _ _ _ _ _ _ _ z => z) h
theorem fnR_init {f C B CB fB : Addr} {fd fdB : FuncData} (F : Fun K "__init__" "Cond.__init__" sInit f fd) (D : Cnd K mg C) (W : Bad K mg B CB fB fdB) : FnR P w K mg base (L2N.CX P w) 6 f (spInit K C (refusal CB)) := by
  obtain ⟨oc, od, kV, doc, pm, an, cdv, ct, osl, rfl, lk, hcd⟩ := F.ex
  refine fn_star (sp := fun vs H Q E => spInitB K C (refusal CB E) vs H Q E) lk hcd scI cxUpN (bind_star1 (B := fun xs => bindArgs (PySem.W.fnOf "__init__" "Cond.__init__" (defArgs sInit) (defBody sInit) (defScope sInit) .none kV doc pm an cdv ct) ⟨xs, []⟩) (p1 := "self") (pv := "clauses") (fun a => by rfl) (fun a r rs => by rfl)) (fun A outer s H vs Q E hr h => ?_)
  have tk : L2N.Takes (cxOf (L2N.CX P w) P w K mg base nI "Cond.__init__" (defScope sInit) f cdv A outer s H E) (fun cls d _ H => E cls d H) := L2N.takes_of rfl rfl rfl rfl
  refine body_init (f := f) D cdv A outer s H vs Q E _ hr (L2N.ps_raise rfl tk (by exact (pmkN_err (X := cxOf (L2N.CX P w) P w K mg base nI "Cond.__init__" (defScope sInit) f cdv A outer s H E) (K := K) (H0 := H) rfl rfl rfl
    (pe_err (ns := ["clause"]) (X := cxOf (L2N.CX P w) P w K mg base nI "Cond.__init__" (defScope sInit) f cdv A outer s H E) W.T W.no W.iC W.tI (ok_BadCond W.F) (hr.mono (by decide)) W.b pass0 W.gm (pa_cons (pv 2) pa_nil))))) (fun D' v0 v1 i v3 v4 v5 H1 s1 z => ?_) h
  refine ⟨_, rfl, rfl, (by show 1 ≤ 100; decide), fun e H2 n2 h2 s2 => ?_⟩
  obtain ⟨d, hne, h2a, h2d⟩ := h2
  exact ⟨e, B, CB, d, rfl, W.T, h2a, fr0_none (s1.free n2), z d _ (del_keep s2 n2) ((delH_ne hne).trans h2d)⟩
end
end Kx
namespace Kx
open PySem L2 PySem.Spec PyProof.Rows
open StX (fn_star cxUp_none bind_star1 pe_makeR tMakeR run_makeR star_any pa_star CXUp)
section
variable {X : Cx} {CX : CXT} {k : Nat} {f C : Addr} {sp : Sp} {E : XK} {x : Str} {e : Expr} {te : TE} {p pos sp_ : Pos}
/-- C(*y) -/
theorem pe_makeS (M : Mk X.K C f) (F : FnR X.prog X.w X.K X.mg X.base CX k f sp) (hr : Room (k + 1) X.A) (hg : Gl X x) (hm : X.mg x = some (.ref C)) (hx : Passes CX X E) (he : PE X e te) (hd : (x == ("__debug__" : Str)) = false := by decide)
    (hst : starEach [.Starred e sp_] X.env = [(true, eval e X.env)] := by rfl) :
    PE X (.Call (.Name x p) [.Starred e sp_] [] pos) (fun σ H Q => te σ H fun y H1 => ∃ a xs, y = V.ref a ∧ (SqT X.K H1 a xs ∨ SqL X.K H1 a xs) ∧ ∀ x dx, H1 x = none → H1 dx = none → dx ≠ x →
      sp (V.ref x :: xs) (upd (upd H1 dx (.own x)) x (.ins C dx [])) (fun v H2 => v = .non ∧ Q (.ref x) H2) E) := by
  refine ⟨fun pins s σ H Q I h => ?_⟩
  refine wpAny_Call_Name_kw (ld_glob I hg hm ?_ hd)
  refine PySem.W.callWith_S (h₀ := X.base) I.ok.mod.kin M.kp (thn (he.run pins s σ H _ I h) fun v s1 ⟨y, H1, I1, ry, a, xs, ey, hxs, q⟩ => ?_) hst
  subst ey
  obtain rfl : v = Value.ref a := ry
  exact star_any I1 hxs fun us s2 I2 rv => ⟨I2.kIn, run_makeR M F hr hx I2 rv q⟩
/-- C() -/
theorem pe_makeZ (M : Mk X.K C f) (F : FnR X.prog X.w X.K X.mg X.base CX k f sp) (hr : Room (k + 1) X.A) (hg : Gl X x) (hm : X.mg x = some (.ref C)) (hx : Passes CX X E) (hd : (x == ("__debug__" : Str)) = false := by decide) :
    PE X (.Call (.Name x p) [] [] pos) (tMakeR C sp E tNil) := by
  refine ⟨fun pins s σ H Q I h => ?_⟩
  refine wpAny_Call_Name_kw (ld_glob I hg hm ?_ hd)
  exact PySem.W.callWith_K0 I.kIn M.kp (run_makeR (us := []) (vs := []) M F hr hx I .nil h)
/-- one op other, both of the class C, by its own method -/
def rOwn (C : Addr) (sp : Sp) (E : XK) : R2 := fun x y H Q => ∃ (a b dx dy : Addr) (fs gs : List (Str × V)), x = .ref a ∧ y = .ref b ∧ H a = some (.ins C dx fs) ∧ H b = some (.ins C dy gs) ∧ sp [.ref a, .ref b] H Q E
theorem op_own {op : Operator} {fd : FuncData} {ps : List Str} (hc : PySem.W.selfFirst X.K C = true) (hs : PySem.W.findIn X.K (.ref C) (PySem.dunder op.info.2) = some (some (.ref f))) (hf : PySem.W.isFn X.K (.ref f) = true)
    (F : FnOk X.prog X.w X.K X.mg X.base CX k f fd ps sp) (hr : Room k X.A) (hb : Binds X.K fd ps []) (hx : Passes CX X E) : OpR X (binaryOp op) (rOwn C sp E) := by
  intro pins s σ H x y v u Q I rx ry h
  obtain ⟨a, b, dx, dy, fs, gs, rfl, rfl, ha, hb', q⟩ := h
  obtain rfl : v = Value.ref a := rx
  obtain rfl : u = Value.ref b := ry
  obtain ⟨m, fr⟩ := I.fr
  obtain ⟨_, O1, _⟩ := ins_get I.hok ha
  obtain ⟨o1, J1, _⟩ := O1.look
  obtain ⟨_, O2, _⟩ := ins_get I.hok hb'
  obtain ⟨o2, J2, _⟩ := O2.look
  refine PySem.W.binop_K fr I.ok.mod.kin J1 J2.type hc hs hf ?_
  refine thn (run_fn (us := [.ref a, .ref b]) (vs := [.ref a, .ref b]) F hr hb .nil hx I (.cons rfl (.cons rfl .nil)) q) fun z s' ⟨zv, H', I', rz, q'⟩ => ?_
  cases z <;> first | exact ⟨zv, H', I', rz, q'⟩ | (cases zv <;> first | (obtain ⟨_, z⟩ := rz; cases z) | cases rz)
end
end Kx
namespace Kx
open PySem L2 PySem.Spec PyProof.Rows
/-! clauses as data -/
def litD (l : Lit) : PyData := .tuple [.str l.1, .str l.2.1, .int l.2.2]
def clD (c : List Lit) : PyData := .tuple (c.map litD)
theorem dp_lit {K : PySem.W.Frag} {H : Hp} {x : V} {l : Lit} (h : IsLit K H x l) : Dp K H x (litD l) := by
  obtain ⟨a, rfl, q⟩ := h
  exact .tup q (.cons (.str _) (.cons (.str _) (.cons (.int _) .nil)))
theorem dp_all {K : PySem.W.Frag} {H : Hp} {α : Type} {R : V → α → Prop} {f : α → PyData} (hf : ∀ x y, R x y → Dp K H x (f y)) : ∀ {xs : List V} {ys : List α}, Paired R xs ys → DpAll K H xs (ys.map f)
  | _, _, .nil => .nil
  | _, _, .cons h t => .cons (hf _ _ h) (dp_all hf t)
theorem dp_cl {K : PySem.W.Frag} {H : Hp} {x : V} {c : List Lit} (h : IsC K H x c) : Dp K H x (clD c) := by
  obtain ⟨a, ys, rfl, q⟩ := h
  exact .tup q.sq (dp_all (fun _ _ z => dp_lit z) q.p)
theorem eqv_lit (l m : Lit) : PyData.eqv (litD l) (litD m) = decide (l = m) := by
  obtain ⟨a, b, c⟩ := l
  obtain ⟨a', b', c'⟩ := m
  simp only [litD, PyData.eqv, PyData.eqvAll, Bool.and_true]
  rw [Bool.eq_iff_iff]
  simp [Prod.ext_iff]
theorem eqv_lits : ∀ (c d : List Lit), PyData.eqvAll (c.map litD) (d.map litD) = decide (c = d)
  | [], [] => by simp [PyData.eqvAll]
  | [], _ :: _ => by simp [PyData.eqvAll]
  | _ :: _, [] => by simp [PyData.eqvAll]
  | l :: c, m :: d => by
    simp only [List.map_cons, PyData.eqvAll]
    rw [eqv_lit, eqv_lits c d]
    rw [Bool.eq_iff_iff]
    simp
theorem eqv_cl (c d : List Lit) : PyData.eqv (clD c) (clD d) = decide (c = d) := by
  show PyData.eqvAll _ _ = _
  exact eqv_lits c d
def okC (cs : List (List Lit)) : Prop := ∀ c ∈ cs, ∀ l ∈ c, PyData.strOk l.1 = true ∧ PyData.strOk l.2.1 = true
theorem lay_lits : ∀ {c : List Lit}, (∀ l ∈ c, PyData.strOk l.1 = true ∧ PyData.strOk l.2.1 = true) → PyData.canLayAll0 (c.map litD) = true ∧ PyData.depthAll (c.map litD) ≤ 1
  | [], _ => ⟨rfl, Nat.zero_le _⟩
  | l :: c, h => by
    obtain ⟨h1, h2⟩ := h l List.mem_cons_self
    obtain ⟨r1, r2⟩ := lay_lits (c := c) fun m hm => h m (List.mem_cons_of_mem _ hm)
    refine ⟨?_, ?_⟩
    · simp only [List.map_cons, PyData.canLayAll0, litD, PyData.canLay0, h1, h2, r1, Bool.and_self]
    · simp only [List.map_cons, PyData.depthAll, litD, PyData.depth]
      omega
theorem lay_cls : ∀ {cs : List (List Lit)}, okC cs → PyData.canLayAll0 (cs.map clD) = true ∧ PyData.depthAll (cs.map clD) ≤ 2
  | [], _ => ⟨rfl, Nat.zero_le _⟩
  | c :: cs, h => by
    obtain ⟨h1, h2⟩ := lay_lits (h c List.mem_cons_self)
    obtain ⟨r1, r2⟩ := lay_cls (cs := cs) fun m hm => h m (List.mem_cons_of_mem _ hm)
    refine ⟨?_, ?_⟩
    · simp only [List.map_cons, PyData.canLayAll0, clD, PyData.canLay0, h1, r1, Bool.and_self]
    · simp only [List.map_cons, PyData.depthAll, clD, PyData.depth]
      omega
theorem shaped_list {cs : List (List Lit)} (h : okC cs) : SeqAt.shaped (.list (cs.map clD)) = true := by
  obtain ⟨h1, h2⟩ := lay_cls h
  unfold SeqAt.shaped
  rw [Bool.and_eq_true, decide_eq_true_eq]
  exact ⟨h1, by show PyData.depthAll _ + 1 ≤ 64; omega⟩
theorem shaped_tup {cs : List (List Lit)} (h : okC cs) : SeqAt.shaped (.tuple (cs.map clD)) = true := shaped_list h
theorem shaped_cl {c : List Lit} (h : ∀ l ∈ c, PyData.strOk l.1 = true ∧ PyData.strOk l.2.1 = true) : SeqAt.shaped (clD c) = true := by
  obtain ⟨h1, h2⟩ := lay_lits h
  unfold SeqAt.shaped
  rw [Bool.and_eq_true, decide_eq_true_eq]
  exact ⟨h1, by show PyData.depthAll _ + 1 ≤ 64; omega⟩
theorem eqv_cls : ∀ (c d : List (List Lit)), PyData.eqvAll (c.map clD) (d.map clD) = decide (c = d)
  | [], [] => by simp [PyData.eqvAll]
  | [], _ :: _ => by simp [PyData.eqvAll]
  | _ :: _, [] => by simp [PyData.eqvAll]
  | l :: c, m :: d => by
    simp only [List.map_cons, PyData.eqvAll]
    rw [eqv_cl, eqv_cls c d]
    rw [Bool.eq_iff_iff]
    simp
theorem any_cl (cs : List (List Lit)) (c : List Lit) : ((cs.map clD).any fun z => PyData.eqv z (clD c)) = decide (c ∈ cs) := by
  rw [List.any_map, Bool.eq_iff_iff, List.any_eq_true, decide_eq_true_eq]
  constructor
  · rintro ⟨d, hd, e⟩
    have e' : PyData.eqv (clD d) (clD c) = true := e
    rw [eqv_cl, decide_eq_true_eq] at e'
    exact e' ▸ hd
  · intro h
    exact ⟨c, h, by show PyData.eqv (clD c) (clD c) = true; rw [eqv_cl]; exact decide_eq_true rfl⟩
/-- clauses put together, each once -/
def merge : List (List Lit) → List (List Lit) → List (List Lit)
  | m, [] => m
  | m, c :: r => merge (if c ∈ m then m else m ++ [c]) r
end Kx
namespace Kx
open PySem L2 PySem.Spec PyProof.Rows
abbrev sAnd : Stmt := mth 2
abbrev nA : List Str := ["self", "other", "merged", "clause"]
structure CondAll (K : PySem.W.Frag) (mg : Str → Option Value) (B CB fB C fI : Addr) (fdB fdI : FuncData) : Prop where
  D : Cnd K mg C
  W : Bad K mg B CB fB fdB
  I : Fun K "__init__" "Cond.__init__" sInit fI fdI
  mkI : Mk K C fI
  ty : ∀ H a dx fs, H a = some (.ins C dx fs) → TyX K H (.ref a) (.ref C)
  kit : PySem.W.kitOne K (.ref C) (.ref C) = some true
def spAnd (K : PySem.W.Frag) (C CB : Addr) : Sp := fun vs H Q E => ∃ (a b dx dy p q p' q' : Addr) (cs cs' : List (List Lit)) (ys ys' : List Str), vs = [.ref a, .ref b] ∧ CondF K H a C dx p q cs ys ∧ CondF K H b C dy p' q' cs' ys' ∧ shortC (cs ++ cs') ∧ okC (cs ++ cs') ∧ (cs ++ cs').length ≤ 1000 ∧
  (firstWrong (merge [] (cs ++ cs')) = none → ∀ r dz p2 q2 zs H', CondF K H' r C dz p2 q2 (merge [] (cs ++ cs')) zs → Same H H' → H r = none → Q (.ref r) H') ∧ ∀ i, firstWrong (merge [] (cs ++ cs')) = some i → refusal CB E H i
theorem catA_of {K : PySem.W.Frag} {H : Hp} {a b : Addr} {xs ys : List V} {Q : VK} (h1 : SqT K H a xs) (h2 : SqT K H b ys) (hz : xs.length + ys.length ≤ sizeLine) (go : ∀ t H2, Same H H2 → SqT K H2 t (xs ++ ys) → Q (.ref t) H2) : rCatA K (.ref a) (.ref b) H Q := by
  refine ⟨a, b, xs, ys, rfl, rfl, h1, h2, hz, fun e => ?_, fun _ e => ?_, fun _ _ p hp => ?_⟩
  · exact go b H (fun _ _ z => z) (by rw [e]; exact h2)
  · exact go a H (fun _ _ z => z) (by rw [e, List.append_nil]; exact h1)
  · exact go p _ (new_same hp) (SqT.of upd_same)
theorem SqT.lst {K : PySem.W.Frag} {H : Hp} {a b : Addr} {ms : List V} {u : HO} {xs : List V} (ha : H a = some (.lst ms)) (h : SqT K H b xs) : SqT K (upd H a u) b xs := by
  rcases h with (h | ⟨o, h⟩) | h
  · exact .inl (.inl (by rw [upd_ne (fun e => by rw [e, ha] at h; cases h)]; exact h))
  · exact .inl (.inr ⟨o, by rw [upd_ne (fun e => by rw [e, ha] at h; cases h)]; exact h⟩)
  · exact .inr h
theorem IsC.lst {K : PySem.W.Frag} {H : Hp} {a : Addr} {ms : List V} {u : HO} {x : V} {c : List Lit} (ha : H a = some (.lst ms)) (h : IsC K H x c) : IsC K (upd H a u) x c := by
  obtain ⟨b, ys, e, q⟩ := h
  exact ⟨b, ys, e, SqT.lst ha q.sq, L2.Paired.mapP q.p fun _ _ ⟨d, z, r⟩ => ⟨d, z, SqT.lst ha r⟩, q.l1, q.l2⟩
theorem merge_snoc (c : List Lit) : ∀ (l m : List (List Lit)), merge m (l ++ [c]) = if c ∈ merge m l then merge m l else merge m l ++ [c]
  | [], m => rfl
  | d :: l, m => by
    show merge (if d ∈ m then m else m ++ [d]) (l ++ [c]) = _
    rw [merge_snoc c l]
    rfl
theorem merge_sub : ∀ (l m : List (List Lit)) (c : List Lit), c ∈ merge m l → c ∈ m ∨ c ∈ l
  | [], m, c, h => .inl h
  | d :: l, m, c, h => by
    have h' : c ∈ merge (if d ∈ m then m else m ++ [d]) l := h
    rcases merge_sub l _ c h' with z | z
    · by_cases hd : d ∈ m
      · rw [if_pos hd] at z
        exact .inl z
      · rw [if_neg hd] at z
        rcases List.mem_append.mp z with z | z
        · exact .inl z
        · exact .inr (by rw [List.mem_singleton.mp z]; exact List.mem_cons_self)
    · exact .inr (List.mem_cons_of_mem _ z)
theorem merge_len : ∀ (l m : List (List Lit)), (merge m l).length ≤ m.length + l.length
  | [], m => Nat.le_refl _
  | d :: l, m => by
    have h := merge_len l (if d ∈ m then m else m ++ [d])
    have e : (if d ∈ m then m else m ++ [d]).length ≤ m.length + 1 := by
      by_cases hd : d ∈ m
      · rw [if_pos hd]; exact Nat.le_succ _
      · rw [if_neg hd, List.length_append]; exact Nat.le_refl _
    show (merge (if d ∈ m then m else m ++ [d]) l).length ≤ m.length + (l.length + 1)
    omega
theorem paired_app {α β : Type} {R : α → β → Prop} : ∀ {xs : List α} {ys : List β} {xs' : List α} {ys' : List β}, Paired R xs ys → Paired R xs' ys' → Paired R (xs ++ xs') (ys ++ ys')
  | _, _, _, _, .nil, h => h
  | _, _, _, _, .cons a t, h => .cons a (paired_app t h)
section
variable {P : Program} {w : World} {K : PySem.W.Frag} {mg : Str → Option Value} {base : Heap} {B CB fB C fI : Addr} {fdB fdI : FuncData}
theorem scAnd : FnScope nA ["self", "other"] (defScope sAnd) := ⟨rfl, rfl, rfl, by decide +kernel, rfl, by decide +kernel, by decide +kernel⟩
theorem ok_and {f : Addr} {fd : FuncData} (F : Fun K "__and__" "Cond.__and__" sAnd f fd) (M : CondAll K mg B CB fB C fI fdB fdI) : FnOk P w K mg base (L2N.CX P w) 8 f fd ["self", "other"] (spAnd K C CB) := by
  obtain ⟨oc, od, kV, doc, pm, an, cdv, ct, osl, rfl, lk, hcd⟩ := F.ex
  have D := M.D
  have T := D.M.T
  have GI : FnR P w K mg base (L2N.CX P w) 6 fI (spInit K C (refusal CB)) := fnR_init M.I D M.W
  refine fn_of lk hcd scAnd (fun vs H Q E h => ?_) fun A outer s H vs Q E hr h => ?_
  · obtain ⟨a, b, dx, dy, p, q, p', q', cs, cs', ys, ys', rfl, _⟩ := h
    rfl
  · obtain ⟨a, b, dx, dy, p, q, p', q', cs, cs', ys, ys', rfl, ha, hb, hsh, hok, hlen, qn, qf⟩ := h
    have tk : L2N.Takes (cxOf (L2N.CX P w) P w K mg base nA "Cond.__and__" (defScope sAnd) f cdv A outer s H E) (fun cls d _ H => E cls d H) := L2N.takes_of rfl rfl rfl rfl
    have hx : Passes (L2N.CX P w) (cxOf (L2N.CX P w) P w K mg base nA "Cond.__and__" (defScope sAnd) f cdv A outer s H E) E := L2N.passes_call tk (fun _ _ _ _ z => z)
    have hu : (cxOf (L2N.CX P w) P w K mg base nA "Cond.__and__" (defScope sAnd) f cdv A outer s H E).A.units + 65 < cLine := by
      have := hr.un
      show (A.deeper (envOfC "Cond.__and__" (defScope sAnd) s.heap.objs.size f cdv)).units + 65 < cLine
      omega
    refine ⟨_, pss_cons (ps_if (pt_not (pt_val (pe_callB call_isi (by rfl) T.isi boot_isinstance (pa_cons (pv 1) (pa_cons (pe_glob (v := .ref C) (by rfl) D.gC rfl) pa_nil))))) (pss_one ps_never) pss_nil)
      (pss_cons (ps_set (i := 2) scAnd.nd rfl (Or.inl rfl) (pe_lst pa_nil))
      (pss_cons (ps_for (passes_of rfl) rfl (pi_tup (pe_op op_catA (pe_fld (pv 0) (by rfl)) (pe_fld (pv 1) (by rfl)))) (pg_name (i := 3) scAnd.nd rfl (Or.inl rfl))
        (pss_one (ps_if (pt_cmpR (op_notInD hu) (pv 3) (pv 2) (by with_unfolding_all rfl)) (pss_one (ps_expr (pe_bm PySem.F.plainAttrs_list PySem.F.slot_list_append PySem.F.type_list_append mt_append (pv 2) (pa_cons (pv 3) pa_nil)))) pss_nil)))
      (pss_one (ps_ret (pe_makeS (k := 6) M.mkI GI hr (by rfl) D.gC hx (pv 2)))))), ?_⟩
    obtain ⟨xs, hc⟩ := ha.cl
    obtain ⟨xs', hc'⟩ := hb.cl
    have hp := paired_app hc.p hc'.p
    have hpl : (xs ++ xs').length = (cs ++ cs').length := Paired.length hp
    refine ⟨_, rfl, .ref b, .ref C, _, _, true, rfl, .own C, M.ty _ b dy _ hb.ins, M.kit, true, rfl, iteF ?_⟩
    refine ⟨by show 0 ≤ sizeLine; decide, fun m hm => ?_⟩
    have s1 : Same H (upd H m (.lst [])) := new_same hm
    refine ⟨_, rfl, a, C, dx, _, .ref p, rfl, s1 _ _ ha.ins, D.cls, D.nc, rfl, _, rfl, b, C, dy, _, .ref p', rfl, s1 _ _ hb.ins, D.cls, D.nc, rfl, ?_⟩
    refine catA_of (SqT.same s1 hc.sq) (SqT.same s1 hc'.sq) (by rw [← List.length_append, hpl]; exact Nat.le_of_lt (small1000 hlen)) fun t H2 s2 ht => ?_
    refine ⟨t, rfl, ⟨_, ht⟩, ?_⟩
    refine for_tup (xs := xs ++ xs') (fun i σ H3 => (∃ v3, σ = [some (.ref a), some (.ref b), some (.ref m), v3]) ∧ Same H H3 ∧ SqT K H3 t (xs ++ xs') ∧ ∃ ms, H3 m = some (.lst ms) ∧ Paired (IsC K H3) ms (merge [] ((cs ++ cs').take i)))
      ⟨⟨none, rfl⟩, fun b u z => s2 _ _ (s1 _ _ z), ht, [], s2 _ _ upd_same, .nil⟩ (fun i σ H3 _ h => h.2.2.1) ?_ ?_
    · rintro i x σ H3 hx ⟨⟨v3, rfl⟩, s3, ht3, ms, gm, hms⟩
      obtain ⟨c, hcl, hxc⟩ := paired_get hp hx
      have hcm : c ∈ cs ++ cs' := List.mem_of_getElem? hcl
      have hx3 := IsC.same s3 hxc
      have hlm : ms.length ≤ 1000 := by
        have e1 : ms.length = (merge [] ((cs ++ cs').take i)).length := Paired.length hms
        have e2 := merge_len ((cs ++ cs').take i) []
        rw [List.length_take] at e2
        have e3 : ([] : List (List Lit)).length = 0 := rfl
        omega
      have okm : okC (merge [] ((cs ++ cs').take i)) := fun d hd => by
        rcases merge_sub _ _ _ hd with z | z
        · cases z
        · exact hok d (List.mem_of_mem_take z)
      have em : merge [] ((cs ++ cs').take (i + 1)) = if c ∈ merge [] ((cs ++ cs').take i) then merge [] ((cs ++ cs').take i) else merge [] ((cs ++ cs').take i) ++ [c] := by
        rw [List.take_add_one, hcl]
        exact merge_snoc c _ _
      refine ⟨_, rfl, _, rfl, clD c, _, dp_cl hx3, .lst (SqL.of gm) (dp_all (fun _ _ z => dp_cl z) hms), shaped_cl (hok c hcm), shaped_list okm, _, rfl, ?_⟩
      rw [any_cl]
      by_cases hin : c ∈ merge [] ((cs ++ cs').take i)
      case pos =>
        rw [decide_eq_true hin]
        rw [if_pos hin] at em
        exact iteF ⟨⟨_, rfl⟩, s3, ht3, ms, gm, by rw [em]; exact hms⟩
      case neg =>
        rw [decide_eq_false hin]
        rw [if_neg hin] at em
        refine iteT ?_
        refine ⟨_, rfl, .inl ⟨rfl, ms, SqL.of gm⟩, _, rfl, m, ms, x, rfl, rfl, gm, small1000 hlm, ?_⟩
        refine ⟨⟨_, rfl⟩, same_upd hm s3, SqT.lst gm ht3, _, upd_same, ?_⟩
        rw [em]
        exact paired_app (L2.Paired.mapP hms fun _ _ z => IsC.lst gm z) (.cons (IsC.lst gm hx3) .nil)
    · rintro σ H3 ⟨⟨v3, rfl⟩, s3, ht3, ms, gm, hms⟩
      rw [hpl, List.take_of_length_le (Nat.le_refl _)] at hms
      have hl : (merge [] (cs ++ cs')).length ≤ 1000 := Nat.le_trans (merge_len _ _) (by show 0 + (cs ++ cs').length ≤ 1000; omega)
      have hml : ms.length = (merge [] (cs ++ cs')).length := Paired.length hms
      refine ⟨_, rfl, m, ms, rfl, .inr (SqL.of gm), fun r dz hr0 hdz hne => ⟨[.ref r], ms, rfl, rfl, Nat.le_of_lt (small1000 (by omega)), fun p2 hp2 => ?_⟩⟩
      have s5 : Same H3 (upd (upd H3 dz (.own r)) r (.ins C dz [])) := same_upd hr0 (new_same hdz)
      have s6 : Same H3 (upd (upd (upd H3 dz (.own r)) r (.ins C dz [])) p2 (.tup ms)) := fun b u z => new_same hp2 _ _ (s5 _ _ z)
      have hrp : r ≠ p2 := fun z => by
        rw [← z, upd_same] at hp2
        cases hp2
      refine ⟨r, dz, p2, ms, merge [] (cs ++ cs'), rfl, (by rw [upd_ne hrp]; exact upd_same), ⟨SqT.of upd_same, pairedC_same s6 hms, hl⟩, fun c hcm l hlm => ?_, fun hw H' q2 zs hF hk => ⟨rfl, ?_⟩, fun i hw H1 s7 => ?_⟩
      · rcases merge_sub _ _ _ hcm with z | z
        · cases z
        · exact hsh c z l hlm
      · refine qn hw r dz p2 q2 zs H' hF (fun b u z => hk b u (fun e => ?_) (s6 _ _ (s3 _ _ z))) (Same.free s3 hr0)
        rw [e, Same.free s3 hr0] at z
        cases z
      · exact fun d H' s8 z => qf i hw d H' (fun b u y => s8 _ _ (s7 _ _ (s6 _ _ (s3 _ _ y)))) z
end
end Kx
namespace Kx
open PySem L2
abbrev sWell : Stmt := top 25
abbrev sDraw : Stmt := top 26
abbrev sOne : Stmt := top 27

/-- a source of draws as it stands: three whole numbers, the last one small -/
def WellAt (H : Hp) (p : Addr) (n : Int) : Prop := ∃ a b c : Int, H p = some (.lst [.int a, .int b, .int c]) ∧ 0 ≤ b ∧ b < 4294967296 ∧ 0 ≤ c ∧ c ≤ n
def spWell : Sp := fun vs H Q _ => ∃ c : Int, vs = [.int c] ∧ ∀ p H', H p = none → Same H H' → WellAt H' p 0 → Q (.ref p) H'
def spDraw : Sp := fun vs H Q _ => ∃ (p : Addr) (m n : Int), vs = [.ref p, .int m] ∧ WellAt H p n ∧ n ≤ 1000000 ∧ 0 < m ∧ m < 1000000 ∧
  ∀ (r : Int) (xs : List V), 0 ≤ r → r < m → WellAt (upd H p (.lst xs)) p (n + 1) → Q (.int r) (upd H p (.lst xs))
def spOne (K : PySem.W.Frag) : Sp := fun vs H Q _ => ∃ (p q : Addr) (n : Int) (ys : List V), vs = [.ref p, .ref q] ∧ WellAt H p n ∧ n ≤ 1000000 ∧ p ≠ q ∧ SqL K H q ys ∧ 0 < ys.length ∧ ys.length < 1000000 ∧
  ∀ (r : Nat) (v : V) (xs : List V), ys[r]? = some v → WellAt (upd H p (.lst xs)) p (n + 1) → Q v (upd H p (.lst xs))

structure Bl (mg : Str → Option Value) : Prop where
  int : mg "int" = none
  len : mg "len" = none

section
variable {P : Program} {w : World} {K : PySem.W.Frag} {mg : Str → Option Value} {base : Heap}
theorem scW : FnScope ["_law_cell"] ["_law_cell"] (defScope sWell) := ⟨rfl, rfl, rfl, by decide +kernel, rfl, by decide +kernel, by decide +kernel⟩
theorem ok_well {f : Addr} {fd : FuncData} (F : Fun K "_law_well" "_law_well" sWell f fd) (T : Bl mg) : FnOk P w K mg base CX0 1 f fd ["_law_cell"] spWell := by
  refine F.ok scW (fun vs H Q E h => ?_) (fun cdv A outer s H vs Q E hr h => ?_)
  · obtain ⟨c, rfl, _⟩ := h
    rfl
  · obtain ⟨c, rfl, k⟩ := h
    have hu := hu_of hr
    refine ⟨_, pss_one (ps_ret (pe_lst (pa_cons (pe_op op_mul (pv 0) (pe_callTy call_int1 (by rfl) T.int (by decide +kernel) (pa_cons (pe_cmpR op_ge (pv 0) (pe_op op_pow pe_int pe_int) (nomark _)) pa_nil)))
      (pa_cons (pe_op op_mod (pe_callTy call_int1 (by rfl) T.int (by decide +kernel) (pa_cons (pv 0) pa_nil)) pe_int) (pa_cons pe_int pa_nil))))), ?_⟩
    refine ⟨_, rfl, _, rfl, _, _, rfl, rfl, ⟨by decide, by decide, by decide⟩, _, _, rfl, rfl, .inr ⟨_, rfl, _, _, rfl, rfl, .inr ?_, _, rfl, .inl ⟨_, rfl, _, _, rfl, rfl, (by show (0 : Int) < 2147483629; decide), (by show 3 ≤ sizeLine; decide), fun p hp => ?_⟩⟩⟩
    · split <;> omega
    · refine k p _ hp (fun b o e => ?_) ⟨_, _, 0, upd_same, Int.emod_nonneg _ (by decide), ?_, Int.le_refl _, Int.le_refl _⟩
      · rw [upd_ne (ne_of_none e hp)]
        exact e
      · have := Int.emod_lt_of_pos c (show (0 : Int) < 2147483629 by decide)
        omega
theorem ml (x : Int) : -(2 ^ 64) < x % 2147483647 ∧ x % 2147483647 < 2 ^ 64 := by omega
theorem scD : FnScope ["_law_well_here", "_law_base", "_law_digit", "_law_number"] ["_law_well_here", "_law_base"] (defScope sDraw) := ⟨rfl, rfl, rfl, by decide +kernel, rfl, by decide +kernel, by decide +kernel⟩
theorem ok_draw {f : Addr} {fd : FuncData} (F : Fun K "_law_draw" "_law_draw" sDraw f fd) (T : Bl mg) : FnOk P w K mg base CX0 1 f fd ["_law_well_here", "_law_base"] spDraw := by
  refine F.ok scD (fun vs H Q E h => ?_) (fun cdv A outer s H vs Q E hr h => ?_)
  · obtain ⟨p, m, n, rfl, _⟩ := h
    rfl
  · obtain ⟨p, m, n, rfl, ⟨a, b, c, hp, hb0, hb1, hc0, hcn⟩, hn, hm0, hm1, k⟩ := h
    have hu := hu_of hr
    refine ⟨_, pss_cons (ps_if (pt_cmpR op_gt (pe_ix ix_list (pv 0) pe_int (fun _ _ => rfl)) pe_int (nomark _))
        (pss_cons (ps_set (i := 2) scD.nd rfl (Or.inl rfl) (pe_op op_mod (pe_callTy call_int1 (by rfl) T.int (by decide +kernel) (pa_cons (pe_ix ix_list (pv 0) pe_int (fun _ _ => rfl)) pa_nil)) (pv 1)))
        (pss_cons (ps_asg (pe_op op_fdivW (pe_ix ix_list (pv 0) pe_int (fun _ _ => rfl)) (pv 1)) (pg_sub (pv 0) pe_int set_list))
        (pss_one (ps_ret (pv 2))))) pss_nil)
      (pss_cons (ps_asg (pe_op op_add (pe_ix ix_list (pv 0) pe_int (fun _ _ => rfl)) pe_int) (pg_sub (pv 0) pe_int set_list))
      (pss_cons (ps_set (i := 3) scD.nd rfl (Or.inl rfl) (pe_op op_mod (pe_callTy call_int1 (by rfl) T.int (by decide +kernel) (pa_cons (pe_op op_mul (pe_callTy call_int1 (by rfl) T.int (by decide +kernel) (pa_cons
          (pe_op op_add (pe_op op_add (pe_ix ix_list (pv 0) pe_int (fun _ _ => rfl)) (pe_op op_mul pe_int (pe_ix ix_list (pv 0) pe_int (fun _ _ => rfl)))) pe_int) pa_nil)) pe_int) pa_nil)) pe_int))
      (pss_cons (ps_set (i := 3) scD.nd rfl (Or.inl rfl) (pe_op op_mod (pe_callTy call_int1 (by rfl) T.int (by decide +kernel) (pa_cons (pe_op op_mul (pv 3) (pe_op op_add (pe_op op_fdiv (pv 3) pe_int) pe_int)) pa_nil)) pe_int))
      (pss_one (ps_ret (pe_op op_mod (pe_callTy call_int1 (by rfl) T.int (by decide +kernel) (pa_cons (pe_op op_mod (pe_callTy call_int1 (by rfl) T.int (by decide +kernel) (pa_cons (pe_op op_mul (pv 3) (pe_op op_add (pe_op op_fdiv (pv 3) pe_int) pe_int)) pa_nil)) pe_int) pa_nil)) (pv 1))))))), ?_⟩
    have g0 : ∀ (x y z : V), atI [x, y, z] 0 = some x := fun _ _ _ => rfl
    have g1 : ∀ (x y z : V), atI [x, y, z] 1 = some y := fun _ _ _ => rfl
    have g2 : ∀ (x y z : V), atI [x, y, z] 2 = some z := fun _ _ _ => rfl
    have hc1 : c + 1 ≤ n + 1 := by omega
    refine ⟨_, rfl, p, _, _, _, rfl, rfl, SqL.of hp, g0 _ _ _, _, _, rfl, rfl, _, rfl, ?_⟩
    refine ite2 (fun _ => ?_) (fun _ => ?_)
    · refine ⟨_, rfl, p, _, _, _, rfl, rfl, SqL.of hp, g0 _ _ _, .inl ⟨_, rfl, _, rfl, _, _, rfl, rfl, hm0, ?_⟩⟩
      refine ⟨_, rfl, p, _, _, _, rfl, rfl, SqL.of hp, g0 _ _ _, _, rfl, _, _, rfl, rfl, wide_div (b := 20) hm0 (by omega) (by decide) (by decide), _, rfl, p, _, _, 0, rfl, rfl, hp, rfl, _, rfl, ?_⟩
      exact k _ _ (Int.emod_nonneg _ (by omega)) (Int.emod_lt_of_pos _ hm0) ⟨_, b, c, upd_same, hb0, hb1, hc0, by omega⟩
    · refine ⟨_, rfl, p, _, _, _, rfl, rfl, SqL.of hp, g2 _ _ _, _, _, rfl, rfl, _, rfl, p, _, _, 2, rfl, rfl, hp, rfl, ?_⟩
      have e2 : (upd H p (.lst [.int a, .int b, .int (c + 1)])) p = some (.lst [.int a, .int b, .int (c + 1)]) := upd_same
      refine ⟨_, rfl, p, _, _, _, rfl, rfl, SqL.of e2, g1 _ _ _, _, rfl, p, _, _, _, rfl, rfl, SqL.of e2, g2 _ _ _, _, _, rfl, rfl, .inl ⟨by decide, by decide⟩, _, _, rfl, rfl, _, _, rfl, rfl,
        .inl ⟨_, rfl, _, _, rfl, rfl, .inr ⟨by decide, by decide⟩, .inl ⟨_, rfl, _, _, rfl, rfl, (by show (0 : Int) < 2147483647; decide), ?_⟩⟩⟩
      refine ⟨_, rfl, _, rfl, _, _, rfl, rfl, ⟨by decide, by decide⟩, _, _, rfl, rfl, _, _, rfl, rfl, .inl (ml _), .inl ⟨_, rfl, _, _, rfl, rfl, (by show (0 : Int) < 2147483647; decide), ?_⟩⟩
      refine ⟨_, rfl, _, rfl, _, _, rfl, rfl, ⟨by decide, by decide⟩, _, _, rfl, rfl, _, _, rfl, rfl, .inl (ml _), .inl ⟨_, rfl, _, _, rfl, rfl, (by show (0 : Int) < 2147483399; decide), .inl ⟨_, rfl, _, rfl, _, _, rfl, rfl, hm0, ?_⟩⟩⟩
      exact k _ _ (Int.emod_nonneg _ (by omega)) (Int.emod_lt_of_pos _ hm0) ⟨a, b, c + 1, upd_same, hb0, hb1, by omega, by omega⟩
theorem scO : FnScope ["_law_well_here", "_law_some_here"] ["_law_well_here", "_law_some_here"] (defScope sOne) := ⟨rfl, rfl, rfl, by decide +kernel, rfl, by decide +kernel, by decide +kernel⟩
theorem ok_one {f g : Addr} {fd fdD : FuncData} (F : Fun K "_law_one" "_law_one" sOne f fd) (T : Bl mg) (FD : Fun K "_law_draw" "_law_draw" sDraw g fdD) (bD : Binds K fdD ["_law_well_here", "_law_base"] []) (mD : mg "_law_draw" = some (.ref g)) : FnOk P w K mg base CX0 2 f fd ["_law_well_here", "_law_some_here"] (spOne K) := by
  have GD : FnOk P w K mg base CX0 1 g fdD ["_law_well_here", "_law_base"] spDraw := ok_draw FD T
  refine F.ok scO (fun vs H Q E h => ?_) (fun cdv A outer s H vs Q E hr h => ?_)
  · obtain ⟨p, q, n, ys, rfl, _⟩ := h
    rfl
  · obtain ⟨p, q, n, ys, rfl, hW, hn, hne, hq, h0, h1, k⟩ := h
    refine ⟨_, pss_one (ps_ret (pe_ix ix_list (pv 1) (pe_call GD hr rfl mD FD.kp bD .nil pass0 (pa_cons (pv 0) (pa_cons (pe_callB call_len_seq (by rfl) T.len PySem.boot_len (pa_cons (pv 1) pa_nil)) pa_nil))) (fun _ _ => rfl))), ?_⟩
    refine ⟨_, rfl, _, rfl, _, rfl, q, ys, rfl, .inl hq, p, _, n, rfl, hW, hn, by omega, by omega, fun r xs r0 r1 hW' => ?_⟩
    have hr2 : r.toNat < ys.length := by omega
    have e1 : ys[r.toNat]? = some ys[r.toNat] := by simp [hr2]
    refine ⟨q, ys, r, _, rfl, rfl, ?_, at_of (j := r.toNat) (by omega) e1, k r.toNat _ xs e1 hW'⟩
    rcases hq with (z | ⟨o, z⟩) | z
    · exact .inl (.inl (by rw [upd_ne (fun e => hne e.symm)]; exact z))
    · exact .inl (.inr ⟨o, by rw [upd_ne (fun e => hne e.symm)]; exact z⟩)
    · exact .inr z
end
end Kx
namespace Kx
open PySem L2 PySem.Spec PyProof.Rows
section
variable {X : Cx}
theorem pe_ownX {W : WX} {op : Operator} {k : Nat} {f C : Addr} {fd : FuncData} {ps : List PySem.Str} {sp : Sp} {e1 e2 : Expr} {ta tb : TE} {pos : Pos} (tk : L2N.Takes X W) (hc : PySem.W.selfFirst X.K C = true) (hs : PySem.W.findIn X.K (.ref C) (PySem.dunder op.info.2) = some (some (.ref f))) (hf : PySem.W.isFn X.K (.ref f) = true)
    (F : FnOk X.prog X.w X.K X.mg X.base (L2N.CX X.prog X.w) k f fd ps sp) (hr : Room k X.A) (hb : Binds X.K fd ps []) (h1 : PE X e1 ta) (h2 : PE X e2 tb) :
    PE X (.BinOp e1 op e2 pos) (fun σ H Q => ta σ H fun x H1 => tb σ H1 fun y H2 => rOwn C sp (WE W σ) x y H2 Q) := by
  refine ⟨fun pins s σ H Q I h => ?_⟩
  refine wpAny_BinOp (binT h1 h2 I h fun v u s2 x y H2 I2 rx ry q => ?_)
  obtain ⟨a, b, dx, dy, fs, gs, rfl, rfl, ha, hb', q⟩ := q
  obtain rfl : v = Value.ref a := rx
  obtain rfl : u = Value.ref b := ry
  obtain ⟨m, fr⟩ := I2.fr
  obtain ⟨_, O1, _⟩ := ins_get I2.hok ha
  obtain ⟨o1, J1, _⟩ := O1.look
  obtain ⟨_, O2, _⟩ := ins_get I2.hok hb'
  obtain ⟨o2, J2, _⟩ := O2.look
  refine PySem.W.binop_K fr I2.ok.mod.kin J1 J2.type hc hs hf ?_
  refine thn (run_fnS (E := WE W) (us := [.ref a, .ref b]) (vs := [.ref a, .ref b]) F hr hb (L2N.passAt tk σ) I2 (.cons rfl (.cons rfl .nil)) q) fun z s' ⟨zv, H', I', rz, q'⟩ => ?_
  cases z <;> first | exact ⟨zv, H', I', rz, q'⟩ | (cases zv <;> first | (obtain ⟨_, z⟩ := rz; cases z) | cases rz)
theorem pe_xfE {a C : Addr} {oe : Obj} {cls : Value} {d : Option Addr} {pn : List (Addr × Obj)} {e : Expr} {te : TE} {pos : Pos} {n : PySem.Str} (T : XfC X.K C) (hno : PySem.W.findIn X.K (.ref C) n = some none) (hz : Zc cls d oe) (hf : ∃ vs, oe.data = .fields vs)
    (he : PE (X.suite a ((a, oe) :: pn)) e te) (hb : attributeBase e n X.env (eval e X.env) = eval e X.env := by rfl) : PE (X.suite a ((a, oe) :: pn)) (.Attribute e n pos)
      (fun σ H Q => te σ H fun x H1 => x = .ref a ∧ cls = .ref C ∧ ∃ (dd : Addr) (fs : List (PySem.Str × V)) (v : V), d = some dd ∧ H1 dd = some (exd dd fs) ∧ fs.lookup n = some v ∧ Q v H1) := by
  refine ⟨fun pins s σ H Q I h => attr_of hb (thn (he.run pins s σ H _ I h) fun u s1 hh => ?_)⟩
  obtain ⟨x, H1, I1, rx, rfl, rfl, dd, fs, v, rfl, ea, l, q⟩ := hh
  obtain rfl : u = Value.ref a := rx
  obtain ⟨ha, _⟩ := I1.pin (a, oe) (List.mem_append_left _ List.mem_cons_self)
  obtain ⟨vs, hd⟩ := hf
  obtain ⟨mA, hns, hr⟩ := exd_at I1.hok ea
  obtain ⟨od, ho, hl⟩ := lookIn_ns hns
  obtain ⟨u, hu, ru⟩ := RelO.some_of (v := v) (o := mA n) (by rw [← l]; exact hr n)
  have J : PySem.W.InstAt s1.heap a oe C (some od) := ⟨ha, hz.1, by unfold PySem.W.notCls; rw [hd] <;> rfl, by rw [hz.2]; exact ho⟩
  exact HandSPX.exc_get I1.kIn J T.ga T.gg T.exC (PySem.W.findObj_own T.hdC hno rfl (by rw [hl, hu])) (handed_of ru) ⟨v, H1, I1.tok _, ru, q⟩
end
end Kx
namespace Kx
open PySem L2 PySem.Spec PyProof.Rows
def PinIs (p : Addr × Obj) (C : Addr) (H : Hp) : Prop := ∃ vs d, p.2.data = .fields vs ∧ Zc (.ref C) d p.2 ∧ (d = none ∨ ∃ dd fs, d = some dd ∧ H dd = some (exd dd fs))
theorem PinIs.same {p : Addr × Obj} {C : Addr} {H H' : Hp} (h : PinIs p C H) (s : Same H H') : PinIs p C H' := by
  obtain ⟨vs, d, h1, h2, h3⟩ := h
  exact ⟨vs, d, h1, h2, h3.imp id fun ⟨dd, fs, e, z⟩ => ⟨dd, fs, e, s _ _ z⟩⟩
section
variable {X : Cx} {B : Addr}
def rIsPin (K : PySem.W.Frag) (p : Addr × Obj) (B : Addr) : List V → Hp → VK → Prop := fun xs H Q => ∃ (C : Addr) (c : V) (u : Value) (b : Bool), xs = [.ref p.1, c] ∧ PinIs p C H ∧ Ct K B C ∧ ClsV c u ∧ PySem.W.kitOne K (.ref C) u = some b ∧ Q (.bl b) H
theorem call_isPin {p : Addr × Obj} (G : Gt X.K B) (hp : p ∈ X.pn) : CallR X (.builtin "isinstance") (rIsPin X.K p B) := by
  intro pins s σ H xs us Q I r h
  obtain ⟨C, c, u, b, rfl, ⟨vs, d, hd, hz, hdd⟩, T, k, e, q⟩ := h
  obtain ⟨u1, u2, rfl, r1, r2⟩ := vals2 r
  have z1 : u1 = Value.ref p.1 := r1
  subst z1
  have e2 := k.eq r2
  subst e2
  obtain ⟨a, oc, odd, oda, osl⟩ := p
  obtain ⟨g, _⟩ := I.pin _ (List.mem_append_left pins hp)
  obtain ⟨y1, y2⟩ := hz
  dsimp only at g hd y1 y2
  subst y1 y2 hd
  have J : ∃ od, PySem.W.InstAt s.heap a ⟨.ref C, odd, .fields vs, osl⟩ C od := by
    rcases hdd with rfl | ⟨dd, fs, rfl, hx⟩
    · exact ⟨none, g, rfl, rfl, trivial⟩
    · obtain ⟨mA, hn, _⟩ := exd_at I.hok hx
      obtain ⟨od, e2, _⟩ := lookIn_ns hn
      exact ⟨some od, g, rfl, rfl, e2⟩
  obtain ⟨od, J⟩ := J
  exact PySem.W.kia_one (PySem.W.kitx_exc T.isC T.ga T.gg T.base T.ha G.hn G.ht (by rw [T.mro]; rfl)) I.kIn J e (fun z => nomatch z) fun tk => ⟨.bl b, H, I.tok tk, rfl, q⟩
/-- isinstance(e, c) in the suite, told by the class and the dict of e alone -/
def rIsCls (K : PySem.W.Frag) (B a : Addr) (cls : Value) (d : Option Addr) : List V → Hp → VK → Prop := fun xs H Q => ∃ (C : Addr) (c : V) (u : Value) (b : Bool), xs = [.ref a, c] ∧ cls = .ref C ∧ (d = none ∨ ∃ dd fs, d = some dd ∧ H dd = some (exd dd fs)) ∧ Ct K B C ∧ ClsV c u ∧ PySem.W.kitOne K (.ref C) u = some b ∧ Q (.bl b) H
theorem call_isCls {a : Addr} {oe : Obj} {cls : Value} {d : Option Addr} {pn : List (Addr × Obj)} (G : Gt X.K B) (hz : Zc cls d oe) (hf : ∃ vs, oe.data = .fields vs) : CallR (X.suite a ((a, oe) :: pn)) (.builtin "isinstance") (rIsCls X.K B a cls d) := by
  intro pins s σ H xs us Q I r h
  obtain ⟨C, c, u, b, rfl, rfl, hd, T, k, e, q⟩ := h
  obtain ⟨vs, hv⟩ := hf
  exact call_isPin (X := X.suite a ((a, oe) :: pn)) (p := (a, oe)) G List.mem_cons_self pins s σ H _ us Q I r ⟨C, c, u, b, rfl, ⟨vs, d, hv, hz, hd⟩, T, k, e, q⟩
end
abbrev sSaid : Stmt := top 32
/-- what joining tells -/
def dueD (cs : List (List Lit)) : PyData := match firstWrong (merge [] cs) with
  | some i => .tuple [.str "bad", .int i]
  | none => .tuple [.str "told", .tuple ((merge [] cs).map clD)]
def spSaid (K : PySem.W.Frag) (C : Addr) : Sp := fun vs H Q _ => ∃ (a b dx dy p q p' q' : Addr) (cs cs' : List (List Lit)) (ys ys' : List PySem.Str), vs = [.ref a, .ref b] ∧ CondF K H a C dx p q cs ys ∧ CondF K H b C dy p' q' cs' ys' ∧ shortC (cs ++ cs') ∧ okC (cs ++ cs') ∧ (cs ++ cs').length ≤ 1000 ∧
  ∀ v H', Same H H' → Dp K H' v (dueD (cs ++ cs')) → Q v H'
section
variable {P : Program} {w : World} {K : PySem.W.Frag} {mg : PySem.Str → Option Value} {base : Heap} {B CB fB C fI : Addr} {fdB fdI : FuncData}
structure AndOf (K : PySem.W.Frag) (mg : PySem.Str → Option Value) (B CB fB C fI fA : Addr) (fdB fdI fdA : FuncData) : Prop where
  A : CondAll K mg B CB fB C fI fdB fdI
  F : Fun K "__and__" "Cond.__and__" sAnd fA fdA
  b : Binds K fdA ["self", "other"] []
  hc : PySem.W.selfFirst K C = true
  hs : PySem.W.findIn K (.ref C) (PySem.dunder (Operator.info .BitAnd).2) = some (some (.ref fA))
  hf : PySem.W.isFn K (.ref fA) = true
  G : Gt K B
  gB : mg "ContractError" = some (.ref B)
theorem scSaid : FnScope ["_law_one_here", "_law_other", "e"] ["_law_one_here", "_law_other"] (defScope sSaid) := ⟨rfl, rfl, rfl, by decide +kernel, rfl, by decide +kernel, by decide +kernel⟩
theorem ok_said {f fA : Addr} {fd fdA : FuncData} (F : Fun K "_law_said" "_law_said" sSaid f fd) (N : AndOf K mg B CB fB C fI fA fdB fdI fdA) : FnOk P w K mg base CX0 9 f fd ["_law_one_here", "_law_other"] (spSaid K C) := by
  have D := N.A.D
  have T := D.M.T
  have W := N.A.W
  have GA : FnOk P w K mg base (L2N.CX P w) 8 fA fdA ["self", "other"] (spAnd K C CB) := ok_and N.F N.A
  refine F.ok scSaid (fun vs H Q E h => ?_) (fun cdv A outer s H vs Q E hr h => ?_)
  · obtain ⟨a, b, dx, dy, p, q, p', q', cs, cs', ys, ys', rfl, _⟩ := h
    rfl
  · obtain ⟨a, b, dx, dy, p, q, p', q', cs, cs', ys, ys', rfl, ha, hb, hsh, hok, hlen, k⟩ := h
    refine ⟨_, pss_one (L2N.ps_try_as (i := 2) (Wout := fun _ _ _ _ => False)
      (tb := fun W => tRet (tTup (tCons (tC (.str "told")) (tCons (tFld K (fun σ H Q => tVar 0 σ H fun x H1 => tVar 1 σ H1 fun y H2 => rOwn C (spAnd K C CB) (WE W σ) x y H2 Q) "clauses") tNil))))
      (ts := fun a cls d => tRet (tIf (tB (tCB (rIsCls K B a cls d) (tCons (tVar 2) (tCons (tC (.ref CB)) tNil)))) (tTup (tCons (tC (.str "bad")) (tCons (fun σ H Q => tVar 2 σ H fun x H1 => x = .ref a ∧ cls = .ref CB ∧ ∃ (dd : Addr) (fs : List (PySem.Str × V)) (v : V), d = some dd ∧ H1 dd = some (exd dd fs) ∧ fs.lookup ("clause" : PySem.Str) = some v ∧ Q v H1) tNil))) (tTup (tCons (tC (.str "other")) (tCons (tC .non) tNil)))))
      rfl rfl scSaid.nd rfl rfl ⟨rfl, by decide, .inl N.gB⟩ takesN0
      (fun W pn xe tk _ => pss_one (ps_ret (pe_tup (pa_cons pe_str (pa_cons (pe_fld (pe_ownX (op := .BitAnd) (C := C) (f := fA) tk N.hc N.hs N.hf GA hr N.b (pv 0) (pv 1)) (by rfl)) pa_nil)))))
      (fun a oe cls d pn hz hf => pss_one (ps_ret (pe_ifExp (pt_val (pe_callB (call_isCls N.G hz.zc hf) (by rfl) T.isi boot_isinstance (pa_cons (pv 2) (pa_cons (pe_glob (v := .ref CB) (by rfl) W.gm rfl) pa_nil))))
        (pe_tup (pa_cons pe_str (pa_cons (pe_xfE (X := (cxOf CX0 P w K mg base ["_law_one_here", "_law_other", "e"] "_law_said" (defScope sSaid) f cdv A outer s H E).nox) (n := "clause") (C := CB) W.T.xf (W.no _ (by simp)) hz.zc hf (pv 2)) pa_nil))) (pe_tup (pa_cons pe_str (pa_cons pe_non pa_nil))))))), ?_⟩
    refine ⟨_, rfl, _, rfl, a, b, dx, dy, _, _, rfl, rfl, ha.ins, hb.ins, a, b, dx, dy, p, q, p', q', cs, cs', ys, ys', rfl, ha, hb, hsh, hok, hlen, fun hw r dz p2 q2 zs H' hF s' hr0 => ?_, fun i hw d H' s' hd => ?_⟩
    · refine ⟨r, C, dz, _, .ref p2, rfl, hF.ins, D.cls, D.nc, rfl, (by show 2 ≤ sizeLine; decide), fun t ht => k _ _ (fun b u z => new_same ht _ _ (s' _ _ z)) ?_⟩
      obtain ⟨xs, hc⟩ := Exists.imp (fun xs z => Cs.same (new_same ht) z) hF.cl
      unfold dueD
      rw [hw]
      exact .tup (SqT.of upd_same) (.cons (.str _) (.cons (.tup hc.sq (dp_all (fun _ _ z => dp_cl z) hc.p)) .nil))
    · refine ⟨true, PySem.W.exm_ref N.G.bsB N.G.hdB N.G.tyB (by show PySem.W.mroIn K CB _ = _; rw [W.T.mro]; simp), fun _ a' na => ?_, fun z => nomatch z⟩
      refine ⟨_, rfl, CB, .ref CB, _, true, rfl, rfl, .inr ⟨d, _, rfl, hd⟩, W.T, .own CB, kit_yes W.T, true, rfl, iteT ?_⟩
      refine ⟨_, rfl, rfl, rfl, d, _, .int i, rfl, hd, (by simp [List.lookup]), (by show 2 ≤ sizeLine; decide), fun t ht => k _ _ (fun b u z => new_same ht _ _ (s' _ _ z)) ?_⟩
      unfold dueD
      rw [hw]
      exact .tup (SqT.of upd_same) (.cons (.str _) (.cons (.int _) .nil))
end
end Kx
namespace Kx
open PySem L2 PySem.Spec PyProof.Rows
abbrev sDue : Stmt := top 31
def wi : Nat → List (List Lit) → List Nat
  | _, [] => []
  | i, c :: r => (if c.length = 2 then [i] else []) ++ wi (i + 1) r
theorem wi_snoc (c : List Lit) : ∀ (l : List (List Lit)) (i : Nat), wi i (l ++ [c]) = wi i l ++ (if c.length = 2 then [i + l.length] else [])
  | [], i => by
    show (if c.length = 2 then [i] else []) ++ wi (i + 1) [] = [] ++ _
    rw [List.nil_append]
    show (if c.length = 2 then [i] else []) ++ [] = _
    rw [List.append_nil]
    rfl
  | d :: l, i => by
    show (if d.length = 2 then [i] else []) ++ wi (i + 1) (l ++ [c]) = ((if d.length = 2 then [i] else []) ++ wi (i + 1) l) ++ _
    rw [wi_snoc c l (i + 1), List.append_assoc, List.length_cons, show i + 1 + l.length = i + (l.length + 1) from by omega]
theorem wi_wrong : ∀ (l : List (List Lit)) (i d : Nat), (∀ c ∈ l, stands c = true) → d ≤ 1 → wrongAt i d l = ((wi i l)[1 - d]?).map fun k : Nat => (k : Int)
  | [], i, d, _, _ => rfl
  | c :: r, i, d, h, hd => by
    have hc := h c List.mem_cons_self
    have hr := fun d => wi_wrong r (i + 1) d (fun x hx => h x (List.mem_cons_of_mem _ hx))
    unfold wrongAt wi
    rw [if_pos hc]
    by_cases h2 : c.length = 2
    · rw [if_pos h2, if_pos h2]
      by_cases hd1 : d + 1 = 2
      · rw [if_pos hd1]
        have e : d = 1 := by omega
        subst e
        rfl
      · rw [if_neg hd1, hr (d + 1) (by omega)]
        have e : d = 0 := by omega
        subst e
        rfl
    · rw [if_neg h2, if_neg h2, if_neg (by omega), hr d hd]
      rfl
theorem wi_len : ∀ (l : List (List Lit)) (i : Nat), (wi i l).length ≤ l.length
  | [], _ => Nat.le_refl _
  | c :: r, i => by
    have h := wi_len r (i + 1)
    unfold wi
    rw [List.length_append, List.length_cons]
    by_cases h2 : c.length = 2
    · rw [if_pos h2]
      show 1 + _ ≤ _
      omega
    · rw [if_neg h2]
      show 0 + _ ≤ _
      omega
theorem SqL.same {K : PySem.W.Frag} {H H' : Hp} {a : Addr} {xs : List V} (s : Same H H') (h : SqL K H a xs) : SqL K H' a xs := by
  rcases h with (h | ⟨o, h⟩) | h
  · exact .inl (.inl (s _ _ h))
  · exact .inl (.inr ⟨o, s _ _ h⟩)
  · exact .inr h
def spDue (K : PySem.W.Frag) : Sp := fun vs H Q _ => ∃ (l : Addr) (ms : List V) (cs : List (List Lit)), vs = [.ref l] ∧ SqL K H l ms ∧ Paired (IsC K H) ms cs ∧ okC cs ∧ cs.length ≤ 1000 ∧ (∀ c ∈ cs, stands c = true) ∧ ∀ v H', Same H H' → Dp K H' v (dueD cs) → Q v H'
abbrev nD : List PySem.Str := ["_law_some_here", "_law_found", "_law_wide", "_law_clause_here", "_law_k"]
section
variable {P : Program} {w : World} {K : PySem.W.Frag} {mg : PySem.Str → Option Value} {base : Heap}
theorem scDue : FnScope nD ["_law_some_here"] (defScope sDue) := ⟨rfl, rfl, rfl, by decide +kernel, rfl, by decide +kernel, by decide +kernel⟩
theorem ok_due {f : Addr} {fd : FuncData} (F : Fun K "_law_due" "_law_due" sDue f fd) (T : Bx mg) (rng : mg "range" = none) : FnOk P w K mg base CX0 1 f fd ["_law_some_here"] (spDue K) := by
  refine F.ok scDue (fun vs H Q E h => ?_) (fun cdv A outer s H vs Q E hr h => ?_)
  · obtain ⟨l, ms, cs, rfl, _⟩ := h
    rfl
  · obtain ⟨l, ms, cs, rfl, hl, hp, hok, hlen, hst, k⟩ := h
    have hu : (cxOf CX0 P w K mg base nD "_law_due" (defScope sDue) f cdv A outer s H E).nox.A.units + 65 < cLine := by
      have := hr.un
      show (A.deeper (envOfC "_law_due" (defScope sDue) s.heap.objs.size f cdv)).units + 65 < cLine
      omega
    refine ⟨_, pss_cons (ps_asg (pe_tup (pa_cons (pe_lst pa_nil) (pa_cons (pe_lst pa_nil) pa_nil))) (pg_tup rfl (pgs_cons (pg_name (i := 1) scDue.nd rfl (Or.inr rfl)) (pgs_cons (pg_name (i := 2) scDue.nd rfl (Or.inl rfl)) pgs_nil))))
      (pss_cons (ps_for PassesOwn.never rfl (pi_list (pv 0)) (pg_name (i := 3) scDue.nd rfl (Or.inl rfl))
        (pss_one (ps_if (pt_cmpR (op_notInD hu) (pv 3) (pv 1) (by with_unfolding_all rfl)) (pss_one (ps_expr (pe_bm PySem.F.plainAttrs_list PySem.F.slot_list_append PySem.F.type_list_append mt_append (pv 1) (pa_cons (pv 3) pa_nil)))) pss_nil)))
      (pss_cons (ps_if (pt_cmpR op_gt (pe_callB call_len_seq (by rfl) T.len PySem.boot_len (pa_cons (pv 1) pa_nil)) pe_int (nomark _)) (pss_one (ps_ret (pe_tup (pa_cons pe_str (pa_cons (pe_un un_neg pe_int) pa_nil))))) pss_nil)
      (pss_cons (ps_setLc (i := 2) (own := [("_law_k", 4)]) (g := gName 4) (tt := tTest (tOp rEq (tCB (fun xs H Q => ∃ p ys, xs = [.ref p] ∧ (SqL K H p ys ∨ SqT K H p ys) ∧ Q (.int ys.length) H) (tCons (tOp (rIxL K) (tVar 1) (tVar 4)) tNil)) (tC (.int 2)))) (te := tVar 4) rfl scDue.nd rfl rfl (sw_true rfl rfl rfl rfl)
          (pi_range1 rfl rng (pa_cons (pe_callB call_len_seq (by rfl) T.len PySem.boot_len (pa_cons (pv 1) pa_nil)) pa_nil)) (blkOk_by (N := nD) (sc := defScope sDue) (by decide +kernel))
          (fun _ _ _ _ _ => pg_name (i := 4) scDue.nd rfl (Or.inl rfl)) (fun _ _ _ _ _ => pts_one (pt_cmpR op_eq (pe_callB call_len_seq (by rfl) T.len PySem.boot_len (pa_cons (pe_ix ix_list (pv 1) (pv 4) (fun _ _ => rfl)) pa_nil)) pe_int (nomark _))) (fun _ _ _ _ _ => pv 4))
      (pss_cons (ps_if (pt_cmpR op_gt (pe_callB call_len_seq (by rfl) T.len PySem.boot_len (pa_cons (pv 2) pa_nil)) pe_int (nomark _)) (pss_one (ps_ret (pe_tup (pa_cons pe_str (pa_cons (pe_ix ix_list (pv 2) pe_int (fun _ _ => rfl)) pa_nil))))) pss_nil)
      (pss_one (ps_ret (pe_tup (pa_cons pe_str (pa_cons (pe_tupleOf (by rfl) T.tuple (pv 1)) pa_nil)))))))))
      , ?_⟩
    refine ⟨by show 0 ≤ sizeLine; decide, fun f hf => ⟨by show 0 ≤ sizeLine; decide, fun g hg => ⟨by show 2 ≤ sizeLine; decide, fun t0 ht0 => ?_⟩⟩⟩
    have nfg : f ≠ g := fun z => by rw [← z, upd_same] at hg; cases hg
    have s1 : Same H (upd (upd (upd H f (.lst [])) g (.lst [])) t0 (.tup [.ref f, .ref g])) := fun b u z => new_same ht0 _ _ (new_same hg _ _ (new_same hf _ _ z))
    refine ⟨t0, _, rfl, SqT.of upd_same, rfl, _, _, rfl, _, _, rfl, rfl, ?_⟩
    have gf1 : (upd (upd (upd H f (.lst [])) g (.lst [])) t0 (.tup [.ref f, .ref g])) f = some (.lst []) := new_same ht0 _ _ (by rw [upd_ne nfg]; exact upd_same)
    refine ⟨_, rfl, l, rfl, ⟨_, SqL.same s1 hl⟩, ?_⟩
    refine for_list (xs := ms) (fun i σ H3 => (∃ v2 v3 v4, σ = [some (.ref l), some (.ref f), v2, v3, v4]) ∧ Same H H3 ∧ ∃ fs, H3 f = some (.lst fs) ∧ Paired (IsC K H3) fs (merge [] (cs.take i))) ⟨⟨_, _, _, rfl⟩, s1, [], gf1, .nil⟩ (fun i σ H3 _ h => SqL.same h.2.1 hl) ?_ ?_
    · rintro i x σ H3 hx ⟨⟨v2, v3, v4, rfl⟩, s3, fs, gf, hfs⟩
      obtain ⟨c, hcl, hxc⟩ := paired_get hp hx
      have hcm : c ∈ cs := List.mem_of_getElem? hcl
      have hx3 := IsC.same s3 hxc
      have hlm : fs.length ≤ 1000 := by
        have e1 : fs.length = (merge [] (cs.take i)).length := Paired.length hfs
        have e2 := merge_len (cs.take i) []
        rw [List.length_take] at e2
        have e3 : ([] : List (List Lit)).length = 0 := rfl
        omega
      have okm : okC (merge [] (cs.take i)) := fun d hd => by
        rcases merge_sub _ _ _ hd with z | z
        · cases z
        · exact hok d (List.mem_of_mem_take z)
      have em : merge [] (cs.take (i + 1)) = if c ∈ merge [] (cs.take i) then merge [] (cs.take i) else merge [] (cs.take i) ++ [c] := by
        rw [List.take_add_one, hcl]
        exact merge_snoc c _ _
      refine ⟨_, rfl, _, rfl, clD c, _, dp_cl hx3, .lst (SqL.of gf) (dp_all (fun _ _ z => dp_cl z) hfs), shaped_cl (hok c hcm), shaped_list okm, _, rfl, ?_⟩
      rw [any_cl]
      by_cases hin : c ∈ merge [] (cs.take i)
      case pos =>
        rw [decide_eq_true hin]
        rw [if_pos hin] at em
        exact iteF ⟨⟨_, _, _, rfl⟩, s3, fs, gf, by rw [em]; exact hfs⟩
      case neg =>
        rw [decide_eq_false hin]
        rw [if_neg hin] at em
        refine iteT ⟨_, rfl, .inl ⟨rfl, fs, SqL.of gf⟩, _, rfl, f, fs, x, rfl, rfl, gf, small1000 hlm, ?_⟩
        refine ⟨⟨_, _, _, rfl⟩, same_upd hf s3, _, upd_same, ?_⟩
        rw [em]
        exact paired_app (L2.Paired.mapP hfs fun _ _ z => IsC.lst gf z) (.cons (IsC.lst gf hx3) .nil)
    · rintro σ H3 ⟨⟨v2, v3, v4, rfl⟩, s3, fs, gf, hfs⟩
      rw [show ms.length = cs.length from Paired.length hp, List.take_of_length_le (Nat.le_refl _)] at hfs
      obtain ⟨M, hM⟩ : ∃ M, merge [] cs = M := ⟨_, rfl⟩
      have stM : ∀ c ∈ M, stands c = true := fun c hc => by
        rw [← hM] at hc
        rcases merge_sub _ _ _ hc with z | z
        · cases z
        · exact hst c z
      have lM : M.length ≤ 1000 := by
        rw [← hM]
        exact Nat.le_trans (merge_len _ _) (by show 0 + cs.length ≤ 1000; omega)
      unfold dueD at k
      rw [hM] at hfs k
      have hfl : fs.length = M.length := Paired.length hfs
      refine ⟨_, rfl, f, fs, rfl, .inl (SqL.of gf), _, _, rfl, rfl, _, rfl, ?_⟩
      rw [hfl]
      by_cases h4 : (4 : Int) < (M.length : Int)
      case pos =>
        rw [decide_eq_true h4]
        have e : firstWrong M = some (-1) := by
          unfold firstWrong
          rw [if_pos (by omega)]
        rw [e] at k
        refine iteT ⟨_, rfl, by show 2 ≤ sizeLine; decide, fun t ht => k _ _ (fun b u z => new_same ht _ _ (s3 _ _ z)) ?_⟩
        exact .tup (SqT.of upd_same) (.cons (.str _) (.cons (.int _) .nil))
      case neg =>
      rw [decide_eq_false h4]
      have e : firstWrong M = ((wi 0 M)[1]?).map fun k : Nat => (k : Int) := by
        unfold firstWrong
        rw [if_neg (by omega)]
        exact wi_wrong M 0 0 stM (by decide)
      rw [e] at k
      refine iteF ?_
      refine ⟨_, rfl, f, fs, rfl, .inl (SqL.of gf), ?_⟩
      refine ⟨(fs.length : Int), rfl, by omega, by omega, fun D hD => ?_⟩
      have nfD : f ≠ D := fun z => by rw [← z, gf] at hD; cases hD
      refine lc_range (lo := 0) (n := fs.length) (fun i H4 => Same H3 H4 ∧ H4 D = some (.lst ((wi 0 (M.take i)).map fun k : Nat => V.int (k : Int)))) ⟨new_same hD, upd_same⟩ ?_ ?_
      · rintro i H4 hi ⟨s4, gD⟩
        have hx : fs[i]? = some fs[i] := List.getElem?_eq_getElem hi
        obtain ⟨c, hcl, y, ys, hy, hyc⟩ := paired_get hfs hx
        have hyc4 := Cl.same s4 hyc
        have ew : wi 0 (M.take (i + 1)) = wi 0 (M.take i) ++ (if c.length = 2 then [i] else []) := by
          rw [List.take_add_one, hcl]
          have e := wi_snoc c (M.take i) 0
          rw [List.length_take, show min i M.length = i from by omega, Nat.zero_add] at e
          exact e
        refine ⟨rfl, _, rfl, _, rfl, f, fs, (0 + (i : Int)), .ref y, rfl, rfl, SqL.of (s4 _ _ gf), at_of (j := i) (by omega) (by rw [← hy]; exact hx), y, ys, rfl, .inr hyc4.sq, rfl, _, rfl, ?_⟩
        rw [hyc4.len]
        by_cases h2 : c.length = 2
        · have e2 : decide (V.int (c.length : Int) = V.int 2) = true := by rw [h2]; exact decide_eq_true rfl
          rw [e2]
          rw [if_pos h2] at ew
          refine iteT ⟨_, rfl, _, gD, small1000 (by rw [List.length_map]; have := wi_len (M.take i) 0; rw [List.length_take] at this; omega), same_upd hD s4, ?_⟩
          rw [upd_same, ew, List.map_append]
          rw [show (0 : Int) + (i : Int) = (i : Int) from by omega]
          rfl
        · have e2 : decide (V.int (c.length : Int) = V.int 2) = false := decide_eq_false fun z => h2 (by have := V.int.inj z; omega)
          rw [e2]
          rw [if_neg h2, List.append_nil] at ew
          exact iteF ⟨s4, by rw [ew]; exact gD⟩
      · rintro H4 ⟨s4, gD⟩
        rw [hfl, List.take_of_length_le (Nat.le_refl _)] at gD
        have s34 : Same H H4 := fun b u z => s4 _ _ (s3 _ _ z)
        have lw := wi_len M 0
        refine ⟨_, rfl, D, _, rfl, .inl (SqL.of gD), _, _, rfl, rfl, _, rfl, ?_⟩
        rw [List.length_map]
        by_cases h1 : (1 : Int) < ((wi 0 M).length : Int)
        case pos =>
          rw [decide_eq_true h1]
          obtain ⟨k1, hk1⟩ : ∃ k1, (wi 0 M)[1]? = some k1 := ⟨_, List.getElem?_eq_getElem (by omega)⟩
          rw [hk1] at k
          refine iteT ⟨_, rfl, D, _, 1, .int (k1 : Int), rfl, rfl, SqL.of gD, at_of (j := 1) rfl (by rw [List.getElem?_map, hk1]; rfl), by show 2 ≤ sizeLine; decide, fun t ht => k _ _ (fun b u z => new_same ht _ _ (s34 _ _ z)) ?_⟩
          exact .tup (SqT.of upd_same) (.cons (.str _) (.cons (.int _) .nil))
        case neg =>
          rw [decide_eq_false h1]
          have hn : (wi 0 M)[1]? = none := List.getElem?_eq_none (by omega)
          rw [hn] at k
          refine iteF ⟨_, rfl, .inl ⟨f, fs, rfl, SqL.of (s4 _ _ gf), fun q hq => ⟨by show 2 ≤ sizeLine; decide, fun t ht => k _ _ (fun b u z => new_same ht _ _ (new_same hq _ _ (s34 _ _ z))) ?_⟩⟩⟩
          have s5 : Same H3 (upd (upd H4 q (.tup fs)) t (.tup [.str "told", .ref q])) := fun b u z => new_same ht _ _ (new_same hq _ _ (s4 _ _ z))
          exact .tup (SqT.of upd_same) (.cons (.str _) (.cons (.tup (SqT.of (new_same ht _ _ upd_same)) (dp_all (fun _ _ z => dp_cl (IsC.same s5 z)) hfs)) .nil))
end
end Kx
namespace Kx
open PySem L2 PySem.Spec PyProof.Rows
open StX (pe_makeR tMakeR)
abbrev sCond : Stmt := top 30
abbrev NoF : XK → Hp → Int → Prop := fun _ _ _ => False
theorem init_ok {K : PySem.W.Frag} {H H1 : Hp} {C : Addr} {vs : List V} {cs : List (List Lit)} {Q : VK} {E : XK} (s1 : Same H H1) (hp : Paired (IsC K H1) vs cs) (hsh : shortC cs) (hl : cs.length ≤ 1000) (hw : firstWrong cs = none)
    (k : ∀ r dz p q ys H', CondF K H' r C dz p q cs ys → Same H H' → H r = none → Q (.ref r) H') : ∀ x dx, H1 x = none → H1 dx = none → dx ≠ x →
      spInit K C NoF (V.ref x :: vs) (upd (upd H1 dx (.own x)) x (.ins C dx [])) (fun v H2 => v = .non ∧ Q (.ref x) H2) E := by
  intro r dz hr0 hdz hne
  have hml : vs.length = cs.length := Paired.length hp
  refine ⟨[.ref r], vs, rfl, rfl, Nat.le_of_lt (small1000 (by omega)), fun p2 hp2 => ?_⟩
  have s5 : Same H1 (upd (upd H1 dz (.own r)) r (.ins C dz [])) := same_upd hr0 (new_same hdz)
  have s6 : Same H1 (upd (upd (upd H1 dz (.own r)) r (.ins C dz [])) p2 (.tup vs)) := fun b u z => new_same hp2 _ _ (s5 _ _ z)
  have hrp : r ≠ p2 := fun z => by
    rw [← z, upd_same] at hp2
    cases hp2
  refine ⟨r, dz, p2, vs, cs, rfl, (by rw [upd_ne hrp]; exact upd_same), ⟨SqT.of upd_same, pairedC_same s6 hp, hl⟩, hsh, fun _ H' q2 zs hF hk => ⟨rfl, ?_⟩, fun i z => ?_⟩
  · refine k r dz p2 q2 zs H' hF (fun b u z => hk b u (fun e => ?_) (s6 _ _ (s1 _ _ z))) (Same.free s1 hr0)
    rw [e, Same.free s1 hr0] at z
    cases z
  · rw [hw] at z
    cases z
def spCond (K : PySem.W.Frag) (C : Addr) : Sp := fun vs H Q _ => ∃ (l : Addr) (ms : List V) (cs : List (List Lit)), vs = [.ref l] ∧ SqL K H l ms ∧ Paired (IsC K H) ms cs ∧ shortC cs ∧ okC cs ∧ cs.length ≤ 4 ∧ firstWrong cs = none ∧
  ∀ r dz p q ys H', CondF K H' r C dz p q cs ys → Same H H' → H r = none → Q (.ref r) H'
section
variable {P : Program} {w : World} {K : PySem.W.Frag} {mg : PySem.Str → Option Value} {base : Heap} {B CB fB C fI : Addr} {fdB fdI : FuncData}
theorem scCond : FnScope ["_law_some_here"] ["_law_some_here"] (defScope sCond) := ⟨rfl, rfl, rfl, by decide +kernel, rfl, by decide +kernel, by decide +kernel⟩
theorem ok_cond {f : Addr} {fd : FuncData} (F : Fun K "_law_cond" "_law_cond" sCond f fd) (M : CondAll K mg B CB fB C fI fdB fdI) : FnOk P w K mg base CX0 8 f fd ["_law_some_here"] (spCond K C) := by
  have D := M.D
  have T := D.M.T
  have GI : FnR P w K mg base CX0 6 fI (spInit K C NoF) := fnR_init0 M.I D
  refine F.ok scCond (fun vs H Q E h => ?_) (fun cdv A outer s H vs Q E hr h => ?_)
  · obtain ⟨l, ms, cs, rfl, _⟩ := h
    rfl
  · obtain ⟨l, ms, cs, rfl, hl, hp, hsh, hok, h4, hw, k⟩ := h
    have hu : (cxOf CX0 P w K mg base ["_law_some_here"] "_law_cond" (defScope sCond) f cdv A outer s H E).nox.A.units + 64 < cLine := hr.units
    have hml : ms.length = cs.length := Paired.length hp
    refine ⟨_, pss_cons (ps_if (pt_cmpR op_lt (pe_callB call_len_seq (by rfl) T.len PySem.boot_len (pa_cons (pv 0) pa_nil)) pe_int (nomark _))
        (pss_one (ps_ret (pe_ifExp (pt_cmpR (op_eqD hu) (pv 0) (pe_lst pa_nil) (nomark _)) (pe_makeZ (k := 6) (E := E0) M.mkI GI hr (by rfl) D.gC pass0) (pe_makeR (k := 6) (E := E0) M.mkI GI hr (by rfl) D.gC pass0 (pa_cons (pe_ix ix_list (pv 0) pe_int (fun _ _ => rfl)) pa_nil))))) pss_nil)
      (pss_cons (ps_if (pt_cmpR op_eq (pe_callB call_len_seq (by rfl) T.len PySem.boot_len (pa_cons (pv 0) pa_nil)) pe_int (nomark _))
        (pss_one (ps_ret (pe_makeR (k := 6) (E := E0) M.mkI GI hr (by rfl) D.gC pass0 (pa_cons (pe_ix ix_list (pv 0) pe_int (fun _ _ => rfl)) (pa_cons (pe_ix ix_list (pv 0) pe_int (fun _ _ => rfl)) pa_nil))))) pss_nil)
      (pss_cons (ps_if (pt_cmpR op_eq (pe_callB call_len_seq (by rfl) T.len PySem.boot_len (pa_cons (pv 0) pa_nil)) pe_int (nomark _))
        (pss_one (ps_ret (pe_makeR (k := 6) (E := E0) M.mkI GI hr (by rfl) D.gC pass0 (pa_cons (pe_ix ix_list (pv 0) pe_int (fun _ _ => rfl)) (pa_cons (pe_ix ix_list (pv 0) pe_int (fun _ _ => rfl)) (pa_cons (pe_ix ix_list (pv 0) pe_int (fun _ _ => rfl)) pa_nil)))))) pss_nil)
      (pss_one (ps_ret (pe_makeR (k := 6) (E := E0) M.mkI GI hr (by rfl) D.gC pass0 (pa_cons (pe_ix ix_list (pv 0) pe_int (fun _ _ => rfl)) (pa_cons (pe_ix ix_list (pv 0) pe_int (fun _ _ => rfl)) (pa_cons (pe_ix ix_list (pv 0) pe_int (fun _ _ => rfl)) (pa_cons (pe_ix ix_list (pv 0) pe_int (fun _ _ => rfl)) pa_nil))))))))), ?_⟩
    have mk := fun {H1 : Hp} (s1 : Same H H1) => init_ok (C := C) (Q := Q) (E := E0) s1 (pairedC_same s1 hp) hsh (by omega) hw k
    have s0 : Same H H := fun _ _ z => z
    refine ⟨_, rfl, l, ms, rfl, .inl hl, _, _, rfl, rfl, _, rfl, ?_⟩
    by_cases c0 : ms.length = 0
    · have em : ms = [] := List.eq_nil_of_length_eq_zero c0
      subst em
      have ec : cs = [] := List.eq_nil_of_length_eq_zero (by rw [← hml]; rfl)
      subst ec
      refine iteT ⟨_, rfl, by show 0 ≤ sizeLine; decide, fun z hz => ⟨_, _, .lst (SqL.same (new_same hz) hl) .nil, .lst (SqL.of upd_same) .nil, rfl, rfl, _, rfl, iteT ?_⟩⟩
      exact mk (new_same hz)
    by_cases c1 : ms.length = 1
    · obtain ⟨x0, rfl⟩ := List.length_eq_one_iff.mp c1
      obtain ⟨c, rfl⟩ := List.length_eq_one_iff.mp (show cs.length = 1 by rw [← hml]; rfl)
      have hd : DpAll K H [x0] ([c].map clD) := dp_all (fun _ _ z => dp_cl z) hp
      refine iteT ⟨_, rfl, by show 0 ≤ sizeLine; decide, fun z hz => ⟨_, _, .lst (SqL.same (new_same hz) hl) (dp_all (fun _ _ z => dp_cl z) (pairedC_same (new_same hz) hp)), .lst (SqL.of upd_same) .nil, shaped_list hok, rfl, _, rfl, iteF ?_⟩⟩
      refine ⟨_, rfl, l, _, 0, x0, rfl, rfl, SqL.same (new_same hz) hl, rfl, ?_⟩
      exact mk (new_same hz)
    by_cases c2 : ms.length = 2
    · obtain ⟨x0, x1, rfl⟩ : ∃ x0 x1, ms = [x0, x1] := match ms, c2 with | [x0, x1], _ => ⟨x0, x1, rfl⟩
      refine iteF ⟨_, rfl, l, _, rfl, .inl hl, rfl, _, rfl, iteT ?_⟩
      exact ⟨_, rfl, l, _, 0, x0, rfl, rfl, hl, rfl, _, rfl, l, _, 1, x1, rfl, rfl, hl, rfl, mk s0⟩
    by_cases c3 : ms.length = 3
    · obtain ⟨x0, x1, x2, rfl⟩ : ∃ x0 x1 x2, ms = [x0, x1, x2] := match ms, c3 with | [x0, x1, x2], _ => ⟨x0, x1, x2, rfl⟩
      refine iteF ⟨_, rfl, l, _, rfl, .inl hl, rfl, _, rfl, iteF ⟨_, rfl, l, _, rfl, .inl hl, rfl, _, rfl, iteT ?_⟩⟩
      exact ⟨_, rfl, l, _, 0, x0, rfl, rfl, hl, rfl, _, rfl, l, _, 1, x1, rfl, rfl, hl, rfl, _, rfl, l, _, 2, x2, rfl, rfl, hl, rfl, mk s0⟩
    · obtain ⟨x0, x1, x2, x3, rfl⟩ : ∃ x0 x1 x2 x3, ms = [x0, x1, x2, x3] := match ms, (show ms.length = 4 by omega) with | [x0, x1, x2, x3], _ => ⟨x0, x1, x2, x3, rfl⟩
      refine iteF ⟨_, rfl, l, _, rfl, .inl hl, rfl, _, rfl, iteF ⟨_, rfl, l, _, rfl, .inl hl, rfl, _, rfl, iteF ?_⟩⟩
      exact ⟨_, rfl, l, _, 0, x0, rfl, rfl, hl, rfl, _, rfl, l, _, 1, x1, rfl, rfl, hl, rfl, _, rfl, l, _, 2, x2, rfl, rfl, hl, rfl, _, rfl, l, _, 3, x3, rfl, rfl, hl, rfl, mk s0⟩
end
end Kx
namespace Kx
open PySem L2 PySem.Spec PyProof.Rows
abbrev sClause : Stmt := top 28
def six : List Lit := [("x", "y", 0), ("x", "y", 1), ("y", "x", 0), ("", "x", 0), ("x", "", 5), ("self.f", "x", -1)]
/-- all stands but what is at p -/
def KeepB (p : Addr) (H H' : Hp) : Prop := ∀ b u, b ≠ p → H b = some u → H' b = some u
theorem KeepB.trans {p : Addr} {H1 H2 H3 : Hp} (a : KeepB p H1 H2) (b : KeepB p H2 H3) : KeepB p H1 H3 := fun x u n z => b x u n (a x u n z)
theorem KeepB.of {p : Addr} {H1 H2 : Hp} (a : Same H1 H2) : KeepB p H1 H2 := fun x u _ z => a x u z
theorem KeepB.at {p : Addr} {H : Hp} {o : HO} : KeepB p H (upd H p o) := fun x u n z => by rw [upd_ne n]; exact z
theorem WellAt.mono {H : Hp} {p : Addr} {n m : Int} (h : WellAt H p n) (l : n ≤ m) : WellAt H p m := let ⟨a, b, c, e, h0, h1, h2, h3⟩ := h; ⟨a, b, c, e, h0, h1, h2, by omega⟩
theorem WellAt.same {H H' : Hp} {p : Addr} {n : Int} (h : WellAt H p n) (s : Same H H') : WellAt H' p n := let ⟨a, b, c, e, r⟩ := h; ⟨a, b, c, s _ _ e, r⟩
theorem WellAt.lst {H : Hp} {p : Addr} {n : Int} (h : WellAt H p n) : ∃ ms, H p = some (.lst ms) := let ⟨_, _, _, e, _⟩ := h; ⟨_, e⟩
theorem SqT.keep {K : PySem.W.Frag} {H H' : Hp} {p b : Addr} {ms xs : List V} (hp : H p = some (.lst ms)) (k : KeepB p H H') (h : SqT K H b xs) : SqT K H' b xs := by
  rcases h with (h | ⟨o, h⟩) | h
  · exact .inl (.inl (k _ _ (fun e => by rw [e, hp] at h; cases h) h))
  · exact .inl (.inr ⟨o, k _ _ (fun e => by rw [e, hp] at h; cases h) h⟩)
  · exact .inr h
theorem IsLit.keep {K : PySem.W.Frag} {H H' : Hp} {p : Addr} {ms : List V} {x : V} {l : Lit} (hp : H p = some (.lst ms)) (k : KeepB p H H') (h : IsLit K H x l) : IsLit K H' x l := let ⟨a, e, q⟩ := h; ⟨a, e, SqT.keep hp k q⟩
theorem Cl.keep {K : PySem.W.Frag} {H H' : Hp} {p b : Addr} {ms xs : List V} {c : List Lit} (hp : H p = some (.lst ms)) (k : KeepB p H H') (h : Cl K H b xs c) : Cl K H' b xs c :=
  ⟨SqT.keep hp k h.sq, L2.Paired.mapP h.p fun _ _ z => IsLit.keep hp k z, h.l1, h.l2⟩
theorem IsC.keep {K : PySem.W.Frag} {H H' : Hp} {p : Addr} {ms : List V} {x : V} {c : List Lit} (hp : H p = some (.lst ms)) (k : KeepB p H H') (h : IsC K H x c) : IsC K H' x c := let ⟨a, ys, e, q⟩ := h; ⟨a, ys, e, Cl.keep hp k q⟩
def spClause (K : PySem.W.Frag) : Sp := fun vs H Q _ => ∃ (p : Addr) (wide : Bool) (n : Int), vs = [.ref p, .bl wide] ∧ WellAt H p n ∧ n + 2 ≤ 1000000 ∧
  ∀ H' t ys c, KeepB p H H' → WellAt H' p (n + 2) → Cl K H' t ys c → c.length = (if wide = true then 2 else 1) → (∀ l ∈ c, l ∈ six) → Q (.ref t) H'
abbrev nC : List PySem.Str := ["_law_well_here", "_law_is_wide", "_law_some_here", "_law_found"]
structure Drw (K : PySem.W.Frag) (mg : PySem.Str → Option Value) : Prop where
  T : Bl mg
  well : ∃ f fd, Fs K mg "_law_well" sWell ["_law_cell"] f fd
  draw : ∃ f fd, Fs K mg "_law_draw" sDraw ["_law_well_here", "_law_base"] f fd
  one : ∃ f fd, Fs K mg "_law_one" sOne ["_law_well_here", "_law_some_here"] f fd
section
variable {P : Program} {w : World} {K : PySem.W.Frag} {mg : PySem.Str → Option Value} {base : Heap}
theorem scClause : FnScope nC ["_law_well_here", "_law_is_wide"] (defScope sClause) := ⟨rfl, rfl, rfl, by decide +kernel, rfl, by decide +kernel, by decide +kernel⟩
theorem ok_clause {f : Addr} {fd : FuncData} (F : Fun K "_law_clause" "_law_clause" sClause f fd) (D : Drw K mg) : FnOk P w K mg base CX0 3 f fd ["_law_well_here", "_law_is_wide"] (spClause K) := by
  obtain ⟨_, _, dD⟩ := D.draw
  obtain ⟨_, _, dO⟩ := D.one
  have GO : FnOk P w K mg base CX0 2 _ _ ["_law_well_here", "_law_some_here"] (spOne K) := ok_one dO.F D.T dD.F dD.b dD.m
  refine F.ok scClause (fun vs H Q E h => ?_) (fun cdv A outer s H vs Q E hr h => ?_)
  · obtain ⟨p, wd, n, rfl, _⟩ := h
    rfl
  · obtain ⟨p, wd, n, rfl, hW, hn, k⟩ := h
    refine ⟨_, pss_cons (ps_set (i := 2) scClause.nd rfl (Or.inl rfl) (pe_lst (pa_cons (pe_tup (pa_cons pe_str (pa_cons pe_str (pa_cons pe_int pa_nil)))) (pa_cons (pe_tup (pa_cons pe_str (pa_cons pe_str (pa_cons pe_int pa_nil)))) (pa_cons (pe_tup (pa_cons pe_str (pa_cons pe_str (pa_cons pe_int pa_nil))))
        (pa_cons (pe_tup (pa_cons pe_str (pa_cons pe_str (pa_cons pe_int pa_nil)))) (pa_cons (pe_tup (pa_cons pe_str (pa_cons pe_str (pa_cons pe_int pa_nil)))) (pa_cons (pe_tup (pa_cons pe_str (pa_cons pe_str (pa_cons (pe_un un_neg pe_int) pa_nil)))) pa_nil))))))))
      (pss_cons (ps_set (i := 3) scClause.nd rfl (Or.inl rfl) (pe_tup (pa_cons (pe_call GO hr (by rfl) dO.m dO.F.kp dO.b .nil pass0 (pa_cons (pv 0) (pa_cons (pv 2) pa_nil))) pa_nil)))
      (pss_one (ps_ret (pe_ifExp (pt_val (pv 1)) (pe_op op_catA (pv 3) (pe_tup (pa_cons (pe_call GO hr (by rfl) dO.m dO.F.kp dO.b .nil pass0 (pa_cons (pv 0) (pa_cons (pv 2) pa_nil))) pa_nil))) (pv 3))))), ?_⟩
    refine ⟨by show 3 ≤ sizeLine; decide, fun a1 m1 => ⟨by show 3 ≤ sizeLine; decide, fun a2 m2 => ⟨by show 3 ≤ sizeLine; decide, fun a3 m3 => ⟨by show 3 ≤ sizeLine; decide, fun a4 m4 => ⟨by show 3 ≤ sizeLine; decide, fun a5 m5 => ⟨_, rfl, by show 3 ≤ sizeLine; decide, fun a6 m6 => ⟨by show 6 ≤ sizeLine; decide, fun q mq => ?_⟩⟩⟩⟩⟩⟩⟩
    obtain ⟨Hq, hHq⟩ : ∃ Hq, upd (upd (upd (upd (upd (upd (upd H a1 (.tup [.str "x", .str "y", .int 0])) a2 (.tup [.str "x", .str "y", .int 1])) a3 (.tup [.str "y", .str "x", .int 0])) a4 (.tup [.str "", .str "x", .int 0])) a5 (.tup [.str "x", .str "", .int 5])) a6 (.tup [.str "self.f", .str "x", .int (-1)])) q (.lst [.ref a1, .ref a2, .ref a3, .ref a4, .ref a5, .ref a6]) = Hq := ⟨_, rfl⟩
    have sq : Same H Hq := fun b u z => by rw [← hHq]; exact new_same mq _ _ (new_same m6 _ _ (new_same m5 _ _ (new_same m4 _ _ (new_same m3 _ _ (new_same m2 _ _ (new_same m1 _ _ z))))))
    have g1 : Hq a1 = some (.tup [.str "x", .str "y", .int 0]) := by rw [← hHq]; exact new_same mq _ _ (new_same m6 _ _ (new_same m5 _ _ (new_same m4 _ _ (new_same m3 _ _ (new_same m2 _ _ upd_same)))))
    have g2 : Hq a2 = some (.tup [.str "x", .str "y", .int 1]) := by rw [← hHq]; exact new_same mq _ _ (new_same m6 _ _ (new_same m5 _ _ (new_same m4 _ _ (new_same m3 _ _ upd_same))))
    have g3 : Hq a3 = some (.tup [.str "y", .str "x", .int 0]) := by rw [← hHq]; exact new_same mq _ _ (new_same m6 _ _ (new_same m5 _ _ (new_same m4 _ _ upd_same)))
    have g4 : Hq a4 = some (.tup [.str "", .str "x", .int 0]) := by rw [← hHq]; exact new_same mq _ _ (new_same m6 _ _ (new_same m5 _ _ upd_same))
    have g5 : Hq a5 = some (.tup [.str "x", .str "", .int 5]) := by rw [← hHq]; exact new_same mq _ _ (new_same m6 _ _ upd_same)
    have g6 : Hq a6 = some (.tup [.str "self.f", .str "x", .int (-1)]) := by rw [← hHq]; exact new_same mq _ _ upd_same
    have gq : Hq q = some (.lst [.ref a1, .ref a2, .ref a3, .ref a4, .ref a5, .ref a6]) := by rw [← hHq]; exact upd_same
    have hp6 : Paired (IsLit K Hq) [.ref a1, .ref a2, .ref a3, .ref a4, .ref a5, .ref a6] six :=
      .cons ⟨a1, rfl, SqT.of g1⟩ (.cons ⟨a2, rfl, SqT.of g2⟩ (.cons ⟨a3, rfl, SqT.of g3⟩ (.cons ⟨a4, rfl, SqT.of g4⟩ (.cons ⟨a5, rfl, SqT.of g5⟩ (.cons ⟨a6, rfl, SqT.of g6⟩ .nil)))))
    rw [hHq]
    have hWq := hW.same sq
    obtain ⟨ms, hpl⟩ := hW.lst
    have hpq := sq _ _ hpl
    have key : ∀ G : Hp, G q = none → G p = some (.lst ms) → p ≠ q := fun G h1 h2 z => by
      rw [z, h1] at h2
      cases h2
    have npq : p ≠ q := key _ mq (new_same m6 _ _ (new_same m5 _ _ (new_same m4 _ _ (new_same m3 _ _ (new_same m2 _ _ (new_same m1 _ _ hpl))))))
    refine ⟨_, rfl, _, rfl, p, q, n, _, rfl, hWq, by omega, npq, SqL.of gq, by show 0 < 6; decide, by show 6 < 1000000; decide, fun r v xs hv hW2 => ⟨by show 1 ≤ sizeLine; decide, fun t1 ht1 => ?_⟩⟩
    obtain ⟨lt, hlt, hvl⟩ := paired_get hp6 hv
    have hm : lt ∈ six := List.mem_of_getElem? hlt
    have kq : KeepB p Hq (upd Hq p (.lst xs)) := KeepB.at
    have s1 := new_same (o := .tup [v]) ht1
    have v1 := IsLit.same s1 (IsLit.keep hpq kq hvl)
    have C1 : Cl K (upd (upd Hq p (.lst xs)) t1 (.tup [v])) t1 [v] [lt] := ⟨SqT.of upd_same, .cons v1 .nil, (by show 1 ≤ 1; decide), (by show 1 ≤ 1000; decide)⟩
    have W2 := hW2.same s1
    have kp1 : KeepB p H (upd (upd Hq p (.lst xs)) t1 (.tup [v])) := (KeepB.of sq).trans (kq.trans (KeepB.of s1))
    refine ⟨_, rfl, wd, rfl, ?_⟩
    cases wd with
    | false =>
      refine iteF ⟨_, rfl, k _ t1 [v] [lt] kp1 (W2.mono (by omega)) C1 rfl fun l hl => ?_⟩
      rw [List.mem_singleton.mp hl]
      exact hm
    | true =>
      refine iteT ⟨_, rfl, ?_⟩
      have hpl2 : (upd (upd Hq p (.lst xs)) t1 (.tup [v])) p = some (.lst xs) := s1 _ _ upd_same
      have gq2 : (upd (upd Hq p (.lst xs)) t1 (.tup [v])) q = some (.lst [.ref a1, .ref a2, .ref a3, .ref a4, .ref a5, .ref a6]) := s1 _ _ (by rw [upd_ne (fun z => npq z.symm)]; exact gq)
      refine ⟨_, rfl, _, rfl, p, q, n + 1, _, rfl, W2, by omega, npq, SqL.of gq2, by show 0 < 6; decide, by show 6 < 1000000; decide, fun r2 v2 xs2 hv2 hW3 => ⟨by show 1 ≤ sizeLine; decide, fun t2 ht2 => ?_⟩⟩
      obtain ⟨lt2, hlt2, hvl2⟩ := paired_get hp6 hv2
      have hm2 : lt2 ∈ six := List.mem_of_getElem? hlt2
      have k3 : KeepB p (upd (upd Hq p (.lst xs)) t1 (.tup [v])) (upd (upd (upd Hq p (.lst xs)) t1 (.tup [v])) p (.lst xs2)) := KeepB.at
      have s3 := new_same (o := .tup [v2]) ht2
      have C2 := Cl.same s3 (Cl.keep hpl2 k3 C1)
      have w2 := IsLit.same s3 (IsLit.keep hpl2 k3 (IsLit.same s1 (IsLit.keep hpq kq hvl2)))
      refine catA_of C2.sq (SqT.of upd_same) (by show 2 ≤ sizeLine; decide) fun t H4 s4 ht => ?_
      refine k H4 t _ [lt, lt2] (kp1.trans (k3.trans ((KeepB.of s3).trans (KeepB.of s4)))) (((hW3.same s3).same s4).mono (by omega)) ⟨ht, .cons (IsLit.same s4 (by cases C2.p with | cons a _ => exact a)) (.cons (IsLit.same s4 w2) .nil), by show 1 ≤ 2; decide, by show 2 ≤ 1000; decide⟩ rfl fun l hl => ?_
      rcases List.mem_cons.mp hl with e | hl
      · rw [e]; exact hm
      · rw [List.mem_singleton.mp hl]; exact hm2
end
end Kx
namespace Kx
open PySem L2 PySem.Spec PyProof.Rows
abbrev sSome : Stmt := top 29
theorem six_ok : ∀ l ∈ six, (Short l.1 ∧ Short l.2.1) ∧ (PyData.strOk l.1 = true ∧ PyData.strOk l.2.1 = true) ∧ isTerm l.1 = true ∧ isTerm l.2.1 = true := by
  have hx : Short "x" ∧ PyData.strOk "x" = true ∧ isTerm "x" = true := ⟨⟨by decide +kernel, by decide +kernel, by decide +kernel⟩, by decide +kernel, by decide +kernel⟩
  have hy : Short "y" ∧ PyData.strOk "y" = true ∧ isTerm "y" = true := ⟨⟨by decide +kernel, by decide +kernel, by decide +kernel⟩, by decide +kernel, by decide +kernel⟩
  have hz : Short "" ∧ PyData.strOk "" = true ∧ isTerm "" = true := ⟨⟨by decide +kernel, by decide +kernel, by decide +kernel⟩, by decide +kernel, by decide +kernel⟩
  have hf : Short "self.f" ∧ PyData.strOk "self.f" = true ∧ isTerm "self.f" = true := ⟨⟨by decide +kernel, by decide +kernel, by decide +kernel⟩, by decide +kernel, by decide +kernel⟩
  intro l hl
  unfold six at hl
  rcases List.mem_cons.mp hl with e | hl
  · subst e; exact ⟨⟨hx.1, hy.1⟩, ⟨hx.2.1, hy.2.1⟩, hx.2.2, hy.2.2⟩
  rcases List.mem_cons.mp hl with e | hl
  · subst e; exact ⟨⟨hx.1, hy.1⟩, ⟨hx.2.1, hy.2.1⟩, hx.2.2, hy.2.2⟩
  rcases List.mem_cons.mp hl with e | hl
  · subst e; exact ⟨⟨hy.1, hx.1⟩, ⟨hy.2.1, hx.2.1⟩, hy.2.2, hx.2.2⟩
  rcases List.mem_cons.mp hl with e | hl
  · subst e; exact ⟨⟨hz.1, hx.1⟩, ⟨hz.2.1, hx.2.1⟩, hz.2.2, hx.2.2⟩
  rcases List.mem_cons.mp hl with e | hl
  · subst e; exact ⟨⟨hx.1, hz.1⟩, ⟨hx.2.1, hz.2.1⟩, hx.2.2, hz.2.2⟩
  · have e := List.mem_singleton.mp hl
    subst e; exact ⟨⟨hf.1, hx.1⟩, ⟨hf.2.1, hx.2.1⟩, hf.2.2, hx.2.2⟩
def sixes (cs : List (List Lit)) : Prop := ∀ c ∈ cs, c.length ≤ 2 ∧ ∀ l ∈ c, l ∈ six
theorem sixes_stand {cs : List (List Lit)} (h : sixes cs) : ∀ c ∈ cs, stands c = true := fun c hc => by
  obtain ⟨h1, h2⟩ := h c hc
  unfold stands
  rw [decide_eq_true (by omega), Bool.true_and, List.all_eq_true]
  intro l hl
  obtain ⟨_, _, a, b⟩ := six_ok l (h2 l hl)
  rw [a, b]
  rfl
theorem sixes_short {cs : List (List Lit)} (h : sixes cs) : shortC cs := fun c hc l hl => (six_ok l ((h c hc).2 l hl)).1
theorem sixes_ok {cs : List (List Lit)} (h : sixes cs) : okC cs := fun c hc l hl => (six_ok l ((h c hc).2 l hl)).2.1
theorem wi_none : ∀ (cs : List (List Lit)) (i : Nat), (∀ c ∈ cs, c.length = 1) → wi i cs = []
  | [], _, _ => rfl
  | c :: r, i, h => by
    have hc := h c List.mem_cons_self
    unfold wi
    rw [if_neg (by omega), wi_none r (i + 1) fun d hd => h d (List.mem_cons_of_mem _ hd)]
    rfl
theorem wi_set : ∀ (cs : List (List Lit)) (i j : Nat) (e : List Lit), (∀ c ∈ cs, c.length = 1) → (wi i (cs.set j e)).length ≤ 1
  | [], _, _, _, _ => Nat.zero_le _
  | c :: r, i, 0, e, h => by
    show (wi i (e :: r)).length ≤ 1
    unfold wi
    rw [wi_none r (i + 1) fun d hd => h d (List.mem_cons_of_mem _ hd), List.append_nil]
    by_cases h2 : e.length = 2
    · rw [if_pos h2]; exact Nat.le_refl _
    · rw [if_neg h2]; exact Nat.zero_le _
  | c :: r, i, j + 1, e, h => by
    have hc := h c List.mem_cons_self
    show (wi i (c :: r.set j e)).length ≤ 1
    unfold wi
    rw [if_neg (by omega)]
    exact wi_set r (i + 1) j e fun d hd => h d (List.mem_cons_of_mem _ hd)
theorem first_of {cs : List (List Lit)} (h4 : cs.length ≤ 4) (h : sixes cs) (hw : (wi 0 cs).length ≤ 1) : firstWrong cs = none := by
  unfold firstWrong
  rw [if_neg (by omega), wi_wrong cs 0 0 (sixes_stand h) (by decide), List.getElem?_eq_none (by omega)]
  rfl
theorem paired_set {α β : Type} {R : α → β → Prop} {x : α} {y : β} (h : R x y) : ∀ {xs : List α} {ys : List β} (j : Nat), Paired R xs ys → Paired R (xs.set j x) (ys.set j y)
  | _, _, _, .nil => .nil
  | _, _, 0, .cons _ t => .cons h t
  | _, _, j + 1, .cons a t => .cons a (paired_set h j t)
theorem WellAt.upd {H : Hp} {p D : Addr} {n : Int} {o : HO} (h : WellAt H p n) (ne : D ≠ p) : WellAt (L2.upd H D o) p n := let ⟨a, b, c, e, r⟩ := h; ⟨a, b, c, by rw [upd_ne (Ne.symm ne)]; exact e, r⟩
theorem KeepB.upd {H H' : Hp} {p D : Addr} {o : HO} (h : KeepB p H H') (hD : H D = none) : KeepB p H (L2.upd H' D o) := fun b u nb z => by
  have e : b ≠ D := fun y => by rw [y, hD] at z; cases z
  rw [upd_ne e]
  exact h b u nb z
def spSome (K : PySem.W.Frag) : Sp := fun vs H Q _ => ∃ (p : Addr) (n : Int), vs = [.ref p] ∧ WellAt H p n ∧ n + 30 ≤ 1000000 ∧
  ∀ H' D ms cs, KeepB p H H' → WellAt H' p (n + 30) → H D = none → H' D = some (.lst ms) → Paired (IsC K H') ms cs → cs.length ≤ 4 → sixes cs → firstWrong cs = none → Q (.ref D) H'
abbrev nS : List PySem.Str := ["_law_well_here", "_law_found", "_law_k"]
section
variable {P : Program} {w : World} {K : PySem.W.Frag} {mg : PySem.Str → Option Value} {base : Heap}
theorem scSome : FnScope nS ["_law_well_here"] (defScope sSome) := ⟨rfl, rfl, rfl, by decide +kernel, rfl, by decide +kernel, by decide +kernel⟩
theorem ok_some {f : Addr} {fd : FuncData} (F : Fun K "_law_some" "_law_some" sSome f fd) (D : Drw K mg) (C : ∃ f fd, Fs K mg "_law_clause" sClause ["_law_well_here", "_law_is_wide"] f fd) (T : Bx mg) (rng : mg "range" = none) : FnOk P w K mg base CX0 4 f fd ["_law_well_here"] (spSome K) := by
  obtain ⟨_, _, dD⟩ := D.draw
  obtain ⟨_, _, dC⟩ := C
  have GD : FnOk P w K mg base CX0 1 _ _ ["_law_well_here", "_law_base"] spDraw := ok_draw dD.F D.T
  have GC : FnOk P w K mg base CX0 3 _ _ ["_law_well_here", "_law_is_wide"] (spClause K) := ok_clause dC.F D
  refine F.ok scSome (fun vs H Q E h => ?_) (fun cdv A outer s H vs Q E hr h => ?_)
  · obtain ⟨p, n, rfl, _⟩ := h
    rfl
  · obtain ⟨p, n, rfl, hW, hn, k⟩ := h
    have hr1 : Room 1 (A.deeper (envOfC "_law_some" (defScope sSome) s.heap.objs.size f cdv)) := hr.mono (by decide)
    have hu : (cxOf CX0 P w K mg base nS "_law_some" (defScope sSome) f cdv A outer s H E).nox.A.units + 64 < cLine := hr.units
    refine ⟨_, pss_cons (ps_setLc (i := 1) (own := [("_law_k", 2)]) (g := gName 2) (tt := tYes) (te := tCall (spClause K) [] E0 (tCons (tVar 0) (tCons (tC (.bl false)) tNil))) rfl scSome.nd rfl rfl (sw_true rfl rfl rfl rfl)
        (pi_range1 rfl rng (pa_cons (pe_call GD hr1 (by rfl) dD.m dD.F.kp dD.b .nil pass0 (pa_cons (pv 0) (pa_cons pe_int pa_nil))) pa_nil)) (blkOk_by (N := nS) (sc := defScope sSome) (by decide +kernel))
        (fun _ _ _ _ _ => pg_name (i := 2) scSome.nd rfl (Or.inl rfl)) (fun _ _ _ _ _ => pts_nil) (fun _ _ _ _ _ => pe_call GC hr (by rfl) dC.m dC.F.kp dC.b .nil pass0 (pa_cons (pv 0) (pa_cons pe_bl pa_nil))))
      (pss_cons (ps_if (PW.pt (pw_and (pt_cmpR (op_neD hu) (pv 1) (pe_lst pa_nil) (nomark _)) (pw_and1 (pt_cmpR op_eq (pe_call GD hr1 (by rfl) dD.m dD.F.kp dD.b .nil pass0 (pa_cons (pv 0) (pa_cons pe_int pa_nil))) pe_int (nomark _)))))
        (pss_one (ps_asg (pe_call GC hr (by rfl) dC.m dC.F.kp dC.b .nil pass0 (pa_cons (pv 0) (pa_cons pe_bl pa_nil))) (pg_sub (pv 1) (pe_call GD hr1 (by rfl) dD.m dD.F.kp dD.b .nil pass0 (pa_cons (pv 0) (pa_cons (pe_callB call_len_seq (by rfl) T.len PySem.boot_len (pa_cons (pv 1) pa_nil)) pa_nil))) set_list))) pss_nil)
      (pss_one (ps_ret (pv 1)))), ?_⟩
    obtain ⟨ms0, hpl⟩ := hW.lst
    refine ⟨_, rfl, p, 5, n, rfl, hW, by omega, by decide, by decide, fun r xs r0 r1 hW1 => ⟨r, rfl, by omega, by omega, fun D hD => ?_⟩⟩
    have nDp : D ≠ p := fun z => by rw [z, upd_same] at hD; cases hD
    have hHD : H D = none := by rw [upd_ne nDp] at hD; exact hD
    refine lc_range (lo := 0) (n := r.toNat) (fun i H4 => KeepB p H H4 ∧ WellAt H4 p (n + 1 + 2 * i) ∧ ∃ ms cs, H4 D = some (.lst ms) ∧ Paired (IsC K H4) ms cs ∧ ms.length = i ∧ ∀ c ∈ cs, c.length = 1 ∧ ∀ l ∈ c, l ∈ six)
      ⟨(KeepB.at).trans (KeepB.of (new_same hD)), (hW1.same (new_same hD)).mono (by omega), [], [], upd_same, .nil, rfl, fun c hc => nomatch hc⟩ ?_ ?_
    · rintro i H4 hi ⟨k4, W4, ms, cs, gD, hms, hlm, hcs⟩
      obtain ⟨ms4, hp4⟩ := W4.lst
      refine ⟨rfl, yes_of ⟨_, rfl, p, false, n + 1 + 2 * i, rfl, W4, by omega, fun H5 t ys c k5 W5 C5 lc sx => ?_⟩⟩
      have gD5 := k5 D _ nDp gD
      refine ⟨ms, gD5, small1000 (by omega), (k4.trans k5).upd hHD, (W5.upd nDp).mono (by omega), _, cs ++ [c], upd_same, ?_, by rw [List.length_append, hlm]; rfl, fun d hd => ?_⟩
      · exact paired_app (L2.Paired.mapP hms fun _ _ z => IsC.lst gD5 (IsC.keep hp4 k5 z)) (.cons (IsC.lst gD5 ⟨t, ys, rfl, C5⟩) .nil)
      · rcases List.mem_append.mp hd with z | z
        · exact hcs d z
        · rw [List.mem_singleton.mp z]
          exact ⟨lc, sx⟩
    · rintro H4 ⟨k4, W4, ms, cs, gD, hms, hlm, hcs⟩
      have hcl : ms.length = cs.length := Paired.length hms
      have l4 : cs.length ≤ 4 := by omega
      have s6 : sixes cs := fun c hc => ⟨by have := (hcs c hc).1; omega, (hcs c hc).2⟩
      have fin : ∀ H5 ms' cs', KeepB p H H5 → WellAt H5 p (n + 30) → H5 D = some (.lst ms') → Paired (IsC K H5) ms' cs' → cs'.length ≤ 4 → sixes cs' → (wi 0 cs').length ≤ 1 → Q (.ref D) H5 := fun H5 ms' cs' a b c d e f g => k H5 D ms' cs' a b hHD c d e f (first_of e f g)
      have w0 : wi 0 cs = [] := wi_none cs 0 fun c hc => (hcs c hc).1
      refine ⟨_, rfl, by show 0 ≤ sizeLine; decide, fun z hz => ?_⟩
      have sz := new_same (o := .lst []) hz
      have hms2 := pairedC_same sz hms
      have gD2 := sz _ _ gD
      have W2 := W4.same sz
      have k2 := k4.trans (KeepB.of sz)
      refine ⟨_, _, .lst (SqL.of gD2) (dp_all (fun _ _ y => dp_cl y) hms2), .lst (SqL.of upd_same) .nil, shaped_list (sixes_ok s6), rfl, _, rfl, ?_⟩
      have ev : (PyData.eqv (.list (cs.map clD)) (.list [])) = decide (cs = []) := eqv_cls cs []
      rw [ev]
      by_cases hc0 : cs = []
      case pos =>
        rw [decide_eq_true hc0]
        exact iteF (iteF ⟨_, rfl, fin _ _ _ k2 (W2.mono (by omega)) gD2 hms2 l4 s6 (by rw [w0]; exact Nat.zero_le _)⟩)
      case neg =>
      rw [decide_eq_false hc0]
      have hpos : 0 < cs.length := List.length_pos_iff.mpr hc0
      refine iteT ?_
      refine ⟨_, rfl, p, 2, n + 1 + 2 * r.toNat, rfl, W2, by omega, by decide, by decide, fun r2 xs2 q0 q1 hW3 => ⟨rfl, _, rfl, ?_⟩⟩
      obtain ⟨msx, hpx⟩ := W2.lst
      have k3 : KeepB p (upd H4 z (.lst [])) (upd (upd H4 z (.lst [])) p (.lst xs2)) := KeepB.at
      have gD3 := k3 D _ nDp gD2
      have hms3 := L2.Paired.mapP hms2 fun _ _ y => IsC.keep hpx k3 y
      have k03 := k2.trans k3
      by_cases h0 : r2 = 0
      case neg =>
        have e : decide (V.int r2 = V.int 0) = false := decide_eq_false fun y => h0 (V.int.inj y)
        rw [e]
        exact iteF ⟨_, rfl, fin _ _ _ k03 (hW3.mono (by omega)) gD3 hms3 l4 s6 (by rw [w0]; exact Nat.zero_le _)⟩
      case pos =>
      have e : decide (V.int r2 = V.int 0) = true := by rw [h0]; exact decide_eq_true rfl
      rw [e]
      refine iteT ?_
      refine ⟨_, rfl, p, true, n + 1 + 2 * r.toNat + 1, rfl, hW3, by omega, fun H6 t ys c k6 W6 C6 lc sx => ?_⟩
      obtain ⟨msy, hpy⟩ := hW3.lst
      have gD6 := k6 D _ nDp gD3
      have hms6 := L2.Paired.mapP hms3 fun _ _ y => IsC.keep hpy k6 y
      refine ⟨_, rfl, _, rfl, _, rfl, D, ms, rfl, .inl (SqL.of gD6), p, _, n + 1 + 2 * r.toNat + 1 + 2, rfl, W6, by omega, by omega, by omega, fun r3 xs3 q2 q3 hW7 => ?_⟩
      have k7 : KeepB p H6 (upd H6 p (.lst xs3)) := KeepB.at
      obtain ⟨msz, hpz⟩ := W6.lst
      have gD7 := k7 D _ nDp gD6
      have hms7 := L2.Paired.mapP hms6 fun _ _ y => IsC.keep hpz k7 y
      refine ⟨D, ms, r3, r3.toNat, rfl, rfl, gD7, by unfold ixN; rw [if_pos q2, if_pos q3], ?_⟩
      refine ⟨_, rfl, fin _ _ (cs.set r3.toNat c) ((k03.trans (k6.trans k7)).upd hHD) ((hW7.upd nDp).mono (by omega)) upd_same ?_ (by rw [List.length_set]; exact l4) (fun d hd => ?_) (wi_set cs 0 _ c fun d hd => (hcs d hd).1)⟩
      · exact L2.Paired.mapP (paired_set ⟨t, ys, rfl, Cl.keep hpz k7 C6⟩ r3.toNat hms7) fun _ _ y => IsC.lst gD7 y
      · rcases List.mem_or_eq_of_mem_set hd with y | y
        · exact s6 d y
        · rw [y]
          exact ⟨by rw [lc]; exact Nat.le_refl _, sx⟩
end
end Kx
namespace Kx
open PySem L2 PySem.Spec PyProof.Rows
abbrev sLaw : Stmt := top 33
abbrev nL : List PySem.Str := ["_law_script", "_law_cell", "_law_well_here", "_law_some_here", "_law_others", "_law_one_here", "_law_other"]
mutual
theorem Dp.same {K : PySem.W.Frag} {H H' : Hp} (s : Same H H') : ∀ {v : V} {d : PyData}, Dp K H v d → Dp K H' v d
  | _, _, .non => .non
  | _, _, .bl b => .bl b
  | _, _, .int i => .int i
  | _, _, .str x => .str x
  | _, _, .lst h a => .lst (SqL.same s h) (DpAll.same s a)
  | _, _, .tup h a => .tup (SqT.same s h) (DpAll.same s a)
theorem DpAll.same {K : PySem.W.Frag} {H H' : Hp} (s : Same H H') : ∀ {vs : List V} {ds : List PyData}, DpAll K H vs ds → DpAll K H' vs ds
  | _, _, .nil => .nil
  | _, _, .cons h a => .cons (Dp.same s h) (DpAll.same s a)
end
theorem CondF.same {K : PySem.W.Frag} {H H' : Hp} {a C dx p q : Addr} {cs : List (List Lit)} {ys : List PySem.Str} (s : Same H H') (h : CondF K H a C dx p q cs ys) : CondF K H' a C dx p q cs ys :=
  ⟨s _ _ h.ins, Exists.imp (fun _ z => Cs.same s z) h.cl, SqT.same s h.tm, h.so, h.nd, h.mem⟩
theorem merge_app (a b : List (List Lit)) : ∀ m, merge m (a ++ b) = merge (merge m a) b := by
  induction a with
  | nil => intro m; rfl
  | cons c a ih => intro m; exact ih _
theorem mem_merge : ∀ (l m : List (List Lit)) (c : List Lit), c ∈ m ∨ c ∈ l → c ∈ merge m l
  | [], m, c, h => h.elim id fun z => nomatch z
  | d :: l, m, c, h => by
    show c ∈ merge (if d ∈ m then m else m ++ [d]) l
    refine mem_merge l _ c ?_
    by_cases hd : d ∈ m
    · rw [if_pos hd]
      rcases h with h | h
      · exact .inl h
      · rcases List.mem_cons.mp h with e | h
        · rw [e]; exact .inl hd
        · exact .inr h
    · rw [if_neg hd]
      rcases h with h | h
      · exact .inl (List.mem_append_left _ h)
      · rcases List.mem_cons.mp h with e | h
        · rw [e]; exact .inl (List.mem_append_right _ (List.mem_singleton.mpr rfl))
        · exact .inr h
theorem merge_in : ∀ (l m : List (List Lit)), (∀ c ∈ l, c ∈ m) → merge m l = m
  | [], _, _ => rfl
  | d :: l, m, h => by
    show merge (if d ∈ m then m else m ++ [d]) l = m
    rw [if_pos (h d List.mem_cons_self)]
    exact merge_in l m fun c hc => h c (List.mem_cons_of_mem _ hc)
theorem merge_self (cs : List (List Lit)) : merge [] (cs ++ cs) = merge [] cs := by
  rw [merge_app]
  exact merge_in _ _ fun c hc => mem_merge cs [] c (.inr hc)
theorem due_self (cs : List (List Lit)) : dueD (cs ++ cs) = dueD cs := by
  unfold dueD
  rw [merge_self]
theorem okC_merge {cs : List (List Lit)} (h : okC cs) : okC (merge [] cs) := fun c hc => by
  rcases merge_sub _ _ _ hc with z | z
  · cases z
  · exact h c z
theorem due_ok {cs : List (List Lit)} (h : okC cs) : SeqAt.shaped (dueD cs) = true ∧ PyData.eqv (dueD cs) (dueD cs) = true := by
  have hs : SeqAt.shaped (dueD cs) = true := by
    unfold dueD
    cases firstWrong (merge [] cs) with
    | some i =>
      unfold SeqAt.shaped
      rw [Bool.and_eq_true, decide_eq_true_eq]
      refine ⟨?_, by show max 0 (max 0 0) + 1 ≤ 64; omega⟩
      show (PyData.strOk "bad" && (true && true)) = true
      rw [show PyData.strOk "bad" = true from by decide +kernel]
      rfl
    | none =>
      obtain ⟨h1, h2⟩ := lay_cls (okC_merge h)
      unfold SeqAt.shaped
      rw [Bool.and_eq_true, decide_eq_true_eq]
      refine ⟨?_, ?_⟩
      · show (PyData.strOk "told" && (PyData.canLayAll0 ((merge [] cs).map clD) && true)) = true
        rw [h1, show PyData.strOk "told" = true from by decide +kernel]
        rfl
      · show max 0 (max (PyData.depthAll ((merge [] cs).map clD) + 1) 0) + 1 ≤ 64
        omega
  exact ⟨hs, SeqAt.eqv_refl _ (SeqAt.canLay_of_shaped hs)⟩
theorem cls_ok {cs : List (List Lit)} (h : okC cs) : SeqAt.shaped (.tuple (cs.map clD)) = true ∧ PyData.eqv (.tuple (cs.map clD)) (.tuple (cs.map clD)) = true := by
  have hs := shaped_tup h
  exact ⟨hs, SeqAt.eqv_refl _ (SeqAt.canLay_of_shaped hs)⟩
theorem ne_ok {K : PySem.W.Frag} {ta tb : TE} {σ : L2.St} {H : Hp} {Q : Bool → Hp → Prop} {d : PyData} (hd : SeqAt.shaped d = true ∧ PyData.eqv d d = true) (ha : ∀ R : VK, (∀ v H1, Same H H1 → Dp K H1 v d → R v H1) → ta σ H R)
    (hb : ∀ H1, Same H H1 → ∀ R : VK, (∀ v H2, Same H1 H2 → Dp K H2 v d → R v H2) → tb σ H1 R) (k : ∀ H2, Same H H2 → Q false H2) : tTest (tOp (rNeD K) ta tb) σ H Q := by
  refine ha _ fun v H1 s1 d1 => hb H1 s1 _ fun u H2 s2 d2 => ⟨d, d, Dp.same s2 d1, d2, hd.1, hd.1, _, rfl, ?_⟩
  rw [hd.2]
  exact k H2 fun b u z => s2 _ _ (s1 _ _ z)
section
variable {K : PySem.W.Frag} {C : Addr} {σ : L2.St} {H : Hp} {R : VK}
theorem said_rd {i j : Nat} {ra rb dx dy p q p' q' : Addr} {cs cs' : List (List Lit)} {ys ys' : List PySem.Str} (h1 : σ[i]? = some (some (.ref ra))) (h2 : σ[j]? = some (some (.ref rb))) (Fa : CondF K H ra C dx p q cs ys) (Fb : CondF K H rb C dy p' q' cs' ys') (sx : sixes (cs ++ cs')) (hl : (cs ++ cs').length ≤ 1000)
    (k : ∀ v H1, Same H H1 → Dp K H1 v (dueD (cs ++ cs')) → R v H1) : tCall (spSaid K C) [] E0 (tCons (tVar i) (tCons (tVar j) tNil)) σ H R :=
  ⟨_, h1, _, h2, ra, rb, dx, dy, p, q, p', q', cs, cs', ys, ys', rfl, Fa, Fb, sixes_short sx, sixes_ok sx, hl, k⟩
theorem due_rd1 {i : Nat} {l : Addr} {ms : List V} {cs : List (List Lit)} (h1 : σ[i]? = some (some (.ref l))) (g : H l = some (.lst ms)) (hp : Paired (IsC K H) ms cs) (sx : sixes cs) (hl : cs.length ≤ 1000)
    (k : ∀ v H1, Same H H1 → Dp K H1 v (dueD cs) → R v H1) : tCall (spDue K) [] E0 (tCons (tVar i) tNil) σ H R := ⟨_, h1, l, ms, cs, rfl, SqL.of g, hp, sixes_ok sx, hl, sixes_stand sx, k⟩
theorem due_rd2 {i j : Nat} {l l' : Addr} {ms ms' : List V} {cs cs' : List (List Lit)} (h1 : σ[i]? = some (some (.ref l))) (h2 : σ[j]? = some (some (.ref l'))) (g : H l = some (.lst ms)) (g' : H l' = some (.lst ms')) (hp : Paired (IsC K H) ms cs) (hp' : Paired (IsC K H) ms' cs') (sx : sixes (cs ++ cs')) (hl : (cs ++ cs').length ≤ 1000)
    (k : ∀ v H1, Same H H1 → Dp K H1 v (dueD (cs ++ cs')) → R v H1) : tCall (spDue K) [] E0 (tCons (tOp rCat (tVar i) (tVar j)) tNil) σ H R := by
  have hh := paired_app hp hp'
  have e : (ms ++ ms').length = (cs ++ cs').length := Paired.length hh
  refine ⟨_, h1, _, h2, l, l', ms, ms', rfl, rfl, g, g', Nat.le_of_lt (small1000 (by rw [← List.length_append, e]; exact hl)), fun l3 n3 => ?_⟩
  exact ⟨l3, ms ++ ms', cs ++ cs', rfl, SqL.of upd_same, pairedC_same (new_same n3) hh, sixes_ok sx, hl, sixes_stand sx, fun v H1 s d => k v H1 (fun b u z => s _ _ (new_same n3 _ _ z)) d⟩
theorem fld_rd {i : Nat} {r dx p q : Addr} {cs : List (List Lit)} {ys : List PySem.Str} (hc : Cls K C) (hn : NoAttr K C "clauses") (h1 : σ[i]? = some (some (.ref r))) (F : CondF K H r C dx p q cs ys) (k : ∀ v H1, Same H H1 → Dp K H1 v (.tuple (cs.map clD)) → R v H1) : tFld K (tVar i) "clauses" σ H R := by
  obtain ⟨xs, z⟩ := F.cl
  exact ⟨_, h1, r, C, dx, _, .ref p, rfl, F.ins, hc, hn, rfl, k _ _ (fun _ _ y => y) (.tup z.sq (dp_all (fun _ _ y => dp_cl y) z.p))⟩
theorem tup_rd {i : Nat} {l : Addr} {ms : List V} {cs : List (List Lit)} (h1 : σ[i]? = some (some (.ref l))) (g : H l = some (.lst ms)) (hp : Paired (IsC K H) ms cs) (k : ∀ v H1, Same H H1 → Dp K H1 v (.tuple (cs.map clD)) → R v H1) : tThen (tVar i) (kTup K) σ H R :=
  ⟨_, h1, .inl ⟨l, ms, rfl, SqL.of g, fun q hq => k _ _ (new_same hq) (.tup (SqT.of upd_same) (dp_all (fun _ _ y => dp_cl y) (pairedC_same (new_same hq) hp)))⟩⟩
theorem mk0_rd (k : ∀ r dz p q ys H', CondF K H' r C dz p q [] ys → Same H H' → H r = none → R (.ref r) H') : StX.tMakeR C (spInit K C NoF) E0 tNil σ H R :=
  init_ok (vs := []) (cs := []) (fun _ _ z => z) .nil (fun c hc => nomatch hc) (by decide) rfl k
theorem said0_rd {j : Nat} {ra dx p q : Addr} {cs : List (List Lit)} {ys : List PySem.Str} (h2 : σ[j]? = some (some (.ref ra))) (F2 : ∀ H', Same H H' → CondF K H' ra C dx p q cs ys) (sx : sixes cs) (hl : cs.length ≤ 1000) (k : ∀ v H1, Same H H1 → Dp K H1 v (dueD cs) → R v H1) :
    tCall (spSaid K C) [] E0 (tCons (StX.tMakeR C (spInit K C NoF) E0 tNil) (tCons (tVar j) tNil)) σ H R := by
  show StX.tMakeR C (spInit K C NoF) E0 tNil σ H (fun x H1 => tCons (tVar j) tNil σ H1 fun xs H2 => spSaid K C ((x :: xs) ++ []) H2 R E0)
  exact mk0_rd fun r dz p q ys H' F s n => ⟨_, h2, r, ra, dz, dx, p, q, _, _, [], cs, ys, _, rfl, F, F2 _ s, sixes_short sx, sixes_ok sx, hl, fun v H1 s1 d => k v H1 (s.trans s1) d⟩
end
theorem cut_mem {xs : List V} {lo hi : Option Int} : ∀ v ∈ cutV xs lo hi, v ∈ xs := fun v h => List.mem_of_mem_drop (List.mem_of_mem_take h)

structure LawOf (K : PySem.W.Frag) (mg : PySem.Str → Option Value) (B CB fB C fI fA : Addr) (fdB fdI fdA : FuncData) : Prop where
  N : AndOf K mg B CB fB C fI fA fdB fdI fdA
  D : Drw K mg
  rng : mg "range" = none
  clause : ∃ f fd, Fs K mg "_law_clause" sClause ["_law_well_here", "_law_is_wide"] f fd
  some : ∃ f fd, Fs K mg "_law_some" sSome ["_law_well_here"] f fd
  cond : ∃ f fd, Fs K mg "_law_cond" sCond ["_law_some_here"] f fd
  due : ∃ f fd, Fs K mg "_law_due" sDue ["_law_some_here"] f fd
  said : ∃ f fd, Fs K mg "_law_said" sSaid ["_law_one_here", "_law_other"] f fd
section
variable {P : Program} {w : World} {K : PySem.W.Frag} {mg : PySem.Str → Option Value} {base : Heap} {B CB fB C fI fA : Addr} {fdB fdI fdA : FuncData}
theorem scL : FnScope nL ["_law_script"] (defScope sLaw) := ⟨rfl, rfl, rfl, by decide +kernel, rfl, by decide +kernel, by decide +kernel⟩
theorem law_body {a : Addr} {ns : List Int} (M : LawOf K mg B CB fB C fI fA fdB fdI fdA) (f : Addr) (cdv : Value) (A : Around) (outer : List Env) (s : Shared) (H : Hp) (E : XK) (hr : Room 9 (A.deeper (envOfC "law" (defScope sLaw) s.heap.objs.size f cdv)))
    (hS : SqL K H a (ns.map V.int)) (hn : ns.length ≤ 63) : ∃ t, PSs (cxOf CX0 P w K mg base nL "law" (defScope sLaw) f cdv A outer s H E).nox (defBody sLaw) t ∧ t { nx := fun _ _ => V.non = V.bl true, rt := fun v _ => v = V.bl true } (start nL [.ref a]) H := by
  have T := M.N.A.D.M.T
  have D := M.N.A.D
  obtain ⟨_, _, dW⟩ := M.D.well
  obtain ⟨_, _, dS⟩ := M.some
  obtain ⟨_, _, dC⟩ := M.cond
  obtain ⟨_, _, dU⟩ := M.due
  obtain ⟨_, _, dX⟩ := M.said
  have GW : FnOk P w K mg base CX0 1 _ _ ["_law_cell"] spWell := ok_well dW.F M.D.T
  have GS : FnOk P w K mg base CX0 4 _ _ ["_law_well_here"] (spSome K) := ok_some dS.F M.D M.clause T M.rng
  have GC : FnOk P w K mg base CX0 8 _ _ ["_law_some_here"] (spCond K C) := ok_cond dC.F M.N.A
  have GU : FnOk P w K mg base CX0 1 _ _ ["_law_some_here"] (spDue K) := ok_due dU.F T M.rng
  have GX : FnOk P w K mg base CX0 9 _ _ ["_law_one_here", "_law_other"] (spSaid K C) := ok_said dX.F M.N
  have GI : FnR P w K mg base CX0 6 fI (spInit K C NoF) := fnR_init0 M.N.A.I D
  have hr1 : Room 1 _ := hr.mono (by decide)
  have hr4 : Room 4 _ := hr.mono (by decide)
  have hr7 : Room 7 _ := hr.mono (by decide)
  have hr8 : Room 8 _ := hr.mono (by decide)
  have hu : (cxOf CX0 P w K mg base nL "law" (defScope sLaw) f cdv A outer s H E).nox.A.units + 64 < cLine := hr.units
  refine ⟨_, pss_cons (ps_for PassesOwn.never rfl (pi_list (pe_op op_cat (pe_slice sl_list (pv 0) po_none (po_some pe_int)) (pe_lst (pa_cons pe_int pa_nil)))) (pg_name (i := 1) scL.nd rfl (Or.inl rfl))
      (pss_cons (ps_set (i := 2) scL.nd rfl (Or.inl rfl) (pe_call GW hr1 (by rfl) dW.m dW.F.kp dW.b .nil pass0 (pa_cons (pv 1) pa_nil)))
      (pss_cons (ps_par (i := 3) (j := 4) rfl scL.nd rfl rfl (by decide) rfl rfl (pa_cons (pe_call GS hr4 (by rfl) dS.m dS.F.kp dS.b .nil pass0 (pa_cons (pv 2) pa_nil)) (pa_cons (pe_call GS hr4 (by rfl) dS.m dS.F.kp dS.b .nil pass0 (pa_cons (pv 2) pa_nil)) pa_nil)) (by rfl))
      (pss_cons (ps_par (i := 5) (j := 6) rfl scL.nd rfl rfl (by decide) rfl rfl (pa_cons (pe_call GC hr8 (by rfl) dC.m dC.F.kp dC.b .nil pass0 (pa_cons (pv 3) pa_nil)) (pa_cons (pe_call GC hr8 (by rfl) dC.m dC.F.kp dC.b .nil pass0 (pa_cons (pv 4) pa_nil)) pa_nil)) (by rfl))
      (pss_cons (ps_if (PW.pt (pw_or (pt_cmpR (op_neD hu) (pe_call GX hr (by rfl) dX.m dX.F.kp dX.b .nil pass0 (pa_cons (pv 5) (pa_cons (pv 6) pa_nil))) (pe_call GU hr1 (by rfl) dU.m dU.F.kp dU.b .nil pass0 (pa_cons (pe_op op_cat (pv 3) (pv 4)) pa_nil)) (nomark _))
          (pw_or1 (pt_cmpR (op_neD hu) (pe_call GX hr (by rfl) dX.m dX.F.kp dX.b .nil pass0 (pa_cons (pv 6) (pa_cons (pv 5) pa_nil))) (pe_call GU hr1 (by rfl) dU.m dU.F.kp dU.b .nil pass0 (pa_cons (pe_op op_cat (pv 4) (pv 3)) pa_nil)) (nomark _))))) (pss_one (ps_ret pe_bl)) pss_nil)
      (pss_cons (ps_if (PW.pt (pw_or (pt_cmpR (op_neD hu) (pe_fld (pv 5) (by rfl)) (pe_tupleOf (by rfl) T.tuple (pv 3)) (nomark _)) (pw_or (pt_cmpR (op_neD hu) (pe_fld (pv 6) (by rfl)) (pe_tupleOf (by rfl) T.tuple (pv 4)) (nomark _))
          (pw_or1 (pt_cmpR (op_neD hu) (pe_call GX hr (by rfl) dX.m dX.F.kp dX.b .nil pass0 (pa_cons (pv 5) (pa_cons (pv 5) pa_nil))) (pe_call GU hr1 (by rfl) dU.m dU.F.kp dU.b .nil pass0 (pa_cons (pv 3) pa_nil)) (nomark _)))))) (pss_one (ps_ret pe_bl)) pss_nil)
      (pss_one (ps_if (PW.pt (pw_or (pt_cmpR (op_neD hu) (pe_call GX hr (by rfl) dX.m dX.F.kp dX.b .nil pass0 (pa_cons (pv 5) (pa_cons (pe_makeZ (k := 6) (E := E0) M.N.A.mkI GI hr7 (by rfl) D.gC pass0) pa_nil))) (pe_call GU hr1 (by rfl) dU.m dU.F.kp dU.b .nil pass0 (pa_cons (pv 3) pa_nil)) (nomark _))
          (pw_or1 (pt_cmpR (op_neD hu) (pe_call GX hr (by rfl) dX.m dX.F.kp dX.b .nil pass0 (pa_cons (pe_makeZ (k := 6) (E := E0) M.N.A.mkI GI hr7 (by rfl) D.gC pass0) (pa_cons (pv 5) pa_nil))) (pe_call GU hr1 (by rfl) dU.m dU.F.kp dU.b .nil pass0 (pa_cons (pv 3) pa_nil)) (nomark _))))) (pss_one (ps_ret pe_bl)) pss_nil))))))))
    (pss_one (ps_ret pe_bl)), ?_⟩
  have hc : ∀ v ∈ cutV (ns.map V.int) none (some 10) ++ [V.int 0], ∃ c, v = V.int c := by
    intro v hv
    rcases List.mem_append.mp hv with h | h
    · obtain ⟨c, _, e⟩ := List.mem_map.mp (cut_mem v h)
      exact ⟨c, e.symm⟩
    · exact ⟨0, by simpa using h⟩
  have hcl : (cutV (ns.map V.int) none (some 10)).length ≤ 63 := Nat.le_trans (cutV_length _ _ _) (by rw [List.length_map]; exact hn)
  refine ⟨_, rfl, _, rfl, a, _, rfl, hS, fun l0 n0 => ?_⟩
  refine ⟨by show 1 ≤ sizeLine; decide, fun l1 n1 => ?_⟩
  have e01 : l0 ≠ l1 := ne_of_none (o := .lst (cutV (ns.map V.int) none (some 10))) upd_same n1
  refine ⟨l0, l1, _, _, rfl, rfl, (by rw [upd_ne e01]; exact upd_same), upd_same, (Nat.le_of_lt (small1000 (by show _ + 1 ≤ 1000; omega))), fun l2 n2 => ?_⟩
  refine ⟨l2, rfl, ⟨_, SqL.of upd_same⟩, ?_⟩
  refine for_list (K := K) (a := l2) (xs := cutV (ns.map V.int) none (some 10) ++ [V.int 0])
    (fun i σ H2 => ∃ o1 o2 o3 o4 o5 o6 : Option V, σ = [some (.ref a), o1, o2, o3, o4, o5, o6] ∧ H2 l2 = some (.lst (cutV (ns.map V.int) none (some 10) ++ [V.int 0])))
    ⟨none, none, none, none, none, none, rfl, upd_same⟩ (fun i σ H2 _ ⟨_, _, _, _, _, _, _, h2⟩ => SqL.of h2) ?_ ?_
  · rintro i y σ H2 hi ⟨o1, o2, o3, o4, o5, o6, rfl, h2⟩
    obtain ⟨c, rfl⟩ := hc y (List.mem_of_getElem? hi)
    refine ⟨_, rfl, c, rfl, fun wl H3 nw s3 hW => ?_⟩
    have nl2 : l2 ≠ wl := ne_of_none h2 nw
    obtain ⟨msw, hwl⟩ := hW.lst
    refine ⟨_, rfl, wl, 0, rfl, hW, by decide, fun H4 D1 ms1 cs1 k4 W4 m1 g1 p1 l41 s61 f1 => ⟨_, rfl, wl, 0 + 30, rfl, W4, by decide, fun H5 D2 ms2 cs2 k5 W5 m2 g2 p2 l42 s62 f2 => ⟨_, _, rfl, ?_⟩⟩⟩
    have nD1 : D1 ≠ wl := fun z => by rw [z, hwl] at m1; cases m1
    obtain ⟨msw4, hwl4⟩ := W4.lst
    have g1' := k5 D1 _ nD1 g1
    have p1' := L2.Paired.mapP p1 fun _ _ z => IsC.keep hwl4 k5 z
    have h25 := k5 l2 _ nl2 (k4 l2 _ nl2 (s3 _ _ h2))
    refine ⟨_, rfl, D1, ms1, cs1, rfl, SqL.of g1', p1', sixes_short s61, sixes_ok s61, l41, f1, fun r1 z1 pa qa ya H6 F1 s6 n6 => ⟨_, rfl, D2, ms2, cs2, rfl, SqL.of (s6 _ _ g2), pairedC_same s6 p2, sixes_short s62, sixes_ok s62, l42, f2, fun r2 z2 pb qb yb H7 F2 s7 n7 => ⟨_, _, rfl, ?_⟩⟩⟩
    have s57 : Same H5 H7 := fun b u z => s7 _ _ (s6 _ _ z)
    have l12 : (cs1 ++ cs2).length ≤ 1000 := by rw [List.length_append]; omega
    have l21 : (cs2 ++ cs1).length ≤ 1000 := by rw [List.length_append]; omega
    have l11 : (cs1 ++ cs1).length ≤ 1000 := by rw [List.length_append]; omega
    have x12 : sixes (cs1 ++ cs2) := fun c hc => (List.mem_append.mp hc).elim (s61 c) (s62 c)
    have x21 : sixes (cs2 ++ cs1) := fun c hc => (List.mem_append.mp hc).elim (s62 c) (s61 c)
    have x11 : sixes (cs1 ++ cs1) := fun c hc => (List.mem_append.mp hc).elim (s61 c) (s61 c)
    have A1 : ∀ H8, Same H7 H8 → H8 D1 = some (.lst ms1) := fun H8 s => s _ _ (s57 _ _ g1')
    have A2 : ∀ H8, Same H7 H8 → H8 D2 = some (.lst ms2) := fun H8 s => s _ _ (s57 _ _ g2)
    have B1 : ∀ H8, Same H7 H8 → Paired (IsC K H8) ms1 cs1 := fun H8 s => pairedC_same s (pairedC_same s57 p1')
    have B2 : ∀ H8, Same H7 H8 → Paired (IsC K H8) ms2 cs2 := fun H8 s => pairedC_same s (pairedC_same s57 p2)
    have C1 : ∀ H8, Same H7 H8 → CondF K H8 r1 C z1 pa qa cs1 ya := fun H8 s => CondF.same s (CondF.same s7 F1)
    have C2 : ∀ H8, Same H7 H8 → CondF K H8 r2 C z2 pb qb cs2 yb := fun H8 s => CondF.same s F2
    have t0 : Same H7 H7 := fun _ _ z => z
    refine ne_ok (due_ok (sixes_ok x12)) (fun R k => said_rd rfl rfl (C1 _ t0) (C2 _ t0) x12 l12 k) (fun H8 s8 R k => due_rd2 rfl rfl (A1 _ s8) (A2 _ s8) (B1 _ s8) (B2 _ s8) x12 l12 k) fun Ha ta => iteF ?_
    refine ne_ok (due_ok (sixes_ok x21)) (fun R k => said_rd rfl rfl (C2 _ ta) (C1 _ ta) x21 l21 k) (fun H8 s8 R k => due_rd2 rfl rfl (A2 _ (ta.trans s8)) (A1 _ (ta.trans s8)) (B2 _ (ta.trans s8)) (B1 _ (ta.trans s8)) x21 l21 k) fun Hb tb' => iteF ?_
    have tb := ta.trans tb'
    refine ne_ok (cls_ok (sixes_ok s61)) (fun R k => fld_rd D.cls D.nc rfl (C1 _ tb) k) (fun H8 s8 R k => tup_rd rfl (A1 _ (tb.trans s8)) (B1 _ (tb.trans s8)) k) fun Hc tc' => iteF ?_
    have tc := tb.trans tc'
    refine ne_ok (cls_ok (sixes_ok s62)) (fun R k => fld_rd D.cls D.nc rfl (C2 _ tc) k) (fun H8 s8 R k => tup_rd rfl (A2 _ (tc.trans s8)) (B2 _ (tc.trans s8)) k) fun Hd td' => iteF ?_
    have td := tc.trans td'
    refine ne_ok (due_ok (sixes_ok s61)) (fun R k => said_rd rfl rfl (C1 _ td) (C1 _ td) x11 l11 (fun v H1 s d => k v H1 s (by rw [due_self] at d; exact d))) (fun H8 s8 R k => due_rd1 rfl (A1 _ (td.trans s8)) (B1 _ (td.trans s8)) s61 (by omega) k) fun He te' => iteF ?_
    have te := td.trans te'
    have l10 : (cs1 ++ []).length ≤ 1000 := by rw [List.append_nil]; omega
    have x10 : sixes (cs1 ++ []) := by rw [List.append_nil]; exact s61
    unfold tNext
    dsimp only
    unfold tIfS tOr
    refine ne_ok (due_ok (sixes_ok s61)) ?_ ?_ ?_
    · intro R k
      exact ⟨_, rfl, mk0_rd fun r dz p q ys H' F s n => ⟨r1, r, z1, dz, pa, qa, p, q, cs1, [], ya, ys, rfl, C1 _ (te.trans s), F, sixes_short x10, sixes_ok x10, l10, fun v H1 s1 d => k v H1 (s.trans s1) (by rw [List.append_nil] at d; exact d)⟩⟩
    · intro H8 s8 R k
      exact due_rd1 rfl (A1 _ (te.trans s8)) (B1 _ (te.trans s8)) s61 (by omega) k
    intro Hf tf'
    refine iteF ?_
    have tf := te.trans tf'
    refine ne_ok (due_ok (sixes_ok s61)) ?_ ?_ ?_
    · intro R k
      exact said0_rd rfl (fun H' s => C1 _ (tf.trans s)) s61 (by omega) k
    · intro H8 s8 R k
      exact due_rd1 rfl (A1 _ (tf.trans s8)) (B1 _ (tf.trans s8)) s61 (by omega) k
    intro Hg tg'
    refine iteF ?_
    have tg := tf.trans tg'
    exact ⟨_, _, _, _, _, _, rfl, tg _ _ (s57 _ _ h25)⟩
  · rintro σ H2 _
    rfl
end
end Kx
namespace Kx
open PySem L2 PySem.Spec PyProof.Rows
/-! the law's own call, by a caller around whom nothing is being shown -/
section
variable {P : Program} {w : World} {K : PySem.W.Frag} {mg mb : Str → Option Value} {fa a : Addr} {s : Shared} {vs : List Value} {ns : List Int}
abbrev oScript (vs : List Value) : Obj := { cls := .type "list", data := .seq vs.toArray }
/-- what may be tracked at the entry: the script, and nothing else -/
structure Entry (K : PySem.W.Frag) (H : Hp) (a : Addr) (vs : List Value) (ns : List Int) : Prop where
  only : ∀ b u, H b = some u → b = a ∧ u = .frz (oScript vs) (.lst (ns.map V.int)) ∧ K.lookup a = none
  seq : SqL K H a (ns.map V.int)
theorem entry_run {oc kV doc pm cdv ct : Value} {od an : Option Addr} {osl : Array (Option Value)} {H : Hp} (En : Entry K H a vs ns)
    (KX : K.In s.heap) (hns : s.heap.Ns mainGlobals mg) (hb : s.heap.Ns builtinsNs mb) (hbb : ∀ x : Str, x ≠ "__name__" → mb x = bootBuiltins x) (hlim : s.heap.NoLimit) (hg : s.gens = #[])
    (ha : s.heap.get? a = some (oScript vs)) (hi : IntsAre vs ns) (hl : ns.length ≤ 63)
    (lk : K.lookup fa = some ⟨oc, od, .func (PySem.W.fnOf "law" "law" (defArgs sLaw) (defBody sLaw) (defScope sLaw) .none kV doc pm an cdv ct), osl⟩) (hcd : PySem.W.codeIn K cdv "law" = true)
    (body : ∀ (base : Heap), K.In base → base.Ns mainGlobals mg → ∃ t, PSs (cxOf CX0 P w K mg base nL "law" (defScope sLaw) fa cdv callerA [] s H E0).nox (defBody sLaw) t ∧ t { nx := fun _ _ => V.non = V.bl true, rt := fun v _ => v = V.bl true } (start nL [.ref a]) H) :
    codeAny (model P w) callerA (.call (.ref fa) ⟨[.ref a], []⟩) (fun r s' => r = .ok (.ret (.bool true)) ∧ OldK s.heap s'.heap ∧ s'.os = s.os ∧ AllBare s'.gens) s := by
  have rv := vals_ints hi
  have free : ∀ {b : Addr} {o : Obj}, s.heap.get? b = some o → (b = a → o ≠ oScript vs) → H b = none := fun {b o} e d => by
    cases q : H b with
    | none => rfl
    | some u =>
      obtain ⟨rfl, _, _⟩ := En.only b u q
      rw [ha] at e
      exact absurd (Option.some.inj e).symm (d rfl)
  have freeD : ∀ {b : Addr} {o : Obj} {es : Array DictEntry} {ep : Nat}, s.heap.get? b = some o → o.data = .dict es ep → H b = none := fun {b o es ep} e d =>
    free e fun _ z => by
      rw [z] at d
      cases d
  have nsB : ∀ {b : Addr} {m : Str → Option Value}, s.heap.Ns b m → (hidT s.heap H).Ns b m := fun {b m} ⟨o, es, ep, e, d, r⟩ => ⟨o, es, ep, hidT_get e (freeD e d), d, r⟩
  have KB : K.In (hidT s.heap H) := fun b o e => hidT_get (KX b o e) (by
    cases q : H b with
    | none => rfl
    | some u =>
      obtain ⟨rfl, _, n⟩ := En.only b u q
      rw [n] at e
      cases e)
  have M : Mod K mg (hidT s.heap H) := ⟨KB, nsB hns, ⟨mb, nsB hb, hbb⟩, let ⟨mc, h1, h2⟩ := hlim; ⟨mc, nsB h1, h2⟩⟩
  have ok : HOk P w H s.heap := fun b u q => by
    obtain ⟨rfl, rfl, _⟩ := En.only b u q
    exact ⟨ha, by rw [List.length_map]; exact Nat.le_of_lt (small1000 (by omega)), vs, _, rv, ha⟩
  have e0 : Env0 P w K mg (hidT s.heap H) callerA [] s H := ⟨rfl, M, fun b o e => of_hidT e, Nat.le_of_eq (hidT_size _ _), trivial, fun b hb => absurd (show b ∈ ([] : List Addr) from hb) (by simp), ok, .of_eq hg⟩
  have F : FnScope nL ["_law_script"] (defScope sLaw) := scL
  have bd : BindsTo s (PySem.W.fnOf "law" "law" (defArgs sLaw) (defBody sLaw) (defScope sLaw) .none kV doc pm an cdv ct) ⟨[.ref a], []⟩ [("_law_script", .ref a)] := .of_eq rfl
  refine codeAny_call_function (by decide) (KX _ _ lk) rfl F.co F.gen rfl (PySem.W.codeRec_of KX hcd) (bd _ _ _ _ ?_)
  refine wpAny_newFunctionEnv_cells F.kind (fun y hy => ?_) fun env he s1 x => ?_
  · rw [List.mem_singleton.mp hy]
    exact .inl (by rfl)
  · subst he
    refine ⟨hlim.keeps x.toInCall.keep, codeAny_func ?_⟩
    obtain ⟨t, ht, hq⟩ := body _ KB (nsB hns)
    have I := inv_start (CX := CX0) (E := E0) (us := [.ref a]) (vs := [.ref a]) F (show callerA.handled = none from rfl) e0 rfl (.cons rfl .nil) x
    refine wpAny_mono (ht.run [] s1 _ H _ (I.wish _) hq) (fun fl s' hs => ?_) fun e s' hs => False.elim hs
    · cases fl with
      | ret u =>
        obtain ⟨v, σ', H', J, r, q⟩ := hs
        have q' : v = .bl true := q
        subst q'
        obtain rfl : u = Value.bool true := r
        refine ⟨rfl, OldK.of_keep fun b o e => ?_, J.os, J.bare⟩
        cases z : H b with
        | none => exact J.base.keep b o e z (fun y => absurd (show b ∈ ([] : List Addr) from y) (by simp)) (fun y => absurd (show b ∈ ([] : List Addr) from y) (by simp))
        | some u =>
          obtain ⟨rfl, rfl, _⟩ := En.only b u z
          obtain ⟨e2, _⟩ := J.hok b _ (J.base.frzs b _ _ z)
          rw [ha] at e
          cases e
          exact e2
      | next =>
        obtain ⟨_, _, _, q⟩ := hs
        cases (show V.non = V.bl true from q)
      | brk =>
        obtain ⟨_, _, _, q⟩ := hs
        exact False.elim q
      | cont =>
        obtain ⟨_, _, _, q⟩ := hs
        exact False.elim q
end
end Kx
namespace Kx
open PySem L2 PySem.Spec PyProof.Rows
/-! what the top has left, and the law's head -/
structure Law (K : PySem.W.Frag) (mg : Str → Option Value) (fa : Addr) : Prop where
  ex : ∃ (B CB fB C fI fA : Addr) (fdB fdI fdA : FuncData), LawOf K mg B CB fB C fI fA fdB fdI fdA
  fn : ∃ (oc kV doc pm cdv ct : Value) (od an : Option Addr) (osl : Array (Option Value)), K.lookup fa = some ⟨oc, od, .func (PySem.W.fnOf "law" "law" (defArgs sLaw) (defBody sLaw) (defScope sLaw) .none kV doc pm an cdv ct), osl⟩ ∧ PySem.W.codeIn K cdv "law" = true
theorem walk {l : PySem.W.OpenLaw} {q : Program} {loose : List Str} {XP : (Str → Option Value) → Heap → Prop} {YP : World → Heap → Prop} {d : DefRec} {K : Params → PySem.W.Frag} (hn : l.most = some 63) (hdf : d.params.defaults = [])
    (hY : ∀ (w : World) (h : Heap), YP w h → (K w.params).In h)
    (F : ∀ (w : World) (mg : Str → Option Value) (fa : Addr) (h : Heap), (K w.params).In h → h.Ns mainGlobals mg → mg d.name = some (.ref fa) → Law (K w.params) mg fa) :
    PySem.W.WalkO q loose XP YP l.row.toRowW d [] (fun f vs => PySem.call f vs) := by
  refine Att.attach_call hn hdf fun w s₀ s₁ mg mb fa o pm cd doc a vs ns G Y ho hd hcd hmg hobj hints hlen hg => ?_
  have KX := hY w _ Y
  obtain ⟨⟨B, CB, fB, C, fI, fA, fdB, fdI, fdA, M⟩, ⟨oc, kV, dc, pm', cdv, ct, od, an, osl, lk, hc⟩⟩ := F w mg fa _ KX G.T.g hmg
  have go : ∀ H, Entry (K w.params) H a vs ns → _ := fun H En => entry_run (P := l.prog) (w := w) En KX G.T.g G.T.b G.T.builtins G.T.nolimit hg hobj hints hlen lk hc fun base _ _ =>
    law_body (P := l.prog) (w := w) (base := base) M fa cdv callerA [] s₁ H E0 (Room.deeper (k := 9) (A := callerA) ⟨rfl, by decide, by decide⟩ _) En.seq hlen
  cases hk : (K w.params).lookup a with
  | some ob =>
    have e := KX a ob hk
    rw [hobj] at e
    cases e
    exact go (fun _ => none) ⟨fun b u z => (by cases (show (none : Option HO) = some u from z)), .inr ⟨_, vs.toArray, _, hk, rfl, rfl, rfl, by rw [List.size_toArray, hints.length]; exact Nat.le_of_lt (small1000 (by omega)), by simpa using vals_ints hints⟩⟩
  | none =>
    refine go (fun b => if b = a then some (.frz (oScript vs) (.lst (ns.map V.int))) else none) ⟨fun b u z => ?_, .inl (.inr ⟨oScript vs, if_pos rfl⟩)⟩
    by_cases hb : b = a
    · have z' := (if_pos hb).symm.trans z
      exact ⟨hb, (Option.some.inj z').symm, hk⟩
    · have z' := (if_neg hb).symm.trans z
      cases z'
end Kx
namespace Kx
open PySem L2 PySem.Spec PyProof.Rows
section
variable {K : PySem.W.Frag} {mg : Str → Option Value} {h : Heap} {B C : Addr}
theorem ct_mk {nm q : Str} {N : Addr} {bs : List Value} {sn : List Str} {sub : List Value} {ab : Bool} {col : Option Bool} {dd : Option Addr} {k0 k1 k2 k3 k5 : Option Value}
    (x : K.lookup C = some (excClassObj nm q C N bs (.ref B :: veL) true sn sub ab col dd k0 k1 k2 k3 k5 "ValueError.__new__")) (sa : PySem.W.findIn K (.ref C) "__setattr__" = some (some (.builtin "object.__setattr__")))
    (ga : PySem.W.findIn K (.ref C) "__getattribute__" = some (some (.builtin "BaseException.__getattribute__"))) (gg : PySem.W.findIn K (.ref C) "__getattr__" = some none) (tyC : PySem.W.typeIn K (.ref C) = some (.type "type")) (kC : PySem.W.keepIn K (.ref C) = true)
    (hdC : PySem.W.hasDictIn K C = true) (ha : PySem.W.findIn K (.ref C) "__class__" = some (some (.builtin "object.__class__"))) : Ct K B C := ⟨⟨nm, q, N, bs, sn, sub, ab, col, dd, k0, k1, k2, k3, k5, x⟩, sa, ga, gg, tyC, kC, hdC, ha⟩
theorem def_mk {x : Str} {st : Stmt} {ps : List Str} {f : Addr} {oc : Value} {od an : Option Addr} {osl : Array (Option Value)} {kV doc pm cdv ct : Value} (X : K.In h) (G : h.Ns mainGlobals mg) (m : PySem.W.nsIn K mainGlobals x = some (some (.ref f)))
    (l : K.lookup f = some ⟨oc, od, .func (PySem.W.fnOf x x (defArgs st) (defBody st) (defScope st) .none kV doc pm an cdv ct), osl⟩) (c : PySem.W.codeIn K cdv x = true) (k : PySem.W.keepIn K (.ref f) = true)
    (b : ∀ (kV doc pm : Value) (an : Option Addr) (cdv ct : Value) (us : List Value), us.length = ps.length → bindArgs (PySem.W.fnOf x x (defArgs st) (defBody st) (defScope st) .none kV doc pm an cdv ct) ⟨us, []⟩ = pure (ps.zip us)) :
    ∃ f fd, Fs K mg x st ps f fd := ⟨f, _, fun_mk l c k, (fun_mk (st := st) l c k).binds b, PySem.W.mg_of X G m⟩
theorem bad_mk {CB f : Addr} {oc : Value} {od an : Option Addr} {osl : Array (Option Value)} {kV doc pm cdv ct : Value} (T : Ct K B CB) (iC : PySem.W.findIn K (.ref CB) "__init__" = some (some (.ref f))) (tI : PySem.W.typeIn K (.ref f) = some (.type "function"))
    (l : K.lookup f = some ⟨oc, od, .func (PySem.W.fnOf "__init__" "BadCond.__init__" (defArgs (inClass (top 3) 0)) (defBody (inClass (top 3) 0)) (defScope (inClass (top 3) 0)) .none kV doc pm an cdv ct), osl⟩) (c : PySem.W.codeIn K cdv "BadCond.__init__" = true) (k : PySem.W.keepIn K (.ref f) = true)
    (no : ∀ x ∈ ([("clause" : Str)] : List Str), PySem.W.findIn K (.ref CB) x = some none) (gm : mg "BadCond" = some (.ref CB)) : ∃ fd, Bad K mg B CB f fd :=
  ⟨_, T, no, iC, tI, fun_mk l c k, (fun_mk (st := inClass (top 3) 0) l c k).binds (fun _ _ _ _ _ _ us hl => match us, hl with | [_, _], _ => rfl), gm⟩
theorem and_mk {f : Addr} {oc : Value} {od an : Option Addr} {osl : Array (Option Value)} {kV doc pm cdv ct : Value} (l : K.lookup f = some ⟨oc, od, .func (PySem.W.fnOf "__and__" "Cond.__and__" (defArgs sAnd) (defBody sAnd) (defScope sAnd) .none kV doc pm an cdv ct), osl⟩) (c : PySem.W.codeIn K cdv "Cond.__and__" = true) (k : PySem.W.keepIn K (.ref f) = true) :
    ∃ fd, Fun K "__and__" "Cond.__and__" sAnd f fd ∧ Binds K fd ["self", "other"] [] := ⟨_, fun_mk l c k, (fun_mk (st := sAnd) l c k).binds (fun _ _ _ _ _ _ us hl => match us, hl with | [_, _], _ => rfl)⟩
theorem init_mk {f : Addr} {oc : Value} {od an : Option Addr} {osl : Array (Option Value)} {kV doc pm cdv ct : Value} (l : K.lookup f = some ⟨oc, od, .func (PySem.W.fnOf "__init__" "Cond.__init__" (defArgs sInit) (defBody sInit) (defScope sInit) .none kV doc pm an cdv ct), osl⟩) (c : PySem.W.codeIn K cdv "Cond.__init__" = true) (k : PySem.W.keepIn K (.ref f) = true) :
    ∃ fd, Fun K "__init__" "Cond.__init__" sInit f fd := ⟨_, fun_mk l c k⟩
end
theorem all_mk {K : PySem.W.Frag} {mg : Str → Option Value} {h : Heap} {B CB fB C fI fA fa fl : Addr} {t1 t2 t3 t4 : Tok} {oc kV doc pm cdv ct : Value} {od an0 : Option Addr} {osl : Array (Option Value)} (X : K.In h) (G : h.Ns mainGlobals mg)
    (mC : PySem.W.nsIn K mainGlobals "Cond" = some (some (.ref C))) (mCB : PySem.W.nsIn K mainGlobals "BadCond" = some (some (.ref CB))) (mB : PySem.W.nsIn K mainGlobals "ContractError" = some (some (.ref B))) (mLet : PySem.W.nsIn K mainGlobals "LETTERS" = some (some (.str lets t1))) (mLong : PySem.W.nsIn K mainGlobals "LONGEST_WORD" = some (some (.int 8 t2))) (mML : PySem.W.nsIn K mainGlobals "MOST_LITERALS" = some (some (.int 2 t3))) (mMC : PySem.W.nsIn K mainGlobals "MOST_CLAUSES" = some (some (.int 4 t4))) (z_isinstance : PySem.W.nsIn K mainGlobals "isinstance" = some none) (z_int : PySem.W.nsIn K mainGlobals "int" = some none) (z_bool : PySem.W.nsIn K mainGlobals "bool" = some none) (z_str : PySem.W.nsIn K mainGlobals "str" = some none) (z_tuple : PySem.W.nsIn K mainGlobals "tuple" = some none) (z_len : PySem.W.nsIn K mainGlobals "len" = some none) (z_all : PySem.W.nsIn K mainGlobals "all" = some none) (z_sorted : PySem.W.nsIn K mainGlobals "sorted" = some none) (z_enumerate : PySem.W.nsIn K mainGlobals "enumerate" = some none) (z_range : PySem.W.nsIn K mainGlobals "range" = some none) (c1 : PySem.W.plainGet K C Str.empty = true) (c2 : PySem.W.hasDictIn K C = true) (c3 : PySem.W.plainOver K C = true) (c4 : PySem.W.findIn K (.ref C) "__setattr__" = some (some (.builtin "object.__setattr__"))) (nc : PySem.W.findIn K (.ref C) "clauses" = some none) (nt : PySem.W.findIn K (.ref C) "terms" = some none) (k1 : PySem.W.makesIn K C = true) (k2 : PySem.W.findIn K (.ref C) "__init__" = some (some (.ref fI))) (k3 : PySem.W.isFn K (.ref fI) = true) (k4 : PySem.W.keepIn K (.ref C) = true) (y1 : PySem.W.findIn K (.ref C) "__class__" = some (some (.builtin "object.__class__"))) (y2 : PySem.W.specialIn K (.builtin "object.__class__") "__get__" = some (some (.builtin "getset_descriptor.__get__"))) (y3 : PySem.W.takesIn K (.builtin "object.__class__") = some true) (y4 : PySem.W.mroIn K C (.type "object") = some true) (s1 : PySem.W.selfFirst K C = true) (s2 : PySem.W.findIn K (.ref C) (PySem.dunder (Operator.info .BitAnd).2) = some (some (.ref fA))) (s3 : PySem.W.isFn K (.ref fA) = true) (g3 : PySem.W.isClsIn K B = true) (g4 : PySem.W.typeIn K (.ref B) = some (.type "type")) (g5 : PySem.W.subIn K (.ref B) (.type "BaseException") = some true) (g6 : PySem.W.hasDictIn K B = true)
    (bad : mg "BadCond" = some (.ref CB) → ∃ fd, Bad K mg B CB fB fd) (ini : ∃ fd, Fun K "__init__" "Cond.__init__" sInit fI fd) (an : ∃ fd, Fun K "__and__" "Cond.__and__" sAnd fA fd ∧ Binds K fd ["self", "other"] []) (d_int : ∃ f fd, Fs K mg "is_integer" sIsInt ["thing"] f fd) (d_word : ∃ f fd, Fs K mg "is_word" sIsWord ["thing"] f fd) (d_term : ∃ f fd, Fs K mg "is_term" sIsTerm ["thing"] f fd) (d_lit : ∃ f fd, Fs K mg "is_literal" sIsLit ["thing"] f fd) (d_cl : ∃ f fd, Fs K mg "is_clause" sIsCl ["thing", "most"] f fd) (d_stand : ∃ f fd, Fs K mg "_can_stand" sStand ["thing"] f fd) (d_first : ∃ f fd, Fs K mg "_first_wrong" sFirst ["clauses"] f fd) (d_litT : ∃ f fd, Fs K mg "is_literal_over_terms" sLitT ["thing"] f fd) (d_well : ∃ f fd, Fs K mg "_law_well" sWell ["_law_cell"] f fd) (d_draw : ∃ f fd, Fs K mg "_law_draw" sDraw ["_law_well_here", "_law_base"] f fd) (d_one : ∃ f fd, Fs K mg "_law_one" sOne ["_law_well_here", "_law_some_here"] f fd) (d_clause : ∃ f fd, Fs K mg "_law_clause" sClause ["_law_well_here", "_law_is_wide"] f fd) (d_some : ∃ f fd, Fs K mg "_law_some" sSome ["_law_well_here"] f fd) (d_cond : ∃ f fd, Fs K mg "_law_cond" sCond ["_law_some_here"] f fd) (d_due : ∃ f fd, Fs K mg "_law_due" sDue ["_law_some_here"] f fd) (d_said : ∃ f fd, Fs K mg "_law_said" sSaid ["_law_one_here", "_law_other"] f fd)
    (hfa : mg "law" = some (.ref fa)) (mL : PySem.W.nsIn K mainGlobals "law" = some (some (.ref fl))) (lL : K.lookup fl = some ⟨oc, od, .func (PySem.W.fnOf "law" "law" (defArgs sLaw) (defBody sLaw) (defScope sLaw) .none kV doc pm an0 cdv ct), osl⟩) (cL : PySem.W.codeIn K cdv "law" = true) : Law K mg fa := by
  have e := hfa.symm.trans (PySem.W.mg_of X G mL)
  cases e
  obtain ⟨fdB, bad⟩ := bad (PySem.W.mg_of X G mCB)
  obtain ⟨fdI, ini⟩ := ini
  obtain ⟨fdA, an1, an2⟩ := an
  have kt : PySem.W.kitOne K (.ref C) (.ref C) = some true := by
    unfold PySem.W.kitOne
    rw [if_pos (beq_self_eq_true _)]
  have cl : Cls K C := ⟨c1, c2, c3, c4⟩
  have T : Bx mg := ⟨PySem.W.mg_none_of X G z_isinstance, PySem.W.mg_none_of X G z_int, PySem.W.mg_none_of X G z_bool, PySem.W.mg_none_of X G z_str, PySem.W.mg_none_of X G z_tuple, PySem.W.mg_none_of X G z_len, PySem.W.mg_none_of X G z_all, PySem.W.mg_none_of X G z_sorted, PySem.W.mg_none_of X G z_enumerate, ⟨_, PySem.W.mg_of X G mLet⟩, ⟨_, PySem.W.mg_of X G mLong⟩⟩
  have M : Forms K mg := ⟨T, ⟨_, PySem.W.mg_of X G mML⟩, ⟨_, PySem.W.mg_of X G mMC⟩, d_int, d_word, d_term, d_lit, d_cl, d_stand, d_litT⟩
  have D : Cnd K mg C := ⟨cl, nc, nt, PySem.W.mg_of X G mC, d_first, M⟩
  have A : CondAll K mg B CB fB C fI fdB fdI := ⟨D, bad, ini, ⟨k1, k2, k3, k4⟩, fun H a dx fs e => .base (.ins e cl y1 y2 y3 y4), kt⟩
  have N : AndOf K mg B CB fB C fI fA fdB fdI fdA := ⟨A, an1, an2, s1, s2, s3, ⟨y2, y3, by unfold PySem.W.isClsIn at g3; exact g3, g4, g5, g6⟩, PySem.W.mg_of X G mB⟩
  exact ⟨⟨B, CB, fB, C, fI, fA, fdB, fdI, fdA, N, ⟨⟨PySem.W.mg_none_of X G z_int, PySem.W.mg_none_of X G z_len⟩, d_well, d_draw, d_one⟩, PySem.W.mg_none_of X G z_range, d_clause, d_some, d_cond, d_due, d_said⟩, ⟨oc, kV, doc, pm, cdv, ct, od, an0, osl, lL, cL⟩⟩
end Kx
open PySem PySem.W PyProof.Rows
set_option maxRecDepth 100000 in
set_option maxHeartbeats 0 in
theorem PySem.Challenge.cw_contractheirs_k03_conditions_joined_holds : PySem.Challenge.rw_contractheirs_k03_conditions_joined.Holds := by
  w_on; o_law; k_head; (case hw => w_witness2)
  k_fill
  refine Kx.walk (l := PySem.Challenge.rw_contractheirs_k03_conditions_joined) rfl rfl (fun w h Y => PySem.W.kIn_of Y) ?F
  case F =>
    intro w mg fa h KX G hmg
    refine' Kx.all_mk KX G ?u_mC ?u_mCB ?u_mB ?u_mLet ?u_mLong ?u_mML ?u_mMC ?u_z_isinstance ?u_z_int ?u_z_bool ?u_z_str ?u_z_tuple ?u_z_len ?u_z_all ?u_z_sorted ?u_z_enumerate ?u_z_range ?u_c1 ?u_c2 ?u_c3 ?u_c4 ?u_nc ?u_nt ?u_k1 ?u_k2 ?u_k3 ?u_k4 ?u_y1 ?u_y2 ?u_y3 ?u_y4 ?u_s1 ?u_s2 ?u_s3 ?u_g3 ?u_g4 ?u_g5 ?u_g6 (fun gm => Kx.bad_mk (Kx.ct_mk ?ux ?ua ?ub ?uc ?ue ?uf ?ug ?uh) ?ui ?uj ?uk ?ul ?um ?uo gm) (Kx.init_mk ?vi ?vj ?vk) (Kx.and_mk ?wi ?wj ?wk) (Kx.def_mk KX G ?uda0 ?udb0 ?udc0 ?udd0 (fun _ _ _ _ _ _ us hl => match us, hl with | [_], _ => rfl)) (Kx.def_mk KX G ?uda1 ?udb1 ?udc1 ?udd1 (fun _ _ _ _ _ _ us hl => match us, hl with | [_], _ => rfl)) (Kx.def_mk KX G ?uda2 ?udb2 ?udc2 ?udd2 (fun _ _ _ _ _ _ us hl => match us, hl with | [_], _ => rfl)) (Kx.def_mk KX G ?uda3 ?udb3 ?udc3 ?udd3 (fun _ _ _ _ _ _ us hl => match us, hl with | [_], _ => rfl)) (Kx.def_mk KX G ?uda4 ?udb4 ?udc4 ?udd4 (fun _ _ _ _ _ _ us hl => match us, hl with | [_, _], _ => rfl)) (Kx.def_mk KX G ?uda5 ?udb5 ?udc5 ?udd5 (fun _ _ _ _ _ _ us hl => match us, hl with | [_], _ => rfl)) (Kx.def_mk KX G ?uda6 ?udb6 ?udc6 ?udd6 (fun _ _ _ _ _ _ us hl => match us, hl with | [_], _ => rfl)) (Kx.def_mk KX G ?uda7 ?udb7 ?udc7 ?udd7 (fun _ _ _ _ _ _ us hl => match us, hl with | [_], _ => rfl)) (Kx.def_mk KX G ?uda8 ?udb8 ?udc8 ?udd8 (fun _ _ _ _ _ _ us hl => match us, hl with | [_], _ => rfl)) (Kx.def_mk KX G ?uda9 ?udb9 ?udc9 ?udd9 (fun _ _ _ _ _ _ us hl => match us, hl with | [_, _], _ => rfl)) (Kx.def_mk KX G ?uda10 ?udb10 ?udc10 ?udd10 (fun _ _ _ _ _ _ us hl => match us, hl with | [_, _], _ => rfl)) (Kx.def_mk KX G ?uda11 ?udb11 ?udc11 ?udd11 (fun _ _ _ _ _ _ us hl => match us, hl with | [_, _], _ => rfl)) (Kx.def_mk KX G ?uda12 ?udb12 ?udc12 ?udd12 (fun _ _ _ _ _ _ us hl => match us, hl with | [_], _ => rfl)) (Kx.def_mk KX G ?uda13 ?udb13 ?udc13 ?udd13 (fun _ _ _ _ _ _ us hl => match us, hl with | [_], _ => rfl)) (Kx.def_mk KX G ?uda14 ?udb14 ?udc14 ?udd14 (fun _ _ _ _ _ _ us hl => match us, hl with | [_], _ => rfl)) (Kx.def_mk KX G ?uda15 ?udb15 ?udc15 ?udd15 (fun _ _ _ _ _ _ us hl => match us, hl with | [_, _], _ => rfl)) hmg ?umL ?ulL ?ucL
    (case u_mC => k_is)
    (case u_mCB => k_is)
    (case u_mB => k_is)
    (case u_mLet => k_is)
    (case u_mLong => k_is)
    (case u_mML => k_is)
    (case u_mMC => k_is)
    (case u_z_isinstance => k_is)
    (case u_z_int => k_is)
    (case u_z_bool => k_is)
    (case u_z_str => k_is)
    (case u_z_tuple => k_is)
    (case u_z_len => k_is)
    (case u_z_all => k_is)
    (case u_z_sorted => k_is)
    (case u_z_enumerate => k_is)
    (case u_z_range => k_is)
    (case u_c1 => k_is)
    (case u_c2 => k_is)
    (case u_c3 => k_is)
    (case u_c4 => k_is)
    (case u_nc => k_is)
    (case u_nt => k_is)
    (case u_k1 => k_is)
    (case u_k2 => k_is)
    (case u_k3 => k_is)
    (case u_k4 => k_is)
    (case u_y1 => k_is)
    (case u_y2 => k_is)
    (case u_y3 => k_is)
    (case u_y4 => k_is)
    (case u_s1 => k_is)
    (case u_s2 => k_is)
    (case u_s3 => k_is)
    (case u_g3 => k_is)
    (case u_g4 => k_is)
    (case u_g5 => k_is)
    (case u_g6 => k_is)
    (case ux => k_is)
    (case ua => k_is)
    (case ub => k_is)
    (case uc => k_is)
    (case ue => k_is)
    (case uf => k_is)
    (case ug => k_is)
    (case uh => k_is)
    (case ui => k_is)
    (case uj => k_is)
    (case uk => k_is)
    (case ul => k_is)
    (case um => k_is)
    (case uo => (intro x hx; cases List.mem_singleton.mp hx; k_is))
    (case vi => k_is)
    (case vj => k_is)
    (case vk => k_is)
    (case wi => k_is)
    (case wj => k_is)
    (case wk => k_is)
    (case uda0 => k_is)
    (case udb0 => k_is)
    (case udc0 => k_is)
    (case udd0 => k_is)
    (case uda1 => k_is)
    (case udb1 => k_is)
    (case udc1 => k_is)
    (case udd1 => k_is)
    (case uda2 => k_is)
    (case udb2 => k_is)
    (case udc2 => k_is)
    (case udd2 => k_is)
    (case uda3 => k_is)
    (case udb3 => k_is)
    (case udc3 => k_is)
    (case udd3 => k_is)
    (case uda4 => k_is)
    (case udb4 => k_is)
    (case udc4 => k_is)
    (case udd4 => k_is)
    (case uda5 => k_is)
    (case udb5 => k_is)
    (case udc5 => k_is)
    (case udd5 => k_is)
    (case uda6 => k_is)
    (case udb6 => k_is)
    (case udc6 => k_is)
    (case udd6 => k_is)
    (case uda7 => k_is)
    (case udb7 => k_is)
    (case udc7 => k_is)
    (case udd7 => k_is)
    (case uda8 => k_is)
    (case udb8 => k_is)
    (case udc8 => k_is)
    (case udd8 => k_is)
    (case uda9 => k_is)
    (case udb9 => k_is)
    (case udc9 => k_is)
    (case udd9 => k_is)
    (case uda10 => k_is)
    (case udb10 => k_is)
    (case udc10 => k_is)
    (case udd10 => k_is)
    (case uda11 => k_is)
    (case udb11 => k_is)
    (case udc11 => k_is)
    (case udd11 => k_is)
    (case uda12 => k_is)
    (case udb12 => k_is)
    (case udc12 => k_is)
    (case udd12 => k_is)
    (case uda13 => k_is)
    (case udb13 => k_is)
    (case udc13 => k_is)
    (case udd13 => k_is)
    (case uda14 => k_is)
    (case udb14 => k_is)
    (case udc14 => k_is)
    (case udd14 => k_is)
    (case uda15 => k_is)
    (case udb15 => k_is)
    (case udc15 => k_is)
    (case udd15 => k_is)
    (case umL => k_is)
    (case ulL => k_is)
    (case ucL => k_is)
