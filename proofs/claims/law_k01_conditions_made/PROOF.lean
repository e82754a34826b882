import PyProof.Rows.All
import Wide.All
import OpenK.AllK
import Wide.FinOn
import HandS.ForMost
import HandS.SetBool
import HandS.SetTxt0
import HandS.Strs
import KE.GoesMore
import HandS.Iter
import HandS.ForExc
import HandS.Wide
import HandS.IsInst
import HandS.Flow
import HandS.Walk
import HandS.Text
import HandS.Conv
import HandS.Star
import HandS.TupAny
import HandS.ExcInit
import HandS.ExcValue
import HandS.ExcCtx
import HandS.HotCalls
import HandS.ExcIs
import HandS.ExcField
import KE.KExcIs
import OpenK.KMeth
import HandS.Deep
import HandS.OwnEq
import PyProof.InstNe
import OpenK.KOwn
import OpenK.KOps
import PyProof.ListStr
import HandS.SetFor
import HandS.RaiseMore
import PySem.Challenge.RW_contractheirs_k01_conditions_made
set_option Elab.async false
set_option linter.all false
set_option maxRecDepth 100000
set_option maxHeartbeats 8000000
namespace Kx
open PySem L2 PySem.Spec PyProof.Rows PySem.Froz
/-! sets of texts that can be walked and sorted -/
structure GoodX (P : Program) (w : World) (D : SD) (l : List Str) : Prop where
  tx : TxOk P w D l
  nd : l.Nodup
  ris : Ris D.2.2.place.toList
  led : w.params.followText "set-order" = true ∨ D.2.2.led = true
theorem tailTx_ris {ep : Nat} {es : Array (Int × Value)} {t : SetTable} {b : Bool} (r : Ris t.place.toList) : Ris (tailTx ep es t b).2.2.place.toList := by
  unfold tailTx
  by_cases c : (!b && t.tooFull) = true
  · rw [if_pos c]; exact relayAll_ris _ _ _
  · rw [if_neg c]; exact r
theorem tailTx_led {ep : Nat} {es : Array (Int × Value)} {t : SetTable} {b : Bool} : (tailTx ep es t b).2.2.led = t.led := by
  unfold tailTx
  by_cases c : (!b && t.tooFull) = true
  · rw [if_pos c]; exact relayAll_led _ _ _
  · rw [if_neg c]
theorem off_ris {t : SetTable} (r : Ris t.place.toList) : Ris (if t.plain = true then { t with plain := false } else t).place.toList := by
  by_cases c : t.plain = true
  · rw [if_pos c]; exact r
  · rw [if_neg c]; exact r
theorem off_led {t : SetTable} : (if t.plain = true then { t with plain := false } else t).led = t.led := by
  by_cases c : t.plain = true
  · rw [if_pos c]
  · rw [if_neg c]
theorem addTx_ris {hh : Int} {v : Value} {D : SD} (r : Ris D.2.2.place.toList) : Ris (addTx hh v D).2.2.place.toList := by
  unfold addTx
  exact tailTx_ris (off_ris (layNew_ris _ _ _ _ r))
theorem addTx_led {hh : Int} {v : Value} {D : SD} : (addTx hh v D).2.2.led = D.2.2.led := by
  unfold addTx
  rw [tailTx_led, off_led, layNew_led]
theorem GoodX.add {P : Program} {w : World} {D : SD} {l : List Str} {k : Str} (u : Tok) (G : GoodX P w D l) (hk : k ∉ l) : GoodX P w (addTx (hashStr w k) (.str k u) D) (k :: l) :=
  ⟨add_ok u G.tx, List.nodup_cons.mpr ⟨hk, G.nd⟩, addTx_ris G.ris, G.led.imp id fun z => by rw [addTx_led]; exact z⟩
section
variable {P : Program} {w : World} {A : Around} {E : Value → Shared → Prop} {s : Shared}
theorem add_old {a : Addr} {D : SD} {l : List Str} {k : Str} {u : Tok} {Q : Bool → Shared → Prop} (ho : s.heap.get? a = some (sObj "set" D)) (F : TxOk P w D l) (hk : k ∈ l) (hb : l.length < scanBound)
    (h : Q false s) : wpAny (model P w) A (setAddHashed a (.str k u) (hashStr w k)) Q E s := by
  obtain ⟨es, ep, t⟩ := D
  have hd : (sObj "set" (es, ep, t)).data = .set es ep t := rfl
  have hf : t.fits es.size = true := F.fit
  have he : ElemsOf (strKind P w) es.toList := F.el
  have hz : es.size < scanBound := by rw [show es.size = l.length from F.sz]; exact hb
  unfold setAddHashed setAddHashedIn
  refine wpAny_holding (wpAny_bind (wpAny_setState_of ho hd hf ?_))
  dsimp only
  rw [byScan_of rfl hz he]
  simp only [↓reduceIte]
  unfold setAddByScan
  refine wpAny_bind (wpAny_bind (wpAny_rule (wpAny_bind (wpAny_setScan_of (knd := strKind P w) (k := k) (is_str k u) ho hd hf he ?_))))
  cases hr : List.findIdx? (fun e => (strKind P w).is k e.2) es.toList with
  | some j => exact wpAny_pure (wpAny_pure h)
  | none =>
    obtain ⟨e, hm, q⟩ := (F.mem k).mp hk
    have c := List.findIdx?_eq_none_iff.mp hr e hm
    rw [q] at c
    cases c
end
/-- the set of texts at a: its members, each once -/
def TxAt (P : Program) (w : World) (h : Heap) (a : Addr) (l : List Str) : Prop := ∃ D, h.get? a = some (sObj "set" D) ∧ GoodX P w D l
/-- a text put into a list of texts -/
def put (l : List Str) (k : Str) : List Str := if k ∈ l then l else k :: l
theorem mem_put {l : List Str} {k x : Str} : x ∈ put l k ↔ x ∈ l ∨ x = k := by
  unfold put
  by_cases h : k ∈ l
  · rw [if_pos h]
    exact ⟨.inl, fun z => z.elim id fun e => e ▸ h⟩
  · rw [if_neg h, List.mem_cons]
    exact Or.comm
theorem put_len {l : List Str} {k : Str} : (put l k).length ≤ l.length + 1 := by
  unfold put
  by_cases h : k ∈ l
  · rw [if_pos h]; exact Nat.le_succ _
  · rw [if_neg h]; exact Nat.le_refl _
section
variable {P : Program} {w : World} {A : Around} {E : Value → Shared → Prop} {s : Shared}
theorem txAt_new {h : Heap} : TxAt P w (h.push { cls := .type "set", dict := none, data := .set #[] 0 (.fresh 0 0 (!w.params.followText "set-order")) }) h.objs.size [] :=
  ⟨(#[], 0, .fresh 0 0 (!w.params.followText "set-order")), Heap.get?_push_size _ rfl, TxOk.nil rfl, List.nodup_nil, List.Pairwise.nil, by
    show _ ∨ (!w.params.followText "set-order") = true
    cases w.params.followText "set-order"
    · exact .inr rfl
    · exact .inl rfl⟩
/-- found.add(k) -/
theorem tx_add {a : Addr} {l : List Str} {k : Str} {u : Tok} {Q : Value → Shared → Prop} (R : TxAt P w s.heap a l) (room : l.length + 1 < scanBound)
    (hQ : ∀ h' : Heap, Heap.SameBut a s.heap h' → TxAt P w h' a (put l k) → Q .none { s with heap := h', toks := s.toks + 1 }) :
    wpAny (model P w) A (call (.builtin "set.add") [.ref a, .str k u]) Q E s := by
  obtain ⟨D, ho, G⟩ := R
  have hT : s.TypeIs (.ref a) "set" := ⟨_, ho, rfl⟩
  refine wpAny_call_entry F.slot_set_add hT F.entry_set_add ?_ (F.args_set_add_2 _ _)
  unfold Builtin.«set.add» Builtin.Frozenset.oneOther
  simp only [List.isEmpty_nil, bind_assoc]
  unfold Builtin.Frozenset.addrOf setAdd
  refine wpAny_bind (wpAny_pure ?_)
  try dsimp only
  refine wpAny_bind (wpAny_pure ?_)
  try dsimp only
  refine wpAny_bind (wpAny_holding (wpAny_bind ((strKind P w).pyHash (is_str k u) ?_)))
  by_cases hk : k ∈ l
  · refine add_old (s := { s with toks := s.toks + 1 }) ho G.tx hk (by omega) ?_
    have q := hQ s.heap (Heap.SameBut.refl a s.heap) ⟨D, ho, by unfold put; rw [if_pos hk]; exact G⟩
    show wpAny _ _ (ret Value.none) _ _ _
    exact wpAny_pure ⟨_, rfl, q⟩
  · refine add_x (s := { s with toks := s.toks + 1 }) ho G.tx hk room ?_
    have q := hQ _ (Heap.SameBut.update s.heap a (fun _ => sObj "set" (addTx (hashStr w k) (.str k u) D))) ⟨_, get_upd _ ho rfl, by unfold put; rw [if_neg hk]; exact G.add u hk⟩
    show wpAny _ _ (ret Value.none) _ _ _
    exact wpAny_pure ⟨_, rfl, q⟩
theorem strs_of_kind {l : List Str} {D : SD} (F : TxOk P w D l) : ∀ v ∈ D.1.toList.map (·.2), ∃ x t, v = Value.str x t := fun v hv => by
  obtain ⟨e, he, rfl⟩ := List.mem_map.mp hv
  obtain ⟨⟨k, h1, _⟩, _⟩ := F.el e he
  obtain ⟨t, z⟩ := Value.isStrOf_shape (x := k) (v := e.2) h1
  exact ⟨k, t, z⟩
def txt : Value → Str
  | .str x _ => x
  | _ => ⟨#[]⟩
theorem strsAre_txt : ∀ {vs : List Value}, (∀ v ∈ vs, ∃ x t, v = Value.str x t) → StrsAre vs (vs.map txt)
  | [], _ => .nil
  | v :: vs, h => by
    obtain ⟨x, t, rfl⟩ := h v List.mem_cons_self
    exact .cons x t (strsAre_txt fun u hu => h u (List.mem_cons_of_mem _ hu))
theorem perm_of_sub : ∀ {l m : List Str}, l.Nodup → (∀ x ∈ l, x ∈ m) → m.length = l.length → m.Perm l
  | [], m, _, _, h => by
    rw [List.eq_nil_of_length_eq_zero h]
  | x :: l, m, nd, sub, h => by
    obtain ⟨n1, n2⟩ := List.nodup_cons.mp nd
    have hx : x ∈ m := sub x List.mem_cons_self
    have p := List.perm_cons_erase hx
    have hl : (m.erase x).length = l.length := by
      have q := p.length_eq
      rw [List.length_cons] at q h
      omega
    refine p.trans (List.Perm.cons x (perm_of_sub n2 (fun y hy => ?_) hl))
    have ne : y ≠ x := fun e => n1 (e ▸ hy)
    exact (List.mem_erase_of_ne ne).mpr (sub y (List.mem_cons_of_mem _ hy))
/-- sorted(found), fewer than 64 members -/
theorem tx_sorted {a : Addr} {l : List Str} {Q : Value → Shared → Prop} (R : TxAt P w s.heap a l) (hh : A.handled = none) (h64 : l.length < 64)
    (hQ : ∀ (s' : Shared) (p : Addr) (out : Array Value) (c : Nat) (ys : List Str), (∀ b o, s.heap.get? b = some o → s'.heap.get? b = some o) → s'.gens = s.gens → s'.os = s.os → s.heap.objs.size ≤ p →
      s'.heap.get? p = some (seqObj "list" out c) → StrsAre out.toList ys → sortedS ys = true → ys.Perm l → Q (.ref p) s') :
    wpAny (model P w) A (call (.builtin "sorted") [.ref a]) Q E s := by
  obtain ⟨⟨es, ep, t⟩, ho, G⟩ := R
  have hz : es.size = l.length := G.tx.sz
  have lim : scanBound > 64 := by decide
  refine Calls.call_function_entry kind_sorted plain_sorted entry_sorted (args_sorted1 _) ?_
  unfold Builtin.«sorted»
  refine wpAny_bind (m := checkCount "sorted" 1 1 _) (wpAny_pure ?_)
  refine wpAny_bind (collect_set (A := A.in1) hh ⟨_, ho, rfl, rfl⟩ G.tx.fit (by show es.size < _; omega) G.ris G.led fun s1 vs k1 z1 g1 o1 pm => ?_)
  have pm' : vs.Perm (es.toList.map (·.2)) := pm
  have hvl : vs.length = l.length := by rw [pm'.length_eq, List.length_map, Array.length_toList]; exact hz
  have hstr : ∀ v ∈ vs, ∃ x t, v = Value.str x t := fun v hv => strs_of_kind G.tx v (pm'.mem_iff.mp hv)
  have hS := strsAre_txt hstr
  have hperm : (vs.map txt).Perm l := (pm'.map txt).trans <| perm_of_sub G.nd (fun x hx => by
      obtain ⟨e, he, q⟩ := (G.tx.mem x).mp hx
      obtain ⟨t', z⟩ := Value.isStrOf_shape (x := x) (v := e.2) q
      exact List.mem_map.mpr ⟨e.2, List.mem_map.mpr ⟨e, he, rfl⟩, by rw [z]; rfl⟩) (by rw [List.length_map, List.length_map, Array.length_toList]; exact hz)
  refine wpAny_bind (wpAny_newList ?_ (by rw [hvl, sizeLine_eq]; omega))
  have hoL : (s1.heap.push (seqObj "list" vs.toArray 0)).get? s1.heap.objs.size = some (seqObj "list" vs.toArray 0) := Heap.get?_push_size _ rfl
  refine wpAny_bind (wpAny_holding (wpAny_call_entry slot_list_sort ⟨_, hoL, rfl⟩ entry_list_sort
    (list_sort_treeK strKind_oneLt hoL hS.keysOf (fun v₁ v₂ rest e => keyKind_strs (by rw [← e]; exact hS)) (by rw [hvl]; exact h64) fun st' a1 a2 => ⟨_, rfl, ?_⟩) (args_list_sort _)))
  obtain ⟨ys, b1, b2, b3⟩ := sorted_out_str hS a1 a2
  obtain ⟨c, hc⟩ := sortedHeap_at (vs := vs) (out := (arrOf st').map (·.2)) hoL
  refine wpAny_pure ⟨_, rfl, hQ _ s1.heap.objs.size _ c ys (fun b u e => ?_) g1 o1 z1 hc b1 b3 (b2.trans hperm)⟩
  have q := k1 b u e
  have hlt := Heap.lt_size q
  show (sortedHeap (s1.heap.push (seqObj "list" vs.toArray 0)) s1.heap.objs.size vs _).get? b = some u
  rw [sortedHeap_old (Nat.ne_of_lt hlt) (by rw [size_push']; exact Nat.lt_succ_of_lt hlt)]
  exact Heap.get?_push_of_some _ q
end
/-! ### as tracked things -/
def SetX (P : Program) (w : World) (a : Addr) (l : List Str) : HO := .ext fun h => TxAt P w h a l
theorem setX_new {w : World} {P : Program} {H : Hp} {h : Heap} {a : Addr} {l : List Str} (R : TxAt P w h a l) : ObjOk P w H h a (SetX P w a l) := by
  obtain ⟨D, ho, G⟩ := R
  exact ⟨⟨D, ho, G⟩, ⟨_, ho⟩, fun h1 h2 p k => let ⟨D', ho', G'⟩ := p; ⟨D', k _ ho', G'⟩⟩
section
variable {X : Cx}
theorem setX_get {pins : List (Addr × Obj)} {σ : L2.St} {H : Hp} {s : Shared} {a : Addr} {l : List Str} (I : Inv X pins σ H s) (ha : H a = some (SetX X.prog X.w a l)) : TxAt X.prog X.w s.heap a l := (I.hok a _ ha).1
theorem addX_ok {pins : List (Addr × Obj)} {σ : L2.St} {H : Hp} {s : Shared} {E : Value → Shared → Prop} {D : Addr} {l : List Str} {k : Str} {u : Tok} {Q : Value → Shared → Prop} (I : Inv X pins σ H s) (hD : H D = some (SetX X.prog X.w D l)) (room : l.length + 1 < scanBound)
    (h : ∀ s', Inv X pins σ (upd H D (SetX X.prog X.w D (put l k))) s' → Q .none s') : wpAny (model X.prog X.w) X.A (call (.builtin "set.add") [.ref D, .str k u]) Q E s := by
  refine tx_add (setX_get I hD) room fun h' sb new => ?_
  have he : ∃ u, h'.get? D = some u := let ⟨_, ho, _⟩ := new; ⟨_, ho⟩
  exact h _ (I.write (e := D) (t' := s.toks + 1) (by rw [hD]; trivial) (.inl rfl) (fun b u hb hu => (sb.2 b hb).trans hu) he (setX_new new))
def rSortedX (P : Program) (w : World) : List V → Hp → VK → Prop := fun vs H Q => ∃ (a : Addr) (l : List Str), vs = [V.ref a] ∧ H a = some (SetX P w a l) ∧ l.length < 64 ∧
  ∀ (ys : List Str) (p : Addr), sortedS ys = true → ys.Perm l → H p = none → Q (.ref p) (upd H p (.lst (ys.map V.str)))
theorem cr_sortedX (hc : X.calm = true) : CallR X (.builtin "sorted") (rSortedX X.prog X.w) := by
  intro pins s σ H vs us Q I r h
  obtain ⟨a, l, rfl, ha, h64, q⟩ := h
  rw [Vals.ref1 r]
  refine tx_sorted (setX_get I ha) (I.ok.hd hc) h64 fun s' p out c ys k g o hp hg hi hs hl => ?_
  have hlen : (ys.map V.str).length ≤ sizeLine := by rw [List.length_map, hl.length_eq, sizeLine_eq]; omega
  have hn : H p = none := I.hok.fresh hp
  have J : Inv X pins σ (upd H p (.lst (ys.map V.str))) { s with heap := s'.heap, gens := s'.gens, drawn := s'.drawn, toks := s'.toks } :=
    I.call (ch := []) (Un.laid k hp hn) (I.hok.laid k hp ⟨hlen, out.toList, c, vals_of_strs hi, hg⟩) (by rw [g]; exact I.bare) (fun _ z => nomatch z)
  have e : s' = { s with heap := s'.heap, gens := s'.gens, drawn := s'.drawn, toks := s'.toks } := by
    cases s'; cases s; cases o; rfl
  rw [e]
  exact ⟨.ref p, _, J, rfl, q ys p hs hl hn⟩
end
end Kx
namespace Kx
open PySem L2 PySem.Spec PyProof.Rows PpSet
/-! set comprehensions of texts, with several clauses -/
/-- one turn of a clause, whatever is done with an element that passes -/
def turnOf (tg : Expr) (pos : Pos) (ifs : List Expr) (body : Sem Unit) (c : Expr) (j : Nat) (it acc : Value) (env : Env) : Sem Fin := do
  standAt pos
  match ← pyNext it with
  | none => pure (.done .next)
  | some v =>
    letOwnedTupleGo tg it v
    assign tg env v
    let mut ok := true
    for c in ifs do
      if ok then ok ← isTrue c env (eval c env)
    if ok then body
    again (.compLoop c j it acc env)
abbrev testsOf (ifs : List Expr) (env : Env) : Sem Bool := forIn ifs true fun c r => if r = true then do let ok ← isTrue c env (eval c env); pure (ForInStep.yield ok) else pure (ForInStep.yield r)
section
variable {P : Program} {w : World} {A : Around} {R : Result → Shared → Prop} {s : Shared} {elt tg : Expr} {gs : List Comprehension} {scope : Scope} {cp : Pos} {j : Nat} {ifs : List Expr} {pos : Pos} {it acc : Value} {env : Env} {body : Sem Unit}
abbrev NoE : Value → Shared → Prop := fun _ _ => False
theorem loop_gen (hturn : compTurn (.SetComp elt gs scope cp) j it acc env = turnOf tg pos ifs body (.SetComp elt gs scope cp) j it acc env) (I : Nat → Shared → Prop)
    (turn : ∀ n s, I n s → wpAny (model P w) A (pyNext it) (fun r s1 => match r with
      | none => R (.ok .next) s1
      | some v => wpAny (model P w) A (letOwnedTupleGo tg it v) (fun _ s2 => wpAny (model P w) A (assign tg env v) (fun _ s3 => wpAny (model P w) A (testsOf ifs env) (fun ok s4 =>
          if ok = true then wpAny (model P w) A body (fun _ s5 => ∃ m, m < n ∧ I m s5) NoE s4 else ∃ m, m < n ∧ I m s4) NoE s3) NoE s2) NoE s1) NoE s)
    (n : Nat) (h : I n s) : codeAny (model P w) A (.compLoop (.SetComp elt gs scope cp) j it acc env) R s := by
  refine codeAny_loop rfl I (fun n s hI => ?_) n h
  show wpAny _ A ((compTurn (.SetComp elt gs scope cp) j it acc env).onRaise (fun x => do noteFrame x env; theTreesLotGoes x)) _ _ s
  refine wpAny_noted ?_
  rw [hturn]
  unfold turnOf
  refine wpAny_bind (wpAny_standAt (wpAny_bind (thnF (turn n s hI) fun r s1 h1 => ?_)))
  cases r with
  | none => exact wpAny_pure h1
  | some v =>
    refine wpAny_bind (thnF h1 fun _ s2 h2 => ?_)
    refine wpAny_bind (thnF h2 fun _ s3 h3 => wpAny_bind (thnF h3 fun ok s4 h4 => ?_))
    cases ok with
    | false => exact wpAny_pure ⟨rfl, h4⟩
    | true => exact wpAny_bind (thnF h4 fun _ s5 h5 => wpAny_pure ⟨rfl, h5⟩)
end
abbrev TB := L2.St → Hp → (Hp → Prop) → Prop
/-- what is done with an element, in a block -/
structure PB (Y : Cx) (body : Sem Unit) (vs : List Nat) (tb : TB) : Prop where
  run : ∀ (pins : List (Addr × Obj)) (s : Shared) (σ : L2.St) (H : Hp) (Q : Hp → Prop), Inv Y pins σ H s → tb σ H Q → wpAny (model Y.prog Y.w) Y.A body (fun _ s' => ∃ H', Inv Y pins (wipe σ vs) H' s' ∧ Q H') NoE s
def tElt (P : Program) (w : World) (te : TE) (D : Addr) : TB := fun σ H Q => te σ H fun y H1 => ∃ (l : List Str) (k : Str), y = .str k ∧ H1 D = some (SetX P w D l) ∧ l.length + 1 < scanBound ∧ Q (upd H1 D (SetX P w D (put l k)))
def tNest (wi : TI) (g : TG) (tt : TT) (tb : TB) (vs : List Nat) : TB := fun σ H Q => wi σ H fun J H1 => ∃ W : Nat → Nat → Hp → Prop, (∃ m, W 0 m H1) ∧ ∀ i m H, W i m H →
  (J.stop i H ∧ Q H) ∨ (J.go i H ∧ ∃ Nx : Hp → Prop, (∀ H', Nx H' → ∃ m', m' < m ∧ W (i + 1) m' H') ∧ ∀ x H', J.yld i H x H' → g x (wipe σ vs) H' fun σ2 H2 => wipe σ2 vs = wipe σ vs ∧ tt σ2 H2 fun b H3 => if b = true then tb σ2 H3 Nx else Nx H3)
section
variable {Y : Cx} {elt tg iter ee : Expr} {gs : List Comprehension} {scope : Scope} {cp : Pos} {ifs : List Expr} {te : TE} {D : Addr} {wi : TI} {g : TG} {tt : TT} {tb : TB} {vs vs' : List Nat} {j : Nat} {acc : Value} {body : Sem Unit}
theorem pb_elt (hx : Y.xe = NoE) (he : PE Y elt te) : PB Y (do let v ← eval elt Y.env; standAt elt.pos; let _ ← call (.builtin "set.add") [.ref D, v]) [] (tElt Y.prog Y.w te D) := by
  refine ⟨fun pins s σ H Q I h => ?_⟩
  have z := he.run pins s σ H _ I h
  rw [hx] at z
  refine wpAny_bind (thnF z fun u s1 ⟨y, H1, I1, r, l, k, e, hD, room, q⟩ => wpAny_bind (wpAny_standAt ?_))
  subst e
  obtain ⟨t, rfl⟩ := r
  exact wpAny_bind (addX_ok I1 hD room fun s2 I2 => wpAny_pure ⟨_, I2, q⟩)
/-- a further clause's start -/
def StartOk (c : Expr) (j : Nat) (acc : Value) (env : Env) : Prop := ∀ (P : Program) (w : World) (A : Around) (R : Result → Shared → Prop) (s : Shared) (it : Value), codeAny (model P w) A (.compLoop c j it acc env) R s →
  (∀ E, wpAny (model P w) A (pyIter it) (fun it' s' => codeAny (model P w) A (.compLoop c j it' acc env) R s') E s) → codeAny (model P w) A (.compStart c j it acc env) R s
theorem pb_nest (sub : ∀ i ∈ vs', i ∈ vs) (hc : Y.calm = true) (hx : Y.xe = NoE) (hi : PI Y tg iter wi) (hg : PG Y tg g) (ht : PTs Y ifs tt) (hb : PB Y body vs' tb) (hs : ∀ x, foldedSetIterable iter Y.env x = pure x)
    (hturn : ∀ it, compTurn (.SetComp ee gs scope cp) j (.ref it) acc Y.env = turnOf tg iter.pos ifs body (.SetComp ee gs scope cp) j (.ref it) acc Y.env) (hst : StartOk (.SetComp ee gs scope cp) j acc Y.env) :
    PB Y (do let x ← eval iter Y.env; standAt iter.pos; let x ← foldedSetIterable iter Y.env x; let _ ← runOwn (.compStart (.SetComp ee gs scope cp) j (← holding [x] (pyIter x)) acc Y.env) Y.env) vs (tNest wi g tt tb vs) := by
  refine ⟨fun pins s σ H Q I h => ?_⟩
  have z := hi.run pins s σ H _ I h
  rw [hx] at z
  refine wpAny_bind (thnF z fun xv s1 hv => ?_)
  refine wpAny_bind (wpAny_standAt (wpAny_bind (wpAny_of_eq (hs xv) (wpAny_bind (wpAny_holding (thnF hv fun itv s2 h2 => ?_))))))
  obtain ⟨it, fp, tn, J, H1, e, I1, T, st, fo, W, ⟨m0, w0⟩, turn⟩ := h2
  subst e
  refine wpAny_bind (wpAny_runOwn ?_)
  rw [Around.mark_none]
  have stat : ∀ {H' : Hp}, (∀ b ∈ fp, H' b = none) → ∀ b ∈ fp, FpOk Y pins H' b := fun hn b hb => ⟨hn b hb, (fo b hb).2⟩
  have loop : codeAny (model Y.prog Y.w) Y.A (.compLoop (.SetComp ee gs scope cp) j (.ref it) acc Y.env) (fun r s' => match r with
      | .ok _ => ∃ H', Inv Y pins (wipe σ vs) H' s' ∧ Q H'
      | .error _ => False) s2 := by
    refine loop_gen (hturn it) (fun k s' => ∃ i H', Inv Y pins (wipe σ vs) H' s' ∧ tn i s'.heap ∧ (∀ b ∈ fp, H' b = none) ∧ W i k H') ?_ m0 ⟨0, H1, I1.weak (wipe_length _ _) (fun j v e => (wipe_some e).1), st, fun b hb => (fo b hb).1, w0⟩
    rintro k s3 ⟨i, H3, I3, st3, n3, w3⟩
    rcases turn i k H3 w3 with ⟨stop, q⟩ | ⟨go, Nx, hNx, step⟩
    · refine thnF (T.done Y rfl rfl rfl hc i _ s3 (wipe σ vs) H3 NoE I3 (stat n3) st3 stop) fun r s4 ⟨hr, I4⟩ => ?_
      subst hr
      exact ⟨H3, I4, q⟩
    · refine thnF (T.item Y rfl rfl rfl hc i _ s3 (wipe σ vs) H3 NoE I3 (stat n3) st3 go) fun r s4 ⟨u, hr, h4⟩ => ?_
      subst hr
      refine thnF h4 fun _ s5 ⟨x, H5, I5, r5, y5, st5, n5⟩ => ?_
      have I5' := I5.pinned (stat n5) (T.obj _ _ st5)
      have z6 := hg.run _ s5 (wipe σ vs) H5 x u _ I5' r5 (step x H5 y5)
      rw [hx] at z6
      refine thnF z6 fun _ s6 ⟨σ6, H6, I6, hw, q6⟩ => ?_
      have z7 := ht.run _ s6 σ6 H6 _ I6 q6
      rw [hx] at z7
      refine thnF z7 fun b s7 ⟨H7, I7, q7⟩ => ?_
      have fin : ∀ {vs1 : List Nat} {s' : Shared} {H' : Hp}, (∀ i ∈ vs1, i ∈ vs) → Inv Y (pins ++ pinsAt fp s5.heap) (wipe σ6 vs1) H' s' → Nx H' → ∃ m, m < k ∧ ∃ i H', Inv Y pins (wipe σ vs) H' s' ∧ tn i s'.heap ∧ (∀ b ∈ fp, H' b = none) ∧ W i m H' := fun {vs1 s' H'} hv I' nx => by
        obtain ⟨m', hm, w'⟩ := hNx H' nx
        have pin' : ∀ b ∈ fp, ∀ o, s5.heap.get? b = some o → s'.heap.get? b = some o ∧ H' b = none := fun b hb o e =>
          let z := I'.pin (b, o) (List.mem_append_right _ (List.mem_append_right _ (mem_pinsAt hb e)))
          ⟨z.1, z.2.1⟩
        refine ⟨m', hm, i + 1, H', I'.unpinned.weak (by rw [← hw, wipe_length, wipe_length]) (fun j v e => ?_), T.keep _ _ _ st5 fun b hb o e => (pin' b hb o e).1, fun b hb => ?_, w'⟩
        · rw [← hw] at e
          obtain ⟨e1, e2⟩ := wipe_some e
          rw [wipe_out fun z => e2 (hv j z)]
          exact e1
        · obtain ⟨o, e, _⟩ := T.obj _ _ st5 b hb
          exact (pin' b hb o e).2
      cases b with
      | false =>
        simp only [Bool.false_eq_true, if_false] at q7 ⊢
        exact fin (vs1 := []) (fun i z => nomatch z) I7 q7
      | true =>
        simp only [if_true] at q7 ⊢
        exact thnF (hb.run _ s7 σ6 H7 _ I7 q7) fun _ s8 ⟨H8, I8, q8⟩ => fin sub I8 q8
  refine codeAny_mono (hst _ _ _ _ _ _ loop fun E => T.self Y.A 0 _ _ _ st loop) fun r s' hr => ?_
  cases r with
  | ok f =>
    first
      | exact wpAny_pure hr
      | exact wpAny_bind (wpAny_pure (wpAny_pure hr))
  | error e => exact hr.elim
end
end Kx
namespace Kx
open PySem L2 PySem.Spec PyProof.Rows PpSet
def tScN (P : Program) (w : World) (wi : TI) (g : TG) (tt : TT) (tb : Addr → TB) (vs : List Nat) : TE := fun σ H Q => wi σ H fun J H1 => ∀ D, H1 D = none → ∃ W : Nat → Nat → Hp → Prop, (∃ m, W 0 m (upd H1 D (SetX P w D []))) ∧ ∀ i m H, W i m H →
  (J.stop i H ∧ Q (.ref D) H) ∨ (J.go i H ∧ ∃ Nx : Hp → Prop, (∀ H', Nx H' → ∃ m', m' < m ∧ W (i + 1) m' H') ∧ ∀ x H', J.yld i H x H' → g x (wipe σ vs) H' fun σ2 H2 => wipe σ2 vs = wipe σ vs ∧ tt σ2 H2 fun b H3 => if b = true then tb D σ2 H3 Nx else Nx H3)
section
variable {X : Cx} {elt tg iter : Expr} {ifs : List Expr} {gs : List Comprehension} {scope : Scope} {own : List (PySem.Str × Nat)} {cp : Pos} {wi : TI} {g : TG} {tt : TT} {tb : Addr → TB} {body : Addr → Env → Sem Unit} {vs' : List Nat}
theorem pe_scN (hc : X.calm = true) (hN : X.N.Nodup) (hi : PI X tg iter wi) (ok : BlkOk X.N X.env.scope scope own) (sub : ∀ i ∈ vs', i ∈ own.map (·.2))
    (hg : ∀ (s : Shared) (H : Hp) (C : Addr) (cl : List (PySem.Str × Addr)) (fp : List Addr), PG (X.blk s H scope (compEnvC scope cl C X.env) fp) tg g)
    (ht : ∀ (s : Shared) (H : Hp) (C : Addr) (cl : List (PySem.Str × Addr)) (fp : List Addr), PTs (X.blk s H scope (compEnvC scope cl C X.env) fp) ifs tt)
    (hb : ∀ (s : Shared) (H : Hp) (C : Addr) (cl : List (PySem.Str × Addr)) (fp : List Addr) (D : Addr), PB (X.blk s H scope (compEnvC scope cl C X.env) fp) (body D (compEnvC scope cl C X.env)) vs' (tb D))
    (hturn : ∀ it D env, compTurn (.SetComp elt (⟨tg, iter, ifs, 0⟩ :: gs) scope cp) 0 (.ref it) (.ref D) env = turnOf tg iter.pos ifs (body D env) (.SetComp elt (⟨tg, iter, ifs, 0⟩ :: gs) scope cp) 0 (.ref it) (.ref D) env)
    (hs : ∀ x, foldedSetIterable iter X.env x = pure x := by intro _; rfl) : PE X (.SetComp elt (⟨tg, iter, ifs, 0⟩ :: gs) scope cp) (tScN X.prog X.w wi g tt tb (own.map (·.2))) := by
  refine ⟨fun pins s σ H Q I h => ?_⟩
  rw [eval_SetComp]
  have fr : ∀ y ∈ scope.names, y.2 = .free → ∃ c, X.env.cells.lookup y.1 = some c := fun y hy e => I.ok.has _ (ok.free y hy e)
  refine wpAny_comprehension_free (use := none) rfl hs (closure_ok fr) ok.kind (fun y hy e => by rw [ok.uniq y hy, e]) (thn (hi.run pins s σ H _ I h) fun xv sa hx => thn hx fun itv sb hb' => ?_)
  obtain ⟨it, fp, tn, J, Hb, e, Ib, T, stb, fb, q⟩ := hb'
  subst e
  refine newSet_ok (newEnv_comp ?_)
  obtain ⟨D, hD⟩ : ∃ D, sb.heap.objs.size = D := ⟨_, rfl⟩
  have hDn : Hb D = none := Ib.hok.fresh (Nat.le_of_eq hD)
  obtain ⟨W, ⟨m0, w0⟩, turn⟩ := q D hDn
  obtain ⟨sc, hsc⟩ : ∃ sc : Shared, ({ sb with heap := sb.heap.push { cls := .type "set", dict := none, data := .set #[] 0 (.fresh 0 0 (!X.w.params.followText "set-order")) } } : Shared) = sc := ⟨_, rfl⟩
  have hch : sc.heap = sb.heap.push { cls := .type "set", dict := none, data := .set #[] 0 (.fresh 0 0 (!X.w.params.followText "set-order")) } := by rw [← hsc]
  have Ic : Inv X pins σ (upd Hb D (SetX X.prog X.w D [])) sc := by
    rw [← hsc]
    refine Ib.laid (t' := sb.toks) (fun b o z => Heap.get?_push_of_some _ z) (Nat.le_of_eq hD) ?_
    rw [← hD]
    exact setX_new txAt_new
  have lt : ∀ b ∈ fp, b < sb.heap.objs.size := fun b hb => let ⟨o, z, _⟩ := T.obj _ _ stb b hb; Heap.lt_size z
  have fc : ∀ b ∈ fp, FpOk X pins (upd Hb D (SetX X.prog X.w D [])) b ∧ b < sc.heap.objs.size := fun b hb =>
    ⟨⟨by rw [upd_ne (by rw [← hD]; exact Nat.ne_of_lt (lt b hb))]; exact (fb b hb).1, (fb b hb).2⟩, by rw [hch, Heap.size_push]; exact Nat.lt_succ_of_lt (lt b hb)⟩
  have stc : tn 0 sc.heap := T.keep _ _ _ stb fun b _ o z => by rw [hch]; exact Heap.get?_push_of_some _ z
  have Id0 := block_start Ic ok hN fc
  rw [hD]
  have pg := hg sc (upd Hb D (SetX X.prog X.w D [])) sc.heap.objs.size (cellsFrom (sc.heap.objs.size + 1) scope.names (cloFrom X.env.cells scope.names [])) fp
  have pt := ht sc (upd Hb D (SetX X.prog X.w D [])) sc.heap.objs.size (cellsFrom (sc.heap.objs.size + 1) scope.names (cloFrom X.env.cells scope.names [])) fp
  have pb := hb sc (upd Hb D (SetX X.prog X.w D [])) sc.heap.objs.size (cellsFrom (sc.heap.objs.size + 1) scope.names (cloFrom X.env.cells scope.names [])) fp D
  rw [show ({ sb with heap := sb.heap.push { cls := .type "set", dict := none, data := .set #[] 0 (.fresh 0 0 (!X.w.params.followText "set-order")) } } : Shared) = sc from hsc]
  obtain ⟨ce, hce⟩ : ∃ ce, compEnvC scope (cellsFrom (sc.heap.objs.size + 1) scope.names (cloFrom X.env.cells scope.names [])) sc.heap.objs.size X.env = ce := ⟨_, rfl⟩
  have cL : ce.locals = sc.heap.objs.size := by rw [← hce] <;> rfl
  obtain ⟨Hc, hHc⟩ : ∃ Hc, upd Hb D (SetX X.prog X.w D []) = Hc := ⟨_, rfl⟩
  obtain ⟨sd, hsd⟩ : ∃ sd : Shared, ({ sc with heap := pushCells (sc.heap.push { cls := .type "dict", data := .dict #[] }) scope.names } : Shared) = sd := ⟨_, rfl⟩
  have kd : ∀ b o, sc.heap.get? b = some o → sd.heap.get? b = some o := fun b o z => by rw [← hsd]; exact pushCells_keeps _ _ _ _ (Heap.get?_push_of_some _ z)
  rw [hce] at Id0 pg pt pb
  rw [hHc] at Id0 pg pt pb w0 Ic fc
  rw [hsd] at Id0
  have std : tn 0 sd.heap := T.keep _ _ _ stc fun b _ o z => kd b o z
  have stat : ∀ {σ' : L2.St} {H' : Hp} {s' : Shared}, Inv (X.blk sc Hc scope ce fp) [] σ' H' s' → (∀ b ∈ fp, H' b = none) → ∀ b ∈ fp, FpOk (X.blk sc Hc scope ce fp) [] H' b := fun {σ' H' s'} I' hn b hb =>
    ⟨hn b hb, (I'.ok.exf b hb).1, I'.ok.exfs b hb, .inl hb, fun x c z => (I'.ok.exf b hb).2 x c z, fun p hp => absurd (show p ∈ ([] : List (Addr × Obj)) ++ [] from hp) (by simp)⟩
  have loop : codeAny (model X.prog X.w) X.A (.compLoop (.SetComp elt (⟨tg, iter, ifs, 0⟩ :: gs) scope cp) 0 (.ref it) (.ref D) ce) (compPost (model X.prog X.w) X.A X.xe none (EP X pins σ Q) (.ref D) sc.heap.objs.size) sd := by
    refine loop_gen (hturn it D ce) (fun n s' => ∃ i H', Inv (X.blk sc Hc scope ce fp) [] (wipe σ (own.map (·.2))) H' s' ∧ tn i s'.heap ∧ (∀ b ∈ fp, H' b = none) ∧ W i n H') ?_ m0 ⟨0, Hc, Id0, std, fun b hb => (fc b hb).1.1, w0⟩
    rintro n s5 ⟨i, H5, I5, st5, n5, w5⟩
    rcases turn i n H5 w5 with ⟨stop, qq⟩ | ⟨go, Nx, hNx, step⟩
    · refine thnF (T.done (X.blk sc Hc scope ce fp) rfl rfl rfl hc i [] s5 _ H5 NoE I5 (stat I5 n5) st5 stop) fun r s6 ⟨hr, I6⟩ => ?_
      subst hr
      have I7 : Inv X pins σ H5 s6 := Ic.call' (ch := fp) I6.os I6.base I6.hok I6.bare fun b hb => ⟨(fc b hb).1.2.2.2.1, (fc b hb).1.2.1, (fc b hb).1.2.2.2.2.1, (fc b hb).1.2.2.2.2.2⟩
      have nC : H5 sc.heap.objs.size = none := by
        have z : H5 ce.locals = none := I6.free
        rw [cL] at z
        exact z
      obtain ⟨m, hn, _⟩ := I6.loc
      have hn : s6.heap.Ns ce.locals m := hn
      rw [cL] at hn
      obtain ⟨f0, f1, f2, f3, f4, f5⟩ := Ic.fpOk (Nat.le_refl _) nC
      exact ⟨m, hn, fun h'' sb' => ⟨.ref D, H5, I7.turned (t' := s6.toks) (fun b o hb z => (sb'.2 b hb).trans z) f0 f1 f3 f4 f5, rfl, qq⟩⟩
    · refine thnF (T.item (X.blk sc Hc scope ce fp) rfl rfl rfl hc i [] s5 _ H5 NoE I5 (stat I5 n5) st5 go) fun r s6 ⟨u, hr, h6⟩ => ?_
      subst hr
      refine thnF h6 fun _ s7 ⟨x, H7, I7, r7, y7, st7, n7⟩ => ?_
      have J7 := I7.pinned (stat I7 n7) (T.obj _ _ st7)
      refine thnF (pg.run _ s7 _ H7 x u _ J7 r7 (step x H7 y7)) fun _ s8 ⟨σ8, H8, I8, hw8, q8⟩ => ?_
      refine thnF (pt.run _ s8 σ8 H8 _ I8 q8) fun b s9 ⟨H9, I9, q9⟩ => ?_
      have fin : ∀ {vs1 : List Nat} {s' : Shared} {H' : Hp}, (∀ i ∈ vs1, i ∈ own.map (·.2)) → Inv (X.blk sc Hc scope ce fp) ([] ++ pinsAt fp s7.heap) (wipe σ8 vs1) H' s' → Nx H' → ∃ m, m < n ∧ ∃ i H', Inv (X.blk sc Hc scope ce fp) [] (wipe σ (own.map (·.2))) H' s' ∧ tn i s'.heap ∧ (∀ b ∈ fp, H' b = none) ∧ W i m H' := fun {vs1 s' H'} hv I' nx => by
        obtain ⟨m', hm, w'⟩ := hNx H' nx
        have pin' : ∀ b ∈ fp, ∀ o, s7.heap.get? b = some o → s'.heap.get? b = some o ∧ H' b = none := fun b hb o z =>
          let k := I'.pin (b, o) (List.mem_append_right _ (List.mem_append_right _ (mem_pinsAt hb z)))
          ⟨k.1, k.2.1⟩
        refine ⟨m', hm, i + 1, H', (I'.unpinned (pins := [])).weak (by rw [← hw8, wipe_length, wipe_length]) (fun j v z => ?_), T.keep _ _ _ st7 fun b hb o z => (pin' b hb o z).1, fun b hb => ?_, w'⟩
        · rw [← hw8] at z
          obtain ⟨e1, e2⟩ := wipe_some z
          rw [wipe_out fun k => e2 (hv j k)]
          exact e1
        · obtain ⟨o, z, _⟩ := T.obj _ _ st7 b hb
          exact (pin' b hb o z).2
      cases b with
      | false =>
        simp only [Bool.false_eq_true, if_false] at q9 ⊢
        exact fin (vs1 := []) (fun i z => nomatch z) I9 q9
      | true =>
        simp only [if_true] at q9 ⊢
        exact thnF (pb.run _ s9 σ8 H9 _ I9 q9) fun _ s10 ⟨H10, I10, q10⟩ => fin sub I10 q10
  rw [← hce] at loop
  rw [← hsd] at loop
  exact codeAny_compStart_set loop (T.self X.A 0 _ _ _ (by rw [hsd]; exact std) loop)
end
/-! three clauses -/
section
variable {elt t0 i0 t1 i1 t2 i2 : Expr} {f0 f1 f2 : List Expr} {scope : Scope} {cp : Pos}
theorem start1 (acc : Value) (env : Env) : StartOk (.SetComp elt [⟨t0, i0, f0, 0⟩, ⟨t1, i1, f1, 0⟩, ⟨t2, i2, f2, 0⟩] scope cp) 1 acc env := by
  intro P w A R s it h0 h
  refine codeAny_of_tree ?_
  show wpAny _ _ ((compStart (.SetComp elt [⟨t0, i0, f0, 0⟩, ⟨t1, i1, f1, 0⟩, ⟨t2, i2, f2, 0⟩] scope cp) 1 it acc env).onRaise (fun x => do noteFrame x env; standAt theWindowsPlace)) _ _ s
  refine wpAny_notedAt ?_
  unfold compStart
  show wpAny _ _ (ask >>= _) _ _ s
  refine wpAny_bind (wpAny_askSetting (wpAny_ite ?_))
  split
  · first
      | exact wpAny_bind (wpAny_pure (wpAny_pure (And.intro rfl h0)))
      | exact wpAny_pure (And.intro rfl h0)
  · refine wpAny_bind (wpAny_rule ?_)
    show wpAny _ _ (standAt i1.pos >>= _) _ _ s
    exact wpAny_bind (wpAny_standAt (wpAny_bind (thn (h _) fun it' s' h' => wpAny_pure (And.intro rfl h'))))
theorem start2 (acc : Value) (env : Env) : StartOk (.SetComp elt [⟨t0, i0, f0, 0⟩, ⟨t1, i1, f1, 0⟩, ⟨t2, i2, f2, 0⟩] scope cp) 2 acc env := by
  intro P w A R s it h0 h
  refine codeAny_of_tree ?_
  show wpAny _ _ ((compStart (.SetComp elt [⟨t0, i0, f0, 0⟩, ⟨t1, i1, f1, 0⟩, ⟨t2, i2, f2, 0⟩] scope cp) 2 it acc env).onRaise (fun x => do noteFrame x env; standAt theWindowsPlace)) _ _ s
  refine wpAny_notedAt ?_
  unfold compStart
  show wpAny _ _ (ask >>= _) _ _ s
  refine wpAny_bind (wpAny_askSetting (wpAny_ite ?_))
  split
  · first
      | exact wpAny_bind (wpAny_pure (wpAny_pure (And.intro rfl h0)))
      | exact wpAny_pure (And.intro rfl h0)
  · refine wpAny_bind (wpAny_rule ?_)
    show wpAny _ _ (standAt i2.pos >>= _) _ _ s
    exact wpAny_bind (wpAny_standAt (wpAny_bind (thn (h _) fun it' s' h' => wpAny_pure (And.intro rfl h'))))
abbrev c3 (elt t0 i0 t1 i1 t2 i2 : Expr) (f0 f1 f2 : List Expr) (scope : Scope) (cp : Pos) : Expr := .SetComp elt [⟨t0, i0, f0, 0⟩, ⟨t1, i1, f1, 0⟩, ⟨t2, i2, f2, 0⟩] scope cp
abbrev bElt (elt : Expr) (D : Addr) (env : Env) : Sem Unit := do let v ← eval elt env; standAt elt.pos; let _ ← call (.builtin "set.add") [.ref D, v]
abbrev bNest (c : Expr) (j : Nat) (iter : Expr) (D : Addr) (env : Env) : Sem Unit := do let x ← eval iter env; standAt iter.pos; let x ← foldedSetIterable iter env x; let _ ← runOwn (.compStart c j (← holding [x] (pyIter x)) (.ref D) env) env
theorem turn3_0 (it D : Addr) (env : Env) : compTurn (c3 elt t0 i0 t1 i1 t2 i2 f0 f1 f2 scope cp) 0 (.ref it) (.ref D) env = turnOf t0 i0.pos f0 (bNest (c3 elt t0 i0 t1 i1 t2 i2 f0 f1 f2 scope cp) 1 i1 D env) (c3 elt t0 i0 t1 i1 t2 i2 f0 f1 f2 scope cp) 0 (.ref it) (.ref D) env := by
  have e : compTurn (c3 elt t0 i0 t1 i1 t2 i2 f0 f1 f2 scope cp) 0 (.ref it) (.ref D) env = (do
      standAt i0.pos
      match ← pyNext (.ref it) with
      | none => pure (.done .next)
      | some v =>
        letOwnedTupleGo t0 (.ref it) v
        assign t0 env v
        let mut ok := true
        for c in f0 do
          if ok then ok ← isTrue c env (eval c env)
        if ok then
          let x ← eval i1 env
          standAt i1.pos
          let x ← foldedSetIterable i1 env x
          let _ ← runOwn (.compStart (c3 elt t0 i0 t1 i1 t2 i2 f0 f1 f2 scope cp) 1 (← holding [x] (pyIter x)) (.ref D) env) env
        again (.compLoop (c3 elt t0 i0 t1 i1 t2 i2 f0 f1 f2 scope cp) 0 (.ref it) (.ref D) env)) := by rfl
  rw [e]
  unfold turnOf
  simp only [bind_assoc, pure_bind]
  all_goals rfl
theorem turn3_1 (it D : Addr) (env : Env) : compTurn (c3 elt t0 i0 t1 i1 t2 i2 f0 f1 f2 scope cp) 1 (.ref it) (.ref D) env = turnOf t1 i1.pos f1 (bNest (c3 elt t0 i0 t1 i1 t2 i2 f0 f1 f2 scope cp) 2 i2 D env) (c3 elt t0 i0 t1 i1 t2 i2 f0 f1 f2 scope cp) 1 (.ref it) (.ref D) env := by
  have e : compTurn (c3 elt t0 i0 t1 i1 t2 i2 f0 f1 f2 scope cp) 1 (.ref it) (.ref D) env = (do
      standAt i1.pos
      match ← pyNext (.ref it) with
      | none => pure (.done .next)
      | some v =>
        letOwnedTupleGo t1 (.ref it) v
        assign t1 env v
        let mut ok := true
        for c in f1 do
          if ok then ok ← isTrue c env (eval c env)
        if ok then
          let x ← eval i2 env
          standAt i2.pos
          let x ← foldedSetIterable i2 env x
          let _ ← runOwn (.compStart (c3 elt t0 i0 t1 i1 t2 i2 f0 f1 f2 scope cp) 2 (← holding [x] (pyIter x)) (.ref D) env) env
        again (.compLoop (c3 elt t0 i0 t1 i1 t2 i2 f0 f1 f2 scope cp) 1 (.ref it) (.ref D) env)) := by rfl
  rw [e]
  unfold turnOf
  simp only [bind_assoc, pure_bind]
  all_goals rfl
theorem turn3_2 (it D : Addr) (env : Env) : compTurn (c3 elt t0 i0 t1 i1 t2 i2 f0 f1 f2 scope cp) 2 (.ref it) (.ref D) env = turnOf t2 i2.pos f2 (bElt elt D env) (c3 elt t0 i0 t1 i1 t2 i2 f0 f1 f2 scope cp) 2 (.ref it) (.ref D) env := by rfl
end
section
variable {X : Cx} {elt t0 i0 t1 i1 t2 i2 : Expr} {f0 f1 f2 : List Expr} {scope : Scope} {own : List (PySem.Str × Nat)} {cp : Pos} {w0 w1 w2 : TI} {g0 g1 g2 : TG} {tt0 tt1 tt2 : TT} {te : TE} {vs1 vs2 : List Nat}
theorem pe_sc3 (hc : X.calm = true) (hN : X.N.Nodup) (hi : PI X t0 i0 w0) (ok : BlkOk X.N X.env.scope scope own) (h1 : ∀ i ∈ vs1, i ∈ own.map (·.2)) (h2 : ∀ i ∈ vs2, i ∈ vs1)
    (hg0 : ∀ (s : Shared) (H : Hp) (C : Addr) (cl : List (PySem.Str × Addr)) (fp : List Addr), PG (X.blk s H scope (compEnvC scope cl C X.env) fp) t0 g0)
    (ht0 : ∀ (s : Shared) (H : Hp) (C : Addr) (cl : List (PySem.Str × Addr)) (fp : List Addr), PTs (X.blk s H scope (compEnvC scope cl C X.env) fp) f0 tt0)
    (hi1 : ∀ (s : Shared) (H : Hp) (C : Addr) (cl : List (PySem.Str × Addr)) (fp : List Addr), PI (X.blk s H scope (compEnvC scope cl C X.env) fp) t1 i1 w1)
    (hg1 : ∀ (s : Shared) (H : Hp) (C : Addr) (cl : List (PySem.Str × Addr)) (fp : List Addr), PG (X.blk s H scope (compEnvC scope cl C X.env) fp) t1 g1)
    (ht1 : ∀ (s : Shared) (H : Hp) (C : Addr) (cl : List (PySem.Str × Addr)) (fp : List Addr), PTs (X.blk s H scope (compEnvC scope cl C X.env) fp) f1 tt1)
    (hi2 : ∀ (s : Shared) (H : Hp) (C : Addr) (cl : List (PySem.Str × Addr)) (fp : List Addr), PI (X.blk s H scope (compEnvC scope cl C X.env) fp) t2 i2 w2)
    (hg2 : ∀ (s : Shared) (H : Hp) (C : Addr) (cl : List (PySem.Str × Addr)) (fp : List Addr), PG (X.blk s H scope (compEnvC scope cl C X.env) fp) t2 g2)
    (ht2 : ∀ (s : Shared) (H : Hp) (C : Addr) (cl : List (PySem.Str × Addr)) (fp : List Addr), PTs (X.blk s H scope (compEnvC scope cl C X.env) fp) f2 tt2)
    (he : ∀ (s : Shared) (H : Hp) (C : Addr) (cl : List (PySem.Str × Addr)) (fp : List Addr), PE (X.blk s H scope (compEnvC scope cl C X.env) fp) elt te)
    (hs : ∀ x, foldedSetIterable i0 X.env x = pure x := by intro _; rfl) (hs1 : ∀ env x, foldedSetIterable i1 env x = pure x := by intro _ _; rfl) (hs2 : ∀ env x, foldedSetIterable i2 env x = pure x := by intro _ _; rfl) :
    PE X (c3 elt t0 i0 t1 i1 t2 i2 f0 f1 f2 scope cp) (tScN X.prog X.w w0 g0 tt0 (fun D => tNest w1 g1 tt1 (tNest w2 g2 tt2 (tElt X.prog X.w te D) vs2) vs1) (own.map (·.2))) :=
  pe_scN (gs := [⟨t1, i1, f1, 0⟩, ⟨t2, i2, f2, 0⟩]) (body := fun D env => bNest (c3 elt t0 i0 t1 i1 t2 i2 f0 f1 f2 scope cp) 1 i1 D env) hc hN hi ok h1 hg0 ht0
    (fun s H C cl fp D => pb_nest (ee := elt) (gs := [⟨t0, i0, f0, 0⟩, ⟨t1, i1, f1, 0⟩, ⟨t2, i2, f2, 0⟩]) (scope := scope) (cp := cp) (Y := X.blk s H scope (compEnvC scope cl C X.env) fp) h2 hc rfl (hi1 s H C cl fp) (hg1 s H C cl fp) (ht1 s H C cl fp)
      (pb_nest (ee := elt) (gs := [⟨t0, i0, f0, 0⟩, ⟨t1, i1, f1, 0⟩, ⟨t2, i2, f2, 0⟩]) (scope := scope) (cp := cp) (Y := X.blk s H scope (compEnvC scope cl C X.env) fp) (vs' := []) (fun i z => nomatch z) hc rfl (hi2 s H C cl fp) (hg2 s H C cl fp) (ht2 s H C cl fp)
        (pb_elt (Y := X.blk s H scope (compEnvC scope cl C X.env) fp) rfl (he s H C cl fp)) (hs2 _) (fun it => turn3_2 it D _) (start2 _ _))
      (hs1 _) (fun it => turn3_1 it D _) (start1 _ _))
    (fun it D env => turn3_0 it D env) hs
end
end Kx
/-! enumerate over a tuple -/
namespace PySem
open Sem (wp)
open AutoSeq1 (wpAny_loadPart')
theorem new_enumT (t : Addr) (its : Array Value) (n : Nat) (dd : Option Addr) (sl : Array (Option Value)) : Meets (Builtin.«enumerate.__new__» ⟨[.type "enumerate", .ref t], []⟩)
    (fun _ R s => s.heap.get? t = some { cls := .type "tuple", dict := dd, data := .seq its n, slots := sl } ∧ R (.ok (.ret (.ref (s.heap.push { cls := .type "tuple_iterator", data := .fields #[.ref t, .int 0 0] }).objs.size)))
      { s with heap := (s.heap.push { cls := .type "tuple_iterator", data := .fields #[.ref t, .int 0 0] }).push { cls := .type "enumerate", data := .fields #[.none, .bool false, .ref s.heap.objs.size, rawInt 0, .none, .none] } }) :=
  .of_wp fun P w A R s h => by
    obtain ⟨hp, g, d, k, os⟩ := s
    obtain ⟨ht, h⟩ := h
    have hs := sub_enumerate
    have hT : Heap.IsTuple (Shared.heap ⟨hp, g, d, k, os⟩) t its := ⟨_, ht, rfl, n, rfl⟩
    wp_walk using wpAny_loadPart' ht
    refine wpAny_stack_any fun st => wpAny_pure ?_
    split
    · rename_i c _ _ _ _ _
      cases (c == Value.type "enumerate") <;>
        (wp_walk using wpAny_loadPart' ht, wpAny_pyIter_tuple hT; exact ⟨_, rfl, h⟩)
    · wp_walk using wpAny_loadPart' ht, wpAny_pyIter_tuple hT
      exact ⟨_, rfl, h⟩
section
variable {P : Program} {w : World} {A : Around} {E : Value → Shared → Prop} {s : Shared}
theorem call_enumT {t : Addr} {its : Array Value} {Q : Value → Shared → Prop} (hT : s.heap.IsTuple t its)
    (h : ∀ h' : Heap, IsEnum h' (s.heap.objs.size + 1) s.heap.objs.size 0 .none → h'.IsTupleIter s.heap.objs.size t 0 → h'.objs.size = s.heap.objs.size + 2 → (∀ b o, s.heap.get? b = some o → h'.get? b = some o) → Q (.ref (s.heap.objs.size + 1)) { s with heap := h' }) :
    wpAny (model P w) A (call (.type "enumerate") [.ref t]) Q E s := by
  obtain ⟨⟨c, dd, dt, sl⟩, ht, hc, n, hd⟩ := hT
  have hc' : c = .type "tuple" := hc
  have hd' : dt = .seq its n := hd
  subst hc' hd'
  refine callType_new F.called_enumerate (by decide) (F.typeCall_enumerate_1 _) (F.newCall_enumerate_1 _) (fun obj => F.args_object_init_2 obj _) F.entry_enumerate_new (new_enumT t its n dd sl) ⟨ht, ?_⟩
  obtain ⟨h1, e1⟩ : ∃ h1, s.heap.push { cls := .type "tuple_iterator", data := .fields #[.ref t, .int 0 0] } = h1 := ⟨_, rfl⟩
  have z1 : h1.objs.size = s.heap.objs.size + 1 := by rw [← e1]; exact Heap.size_push ..
  have i1 : h1.get? s.heap.objs.size = some { cls := .type "tuple_iterator", data := .fields #[.ref t, .int 0 0] } := by rw [← e1]; exact Heap.get?_push_size _ rfl
  have k1 : ∀ b o, s.heap.get? b = some o → h1.get? b = some o := fun b o z => by rw [← e1]; exact Heap.get?_push_of_some _ z
  rw [e1]
  have g2 := Heap.get?_push_size h1 (o := { cls := .type "enumerate", data := .fields #[.none, .bool false, .ref s.heap.objs.size, rawInt 0, .none, .none] }) rfl
  rw [z1] at g2
  show _ ∧ _
  rw [z1]
  exact ⟨⟨_, g2, rfl⟩, h _ g2 ⟨_, Heap.get?_push_of_some _ i1, rfl, rfl⟩ (by rw [Heap.size_push, z1]) fun b o z => Heap.get?_push_of_some _ (k1 b o z)⟩
end
end PySem
namespace Kx
open PySem L2 PySem.Spec PyProof.Rows
/-- the tuple at a, each item in a new pair with its number -/
def IteT (K : PySem.W.Frag) (a : Addr) : It :=
  ⟨fun i H => ∃ (xs : List V) (x : V), SqT K H a xs ∧ xs[i]? = some x, fun i H v H' => ∃ T x, v = .ref T ∧ H T = none ∧ H' = upd H T (.tup [.int (i : Nat), x]) ∧ ∀ xs, SqT K H a xs → xs[i]? = some x, fun i H => ∃ xs : List V, SqT K H a xs ∧ xs.length ≤ i⟩
theorem turn_enumT {P : Program} {w : World} {K : PySem.W.Frag} {elts : List Expr} {kk : Nat} {tpos : Pos} (a e it : Addr) :
    Turn P w K (.Tuple elts kk tpos) (IteT K a) [e, it] e (fun i h => (∃ old, IsEnum h e it ((i : Nat) : Int) old) ∧ h.IsTupleIter it a i ∧ e ≠ it ∧ a ≠ it ∧ a ≠ e) where
  mem := by simp
  obj := fun i h st b hb => by
    obtain ⟨⟨old, he⟩, ⟨o, ho, hc, hd⟩, _⟩ := st
    rcases (show b = e ∨ b = it by simpa using hb) with z | z
    · rw [z]; exact ⟨_, he, fun v q => nomatch q⟩
    · rw [z]; exact ⟨o, ho, fun v q => by rw [hd] at q; cases q⟩
  keep := fun i h h' st k => let ⟨⟨old, he⟩, hi, hn⟩ := st; ⟨⟨old, k e (by simp) _ he⟩, hi.at fun o q => k it (by simp) o q, hn⟩
  item := by
    intro X hP hw hK hc i pins s σ H E I hf st hg
    subst hP hw hK
    obtain ⟨⟨old, he⟩, hit, hne, n1, n2⟩ := st
    obtain ⟨xs, x, hq, hx⟩ := hg
    obtain ⟨its, rv, p, hz⟩ := I.tuple hq
    obtain ⟨u, hu, ru⟩ := rv.get hx
    have hT : s.heap.IsTuple a its.toArray := p
    have hu' : its.toArray[i]? = some u := by simpa using hu
    have hlt : i < its.toArray.size := (Array.getElem?_eq_some_iff.mp hu').1
    have hel : e < s.heap.objs.size := Heap.lt_size he
    have hil : it < s.heap.objs.size := by obtain ⟨_, q, _⟩ := hit; exact Heap.lt_size q
    have ni : it ≠ a := fun z => n1 z.symm
    refine wpAny_pyNext_enum_itemD (Draws.tuple (A := X.A.in1) (I.ok.hd hc) it a n1 its.toArray) he ⟨hit, hT⟩ hlt hne (by simp [hne, Ne.symm n2]) fun y h' tk hy ho hit' hTn hsz hk => ?_
    have ey : y = u := Option.some.inj ((show its.toArray[i]? = some y from hy).symm.trans hu')
    subst ey
    refine ⟨_, rfl, wpAny_letOwnedTupleGo_enum (s := { s with heap := h', toks := tk + 1 }) ho fun h2 he2 sb => ?_⟩
    have hT2 : h2.get? s.heap.objs.size = some { cls := .type "tuple", data := .seq #[.int i tk, y] } := (sb.2 _ (Nat.ne_of_gt hel)).trans hTn
    have new : ObjOk X.prog X.w (upd H s.heap.objs.size (.tup [.int (i : Nat), x])) h2 s.heap.objs.size (.tup [.int (i : Nat), x]) :=
      ⟨by show 2 ≤ sizeLine; decide, [.int i tk, y], .cons ⟨_, rfl⟩ (.cons ru .nil), ⟨_, hT2, rfl, _, rfl⟩⟩
    have I1 : Inv X pins σ (upd H s.heap.objs.size (.tup [.int (i : Nat), x])) { s with heap := h2, toks := tk + 1 } :=
      I.turnedNew (ch := [e, it]) (fun b ob hb q => (sb.2 b (fun z => hb (by simp [z]))).trans (hk b ob (fun z => hb (by simp [z])) (fun z => hb (by simp [z])) q)) hf (Nat.le_refl _) new
    have lt2 : ∀ b ∈ [e, it], b < s.heap.objs.size := fun b hb => by
      rcases (show b = e ∨ b = it by simpa using hb) with z | z
      · rw [z]; exact hel
      · rw [z]; exact hil
    refine ⟨.ref s.heap.objs.size, _, I1, rfl, ⟨_, x, rfl, I.hok.fresh (Nat.le_refl _), rfl, fun ys hy' => by rw [I.tuple_inj hy' hq]; exact hx⟩, ⟨⟨y, ?_⟩, hit'.1.at fun o q => (sb.2 it (Ne.symm hne)).trans q, hne, n1, n2⟩, fun b hb => ?_⟩
    · rw [show ((i + 1 : Nat) : Int) = (i : Int) + 1 from by omega]
      exact he2
    · rw [upd_ne (Nat.ne_of_lt (lt2 b hb))]
      exact (hf b hb).1
  done := by
    intro X hP hw hK hc i pins s σ H E I hf st hg
    subst hP hw hK
    obtain ⟨⟨old, he⟩, hit, hne, n1, n2⟩ := st
    obtain ⟨xs, hq, hx⟩ := hg
    obtain ⟨its, rv, p, hz⟩ := I.tuple hq
    obtain ⟨f0, f1, f2, f3, f4, f5⟩ := hf it (by simp)
    have hl := rv.length
    have hT : s.heap.IsTuple a its.toArray := p
    unfold pyNext
    have hTy : s.TypeIs (.ref e) "enumerate" := ⟨_, he, rfl⟩
    refine wpAny_bind (wpAny_attempt (wpAny_callSpecial?_slot (name := Str.ofString "__next__") hTy F.slot_enumerate_next
      (wpAny_call_entry F.slot_enumerate_next hTy F.entry_enumerate_next ?_ (F.args_enumerate_next_1 _))))
    show wpAny _ _ (field (.ref e) 2 >>= fun r => Builtin.SmallTypes.nextOf r >>= _) _ _ _
    refine wpAny_bind (wpAny_field he rfl (x := .ref it) rfl ?_)
    refine wpAny_bind (wpAny_nextOf_tuple_end (I.ok.hd hc) hit hT (Array.getElem?_eq_none (by simp; omega)) fun h' x e1 e2 => ?_)
    obtain ⟨o, ho, hco⟩ := e2
    refine wpAny_bind (wpAny_isInstance (T := "StopIteration") (b := true) ⟨o, ho, hco⟩ isSubtype_stop ?_)
    exact wpAny_pure ⟨rfl, I.turned (t' := s.toks) (fun b o hb q => e1 b o hb q) f0 f1 f3 f4 f5⟩
  self := fun A i s Q E st h => let ⟨⟨_, he⟩, _⟩ := st; wpAny_pyIter_enum he h
def iEnumT (K : PySem.W.Frag) (ta : TA) : TI := fun σ H R => ta σ H fun vs H1 => ∃ a xs, vs = [.ref a] ∧ SqT K H1 a xs ∧ R (IteT K a) H1
theorem pi_enumT {X : Cx} {e : Expr} {ta : TA} {p pos tpos : Pos} {elts : List Expr} {kk : Nat} (hg : Gl X "enumerate") (hm : X.mg "enumerate" = none) (ha : PA X [e] ta) (hs : starEach [e] X.env = [(false, eval e X.env)] := by rfl) :
    PI X (.Tuple elts kk tpos) (.Call (.Name "enumerate" p) [e] [] pos) (iEnumT X.K ta) := by
  refine ⟨fun pins s σ H R I h => ?_⟩
  refine Call_ (ld_blt I hg hm boot_enumerate (PyProof.Rows.callWith_type1 (thn (ha.run pos pins s σ H _ I h) fun us s1 ⟨vs, H1, I1, r1, a, xs, ex, hq, q⟩ => ?_) hs rfl))
  subst ex
  cases r1 with
  | cons r rr =>
    cases rr
    cases r
    obtain ⟨its, rv, p', hz⟩ := I1.tuple hq
    have hT : s1.heap.IsTuple a its.toArray := p'
    have hlt : a < s1.heap.objs.size := by obtain ⟨_, z, _⟩ := hT; exact Heap.lt_size z
    refine call_enumT hT fun h' he hit hsz hk => wpAny_pyIter_enum he ?_
    have I2 : Inv X pins σ H1 { s1 with heap := h' } := I1.kept (t' := s1.toks) hk
    refine ⟨s1.heap.objs.size + 1, [s1.heap.objs.size + 1, s1.heap.objs.size], _, _, H1, rfl, I2, turn_enumT a (s1.heap.objs.size + 1) s1.heap.objs.size, ⟨⟨.none, he⟩, hit, Nat.succ_ne_self _, Nat.ne_of_lt hlt, Nat.ne_of_lt (Nat.lt_succ_of_lt hlt)⟩, fun b hb => ?_, q⟩
    have hle : s1.heap.objs.size ≤ b := by
      rcases (show b = s1.heap.objs.size + 1 ∨ b = s1.heap.objs.size by simpa using hb) with z | z
      · rw [z]; exact Nat.le_add_right _ _
      · rw [z]; exact Nat.le_refl _
    exact I1.fpOk hle (I1.hok.fresh hle)
/-- over a tuple that the body leaves as it is -/
theorem for_enumT {K : PySem.W.Frag} {a : Addr} {xs : List V} {g : TG} {tb : TS} {D : Ends} {σ : L2.St} {H : Hp} (Pv : Nat → L2.St → Hp → Prop) (h0 : Pv 0 σ H) (hl : ∀ i σ H, i ≤ xs.length → Pv i σ H → SqT K H a xs)
    (hs : ∀ i x σ H T, xs[i]? = some x → Pv i σ H → H T = none → g (.ref T) σ (upd H T (.tup [.int (i : Nat), x])) fun σ2 H2 => tb { D with nx := Pv (i + 1), ct := Pv (i + 1), bk := D.nx } σ2 H2) (hd : ∀ σ H, Pv xs.length σ H → D.nx σ H) :
    ∃ W : Nat → Nat → L2.St → Hp → Prop, (∃ m, W 0 m σ H) ∧ ∀ i m σ H, W i m σ H →
      ((IteT K a).stop i H ∧ D.nx σ H) ∨ ((IteT K a).go i H ∧ ∃ N : L2.St → Hp → Prop, (∀ σ' H', N σ' H' → ∃ m', m' < m ∧ W (i + 1) m' σ' H') ∧ ∀ x H', (IteT K a).yld i H x H' → g x σ H' fun σ2 H2 => tb { D with nx := N, ct := N, bk := D.nx } σ2 H2) := by
  refine ⟨fun i m σ H => m = xs.length - i ∧ i ≤ xs.length ∧ Pv i σ H, ⟨xs.length, by simp, Nat.zero_le _, h0⟩, ?_⟩
  rintro i m σ H ⟨rfl, hi, p⟩
  have q := hl i σ H hi p
  rcases Nat.lt_or_eq_of_le hi with hlt | e
  · refine .inr ⟨⟨xs, xs[i], q, by simp [hlt]⟩, Pv (i + 1), fun σ' H' p' => ⟨xs.length - (i + 1), by omega, rfl, hlt, p'⟩, fun v H' ⟨T, x, ev, hT, eH, hx⟩ => ?_⟩
    subst ev eH
    exact hs i x σ H T (hx xs q) p hT
  · subst e
    exact .inl ⟨⟨xs, q, Nat.le_refl _⟩, hd σ H p⟩
end Kx
namespace Kx
open PySem L2 PySem.Spec PyProof.Rows
def top (i : Nat) : Stmt := PySem.Challenge.pw_contractheirs_k01_conditions_made.main.body.getD i (.Pass ⟨0, 0, 0, 0⟩)
abbrev sIsInt : Stmt := top 8
abbrev sIsWord : Stmt := top 9
abbrev sIsTerm : Stmt := top 10
abbrev sIsLit : Stmt := top 11
abbrev sLitT : Stmt := top 12
abbrev sIsCl : Stmt := top 13
abbrev sStand : Stmt := top 17
abbrev sFirst : Stmt := top 18
/-! words, terms, literals, clauses -/
def lets : Str := "abcdefghijklmnopqrstuvwxyz"
def isWord (t : Str) : Bool := decide (1 ≤ t.length ∧ t.length ≤ 8) && t.cps.toList.all fun c => decide (c ∈ lets.cps.toList)
def isTerm (t : Str) : Bool := decide (t = "") || (decide ((Txt.split t ".").length ≤ 2) && (Txt.split t ".").all isWord)
structure Short (t : Str) : Prop where
  l : t.length ≤ 1000
  n : (Txt.split t ".").length ≤ 1000
  e : ∀ x ∈ Txt.split t ".", x.length ≤ 1000
structure Bx (mg : Str → Option Value) : Prop where
  isi : mg "isinstance" = none
  int : mg "int" = none
  bool : mg "bool" = none
  str : mg "str" = none
  tuple : mg "tuple" = none
  len : mg "len" = none
  all : mg "all" = none
  sorted : mg "sorted" = none
  enum : mg "enumerate" = none
  lets : ∃ t, mg "LETTERS" = some (.str lets t)
  longest : ∃ t, mg "LONGEST_WORD" = some (.int 8 t)
structure Fs (K : PySem.W.Frag) (mg : Str → Option Value) (x : Str) (st : Stmt) (ps : List Str) (f : Addr) (fd : FuncData) : Prop where
  F : Fun K x x st f fd
  b : Binds K fd ps []
  m : mg x = some (.ref f)
theorem yes_of {σ : L2.St} {H : Hp} {A B : Hp → Prop} (h : A H) : tYes σ H fun b H3 => if b = true then A H3 else B H3 := by
  show (if true = true then A H else B H)
  rw [if_pos rfl]
  exact h
theorem new_same {H : Hp} {D : Addr} {o : HO} (hD : H D = none) : Same H (upd H D o) := fun b u e => by
  have hb : b ≠ D := fun z => by
    rw [z, hD] at e
    cases e
  rw [upd_ne hb]
  exact e
/-- what is told at a new address stays told of what was there -/
theorem same_upd {H H2 : Hp} {D : Addr} {o : HO} (hD : H D = none) (s2 : Same H H2) : Same H (upd H2 D o) := fun b u e => by
  have hb : b ≠ D := fun z => by
    rw [z, hD] at e
    cases e
  rw [upd_ne hb]
  exact s2 b u e
theorem tyT {K : PySem.W.Frag} {H : Hp} {a : Addr} {xs : List V} (h : SqT K H a xs) : TyX K H (.ref a) (.type "tuple") := by
  rcases h with (h | ⟨o, h⟩) | ⟨o, its, n, hk, hc, _⟩
  · exact .base (.tup h)
  · exact .fTuple h
  · exact .kTuple hk hc
theorem SqT.same {K : PySem.W.Frag} {H H' : Hp} {a : Addr} {xs : List V} (s : Same H H') (h : SqT K H a xs) : SqT K H' a xs := by
  rcases h with (h | ⟨o, h⟩) | h
  · exact .inl (.inl (s _ _ h))
  · exact .inl (.inr ⟨o, s _ _ h⟩)
  · exact .inr h
def spIsInt : Sp := fun vs H Q _ => ∃ n : Int, vs = [.int n] ∧ Q (.bl true) H
def spIsWord : Sp := fun vs H Q _ => ∃ t : Str, vs = [.str t] ∧ t.length ≤ 1000 ∧ ∀ H', Same H H' → Q (.bl (isWord t)) H'
def spIsTerm : Sp := fun vs H Q _ => ∃ t : Str, vs = [.str t] ∧ Short t ∧ ∀ H', Same H H' → Q (.bl (isTerm t)) H'
abbrev Lit := Str × Str × Int
def IsLit (K : PySem.W.Frag) (H : Hp) (x : V) (l : Lit) : Prop := ∃ a, x = .ref a ∧ SqT K H a [.str l.1, .str l.2.1, .int l.2.2]
def spIsLit (K : PySem.W.Frag) : Sp := fun vs H Q _ => ∃ (x : V) (l : Lit), vs = [x] ∧ IsLit K H x l ∧ Q (.bl true) H
theorem IsLit.same {K : PySem.W.Frag} {H H' : Hp} {x : V} {l : Lit} (s : Same H H') (h : IsLit K H x l) : IsLit K H' x l := let ⟨a, e, q⟩ := h; ⟨a, e, SqT.same s q⟩
section
variable {P : Program} {w : World} {K : PySem.W.Frag} {mg : Str → Option Value} {base : Heap}
theorem scInt : FnScope ["thing"] ["thing"] (defScope sIsInt) := ⟨rfl, rfl, rfl, by decide +kernel, rfl, by decide +kernel, by decide +kernel⟩
theorem ok_isint {f : Addr} {fd : FuncData} (F : Fs K mg "is_integer" sIsInt ["thing"] f fd) (T : Bx mg) : FnOk P w K mg base CX0 1 f fd ["thing"] spIsInt := by
  refine F.F.ok scInt (fun vs H Q E h => ?_) (fun cdv A outer s H vs Q E hr h => ?_)
  · obtain ⟨n, rfl, _⟩ := h
    rfl
  · obtain ⟨n, rfl, q⟩ := h
    refine ⟨_, pss_one (ps_ret (pe_and (pe_callB call_isi (by rfl) T.isi boot_isinstance (pa_cons (pv 0) (pa_cons (pe_bltn (v := .ty "int") (by rfl) T.int (by decide +kernel) rfl) pa_nil)))
      (pe_one (pe_not (pe_callB call_isi (by rfl) T.isi boot_isinstance (pa_cons (pv 0) (pa_cons (pe_bltn (v := .ty "bool") (by rfl) T.bool (by decide +kernel) rfl) pa_nil))))))), ?_⟩
    refine ⟨_, rfl, .int n, .ty "int", _, _, true, rfl, .ty _, .base (.int n), kit_ty (by decide +kernel), true, rfl, iteT ?_⟩
    exact ⟨_, rfl, .int n, .ty "bool", _, _, false, rfl, .ty _, .base (.int n), kit_ty (by decide +kernel), false, rfl, q⟩
theorem scWord : FnScope ["thing", "letter"] ["thing"] (defScope sIsWord) := ⟨rfl, rfl, rfl, by decide +kernel, rfl, by decide +kernel, by decide +kernel⟩
theorem ok_isword {f : Addr} {fd : FuncData} (F : Fs K mg "is_word" sIsWord ["thing"] f fd) (T : Bx mg) : FnOk P w K mg base CX0 1 f fd ["thing"] spIsWord := by
  obtain ⟨tl, hL⟩ := T.lets
  obtain ⟨tw, hW⟩ := T.longest
  refine F.F.ok scWord (fun vs H Q E h => ?_) (fun cdv A outer s H vs Q E hr h => ?_)
  · obtain ⟨t, rfl, _⟩ := h
    rfl
  · obtain ⟨t, rfl, hs, q⟩ := h
    refine ⟨_, pss_cons (ps_if (PW.pt (pw_or (pt_not (pt_val (pe_callB call_isi (by rfl) T.isi boot_isinstance (pa_cons (pv 0) (pa_cons (pe_bltn (v := .ty "str") (by rfl) T.str (by decide +kernel) rfl) pa_nil)))))
        (pw_or1 (pt_not (pt_chain op_le op_le pe_int (pe_callB call_len_str (by rfl) T.len PySem.boot_len (pa_cons (pv 0) pa_nil)) (pe_glob (v := .int 8) (by rfl) hW ⟨_, rfl⟩)))))) (pss_one (ps_ret pe_bl)) pss_nil)
      (pss_one (ps_ret (pe_callB (cr_all rfl) (by rfl) T.all (by decide +kernel) (pa_cons
        (pe_lc (own := [("letter", 1)]) (g := gName 1) (tt := tYes) rfl scWord.nd (pi_str (pv 0)) (blkOk_by (N := ["thing", "letter"]) (sc := defScope sIsWord) (by decide +kernel))
          (fun _ _ _ _ _ => pg_name (i := 1) scWord.nd rfl (Or.inl rfl)) (fun _ _ _ _ _ => pts_nil) (fun _ _ _ _ _ => pe_cmpR op_in_sign (pv 1) (pe_glob (v := .str lets) (by rfl) hL ⟨_, rfl⟩) (by with_unfolding_all rfl))) pa_nil)))), ?_⟩
    have hz : t.length ≤ sizeLine := Nat.le_of_lt (small1000 hs)
    refine ⟨_, rfl, .str t, .ty "str", _, _, true, rfl, .ty _, .base (.str t), kit_ty (by decide +kernel), true, rfl, iteF ?_⟩
    refine ⟨_, rfl, t, rfl, hz, _, _, rfl, rfl, _, rfl, ?_⟩
    by_cases h1 : (1 : Int) ≤ (t.length : Int)
    case neg =>
      rw [decide_eq_false h1]
      have e : isWord t = false := by
        unfold isWord
        rw [decide_eq_false (by omega), Bool.false_and]
      refine iteF ⟨_, rfl, iteT ?_⟩
      have q' := q H fun _ _ z => z
      rw [e] at q'
      exact q'
    case pos =>
    rw [decide_eq_true h1]
    refine iteT ⟨_, _, rfl, rfl, _, rfl, ?_⟩
    by_cases h2 : (t.length : Int) ≤ 8
    case neg =>
      rw [decide_eq_false h2]
      have e : isWord t = false := by
        unfold isWord
        rw [decide_eq_false (by omega), Bool.false_and]
      refine iteT ?_
      have q' := q H fun _ _ z => z
      rw [e] at q'
      exact q'
    case pos =>
    rw [decide_eq_true h2]
    refine iteF ?_
    refine ⟨_, rfl, t, rfl, fun D hD => ?_⟩
    refine lc_it walk_str (fun i H2 => Same H H2 ∧ H2 D = some (.lst ((t.cps.toList.take i).map fun c => .bl (decide (c ∈ lets.cps.toList))))) ⟨new_same hD, upd_same⟩ (fun _ _ _ _ => trivial) ?_ ?_
    · rintro i x H2 H3 hi ⟨s2, g⟩ ⟨rfl, c, hc, rfl⟩
      refine ⟨rfl, yes_of ?_⟩
      have hc' : t.cps.toList[i]? = some c := by rw [Array.getElem?_toList]; exact hc
      refine ⟨_, rfl, c, lets, rfl, rfl, _, g, small1000 (by rw [List.length_map, List.length_take]; have e : t.length = t.cps.toList.length := Array.length_toList.symm; omega), same_upd hD s2, ?_⟩
      · rw [upd_same, List.take_add_one, hc', List.map_append]
        rfl
    · rintro H2 ⟨s2, g⟩
      refine ⟨D, t.cps.toList.map fun c => decide (c ∈ lets.cps.toList), rfl, SqL.of ?_, ?_⟩
      · rw [g, List.take_of_length_le (by rw [Array.length_toList]; exact Nat.le_refl _), List.map_map]
        rfl
      · have e : isWord t = (t.cps.toList.map fun c => decide (c ∈ lets.cps.toList)).all id := by
          unfold isWord
          rw [decide_eq_true (by omega), Bool.true_and, List.all_map]
          rfl
        rw [← e]
        exact q H2 s2
theorem scTerm : FnScope ["thing", "words", "word"] ["thing"] (defScope sIsTerm) := ⟨rfl, rfl, rfl, by decide +kernel, rfl, by decide +kernel, by decide +kernel⟩
theorem ok_isterm {f g : Addr} {fd fdW : FuncData} (F : Fs K mg "is_term" sIsTerm ["thing"] f fd) (W : Fs K mg "is_word" sIsWord ["thing"] g fdW) (T : Bx mg) : FnOk P w K mg base CX0 2 f fd ["thing"] spIsTerm := by
  have GW : FnOk P w K mg base CX0 1 g fdW ["thing"] spIsWord := ok_isword W T
  refine F.F.ok scTerm (fun vs H Q E h => ?_) (fun cdv A outer s H vs Q E hr h => ?_)
  · obtain ⟨t, rfl, _⟩ := h
    rfl
  · obtain ⟨t, rfl, hs, q⟩ := h
    refine ⟨_, pss_cons (ps_if (pt_not (pt_val (pe_callB call_isi (by rfl) T.isi boot_isinstance (pa_cons (pv 0) (pa_cons (pe_bltn (v := .ty "str") (by rfl) T.str (by decide +kernel) rfl) pa_nil))))) (pss_one (ps_ret pe_bl)) pss_nil)
      (pss_cons (ps_if (pt_cmpR op_eq (pv 0) pe_str (nomark _)) (pss_one (ps_ret pe_bl)) pss_nil)
      (pss_cons (ps_set (i := 1) scTerm.nd rfl (Or.inl rfl) (pe_split (pv 0) pe_str))
      (pss_one (ps_ret (pe_and (pe_cmpR op_le (pe_callB call_len_seq (by rfl) T.len PySem.boot_len (pa_cons (pv 1) pa_nil)) pe_int (nomark _))
        (pe_one (pe_callB (cr_all rfl) (by rfl) T.all (by decide +kernel) (pa_cons
          (pe_lc (own := [("word", 2)]) (g := gName 2) (tt := tYes) rfl scTerm.nd (pi_list (pv 1)) (blkOk_by (N := ["thing", "words", "word"]) (sc := defScope sIsTerm) (by decide +kernel))
            (fun _ _ _ _ _ => pg_name (i := 2) scTerm.nd rfl (Or.inl rfl)) (fun _ _ _ _ _ => pts_nil)
            (fun _ _ _ _ _ => pe_call GW hr rfl W.m W.F.kp W.b .nil pass0 (pa_cons (pv 2) pa_nil))) pa_nil)))))))), ?_⟩
    refine ⟨_, rfl, .str t, .ty "str", _, _, true, rfl, .ty _, .base (.str t), kit_ty (by decide +kernel), true, rfl, iteF ?_⟩
    refine ⟨_, rfl, rfl, _, rfl, ?_⟩
    by_cases ht : t = ""
    case pos =>
      have e : decide (V.str t = V.str "") = true := by rw [ht]; exact decide_eq_true rfl
      rw [e]
      refine iteT ?_
      have e : isTerm t = true := by
        unfold isTerm
        rw [decide_eq_true ht, Bool.true_or]
      have q' := q H fun _ _ z => z
      rw [e] at q'
      exact q'
    case neg =>
    have e : decide (V.str t = V.str "") = false := decide_eq_false fun z => ht (V.str.inj z)
    rw [e]
    refine iteF ?_
    have e0 : isTerm t = (decide ((Txt.split t ".").length ≤ 2) && (Txt.split t ".").all isWord) := by
      unfold isTerm
      rw [decide_eq_false ht, Bool.false_or]
    rw [e0] at q
    refine ⟨_, rfl, ⟨t, rfl⟩, t, ".", rfl, rfl, (by decide), (by have := hs.l; rw [sizeLine_eq]; omega), fun p hp => ?_⟩
    have gp : (upd H p (.lst ((Txt.split t ".").map V.str))) p = some (.lst ((Txt.split t ".").map V.str)) := upd_same
    refine ⟨_, rfl, p, _, rfl, .inl (SqL.of gp), _, _, rfl, rfl, _, rfl, ?_⟩
    rw [List.length_map]
    by_cases h2 : ((Txt.split t ".").length : Int) ≤ 2
    case neg =>
      rw [decide_eq_false (by omega), Bool.false_and] at q
      rw [decide_eq_false h2]
      exact iteF (q _ (new_same hp))
    case pos =>
    rw [decide_eq_true (by omega), Bool.true_and] at q
    rw [decide_eq_true h2]
    refine iteT ⟨_, rfl, p, rfl, ⟨_, SqL.of gp⟩, fun D hD => ?_⟩
    have nD : p ≠ D := fun z => by
      rw [← z, gp] at hD
      cases hD
    refine lc_it (walk_list (xs := (Txt.split t ".").map V.str)) (fun i H2 => Same (upd H p (.lst ((Txt.split t ".").map V.str))) H2 ∧ H2 D = some (.lst (((Txt.split t ".").take i).map fun x => .bl (isWord x)))) ⟨new_same hD, upd_same⟩ (fun i H2 _ h => SqL.of (h.1 _ _ gp)) ?_ ?_
    · rintro i x H2 H3 hi ⟨s2, gD⟩ ⟨rfl, hx⟩
      rw [List.getElem?_map] at hx
      obtain ⟨z, hz, rfl⟩ := Option.map_eq_some_iff.mp hx
      refine ⟨rfl, yes_of ⟨_, rfl, z, rfl, hs.e z (List.mem_of_getElem? hz), fun H4 s4 => ⟨_, s4 _ _ gD, small1000 (by rw [List.length_map, List.length_take]; have := hs.n; omega), same_upd hD (fun b u e => s4 _ _ (s2 _ _ e)), ?_⟩⟩⟩
      rw [upd_same, List.take_add_one, hz, List.map_append]
      rfl
    · rintro H2 ⟨s2, gD⟩
      refine ⟨D, (Txt.split t ".").map isWord, rfl, SqL.of ?_, ?_⟩
      · rw [gD, List.take_of_length_le (by rw [List.length_map]; exact Nat.le_refl _), List.map_map]
        rfl
      · have e : (Txt.split t ".").all isWord = ((Txt.split t ".").map isWord).all id := by
          rw [List.all_map]
          rfl
        rw [← e]
        exact q H2 fun b u z => s2 _ _ (new_same hp b u z)
theorem scLit : FnScope ["thing", "left", "right", "number"] ["thing"] (defScope sIsLit) := ⟨rfl, rfl, rfl, by decide +kernel, rfl, by decide +kernel, by decide +kernel⟩
theorem ok_islit {f g : Addr} {fd fdI : FuncData} (F : Fs K mg "is_literal" sIsLit ["thing"] f fd) (W : Fs K mg "is_integer" sIsInt ["thing"] g fdI) (T : Bx mg) : FnOk P w K mg base CX0 2 f fd ["thing"] (spIsLit K) := by
  have GI : FnOk P w K mg base CX0 1 g fdI ["thing"] spIsInt := ok_isint W T
  refine F.F.ok scLit (fun vs H Q E h => ?_) (fun cdv A outer s H vs Q E hr h => ?_)
  · obtain ⟨x, l, rfl, _⟩ := h
    rfl
  · obtain ⟨x, ⟨l1, l2, n⟩, rfl, ⟨a, rfl, ha⟩, q⟩ := h
    refine ⟨_, pss_cons (ps_if (PW.pt (pw_or (pt_not (pt_val (pe_callB call_isi (by rfl) T.isi boot_isinstance (pa_cons (pv 0) (pa_cons (pe_bltn (v := .ty "tuple") (by rfl) T.tuple (by decide +kernel) rfl) pa_nil)))))
        (pw_or1 (pt_cmpR op_ne (pe_callB call_len_seq (by rfl) T.len PySem.boot_len (pa_cons (pv 0) pa_nil)) pe_int (nomark _))))) (pss_one (ps_ret pe_bl)) pss_nil)
      (pss_cons (ps_asg (pv 0) (pg_tup rfl (pgs_cons (pg_name (i := 1) scLit.nd rfl (Or.inl rfl)) (pgs_cons (pg_name (i := 2) scLit.nd rfl (Or.inl rfl)) (pgs_cons (pg_name (i := 3) scLit.nd rfl (Or.inl rfl)) pgs_nil)))))
      (pss_one (ps_ret (pe_and (pe_callB call_isi (by rfl) T.isi boot_isinstance (pa_cons (pv 1) (pa_cons (pe_bltn (v := .ty "str") (by rfl) T.str (by decide +kernel) rfl) pa_nil)))
        (pe_and (pe_callB call_isi (by rfl) T.isi boot_isinstance (pa_cons (pv 2) (pa_cons (pe_bltn (v := .ty "str") (by rfl) T.str (by decide +kernel) rfl) pa_nil)))
        (pe_one (pe_call GI hr rfl W.m W.F.kp W.b .nil pass0 (pa_cons (pv 3) pa_nil)))))))), ?_⟩
    refine ⟨_, rfl, .ref a, .ty "tuple", _, _, true, rfl, .ty _, tyT ha, kit_ty (by decide +kernel), true, rfl, iteF ?_⟩
    refine ⟨_, rfl, a, _, rfl, .inr ha, rfl, _, rfl, ?_⟩
    refine iteF ?_
    refine ⟨_, rfl, a, _, rfl, ha, rfl, _, _, rfl, _, _, rfl, _, _, rfl, rfl, ?_⟩
    refine ⟨_, rfl, .str l1, .ty "str", _, _, true, rfl, .ty _, .base (.str l1), kit_ty (by decide +kernel), true, rfl, iteT ?_⟩
    refine ⟨_, rfl, .str l2, .ty "str", _, _, true, rfl, .ty _, .base (.str l2), kit_ty (by decide +kernel), true, rfl, iteT ?_⟩
    exact ⟨_, rfl, n, rfl, q⟩
def spLitT (K : PySem.W.Frag) : Sp := fun vs H Q _ => ∃ (x : V) (l : Lit), vs = [x] ∧ IsLit K H x l ∧ Short l.1 ∧ Short l.2.1 ∧ ∀ H', Same H H' → Q (.bl (isTerm l.1 && isTerm l.2.1)) H'
theorem scLitT : FnScope ["thing"] ["thing"] (defScope sLitT) := ⟨rfl, rfl, rfl, by decide +kernel, rfl, by decide +kernel, by decide +kernel⟩
theorem ok_litT {f g i t wd : Addr} {fd fdL fdI fdT fdW : FuncData} (F : Fs K mg "is_literal_over_terms" sLitT ["thing"] f fd) (L : Fs K mg "is_literal" sIsLit ["thing"] g fdL) (I : Fs K mg "is_integer" sIsInt ["thing"] i fdI)
    (Tm : Fs K mg "is_term" sIsTerm ["thing"] t fdT) (W : Fs K mg "is_word" sIsWord ["thing"] wd fdW) (T : Bx mg) : FnOk P w K mg base CX0 3 f fd ["thing"] (spLitT K) := by
  have GL : FnOk P w K mg base CX0 2 g fdL ["thing"] (spIsLit K) := ok_islit L I T
  have GT : FnOk P w K mg base CX0 2 t fdT ["thing"] spIsTerm := ok_isterm Tm W T
  refine F.F.ok scLitT (fun vs H Q E h => ?_) (fun cdv A outer s H vs Q E hr h => ?_)
  · obtain ⟨x, l, rfl, _⟩ := h
    rfl
  · obtain ⟨x, ⟨l1, l2, n⟩, rfl, ⟨a, rfl, ha⟩, sh1, sh2, q⟩ := h
    refine ⟨_, pss_one (ps_ret (pe_and (pe_call GL hr (by rfl) L.m L.F.kp L.b .nil pass0 (pa_cons (pv 0) pa_nil))
      (pe_and (pe_call GT hr (by rfl) Tm.m Tm.F.kp Tm.b .nil pass0 (pa_cons (pe_ix ix_tup (pv 0) pe_int (fun _ _ => rfl)) pa_nil))
      (pe_one (pe_call GT hr (by rfl) Tm.m Tm.F.kp Tm.b .nil pass0 (pa_cons (pe_ix ix_tup (pv 0) pe_int (fun _ _ => rfl)) pa_nil)))))), ?_⟩
    refine ⟨_, rfl, .ref a, (l1, l2, n), rfl, ⟨a, rfl, ha⟩, _, rfl, iteT ?_⟩
    refine ⟨_, rfl, a, _, _, .str l1, rfl, rfl, ha, rfl, l1, rfl, sh1, fun H4 s4 => ⟨_, rfl, ?_⟩⟩
    cases h3 : isTerm l1 with
    | false =>
      have q' := q H4 s4
      rw [show isTerm (l1, l2, n).1 = false from h3, Bool.false_and] at q'
      exact iteF q'
    | true =>
      refine iteT ⟨_, rfl, a, _, _, .str l2, rfl, rfl, SqT.same s4 ha, rfl, l2, rfl, sh2, fun H5 s5 => ?_⟩
      have q' := q H5 fun b u z => s5 _ _ (s4 _ _ z)
      rw [show isTerm (l1, l2, n).1 = true from h3, Bool.true_and] at q'
      exact q'
end
end Kx
namespace Kx
open PySem L2 PySem.Spec PyProof.Rows
structure Cl (K : PySem.W.Frag) (H : Hp) (a : Addr) (xs : List V) (c : List Lit) : Prop where
  sq : SqT K H a xs
  p : Paired (IsLit K H) xs c
  l1 : 1 ≤ c.length
  l2 : c.length ≤ 1000
theorem paired_same {K : PySem.W.Frag} {H H' : Hp} (s : Same H H') {xs : List V} {c : List Lit} (h : Paired (IsLit K H) xs c) : Paired (IsLit K H') xs c := L2.Paired.mapP h fun _ _ z => IsLit.same s z
theorem Cl.same {K : PySem.W.Frag} {H H' : Hp} {a : Addr} {xs : List V} {c : List Lit} (s : Same H H') (h : Cl K H a xs c) : Cl K H' a xs c := ⟨SqT.same s h.sq, paired_same s h.p, h.l1, h.l2⟩
theorem Cl.len {K : PySem.W.Frag} {H : Hp} {a : Addr} {xs : List V} {c : List Lit} (h : Cl K H a xs c) : xs.length = c.length := Paired.length h.p
def spIsCl (K : PySem.W.Frag) : Sp := fun vs H Q _ => ∃ (a : Addr) (xs : List V) (c : List Lit) (m : Int), vs = [.ref a, .int m] ∧ Cl K H a xs c ∧ ∀ H', Same H H' → Q (.bl (decide ((c.length : Int) ≤ m))) H'
def stands (c : List Lit) : Bool := decide ((c.length : Int) ≤ 2) && c.all fun l => isTerm l.1 && isTerm l.2.1
def spStand (K : PySem.W.Frag) : Sp := fun vs H Q _ => ∃ (a : Addr) (xs : List V) (c : List Lit), vs = [.ref a] ∧ Cl K H a xs c ∧ (∀ l ∈ c, Short l.1 ∧ Short l.2.1) ∧ ∀ H', Same H H' → Q (.bl (stands c)) H'
section
variable {P : Program} {w : World} {K : PySem.W.Frag} {mg : Str → Option Value} {base : Heap}
theorem scCl : FnScope ["thing", "most", "literal"] ["thing", "most"] (defScope sIsCl) := ⟨rfl, rfl, rfl, by decide +kernel, rfl, by decide +kernel, by decide +kernel⟩
theorem ok_iscl {f g i : Addr} {fd fdL fdI : FuncData} (F : Fs K mg "is_clause" sIsCl ["thing", "most"] f fd) (L : Fs K mg "is_literal" sIsLit ["thing"] g fdL) (I : Fs K mg "is_integer" sIsInt ["thing"] i fdI) (T : Bx mg) :
    FnOk P w K mg base CX0 3 f fd ["thing", "most"] (spIsCl K) := by
  have GL : FnOk P w K mg base CX0 2 g fdL ["thing"] (spIsLit K) := ok_islit L I T
  refine F.F.ok scCl (fun vs H Q E h => ?_) (fun cdv A outer s H vs Q E hr h => ?_)
  · obtain ⟨a, xs, c, m, rfl, _⟩ := h
    rfl
  · obtain ⟨a, xs, c, m, rfl, hc, q⟩ := h
    have hl := hc.len
    have h1 := hc.l1
    refine ⟨_, pss_cons (ps_if (PW.pt (pw_or (pt_not (pt_val (pe_callB call_isi (by rfl) T.isi boot_isinstance (pa_cons (pv 0) (pa_cons (pe_bltn (v := .ty "tuple") (by rfl) T.tuple (by decide +kernel) rfl) pa_nil)))))
        (pw_or1 (pt_not (pt_chain op_le op_le pe_int (pe_callB call_len_seq (by rfl) T.len PySem.boot_len (pa_cons (pv 0) pa_nil)) (pv 1)))))) (pss_one (ps_ret pe_bl)) pss_nil)
      (pss_one (ps_ret (pe_callB (cr_all rfl) (by rfl) T.all (by decide +kernel) (pa_cons
        (pe_lc (own := [("literal", 2)]) (g := gName 2) (tt := tYes) rfl scCl.nd (pi_tup (pv 0)) (blkOk_by (N := ["thing", "most", "literal"]) (sc := defScope sIsCl) (by decide +kernel))
          (fun _ _ _ _ _ => pg_name (i := 2) scCl.nd rfl (Or.inl rfl)) (fun _ _ _ _ _ => pts_nil)
          (fun _ _ _ _ _ => pe_call GL hr rfl L.m L.F.kp L.b .nil pass0 (pa_cons (pv 2) pa_nil))) pa_nil)))), ?_⟩
    refine ⟨_, rfl, .ref a, .ty "tuple", _, _, true, rfl, .ty _, tyT hc.sq, kit_ty (by decide +kernel), true, rfl, iteF ?_⟩
    refine ⟨_, rfl, a, xs, rfl, .inr hc.sq, _, _, rfl, rfl, _, rfl, ?_⟩
    rw [decide_eq_true (by rw [hl]; omega)]
    refine iteT ⟨_, rfl, _, _, rfl, rfl, _, rfl, ?_⟩
    rw [hl]
    by_cases h2 : (c.length : Int) ≤ m
    case neg =>
      rw [decide_eq_false h2] at q ⊢
      exact iteT (q H fun _ _ z => z)
    case pos =>
    rw [decide_eq_true h2] at q ⊢
    refine iteF ⟨_, rfl, a, rfl, ⟨_, hc.sq⟩, fun D hD => ?_⟩
    refine lc_it (walk_tup (xs := xs)) (fun i H2 => Same H H2 ∧ H2 D = some (.lst ((List.replicate i true).map V.bl))) ⟨new_same hD, upd_same⟩ (fun i H2 _ h => SqT.same h.1 hc.sq) ?_ ?_
    · rintro i x H2 H3 hi ⟨s2, gD⟩ ⟨rfl, hx⟩
      obtain ⟨l, hcl, hx'⟩ := paired_get hc.p hx
      refine ⟨rfl, yes_of ⟨_, rfl, x, l, rfl, IsLit.same s2 hx', _, gD, small1000 (by rw [List.length_map, List.length_replicate]; have := hc.l2; omega), same_upd hD s2, ?_⟩⟩
      rw [upd_same, List.replicate_succ', List.map_append]
      rfl
    · rintro H2 ⟨s2, gD⟩
      refine ⟨D, List.replicate xs.length true, rfl, SqL.of gD, ?_⟩
      have e : (List.replicate xs.length true).all id = true := List.all_eq_true.mpr fun b hb => by rw [(List.mem_replicate.mp hb).2]; rfl
      rw [e]
      exact q H2 s2
theorem scStand : FnScope ["thing", "literal"] ["thing"] (defScope sStand) := ⟨rfl, rfl, rfl, by decide +kernel, rfl, by decide +kernel, by decide +kernel⟩
theorem ok_stand {f g i c' t wd lt : Addr} {fd fdL fdI fdC fdT fdW fdLT : FuncData} (F : Fs K mg "_can_stand" sStand ["thing"] f fd) (C : Fs K mg "is_clause" sIsCl ["thing", "most"] c' fdC) (L : Fs K mg "is_literal" sIsLit ["thing"] g fdL) (I : Fs K mg "is_integer" sIsInt ["thing"] i fdI)
    (Tm : Fs K mg "is_term" sIsTerm ["thing"] t fdT) (W : Fs K mg "is_word" sIsWord ["thing"] wd fdW) (LT : Fs K mg "is_literal_over_terms" sLitT ["thing"] lt fdLT) (T : Bx mg) (hM : ∃ k, mg "MOST_LITERALS" = some (.int 2 k)) :
    FnOk P w K mg base CX0 4 f fd ["thing"] (spStand K) := by
  obtain ⟨tk, hM⟩ := hM
  have GC : FnOk P w K mg base CX0 3 c' fdC ["thing", "most"] (spIsCl K) := ok_iscl C L I T
  have GT : FnOk P w K mg base CX0 3 lt fdLT ["thing"] (spLitT K) := ok_litT LT L I Tm W T
  refine F.F.ok scStand (fun vs H Q E h => ?_) (fun cdv A outer s H vs Q E hr h => ?_)
  · obtain ⟨a, xs, c, rfl, _⟩ := h
    rfl
  · obtain ⟨a, xs, c, rfl, hc, hs, q⟩ := h
    have hl := hc.len
    refine ⟨_, pss_one (ps_ret (pe_and (pe_call GC hr (by rfl) C.m C.F.kp C.b .nil pass0 (pa_cons (pv 0) (pa_cons (pe_glob (v := .int 2) (by rfl) hM ⟨_, rfl⟩) pa_nil)))
      (pe_one (pe_callB (cr_all rfl) (by rfl) T.all (by decide +kernel) (pa_cons
        (pe_lc (own := [("literal", 1)]) (g := gName 1) (tt := tYes) rfl scStand.nd (pi_tup (pv 0)) (blkOk_by (N := ["thing", "literal"]) (sc := defScope sStand) (by decide +kernel))
          (fun _ _ _ _ _ => pg_name (i := 1) scStand.nd rfl (Or.inl rfl)) (fun _ _ _ _ _ => pts_nil)
          (fun _ _ _ _ _ => pe_call GT hr (by rfl) LT.m LT.F.kp LT.b .nil pass0 (pa_cons (pv 1) pa_nil))) pa_nil))))), ?_⟩
    refine ⟨_, rfl, a, xs, c, 2, rfl, hc, fun H1 s1 => ⟨_, rfl, ?_⟩⟩
    by_cases h2 : (c.length : Int) ≤ 2
    case neg =>
      rw [decide_eq_false h2]
      have e : stands c = false := by
        unfold stands
        rw [decide_eq_false h2, Bool.false_and]
      rw [e] at q
      exact iteF (q H1 s1)
    case pos =>
    rw [decide_eq_true h2]
    have e : stands c = c.all fun l => isTerm l.1 && isTerm l.2.1 := by
      unfold stands
      rw [decide_eq_true h2, Bool.true_and]
    rw [e] at q
    have hc1 := Cl.same s1 hc
    refine iteT ⟨_, rfl, a, rfl, ⟨_, hc1.sq⟩, fun D hD => ?_⟩
    refine lc_it (walk_tup (xs := xs)) (fun i H2 => Same H1 H2 ∧ H2 D = some (.lst ((c.take i).map fun l => .bl (isTerm l.1 && isTerm l.2.1)))) ⟨new_same hD, upd_same⟩ (fun i H2 _ h => SqT.same h.1 hc1.sq) ?_ ?_
    · rintro i x H2 H3 hi ⟨s2, gD⟩ ⟨rfl, hx⟩
      obtain ⟨l, hcl, hx'⟩ := paired_get hc1.p hx
      obtain ⟨sh1, sh2⟩ := hs l (List.mem_of_getElem? hcl)
      refine ⟨rfl, yes_of ⟨_, rfl, x, l, rfl, IsLit.same s2 hx', sh1, sh2, fun H4 s4 => ?_⟩⟩
      refine ⟨_, s4 _ _ gD, small1000 (by rw [List.length_map, List.length_take]; have := hc.l2; omega), same_upd hD (fun b u z => s4 _ _ (s2 _ _ z)), ?_⟩
      rw [upd_same, List.take_add_one, hcl, List.map_append]
      rfl
    · rintro H2 ⟨s2, gD⟩
      refine ⟨D, c.map fun l => isTerm l.1 && isTerm l.2.1, rfl, SqL.of ?_, ?_⟩
      · rw [gD, hl, List.take_of_length_le (Nat.le_refl _), List.map_map]
        rfl
      · have e : (c.all fun l => isTerm l.1 && isTerm l.2.1) = (c.map fun l => isTerm l.1 && isTerm l.2.1).all id := by
          rw [List.all_map]
          rfl
        rw [← e]
        exact q H2 fun b u z => s2 _ _ (s1 _ _ z)
end
end Kx
namespace Kx
open PySem L2 PySem.Spec PyProof.Rows
def IsC (K : PySem.W.Frag) (H : Hp) (x : V) (c : List Lit) : Prop := ∃ a ys, x = .ref a ∧ Cl K H a ys c
theorem IsC.same {K : PySem.W.Frag} {H H' : Hp} {x : V} {c : List Lit} (s : Same H H') (h : IsC K H x c) : IsC K H' x c := let ⟨a, ys, e, q⟩ := h; ⟨a, ys, e, Cl.same s q⟩
/-- a tuple of clauses -/
structure Cs (K : PySem.W.Frag) (H : Hp) (a : Addr) (xs : List V) (cs : List (List Lit)) : Prop where
  sq : SqT K H a xs
  p : Paired (IsC K H) xs cs
  l : cs.length ≤ 1000
theorem pairedC_same {K : PySem.W.Frag} {H H' : Hp} (s : Same H H') {xs : List V} {cs : List (List Lit)} (h : Paired (IsC K H) xs cs) : Paired (IsC K H') xs cs := L2.Paired.mapP h fun _ _ z => IsC.same s z
theorem Cs.same {K : PySem.W.Frag} {H H' : Hp} {a : Addr} {xs : List V} {cs : List (List Lit)} (s : Same H H') (h : Cs K H a xs cs) : Cs K H' a xs cs := ⟨SqT.same s h.sq, pairedC_same s h.p, h.l⟩
def shortC (cs : List (List Lit)) : Prop := ∀ c ∈ cs, ∀ l ∈ c, Short l.1 ∧ Short l.2.1
/-- where clauses are refused, from the i-th on, d of two literals before -/
def wrongAt : Nat → Nat → List (List Lit) → Option Int
  | _, _, [] => none
  | i, d, c :: r => if stands c = true then if (if c.length = 2 then d + 1 else d) = 2 then some (i : Int) else wrongAt (i + 1) (if c.length = 2 then d + 1 else d) r else some (i : Int)
def firstWrong (cs : List (List Lit)) : Option Int := if 4 < cs.length then some (-1) else wrongAt 0 0 cs
def optV : Option Int → V
  | none => .non
  | some i => .int i
def spFirst (K : PySem.W.Frag) : Sp := fun vs H Q _ => ∃ (a : Addr) (xs : List V) (cs : List (List Lit)), vs = [.ref a] ∧ Cs K H a xs cs ∧ shortC cs ∧ ∀ H', Same H H' → Q (optV (firstWrong cs)) H'
/-- the package's own defs, as they are bound -/
structure Forms (K : PySem.W.Frag) (mg : Str → Option Value) : Prop where
  T : Bx mg
  mL : ∃ k, mg "MOST_LITERALS" = some (.int 2 k)
  mC : ∃ k, mg "MOST_CLAUSES" = some (.int 4 k)
  int : ∃ f fd, Fs K mg "is_integer" sIsInt ["thing"] f fd
  word : ∃ f fd, Fs K mg "is_word" sIsWord ["thing"] f fd
  term : ∃ f fd, Fs K mg "is_term" sIsTerm ["thing"] f fd
  lit : ∃ f fd, Fs K mg "is_literal" sIsLit ["thing"] f fd
  cl : ∃ f fd, Fs K mg "is_clause" sIsCl ["thing", "most"] f fd
  stand : ∃ f fd, Fs K mg "_can_stand" sStand ["thing"] f fd
  litT : ∃ f fd, Fs K mg "is_literal_over_terms" sLitT ["thing"] f fd
section
variable {P : Program} {w : World} {K : PySem.W.Frag} {mg : Str → Option Value} {base : Heap}
theorem scFirst : FnScope ["clauses", "doubles", "at", "clause"] ["clauses"] (defScope sFirst) := ⟨rfl, rfl, rfl, by decide +kernel, rfl, by decide +kernel, by decide +kernel⟩
theorem ok_first {f : Addr} {fd : FuncData} (F : Fs K mg "_first_wrong" sFirst ["clauses"] f fd) (M : Forms K mg) : FnOk P w K mg base CX0 5 f fd ["clauses"] (spFirst K) := by
  obtain ⟨tk, hM⟩ := M.mC
  obtain ⟨_, _, dI⟩ := M.int
  obtain ⟨_, _, dW⟩ := M.word
  obtain ⟨_, _, dT⟩ := M.term
  obtain ⟨_, _, dL⟩ := M.lit
  obtain ⟨_, _, dC⟩ := M.cl
  obtain ⟨_, _, dS⟩ := M.stand
  obtain ⟨_, _, dLT⟩ := M.litT
  have T := M.T
  have GS : FnOk P w K mg base CX0 4 _ _ ["thing"] (spStand K) := ok_stand dS dC dL dI dT dW dLT T M.mL
  refine F.F.ok scFirst (fun vs H Q E h => ?_) (fun cdv A outer s H vs Q E hr h => ?_)
  · obtain ⟨a, xs, cs, rfl, _⟩ := h
    rfl
  · obtain ⟨a, xs, cs, rfl, hc, hs, q⟩ := h
    have hl : xs.length = cs.length := Paired.length hc.p
    refine ⟨_, pss_cons (ps_if (pt_cmpR op_gt (pe_callB call_len_seq (by rfl) T.len PySem.boot_len (pa_cons (pv 0) pa_nil)) (pe_glob (v := .int 4) (by rfl) hM ⟨_, rfl⟩) (nomark _)) (pss_one (ps_ret (pe_un un_neg pe_int))) pss_nil)
      (pss_cons (ps_set (i := 1) scFirst.nd rfl (Or.inl rfl) pe_int)
      (pss_cons (ps_for PassesOwn.never rfl (pi_enumT (by rfl) T.enum (pa_cons (pv 0) pa_nil)) (pg_tup rfl (pgs_cons (pg_name (i := 2) scFirst.nd rfl (Or.inl rfl)) (pgs_cons (pg_name (i := 3) scFirst.nd rfl (Or.inl rfl)) pgs_nil)))
        (pss_cons (ps_if (pt_not (pt_val (pe_call GS hr (by rfl) dS.m dS.F.kp dS.b .nil pass0 (pa_cons (pv 3) pa_nil)))) (pss_one (ps_ret (pv 2))) pss_nil)
        (pss_cons (ps_if (pt_cmpR op_eq (pe_callB call_len_seq (by rfl) T.len PySem.boot_len (pa_cons (pv 3) pa_nil)) pe_int (nomark _)) (pss_one (ps_aug (i := 1) scFirst.nd rfl (Or.inl rfl) pe_int ip_add)) pss_nil)
        (pss_one (ps_if (pt_cmpR op_eq (pv 1) pe_int (nomark _)) (pss_one (ps_ret (pv 2))) pss_nil)))))
      (pss_one (ps_ret pe_non)))), ?_⟩
    refine ⟨_, rfl, a, xs, rfl, .inr hc.sq, _, _, rfl, rfl, _, rfl, ?_⟩
    rw [hl]
    by_cases h4 : (4 : Int) < (cs.length : Int)
    case pos =>
      rw [decide_eq_true h4]
      have e : firstWrong cs = some (-1) := by
        unfold firstWrong
        rw [if_pos (by omega)]
      rw [e] at q
      exact iteT ⟨_, rfl, q H fun _ _ z => z⟩
    case neg =>
    rw [decide_eq_false h4]
    have e : firstWrong cs = wrongAt 0 0 cs := by
      unfold firstWrong
      rw [if_neg (by omega)]
    rw [e] at q
    obtain ⟨R, hR⟩ : ∃ R, wrongAt 0 0 cs = R := ⟨_, rfl⟩
    rw [hR] at q
    refine iteF ?_
    refine ⟨_, rfl, a, xs, rfl, hc.sq, ?_⟩
    refine for_enumT (xs := xs) (fun i σ H2 => Same H H2 ∧ ∃ (d : Nat) (v2 v3 : Option V), σ = [some (.ref a), some (.int d), v2, v3] ∧ d < 2 ∧ wrongAt i d (cs.drop i) = R) ⟨fun _ _ z => z, 0, none, none, rfl, by decide, hR⟩
      (fun i σ H2 _ h => SqT.same h.1 hc.sq) ?_ ?_
    · rintro i x σ H2 t hx ⟨s2, d, v2, v3, rfl, hd, hw⟩ ht
      obtain ⟨c, hcl, y, ys, rfl, hy⟩ := paired_get hc.p hx
      have hdrop : cs.drop i = c :: cs.drop (i + 1) := (List.drop_eq_getElem?_toList_append).trans (by rw [hcl]; rfl)
      rw [hdrop] at hw
      have s3 : Same H (upd H2 t (.tup [.int (i : Nat), .ref y])) := fun b u z => new_same ht b u (s2 b u z)
      have hy3 := Cl.same s3 hy
      refine ⟨t, _, rfl, SqT.of upd_same, rfl, _, _, rfl, _, _, rfl, rfl, ?_⟩
      refine ⟨_, rfl, y, ys, c, rfl, hy3, fun l hm => hs c (List.mem_of_getElem? hcl) l hm, fun H4 s4 => ⟨_, rfl, ?_⟩⟩
      have s14 : Same H H4 := fun b u z => s4 b u (s3 b u z)
      have hy4 := Cl.same s14 hy
      unfold wrongAt at hw
      cases hst : stands c with
      | false =>
        rw [hst, if_neg Bool.false_ne_true] at hw
        rw [← hw] at q
        exact iteT ⟨_, rfl, q H4 s14⟩
      | true =>
        rw [hst, if_pos rfl] at hw
        refine iteF ?_
        refine ⟨_, rfl, y, ys, rfl, .inr hy4.sq, rfl, _, rfl, ?_⟩
        rw [hy4.len]
        by_cases h2 : c.length = 2
        case pos =>
          rw [if_pos h2] at hw
          have e2 : decide (V.int (c.length : Int) = V.int 2) = true := by rw [h2]; exact decide_eq_true rfl
          rw [e2]
          refine iteT ⟨_, rfl, _, _, rfl, rfl, ?_⟩
          refine ⟨_, rfl, rfl, _, rfl, ?_⟩
          by_cases h5 : d + 1 = 2
          case pos =>
            rw [if_pos h5] at hw
            have e5 : decide (V.int ((d : Int) + 1) = V.int 2) = true := by
              have : d = 1 := by omega
              rw [this]
              exact decide_eq_true rfl
            rw [e5]
            rw [← hw] at q
            exact iteT ⟨_, rfl, q H4 s14⟩
          case neg =>
            rw [if_neg h5] at hw
            have e5 : decide (V.int ((d : Int) + 1) = V.int 2) = false := decide_eq_false fun z => h5 (by have := V.int.inj z; omega)
            rw [e5]
            exact iteF ⟨s14, d + 1, _, _, rfl, by omega, hw⟩
        case neg =>
          rw [if_neg h2] at hw
          have e2 : decide (V.int (c.length : Int) = V.int 2) = false := decide_eq_false fun z => h2 (by have := V.int.inj z; omega)
          rw [e2]
          refine iteF ?_
          refine ⟨_, rfl, rfl, _, rfl, ?_⟩
          have h5 : ¬ d = 2 := by omega
          rw [if_neg h5] at hw
          have e5 : decide (V.int (d : Int) = V.int 2) = false := decide_eq_false fun z => h5 (by have := V.int.inj z; omega)
          rw [e5]
          exact iteF ⟨s14, d, _, _, rfl, hd, hw⟩
    · rintro σ H2 ⟨s2, d, v2, v3, rfl, hd, hw⟩
      rw [List.drop_of_length_le (by rw [hl]; exact Nat.le_refl _)] at hw
      rw [← hw] at q
      exact q H2 s2
end
end Kx
namespace Kx
open PySem L2 PySem.Spec PyProof.Rows
/-! the forms, asked of any thing -/
inductive Sh where
  | oth | bl | int (i : Int) | str (s : Str) | tup (l : List Sh)
mutual
inductive Is (K : PySem.W.Frag) (H : Hp) : V → Sh → Prop where
  | non : Is K H .non .oth
  | lst {a : Addr} (h : ∃ xs, SqL K H a xs) : Is K H (.ref a) .oth
  | dic {a : Addr} (h : ∃ kvs, H a = some (.dK kvs)) : Is K H (.ref a) .oth
  | bl (b : Bool) : Is K H (.bl b) .bl
  | int (i : Int) : Is K H (.int i) (.int i)
  | str (s : Str) (h : Short s) : Is K H (.str s) (.str s)
  | tup {a : Addr} {xs : List V} {l : List Sh} (h : SqT K H a xs) (p : IsAll K H xs l) (n : l.length ≤ 1000) : Is K H (.ref a) (.tup l)
inductive IsAll (K : PySem.W.Frag) (H : Hp) : List V → List Sh → Prop where
  | nil : IsAll K H [] []
  | cons {x : V} {d : Sh} {xs : List V} {l : List Sh} (h : Is K H x d) (t : IsAll K H xs l) : IsAll K H (x :: xs) (d :: l)
end
theorem IsAll.length {K : PySem.W.Frag} {H : Hp} : ∀ {xs : List V} {l : List Sh}, IsAll K H xs l → xs.length = l.length
  | _, _, .nil => rfl
  | _, _, .cons _ t => congrArg (· + 1) t.length
theorem IsAll.get {K : PySem.W.Frag} {H : Hp} : ∀ {xs : List V} {l : List Sh} {i : Nat} {x : V}, IsAll K H xs l → xs[i]? = some x → ∃ d, l[i]? = some d ∧ Is K H x d
  | _, _, _, _, .nil, h => by simp at h
  | _, _, 0, _, .cons a _, h => by simp at h; subst h; exact ⟨_, rfl, a⟩
  | _, _, i + 1, _, .cons _ t, h => by
    obtain ⟨d, h1, h2⟩ := IsAll.get (i := i) t (by simpa using h)
    exact ⟨d, by simpa using h1, h2⟩
theorem SqL.same {K : PySem.W.Frag} {H H' : Hp} {a : Addr} {xs : List V} (s : Same H H') (h : SqL K H a xs) : SqL K H' a xs := by
  rcases h with (h | ⟨o, h⟩) | h
  · exact .inl (.inl (s _ _ h))
  · exact .inl (.inr ⟨o, s _ _ h⟩)
  · exact .inr h
mutual
theorem Is.same {K : PySem.W.Frag} {H H' : Hp} (s : Same H H') : ∀ {v : V} {d : Sh}, Is K H v d → Is K H' v d
  | _, _, .non => .non
  | _, _, .lst h => .lst (let ⟨xs, z⟩ := h; ⟨xs, SqL.same s z⟩)
  | _, _, .dic h => .dic (let ⟨kvs, z⟩ := h; ⟨kvs, s _ _ z⟩)
  | _, _, .bl b => .bl b
  | _, _, .int i => .int i
  | _, _, .str x h => .str x h
  | _, _, .tup h p n => .tup (SqT.same s h) (IsAll.same s p) n
theorem IsAll.same {K : PySem.W.Frag} {H H' : Hp} (s : Same H H') : ∀ {xs : List V} {l : List Sh}, IsAll K H xs l → IsAll K H' xs l
  | _, _, .nil => .nil
  | _, _, .cons h t => .cons (Is.same s h) (IsAll.same s t)
end
def isTupS : Sh → Bool | .tup _ => true | _ => false
def isStrS : Sh → Bool | .str _ => true | _ => false
def isBlS : Sh → Bool | .bl => true | _ => false
def isIntS : Sh → Bool | .int _ => true | _ => false
def isTermS : Sh → Bool | .str s => isTerm s | _ => false
def isLitS : Sh → Bool | .tup [a, b, c] => isStrS a && (isStrS b && isIntS c) | _ => false
def isLitTS : Sh → Bool | .tup [a, b, c] => isLitS (.tup [a, b, c]) && (isTermS a && isTermS b) | _ => false
def isClS (m : Int) : Sh → Bool | .tup l => decide (1 ≤ l.length ∧ (l.length : Int) ≤ m) && l.all isLitS | _ => false
def standsS : Sh → Bool | .tup l => isClS 2 (.tup l) && l.all isLitTS | _ => false
theorem tyL {K : PySem.W.Frag} {H : Hp} {a : Addr} {xs : List V} (h : SqL K H a xs) : TyX K H (.ref a) (.type "list") := by
  rcases h with (h | ⟨o, h⟩) | ⟨o, its, n, hk, hc, _⟩
  · exact .base (.lst h)
  · exact .base (.frz h)
  · exact .kList hk hc
theorem Is.ty {K : PySem.W.Frag} {H : Hp} {v : V} {d : Sh} (h : Is K H v d) : ∃ T : String, TyX K H v (.type T) ∧ kitB T "tuple" = some (isTupS d) ∧ kitB T "str" = some (isStrS d) ∧ kitB T "bool" = some (isBlS d) ∧ kitB T "int" = some (isIntS d || isBlS d) := by
  cases h with
  | non => exact ⟨"NoneType", .base .non, by decide +kernel, by decide +kernel, by decide +kernel, by decide +kernel⟩
  | lst h => obtain ⟨xs, h⟩ := h; exact ⟨"list", tyL h, by decide +kernel, by decide +kernel, by decide +kernel, by decide +kernel⟩
  | dic h => obtain ⟨xs, h⟩ := h; exact ⟨"dict", .base (.dK h), by decide +kernel, by decide +kernel, by decide +kernel, by decide +kernel⟩
  | bl b => exact ⟨"bool", .base (.bl b), by decide +kernel, by decide +kernel, by decide +kernel, by decide +kernel⟩
  | int i => exact ⟨"int", .base (.int i), (by show kitB "int" "tuple" = some false; decide +kernel), (by show kitB "int" "str" = some false; decide +kernel), (by show kitB "int" "bool" = some false; decide +kernel), (by show kitB "int" "int" = some true; decide +kernel)⟩
  | str s h => exact ⟨"str", .base (.str s), (by show kitB "str" "tuple" = some false; decide +kernel), (by show kitB "str" "str" = some true; decide +kernel), (by show kitB "str" "bool" = some false; decide +kernel), (by show kitB "str" "int" = some false; decide +kernel)⟩
  | tup h p n => exact ⟨"tuple", tyT h, (by show kitB "tuple" "tuple" = some true; decide +kernel), (by show kitB "tuple" "str" = some false; decide +kernel), (by show kitB "tuple" "bool" = some false; decide +kernel), (by show kitB "tuple" "int" = some false; decide +kernel)⟩
/-- a def that tells a truth of a thing -/
def spG (K : PySem.W.Frag) (f : Sh → Bool) : Sp := fun vs H Q _ => ∃ (v : V) (d : Sh), vs = [v] ∧ Is K H v d ∧ ∀ H', Same H H' → Q (.bl (f d)) H'
section
variable {P : Program} {w : World} {K : PySem.W.Frag} {mg : Str → Option Value} {base : Heap}
theorem spG_len {f : Sh → Bool} {vs : List V} {H : Hp} {Q : VK} {E : XK} (h : spG K f vs H Q E) : vs.length = 1 := by
  obtain ⟨v, d, rfl, _⟩ := h
  rfl
theorem g_isint {f : Addr} {fd : FuncData} (F : Fs K mg "is_integer" sIsInt ["thing"] f fd) (T : Bx mg) : FnOk P w K mg base CX0 1 f fd ["thing"] (spG K isIntS) := by
  refine F.F.ok scInt (fun vs H Q E h => spG_len h) (fun cdv A outer s H vs Q E hr h => ?_)
  obtain ⟨v, d, rfl, hv, q⟩ := h
  obtain ⟨t, ty, t1, t2, t3, t4⟩ := hv.ty
  have q := q H fun _ _ z => z
  refine ⟨_, pss_one (ps_ret (pe_and (pe_callB call_isi (by rfl) T.isi boot_isinstance (pa_cons (pv 0) (pa_cons (pe_bltn (v := .ty "int") (by rfl) T.int (by decide +kernel) rfl) pa_nil)))
    (pe_one (pe_not (pe_callB call_isi (by rfl) T.isi boot_isinstance (pa_cons (pv 0) (pa_cons (pe_bltn (v := .ty "bool") (by rfl) T.bool (by decide +kernel) rfl) pa_nil))))))), ?_⟩
  refine ⟨_, rfl, v, .ty "int", _, _, _, rfl, .ty _, ty, kit_ty t4, _, rfl, ?_⟩
  cases d with
  | int i => exact iteT ⟨_, rfl, v, .ty "bool", _, _, _, rfl, .ty _, ty, kit_ty t3, _, rfl, q⟩
  | bl => exact iteT ⟨_, rfl, v, .ty "bool", _, _, _, rfl, .ty _, ty, kit_ty t3, _, rfl, q⟩
  | oth => exact iteF q
  | str s => exact iteF q
  | tup l => exact iteF q
theorem g_isterm {f g : Addr} {fd fdW : FuncData} (F : Fs K mg "is_term" sIsTerm ["thing"] f fd) (W : Fs K mg "is_word" sIsWord ["thing"] g fdW) (T : Bx mg) : FnOk P w K mg base CX0 2 f fd ["thing"] (spG K isTermS) := by
  have GW : FnOk P w K mg base CX0 1 g fdW ["thing"] spIsWord := ok_isword W T
  refine F.F.ok scTerm (fun vs H Q E h => spG_len h) (fun cdv A outer s H vs Q E hr h => ?_)
  obtain ⟨v, d, rfl, hv, q⟩ := h
  obtain ⟨ty, tyx, t1, t2, t3, t4⟩ := hv.ty
  refine ⟨_, pss_cons (ps_if (pt_not (pt_val (pe_callB call_isi (by rfl) T.isi boot_isinstance (pa_cons (pv 0) (pa_cons (pe_bltn (v := .ty "str") (by rfl) T.str (by decide +kernel) rfl) pa_nil))))) (pss_one (ps_ret pe_bl)) pss_nil)
      (pss_cons (ps_if (pt_cmpR op_eq (pv 0) pe_str (nomark _)) (pss_one (ps_ret pe_bl)) pss_nil)
      (pss_cons (ps_set (i := 1) scTerm.nd rfl (Or.inl rfl) (pe_split (pv 0) pe_str))
      (pss_one (ps_ret (pe_and (pe_cmpR op_le (pe_callB call_len_seq (by rfl) T.len PySem.boot_len (pa_cons (pv 1) pa_nil)) pe_int (nomark _))
        (pe_one (pe_callB (cr_all rfl) (by rfl) T.all (by decide +kernel) (pa_cons
          (pe_lc (own := [("word", 2)]) (g := gName 2) (tt := tYes) rfl scTerm.nd (pi_list (pv 1)) (blkOk_by (N := ["thing", "words", "word"]) (sc := defScope sIsTerm) (by decide +kernel))
            (fun _ _ _ _ _ => pg_name (i := 2) scTerm.nd rfl (Or.inl rfl)) (fun _ _ _ _ _ => pts_nil)
            (fun _ _ _ _ _ => pe_call GW hr rfl W.m W.F.kp W.b .nil pass0 (pa_cons (pv 2) pa_nil))) pa_nil)))))))), ?_⟩
  refine ⟨_, rfl, v, .ty "str", _, _, _, rfl, .ty _, tyx, kit_ty t2, _, rfl, ?_⟩
  have no : isStrS d = false → isTermS d = false := by cases d <;> first | exact fun _ => rfl | exact fun z => nomatch z
  cases hs : isStrS d with
  | false =>
    rw [no hs] at q
    exact iteT (q H fun _ _ z => z)
  | true =>
  refine iteF ?_
  cases hv with
  | str t hsh =>
    have q : ∀ H', Same H H' → Q (.bl (isTerm t)) H' := q
    refine ⟨_, rfl, rfl, _, rfl, ?_⟩
    by_cases ht : t = ""
    case pos =>
      rw [show decide (V.str t = V.str "") = true from by rw [ht]; exact decide_eq_true rfl]
      refine iteT ?_
      have e : isTerm t = true := by
        unfold isTerm
        rw [decide_eq_true ht, Bool.true_or]
      have q' := q H fun _ _ z => z
      rw [e] at q'
      exact q'
    case neg =>
    rw [show decide (V.str t = V.str "") = false from decide_eq_false fun z => ht (V.str.inj z)]
    refine iteF ?_
    have e0 : isTerm t = (decide ((Txt.split t ".").length ≤ 2) && (Txt.split t ".").all isWord) := by
      unfold isTerm
      rw [decide_eq_false ht, Bool.false_or]
    rw [e0] at q
    refine ⟨_, rfl, ⟨t, rfl⟩, t, ".", rfl, rfl, (by decide), (by have := hsh.l; rw [sizeLine_eq]; omega), fun p hp => ?_⟩
    have gp : (upd H p (.lst ((Txt.split t ".").map V.str))) p = some (.lst ((Txt.split t ".").map V.str)) := upd_same
    refine ⟨_, rfl, p, _, rfl, .inl (SqL.of gp), _, _, rfl, rfl, _, rfl, ?_⟩
    rw [List.length_map]
    by_cases h2 : ((Txt.split t ".").length : Int) ≤ 2
    case neg =>
      rw [decide_eq_false (by omega), Bool.false_and] at q
      rw [decide_eq_false h2]
      exact iteF (q _ (new_same hp))
    case pos =>
    rw [decide_eq_true (by omega), Bool.true_and] at q
    rw [decide_eq_true h2]
    refine iteT ⟨_, rfl, p, rfl, ⟨_, SqL.of gp⟩, fun D hD => ?_⟩
    have nD : p ≠ D := fun z => by
      rw [← z, gp] at hD
      cases hD
    refine lc_it (walk_list (xs := (Txt.split t ".").map V.str)) (fun i H2 => Same (upd H p (.lst ((Txt.split t ".").map V.str))) H2 ∧ H2 D = some (.lst (((Txt.split t ".").take i).map fun x => .bl (isWord x)))) ⟨new_same hD, upd_same⟩ (fun i H2 _ h => SqL.of (h.1 _ _ gp)) ?_ ?_
    · rintro i x H2 H3 hi ⟨s2, gD⟩ ⟨rfl, hx⟩
      rw [List.getElem?_map] at hx
      obtain ⟨z, hz, rfl⟩ := Option.map_eq_some_iff.mp hx
      refine ⟨rfl, yes_of ⟨_, rfl, z, rfl, hsh.e z (List.mem_of_getElem? hz), fun H4 s4 => ⟨_, s4 _ _ gD, small1000 (by rw [List.length_map, List.length_take]; have := hsh.n; omega), same_upd hD (fun b u e => s4 _ _ (s2 _ _ e)), ?_⟩⟩⟩
      rw [upd_same, List.take_add_one, hz, List.map_append]
      rfl
    · rintro H2 ⟨s2, gD⟩
      refine ⟨D, (Txt.split t ".").map isWord, rfl, SqL.of ?_, ?_⟩
      · rw [gD, List.take_of_length_le (by rw [List.length_map]; exact Nat.le_refl _), List.map_map]
        rfl
      · have e : (Txt.split t ".").all isWord = ((Txt.split t ".").map isWord).all id := by
          rw [List.all_map]
          rfl
        rw [← e]
        exact q H2 fun b u z => s2 _ _ (new_same hp b u z)
  | non => cases hs
  | lst h => cases hs
  | dic h => cases hs
  | bl b => cases hs
  | int i => cases hs
  | tup h p n => cases hs
theorem g_islit {f g : Addr} {fd fdI : FuncData} (F : Fs K mg "is_literal" sIsLit ["thing"] f fd) (W : Fs K mg "is_integer" sIsInt ["thing"] g fdI) (T : Bx mg) : FnOk P w K mg base CX0 2 f fd ["thing"] (spG K isLitS) := by
  have GI : FnOk P w K mg base CX0 1 g fdI ["thing"] (spG K isIntS) := g_isint W T
  refine F.F.ok scLit (fun vs H Q E h => spG_len h) (fun cdv A outer s H vs Q E hr h => ?_)
  obtain ⟨v, d, rfl, hv, q⟩ := h
  obtain ⟨ty, tyx, t1, t2, t3, t4⟩ := hv.ty
  have q0 := q H fun _ _ z => z
  refine ⟨_, pss_cons (ps_if (PW.pt (pw_or (pt_not (pt_val (pe_callB call_isi (by rfl) T.isi boot_isinstance (pa_cons (pv 0) (pa_cons (pe_bltn (v := .ty "tuple") (by rfl) T.tuple (by decide +kernel) rfl) pa_nil)))))
        (pw_or1 (pt_cmpR op_ne (pe_callB call_len_seq (by rfl) T.len PySem.boot_len (pa_cons (pv 0) pa_nil)) pe_int (nomark _))))) (pss_one (ps_ret pe_bl)) pss_nil)
      (pss_cons (ps_asg (pv 0) (pg_tup rfl (pgs_cons (pg_name (i := 1) scLit.nd rfl (Or.inl rfl)) (pgs_cons (pg_name (i := 2) scLit.nd rfl (Or.inl rfl)) (pgs_cons (pg_name (i := 3) scLit.nd rfl (Or.inl rfl)) pgs_nil)))))
      (pss_one (ps_ret (pe_and (pe_callB call_isi (by rfl) T.isi boot_isinstance (pa_cons (pv 1) (pa_cons (pe_bltn (v := .ty "str") (by rfl) T.str (by decide +kernel) rfl) pa_nil)))
        (pe_and (pe_callB call_isi (by rfl) T.isi boot_isinstance (pa_cons (pv 2) (pa_cons (pe_bltn (v := .ty "str") (by rfl) T.str (by decide +kernel) rfl) pa_nil)))
        (pe_one (pe_call GI hr rfl W.m W.F.kp W.b .nil pass0 (pa_cons (pv 3) pa_nil)))))))), ?_⟩
  refine ⟨_, rfl, v, .ty "tuple", _, _, _, rfl, .ty _, tyx, kit_ty t1, _, rfl, ?_⟩
  have no : isTupS d = false → isLitS d = false := by cases d <;> first | exact fun _ => rfl | exact fun z => nomatch z
  cases hs : isTupS d with
  | false =>
    rw [no hs] at q0
    exact iteT (iteT q0)
  | true =>
  refine iteF ?_
  cases hv with
  | tup ha p n =>
    rename_i a xs l
    have hl := p.length
    refine ⟨_, rfl, a, _, rfl, .inr ha, rfl, _, rfl, ?_⟩
    by_cases h3 : xs.length = 3
    case neg =>
      rw [show (!decide (V.int (xs.length : Int) = V.int 3)) = true from by rw [decide_eq_false fun z => h3 (by have := V.int.inj z; omega)]; rfl]
      have e : isLitS (.tup l) = false := by
        rw [hl] at h3
        match l, h3 with
        | [], _ => rfl
        | [_], _ => rfl
        | [_, _], _ => rfl
        | [_, _, _], h => exact absurd rfl h
        | _ :: _ :: _ :: _ :: _, _ => rfl
      rw [e] at q0
      exact iteT q0
    case pos =>
    rw [show (!decide (V.int (xs.length : Int) = V.int 3)) = false from by rw [h3]; rfl]
    refine iteF ?_
    cases p with
    | nil => cases h3
    | cons p1 p =>
    cases p with
    | nil => cases h3
    | cons p2 p =>
    cases p with
    | nil => cases h3
    | cons p3 p =>
    cases p with
    | cons _ _ => exact absurd h3 (by simp)
    | nil =>
    rename_i x1 d1 x2 d2 x3 d3
    obtain ⟨ta, tax, _, ta2, _, _⟩ := p1.ty
    obtain ⟨tb, tbx, _, tb2, _, _⟩ := p2.ty
    refine ⟨_, rfl, a, _, rfl, ha, rfl, _, _, rfl, _, _, rfl, _, _, rfl, rfl, ?_⟩
    refine ⟨_, rfl, x1, .ty "str", _, _, _, rfl, .ty _, tax, kit_ty ta2, _, rfl, ?_⟩
    have q : ∀ H', Same H H' → Q (.bl (isStrS d1 && (isStrS d2 && isIntS d3))) H' := q
    cases e1 : isStrS d1 with
    | false =>
      rw [e1] at q
      exact iteF (q H fun _ _ z => z)
    | true =>
    rw [e1] at q
    refine iteT ⟨_, rfl, x2, .ty "str", _, _, _, rfl, .ty _, tbx, kit_ty tb2, _, rfl, ?_⟩
    cases e2 : isStrS d2 with
    | false =>
      rw [e2] at q
      exact iteF (q H fun _ _ z => z)
    | true =>
    rw [e2] at q
    exact iteT ⟨_, rfl, x3, d3, rfl, p3, q⟩
  | non => cases hs
  | lst h => cases hs
  | dic h => cases hs
  | bl b => cases hs
  | int i => cases hs
  | str x h => cases hs
theorem lit3 {d : Sh} (h : isLitS d = true) : ∃ x y i, d = .tup [.str x, .str y, .int i] := by
  match d, h with
  | .tup [a, b, c], h =>
    have h : (isStrS a && (isStrS b && isIntS c)) = true := h
    rw [Bool.and_eq_true, Bool.and_eq_true] at h
    obtain ⟨h1, h2, h3⟩ := h
    cases a <;> first | (cases h1; done) | skip
    cases b <;> first | (cases h2; done) | skip
    cases c <;> first | (cases h3; done) | skip
    exact ⟨_, _, _, rfl⟩
theorem litT_false {d : Sh} (h : isLitS d = false) : isLitTS d = false := by
  match d, h with
  | .tup [a, b, c], h => show (isLitS (.tup [a, b, c]) && _) = false; rw [h]; rfl
  | .oth, _ => rfl
  | .bl, _ => rfl
  | .int _, _ => rfl
  | .str _, _ => rfl
  | .tup [], _ => rfl
  | .tup [_], _ => rfl
  | .tup [_, _], _ => rfl
  | .tup (_ :: _ :: _ :: _ :: _), _ => rfl
theorem g_litT {f g i t wd : Addr} {fd fdL fdI fdT fdW : FuncData} (F : Fs K mg "is_literal_over_terms" sLitT ["thing"] f fd) (L : Fs K mg "is_literal" sIsLit ["thing"] g fdL) (I : Fs K mg "is_integer" sIsInt ["thing"] i fdI)
    (Tm : Fs K mg "is_term" sIsTerm ["thing"] t fdT) (W : Fs K mg "is_word" sIsWord ["thing"] wd fdW) (T : Bx mg) : FnOk P w K mg base CX0 3 f fd ["thing"] (spG K isLitTS) := by
  have GL : FnOk P w K mg base CX0 2 g fdL ["thing"] (spG K isLitS) := g_islit L I T
  have GT : FnOk P w K mg base CX0 2 t fdT ["thing"] (spG K isTermS) := g_isterm Tm W T
  refine F.F.ok scLitT (fun vs H Q E h => spG_len h) (fun cdv A outer s H vs Q E hr h => ?_)
  obtain ⟨v, d, rfl, hv, q⟩ := h
  refine ⟨_, pss_one (ps_ret (pe_and (pe_call GL hr (by rfl) L.m L.F.kp L.b .nil pass0 (pa_cons (pv 0) pa_nil))
      (pe_and (pe_call GT hr (by rfl) Tm.m Tm.F.kp Tm.b .nil pass0 (pa_cons (pe_ix ix_tup (pv 0) pe_int (fun _ _ => rfl)) pa_nil))
      (pe_one (pe_call GT hr (by rfl) Tm.m Tm.F.kp Tm.b .nil pass0 (pa_cons (pe_ix ix_tup (pv 0) pe_int (fun _ _ => rfl)) pa_nil)))))), ?_⟩
  refine ⟨_, rfl, v, d, rfl, hv, fun H1 s1 => ⟨_, rfl, ?_⟩⟩
  cases hd : isLitS d with
  | false =>
    rw [litT_false hd] at q
    exact iteF (q H1 s1)
  | true =>
  obtain ⟨x, y, i, rfl⟩ := lit3 hd
  have q : ∀ H', Same H H' → Q (.bl (isTerm x && isTerm y)) H' := q
  cases hv with
  | tup ha p n =>
  rename_i a xs
  have hl := p.length
  cases p with
  | cons p1 p =>
  cases p with
  | cons p2 p =>
  cases p with
  | cons p3 p =>
  cases p with
  | nil =>
  refine iteT ⟨_, rfl, a, _, _, _, rfl, rfl, SqT.same s1 ha, rfl, _, .str x, rfl, Is.same s1 p1, fun H4 s4 => ⟨_, rfl, ?_⟩⟩
  have s14 : Same H H4 := fun b u z => s4 _ _ (s1 _ _ z)
  show if isTerm x = true then _ else _
  cases h3 : isTerm x with
  | false =>
    rw [h3] at q
    exact iteF (q H4 s14)
  | true =>
    rw [h3] at q
    refine iteT ⟨_, rfl, a, _, _, _, rfl, rfl, SqT.same s14 ha, rfl, _, .str y, rfl, Is.same s14 p2, fun H5 s5 => ?_⟩
    exact q H5 fun b u z => s5 _ _ (s14 _ _ z)
end
end Kx
namespace Kx
open PySem L2 PySem.Spec PyProof.Rows
/-! the terms of clauses, gathered -/
abbrev noE (t : Str) : Bool := !decide (t = "")
def termsL (l : Lit) : List Str := [l.1, l.2.1].filter noE
def termsC (c : List Lit) : List Str := c.flatMap termsL
def termsOf (cs : List (List Lit)) : List Str := cs.flatMap termsC
structure Col (l ts : List Str) (n : Nat) : Prop where
  nd : l.Nodup
  mem : ∀ t, t ∈ l ↔ t ∈ ts
  len : l.length ≤ n
theorem Col.nil : Col [] [] 0 := ⟨List.nodup_nil, fun _ => Iff.rfl, Nat.le_refl _⟩
theorem put_nodup {l : List Str} {k : Str} (h : l.Nodup) : (put l k).Nodup := by
  unfold put
  by_cases hk : k ∈ l
  · rw [if_pos hk]; exact h
  · rw [if_neg hk]; exact List.nodup_cons.mpr ⟨hk, h⟩
theorem Col.put {l ts : List Str} {n : Nat} {k : Str} (C : Col l ts n) : Col (Kx.put l k) (ts ++ [k]) (n + 1) :=
  ⟨put_nodup C.nd, fun t => by rw [mem_put, List.mem_append, C.mem t, List.mem_singleton], Nat.le_trans put_len (Nat.succ_le_succ C.len)⟩
theorem Col.more {l ts : List Str} {n m : Nat} (C : Col l ts n) (h : n ≤ m) : Col l ts m := ⟨C.nd, C.mem, Nat.le_trans C.len h⟩
theorem walk_it {J : It} {n : Nat} {G : Hp → Prop} {Y : Nat → Hp → V → Hp → Prop} (w : Walk J n G Y) {g : TG} {tt : TT} {tb : TB} {vs : List Nat} {σ : L2.St} {H0 : Hp} {Qd : Hp → Prop} (Pv : Nat → Hp → Prop) (h0 : Pv 0 H0) (hG : ∀ i H, i ≤ n → Pv i H → G H)
    (hs : ∀ i x H H', i < n → Pv i H → Y i H x H' → g x (wipe σ vs) H' fun σ2 H2 => wipe σ2 vs = wipe σ vs ∧ tt σ2 H2 fun b H3 => if b = true then tb σ2 H3 (Pv (i + 1)) else Pv (i + 1) H3) (hd : ∀ H, Pv n H → Qd H) :
    ∃ W : Nat → Nat → Hp → Prop, (∃ m, W 0 m H0) ∧ ∀ i m H, W i m H → (J.stop i H ∧ Qd H) ∨ (J.go i H ∧ ∃ Nx : Hp → Prop, (∀ H', Nx H' → ∃ m', m' < m ∧ W (i + 1) m' H') ∧
      ∀ x H', J.yld i H x H' → g x (wipe σ vs) H' fun σ2 H2 => wipe σ2 vs = wipe σ vs ∧ tt σ2 H2 fun b H3 => if b = true then tb σ2 H3 Nx else Nx H3) := by
  refine ⟨fun i m H => m = n - i ∧ i ≤ n ∧ Pv i H, ⟨n, (Nat.sub_zero n).symm, Nat.zero_le _, h0⟩, ?_⟩
  rintro i m H ⟨rfl, hi, p⟩
  have q := hG i H hi p
  rcases Nat.lt_or_eq_of_le hi with hlt | e
  · exact .inr ⟨w.goes i H hlt q, Pv (i + 1), fun H' p' => ⟨n - (i + 1), by omega, rfl, hlt, p'⟩, fun x H' y => hs i x H H' hlt p (w.yields i H x H' hlt q y)⟩
  · subst e
    exact .inl ⟨w.stops H q, hd H p⟩
theorem SqT.ins {K : PySem.W.Frag} {H : Hp} {a b C dx : Addr} {fs : List (Str × V)} {u : HO} {xs : List V} (ha : H a = some (.ins C dx fs)) (h : SqT K H b xs) : SqT K (upd H a u) b xs := by
  rcases h with (h | ⟨o, h⟩) | h
  · exact .inl (.inl (by rw [upd_ne (fun e => by rw [e, ha] at h; cases h)]; exact h))
  · exact .inl (.inr ⟨o, by rw [upd_ne (fun e => by rw [e, ha] at h; cases h)]; exact h⟩)
  · exact .inr h
theorem Cl.ins {K : PySem.W.Frag} {H : Hp} {a b C dx : Addr} {fs : List (Str × V)} {u : HO} {xs : List V} {c : List Lit} (ha : H a = some (.ins C dx fs)) (h : Cl K H b xs c) : Cl K (upd H a u) b xs c :=
  ⟨SqT.ins ha h.sq, L2.Paired.mapP h.p fun _ _ ⟨e, z, q⟩ => ⟨e, z, SqT.ins ha q⟩, h.l1, h.l2⟩
theorem Cs.ins {K : PySem.W.Frag} {H : Hp} {a b C dx : Addr} {fs : List (Str × V)} {u : HO} {xs : List V} {cs : List (List Lit)} (ha : H a = some (.ins C dx fs)) (h : Cs K H b xs cs) : Cs K (upd H a u) b xs cs :=
  ⟨SqT.ins ha h.sq, L2.Paired.mapP h.p fun _ _ ⟨e, ys, z, q⟩ => ⟨e, ys, z, Cl.ins ha q⟩, h.l⟩
theorem stands_len {c : List Lit} (h : stands c = true) : c.length ≤ 2 := by
  unfold stands at h
  rw [Bool.and_eq_true, decide_eq_true_eq] at h
  omega
theorem wrong_none : ∀ {cs : List (List Lit)} {i d : Nat}, wrongAt i d cs = none → ∀ c ∈ cs, stands c = true
  | [], _, _, _, c, hc => nomatch hc
  | c0 :: r, i, d, h, c, hc => by
    unfold wrongAt at h
    by_cases hs : stands c0 = true
    · rw [if_pos hs] at h
      generalize hd : (if c0.length = 2 then d + 1 else d) = d2 at h
      by_cases h2 : d2 = 2
      · rw [if_pos h2] at h
        cases h
      · rw [if_neg h2] at h
        rcases List.mem_cons.mp hc with e | e
        · rw [e]; exact hs
        · exact wrong_none h c e
    · rw [if_neg hs] at h
      cases h
theorem first_none {cs : List (List Lit)} (h : firstWrong cs = none) : cs.length ≤ 4 ∧ ∀ c ∈ cs, stands c = true := by
  unfold firstWrong at h
  by_cases h4 : 4 < cs.length
  · rw [if_pos h4] at h
    cases h
  · rw [if_neg h4] at h
    exact ⟨by omega, wrong_none h⟩
theorem Col.same {l ts ts' : List Str} {n : Nat} (C : Col l ts n) (e : ts = ts') : Col l ts' n := e ▸ C
theorem filt (r : List Str) (t : Str) : (r ++ [t]).filter noE = r.filter noE ++ (if t = "" then [] else [t]) := by
  rw [List.filter_append]
  by_cases h : t = ""
  · rw [if_pos h, List.filter_cons_of_neg (by simp [h])]
    rfl
  · rw [if_neg h, List.filter_cons_of_pos (by simp [h])]
    rfl
abbrev mth (i : Nat) : Stmt := inClass (top 23) i
abbrev sInit : Stmt := mth 0
abbrev nI : List Str := ["self", "clauses", "wrong", "clause", "one", "term"]
structure Cnd (K : PySem.W.Frag) (mg : Str → Option Value) (C : Addr) : Prop where
  cls : Cls K C
  nc : NoAttr K C "clauses"
  nt : NoAttr K C "terms"
  gC : mg "Cond" = some (.ref C)
  first : ∃ f fd, Fs K mg "_first_wrong" sFirst ["clauses"] f fd
  M : Forms K mg
/-- what Cond's own attributes tell -/
structure CondF (K : PySem.W.Frag) (H : Hp) (a C dx p q : Addr) (cs : List (List Lit)) (ys : List Str) : Prop where
  ins : H a = some (.ins C dx (putF "terms" (.ref q) (putF "clauses" (.ref p) [])))
  cl : ∃ xs, Cs K H p xs cs
  tm : SqT K H q (ys.map V.str)
  so : sortedS ys = true
  nd : ys.Nodup
  mem : ∀ t, t ∈ ys ↔ t ∈ termsOf cs
def raiseI : Stmt := match defBody sInit with
  | _ :: .If _ [r] _ _ :: _ => r
  | _ => .Pass ⟨0, 0, 0, 0⟩
def spInitB (K : PySem.W.Frag) (C : Addr) (F : Hp → Int → Prop) : Sp := fun vs H Q _ => ∃ (a dx p : Addr) (xs : List V) (cs : List (List Lit)), vs = [.ref a, .ref p] ∧ H a = some (.ins C dx []) ∧ Cs K H p xs cs ∧ shortC cs ∧
  (firstWrong cs = none → ∀ H' q ys, CondF K H' a C dx p q cs ys → (∀ b u, b ≠ a → H b = some u → H' b = some u) → Q .non H') ∧ ∀ i, firstWrong cs = some i → ∀ H1, Same H H1 → F H1 i
section
variable {P : Program} {w : World} {K : PySem.W.Frag} {mg : Str → Option Value} {base : Heap}
theorem scI : FnScope nI (([("self" : PySem.Str)] : List PySem.Str) ++ [("clauses" : PySem.Str)]) (defScope sInit) := ⟨rfl, rfl, rfl, by decide +kernel, rfl, by decide +kernel, by decide +kernel⟩
theorem body_init {f C : Addr} (D : Cnd K mg C) {CX : CXT} (cdv : Value) (A : Around) (outer : List Env) (s : Shared) (H : Hp) (vs : List V) (Q : VK) (E : XK) (F : Hp → Int → Prop) (hr : Room 5 (A.deeper (envOfC "Cond.__init__" (defScope sInit) s.heap.objs.size f cdv))) {tR : TS}
    (hR : PS (cxOf CX P w K mg base nI "Cond.__init__" (defScope sInit) f cdv A outer s H E) raiseI tR) (hF : ∀ (D' : Ends) v0 v1 i v3 v4 v5 H1, Same H H1 → F H1 i → tR D' [v0, v1, some (.int i), v3, v4, v5] H1) (h : spInitB K C F vs H Q E) :
    ∃ t, PSs (cxOf CX P w K mg base nI "Cond.__init__" (defScope sInit) f cdv A outer s H E) (defBody sInit) t ∧ t { nx := fun _ H' => Q .non H', rt := Q } (start nI vs) H := by
  obtain ⟨_, _, dF⟩ := D.first
  have GF : FnOk P w K mg base CX0 5 _ _ ["clauses"] (spFirst K) := ok_first dF D.M
  have T := D.M.T
  obtain ⟨a, dx, p, xs, cs, rfl, ha, hc, hsh, qn, qf⟩ := h
  refine ⟨_, pss_cons (ps_set (i := 2) scI.nd rfl (Or.inl rfl) (pe_call GF hr (by rfl) dF.m dF.F.kp dF.b .nil pass0 (pa_cons (pv 1) pa_nil)))
    (pss_cons (ps_if (pt_cmpR op_notN (pv 2) pe_non (nomark _)) (pss_one hR) pss_nil)
    (pss_cons (ps_fld (pv 0) (pv 1) (by rfl))
    (pss_one (ps_fld (pv 0) (pe_tupleOf (by rfl) T.tuple (pe_callB (cr_sortedX rfl) (by rfl) T.sorted (by decide +kernel) (pa_cons
      (pe_sc3 (own := [("clause", 3), ("one", 4), ("term", 5)]) (vs1 := [4, 5]) (vs2 := [5]) (g0 := gName 3) (g1 := gName 4) (g2 := gName 5) (tt0 := tYes) (tt1 := tYes) (w1 := iTup K (tVar 3)) (w2 := iTup K (tSl (rSlA K) (tVar 4) tNoPart (tPart (tC (.int 2))))) (tt2 := tTest (tOp rNe (tVar 5) (tC (.str "")))) (te := tVar 5) rfl scI.nd (pi_tup (pv 1)) (blkOk_by (N := nI) (sc := defScope sInit) (by decide +kernel)) (by decide) (by decide)
        (fun _ _ _ _ _ => pg_name (i := 3) scI.nd rfl (Or.inl rfl)) (fun _ _ _ _ _ => pts_nil)
        (fun _ _ _ _ _ => pi_tup (pv 3)) (fun _ _ _ _ _ => pg_name (i := 4) scI.nd rfl (Or.inl rfl)) (fun _ _ _ _ _ => pts_nil)
        (fun _ _ _ _ _ => pi_tup (pe_slice sl_tupA (pv 4) po_none (po_some pe_int))) (fun _ _ _ _ _ => pg_name (i := 5) scI.nd rfl (Or.inl rfl)) (fun _ _ _ _ _ => pts_one (pt_cmpR op_ne (pv 5) pe_str (nomark _)))
        (fun _ _ _ _ _ => pv 5)) pa_nil))) (by rfl))))), ?_⟩
  have bound : (64 : Nat) < scanBound := by decide
  have hl : xs.length = cs.length := Paired.length hc.p
  refine ⟨_, rfl, p, xs, cs, rfl, hc, hsh, fun H1 s1 => ?_⟩
  cases hw : firstWrong cs with
  | some i => exact ⟨_, rfl, rfl, _, rfl, iteT (hF _ _ _ _ _ _ _ _ s1 (qf i hw H1 s1))⟩
  | none =>
  have q := qn hw
  obtain ⟨n4, hst⟩ := first_none hw
  refine ⟨_, rfl, rfl, _, rfl, iteF ?_⟩
  refine ⟨_, rfl, _, rfl, a, C, dx, [], rfl, s1 _ _ ha, D.cls, D.nc, by decide, ?_⟩
  obtain ⟨H2, e2⟩ : ∃ H2, upd H1 a (.ins C dx (putF "clauses" (.ref p) [])) = H2 := ⟨_, rfl⟩
  have ha2 : H2 a = some (.ins C dx (putF "clauses" (.ref p) [])) := by rw [← e2]; exact upd_same
  have hc2 : Cs K H2 p xs cs := by rw [← e2]; exact Cs.ins (s1 _ _ ha) (Cs.same s1 hc)
  have k2 : ∀ b u, b ≠ a → H b = some u → H2 b = some u := fun b u nb z => by rw [← e2, upd_ne nb]; exact s1 _ _ z
  rw [e2]
  refine ⟨_, rfl, p, rfl, ⟨_, hc2.sq⟩, fun Ds hD => ?_⟩
  refine walk_it (walk_tup (xs := xs)) (fun i H3 => Same H2 H3 ∧ ∃ l, H3 Ds = some (SetX P w Ds l) ∧ Col l (termsOf (cs.take i)) (4 * i)) ⟨new_same hD, [], upd_same, Col.nil⟩ (fun i H3 _ h => SqT.same h.1 hc2.sq) ?_ ?_
  · rintro i x H3 H4 hi ⟨s3, l, gD, hC⟩ ⟨rfl, hx⟩
    obtain ⟨c, hcl, b, ys, rfl, hb⟩ := paired_get hc2.p hx
    have hcm : c ∈ cs := List.mem_of_getElem? hcl
    have c2 := stands_len (hst c hcm)
    have hi4 : i < 4 := by omega
    have hyl : ys.length = c.length := hb.len
    refine ⟨rfl, yes_of ⟨_, rfl, b, rfl, ⟨_, SqT.same s3 hb.sq⟩, ?_⟩⟩
    refine walk_it (walk_tup (xs := ys)) (fun j H5 => Same H2 H5 ∧ ∃ l, H5 Ds = some (SetX P w Ds l) ∧ Col l (termsOf (cs.take i) ++ termsC (c.take j)) (4 * i + 2 * j)) ⟨s3, l, gD, hC.same (List.append_nil _).symm⟩ (fun j H5 _ h => SqT.same h.1 hb.sq) ?_ ?_
    · rintro j x H5 H6 hj ⟨s5, l5, g5, hC5⟩ ⟨rfl, hx5⟩
      obtain ⟨lt, hlt, e, rfl, he⟩ := paired_get hb.p hx5
      obtain ⟨t1, t2, n⟩ := lt
      have he5 := SqT.same s5 he
      refine ⟨rfl, yes_of ?_⟩
      refine ⟨_, rfl, _, rfl, e, _, rfl, he5, fun z => absurd z.2 (by show ¬ HT.sIx 3 3 (some 2) = 3; decide), fun _ q5 hq5 => ?_⟩
      have s6 := same_upd hq5 (fun b u z => z : Same H6 H6) (o := .tup [.str t1, .str t2])
      have nq : q5 ≠ Ds := fun z => by
        rw [z, g5] at hq5
        cases hq5
      refine ⟨q5, rfl, ⟨_, SqT.of upd_same⟩, ?_⟩
      refine walk_it (walk_tup (xs := [V.str t1, V.str t2])) (fun k H7 => Same H2 H7 ∧ H7 q5 = some (.tup [.str t1, .str t2]) ∧ ∃ l, H7 Ds = some (SetX P w Ds l) ∧ Col l (termsOf (cs.take i) ++ termsC (c.take j) ++ ([t1, t2].take k).filter noE) (4 * i + 2 * j + k))
        ⟨fun b u z => s6 _ _ (s5 _ _ z), upd_same, l5, (by rw [upd_ne (Ne.symm nq)]; exact g5), hC5.same (List.append_nil _).symm⟩ (fun k H7 _ h => SqT.of h.2.1) ?_ ?_
      · rintro k x H7 H8 hk ⟨s7, g7, l7, gD7, hC7⟩ ⟨rfl, hx7⟩
        obtain ⟨t, ht, rfl⟩ : ∃ t, [t1, t2][k]? = some t ∧ x = .str t := by
          have e : [V.str t1, V.str t2] = [t1, t2].map V.str := rfl
          rw [e, List.getElem?_map] at hx7
          obtain ⟨t, h1, h2⟩ := Option.map_eq_some_iff.mp hx7
          exact ⟨t, h1, h2.symm⟩
        have hk2 : k < 2 := hk
        have et : ([t1, t2].take (k + 1)).filter noE = ([t1, t2].take k).filter noE ++ (if t = "" then [] else [t]) := by
          rw [List.take_add_one, ht]
          exact filt _ t
        refine ⟨rfl, _, rfl, rfl, _, rfl, ?_⟩
        by_cases hz : t = ""
        · have e : (!decide (V.str t = V.str "")) = false := by rw [hz]; decide
          rw [e, et, if_pos hz]
          exact iteF ⟨s7, g7, l7, gD7, (hC7.same (by rw [List.append_nil])).more (Nat.le_succ _)⟩
        · have e : (!decide (V.str t = V.str "")) = true := by
            rw [decide_eq_false fun z => hz (V.str.inj z)]
            rfl
          rw [e, et, if_neg hz]
          refine iteT ⟨_, rfl, l7, t, rfl, gD7, by have := hC7.len; omega, same_upd hD s7, by rw [upd_ne nq]; exact g7, _, upd_same, ?_⟩
          exact (hC7.put (k := t)).same (List.append_assoc _ _ _)
      · rintro H7 ⟨s7, g7, l7, gD7, hC7⟩
        refine ⟨s7, l7, gD7, (hC7.same ?_).more (by show 4 * i + 2 * j + 2 ≤ _; omega)⟩
        rw [List.take_add_one, hlt]
        unfold termsC
        rw [List.flatMap_append, List.append_assoc]
        simp [termsL]
    · rintro H5 ⟨s5, l5, g5, hC5⟩
      refine ⟨s5, l5, g5, (hC5.same ?_).more (by omega)⟩
      rw [hyl, List.take_of_length_le (Nat.le_refl _), List.take_add_one, hcl]
      unfold termsOf
      rw [List.flatMap_append]
      simp
  · rintro H3 ⟨s3, l, gD, hC⟩
    rw [hl, List.take_of_length_le (Nat.le_refl _)] at hC
    refine ⟨Ds, l, rfl, gD, by have := hC.len; omega, fun zs p3 hso hpm hp3 => .inl ⟨p3, _, rfl, SqL.of upd_same, fun q4 hq4 => ?_⟩⟩
    have s5 : Same H2 (upd (upd H3 p3 (.lst (zs.map V.str))) q4 (.tup (zs.map V.str))) := fun b u z => new_same hq4 _ _ (new_same hp3 _ _ (s3 _ _ z))
    have ha5 := s5 _ _ ha2
    have hc5 := Cs.same s5 hc2
    refine ⟨_, rfl, a, C, dx, _, rfl, ha5, D.cls, D.nt, (by show 1 < 1000; decide), ?_⟩
    refine q _ q4 zs ⟨upd_same, ⟨xs, Cs.ins ha5 hc5⟩, SqT.ins ha5 (SqT.of upd_same), hso, hpm.nodup_iff.mpr hC.nd, fun t => hpm.mem_iff.trans (hC.mem t)⟩ fun b u nb z => ?_
    rw [upd_ne nb]
    exact s5 _ _ (k2 b u nb z)
end
end Kx
namespace Kx
open PySem L2 PySem.Spec PyProof.Rows
def shL (l : Lit) : Sh := .tup [.str l.1, .str l.2.1, .int l.2.2]
def shC (c : List Lit) : Sh := .tup (c.map shL)
def lenS : Sh → Nat | .tup l => l.length | _ => 0
def wrongAtS : Nat → Nat → List Sh → Option Int
  | _, _, [] => none
  | i, d, c :: r => if standsS c = true then if (if lenS c = 2 then d + 1 else d) = 2 then some (i : Int) else wrongAtS (i + 1) (if lenS c = 2 then d + 1 else d) r else some (i : Int)
def firstWrongS (ds : List Sh) : Option Int := if 4 < ds.length then some (-1) else wrongAtS 0 0 ds
theorem litT_sh {d : Sh} (h : isLitTS d = true) : ∃ l : Lit, d = shL l ∧ isTerm l.1 = true ∧ isTerm l.2.1 = true := by
  have h1 : isLitS d = true := by
    cases e : isLitS d with
    | true => rfl
    | false => rw [litT_false e] at h; cases h
  obtain ⟨x, y, i, rfl⟩ := lit3 h1
  have h : (isTerm x && isTerm y) = true := h
  rw [Bool.and_eq_true] at h
  exact ⟨(x, y, i), rfl, h.1, h.2⟩
theorem lits_sh : ∀ {l : List Sh}, l.all isLitTS = true → ∃ c : List Lit, l = c.map shL ∧ (c.all fun l => isTerm l.1 && isTerm l.2.1) = true
  | [], _ => ⟨[], rfl, rfl⟩
  | d :: r, h => by
    rw [List.all_cons, Bool.and_eq_true] at h
    obtain ⟨l, rfl, a, b⟩ := litT_sh h.1
    obtain ⟨c, rfl, e⟩ := lits_sh h.2
    exact ⟨l :: c, rfl, by rw [List.all_cons, a, b, e]; rfl⟩
theorem stands_sh {d : Sh} (h : standsS d = true) : ∃ c : List Lit, d = shC c ∧ stands c = true ∧ 1 ≤ c.length := by
  cases d with
  | tup l =>
    have h : (isClS 2 (.tup l) && l.all isLitTS) = true := h
    rw [Bool.and_eq_true] at h
    obtain ⟨h1, h2⟩ := h
    have h1 : (decide (1 ≤ l.length ∧ (l.length : Int) ≤ 2) && l.all isLitS) = true := h1
    rw [Bool.and_eq_true, decide_eq_true_eq] at h1
    obtain ⟨c, rfl, e⟩ := lits_sh h2
    rw [List.length_map] at h1
    refine ⟨c, rfl, ?_, h1.1.1⟩
    unfold stands
    rw [decide_eq_true h1.1.2, e]
    rfl
  | _ => cases h
theorem wrong_sh : ∀ {ds : List Sh} {i d : Nat}, wrongAtS i d ds = none → ∃ cs : List (List Lit), ds = cs.map shC ∧ wrongAt i d cs = none
  | [], _, _, _ => ⟨[], rfl, rfl⟩
  | c :: r, i, d, h => by
    unfold wrongAtS at h
    by_cases hs : standsS c = true
    · rw [if_pos hs] at h
      obtain ⟨c', rfl, h1, h2⟩ := stands_sh hs
      have el : lenS (shC c') = c'.length := by show (c'.map shL).length = _; rw [List.length_map]
      rw [el] at h
      by_cases h3 : (if c'.length = 2 then d + 1 else d) = 2
      · rw [if_pos h3] at h; cases h
      · rw [if_neg h3] at h
        obtain ⟨cs, rfl, e⟩ := wrong_sh h
        refine ⟨c' :: cs, rfl, ?_⟩
        unfold wrongAt
        rw [if_pos h1, if_neg h3]
        exact e
    · rw [if_neg hs] at h; cases h
theorem first_sh {ds : List Sh} (h : firstWrongS ds = none) : ∃ cs : List (List Lit), ds = cs.map shC ∧ firstWrong cs = none := by
  unfold firstWrongS at h
  by_cases h4 : 4 < ds.length
  · rw [if_pos h4] at h; cases h
  · rw [if_neg h4] at h
    obtain ⟨cs, rfl, e⟩ := wrong_sh h
    refine ⟨cs, rfl, ?_⟩
    unfold firstWrong
    rw [List.length_map] at h4
    rw [if_neg h4]
    exact e
section
variable {K : PySem.W.Frag} {H : Hp}
theorem isLit_of {v : V} {l : Lit} (h : Is K H v (shL l)) : IsLit K H v l := by
  cases h with
  | tup ha p n =>
  cases p with
  | cons p1 p =>
  cases p with
  | cons p2 p =>
  cases p with
  | cons p3 p =>
  cases p with
  | nil =>
  cases p1
  cases p2
  cases p3
  exact ⟨_, rfl, ha⟩
theorem isLits_of : ∀ {xs : List V} {c : List Lit}, IsAll K H xs (c.map shL) → Paired (IsLit K H) xs c
  | [], [], _ => .nil
  | _ :: _, [], h => nomatch h
  | [], _ :: _, h => nomatch h
  | _ :: _, _ :: _, .cons a t => .cons (isLit_of a) (isLits_of t)
theorem isC_of {v : V} {c : List Lit} (h : Is K H v (shC c)) (h1 : 1 ≤ c.length) : IsC K H v c := by
  cases h with
  | tup ha p n => exact ⟨_, _, rfl, ha, isLits_of p, h1, by rw [List.length_map] at n; exact n⟩
end
theorem firstSh_pos : ∀ {cs : List (List Lit)} {i d : Nat}, wrongAtS i d (cs.map shC) = none → ∀ c ∈ cs, 1 ≤ c.length
  | [], _, _, _, c, hc => nomatch hc
  | c0 :: r, i, d, h, c, hc => by
    rw [List.map_cons] at h
    unfold wrongAtS at h
    by_cases hs : standsS (shC c0) = true
    · rw [if_pos hs] at h
      by_cases h3 : (if lenS (shC c0) = 2 then d + 1 else d) = 2
      · rw [if_pos h3] at h; cases h
      · rw [if_neg h3] at h
        rcases List.mem_cons.mp hc with e | e
        · have h : (isClS 2 (shC c0) && (c0.map shL).all isLitTS) = true := hs
          rw [Bool.and_eq_true] at h
          have h1 : (decide (1 ≤ (c0.map shL).length ∧ ((c0.map shL).length : Int) ≤ 2) && (c0.map shL).all isLitS) = true := h.1
          rw [Bool.and_eq_true, decide_eq_true_eq, List.length_map] at h1
          rw [e]
          exact h1.1.1
        · exact firstSh_pos h c e
    · rw [if_neg hs] at h; cases h
theorem first_pos {cs : List (List Lit)} (h : firstWrongS (cs.map shC) = none) : ∀ c ∈ cs, 1 ≤ c.length := by
  unfold firstWrongS at h
  by_cases h4 : 4 < (cs.map shC).length
  · rw [if_pos h4] at h; cases h
  · rw [if_neg h4] at h
    exact firstSh_pos h
theorem isC_all' {K : PySem.W.Frag} {H : Hp} : ∀ {xs : List V} {cs : List (List Lit)}, IsAll K H xs (cs.map shC) → (∀ c ∈ cs, 1 ≤ c.length) → Paired (IsC K H) xs cs
  | [], [], _, _ => .nil
  | _ :: _, [], h, _ => nomatch h
  | [], _ :: _, h, _ => nomatch h
  | _ :: _, _ :: _, .cons a t, h => .cons (isC_of a (h _ List.mem_cons_self)) (isC_all' t fun c hc => h c (List.mem_cons_of_mem _ hc))
section
variable {P : Program} {w : World} {K : PySem.W.Frag} {mg : Str → Option Value} {base : Heap}
def spIsClG (K : PySem.W.Frag) : Sp := fun vs H Q _ => ∃ (v : V) (d : Sh) (m : Int), vs = [v, .int m] ∧ Is K H v d ∧ ∀ H', Same H H' → Q (.bl (isClS m d)) H'
theorem g_iscl {f g i : Addr} {fd fdL fdI : FuncData} (F : Fs K mg "is_clause" sIsCl ["thing", "most"] f fd) (L : Fs K mg "is_literal" sIsLit ["thing"] g fdL) (I : Fs K mg "is_integer" sIsInt ["thing"] i fdI) (T : Bx mg) :
    FnOk P w K mg base CX0 3 f fd ["thing", "most"] (spIsClG K) := by
  have GL : FnOk P w K mg base CX0 2 g fdL ["thing"] (spG K isLitS) := g_islit L I T
  refine F.F.ok scCl (fun vs H Q E h => ?_) (fun cdv A outer s H vs Q E hr h => ?_)
  · obtain ⟨v, d, m, rfl, _⟩ := h
    rfl
  · obtain ⟨v, d, m, rfl, hv, q⟩ := h
    obtain ⟨ty, tyx, t1, t2, t3, t4⟩ := hv.ty
    refine ⟨_, pss_cons (ps_if (PW.pt (pw_or (pt_not (pt_val (pe_callB call_isi (by rfl) T.isi boot_isinstance (pa_cons (pv 0) (pa_cons (pe_bltn (v := .ty "tuple") (by rfl) T.tuple (by decide +kernel) rfl) pa_nil)))))
        (pw_or1 (pt_not (pt_chain op_le op_le pe_int (pe_callB call_len_seq (by rfl) T.len PySem.boot_len (pa_cons (pv 0) pa_nil)) (pv 1)))))) (pss_one (ps_ret pe_bl)) pss_nil)
      (pss_one (ps_ret (pe_callB (cr_all rfl) (by rfl) T.all (by decide +kernel) (pa_cons
        (pe_lc (own := [("literal", 2)]) (g := gName 2) (tt := tYes) rfl scCl.nd (pi_tup (pv 0)) (blkOk_by (N := ["thing", "most", "literal"]) (sc := defScope sIsCl) (by decide +kernel))
          (fun _ _ _ _ _ => pg_name (i := 2) scCl.nd rfl (Or.inl rfl)) (fun _ _ _ _ _ => pts_nil)
          (fun _ _ _ _ _ => pe_call GL hr rfl L.m L.F.kp L.b .nil pass0 (pa_cons (pv 2) pa_nil))) pa_nil)))), ?_⟩
    refine ⟨_, rfl, v, .ty "tuple", _, _, _, rfl, .ty _, tyx, kit_ty t1, _, rfl, ?_⟩
    have no : isTupS d = false → isClS m d = false := by cases d <;> first | exact fun _ => rfl | exact fun z => nomatch z
    have q0 := q H fun _ _ z => z
    cases hs : isTupS d with
    | false =>
      rw [no hs] at q0
      exact iteT (iteT q0)
    | true =>
    refine iteF ?_
    cases hv with
    | tup ha p n =>
      rename_i a xs l
      have hl := p.length
      have ecl : isClS m (.tup l) = (decide (1 ≤ l.length ∧ (l.length : Int) ≤ m) && l.all isLitS) := rfl
      rw [ecl] at q q0
      refine ⟨_, rfl, a, xs, rfl, .inr ha, _, _, rfl, rfl, _, rfl, ?_⟩
      rw [hl]
      by_cases h1 : (1 : Int) ≤ (l.length : Int)
      case neg =>
        rw [decide_eq_false h1]
        rw [decide_eq_false (by omega), Bool.false_and] at q0
        exact iteF ⟨_, rfl, iteT q0⟩
      case pos =>
      rw [decide_eq_true h1]
      refine iteT ⟨_, rfl, _, _, rfl, rfl, _, rfl, ?_⟩
      by_cases h2 : (l.length : Int) ≤ m
      case neg =>
        rw [decide_eq_false h2]
        rw [decide_eq_false (by omega), Bool.false_and] at q0
        exact iteT q0
      case pos =>
      rw [decide_eq_true h2]
      rw [decide_eq_true (by omega), Bool.true_and] at q
      refine iteF ⟨_, rfl, a, rfl, ⟨_, ha⟩, fun D hD => ?_⟩
      refine lc_it (walk_tup (xs := xs)) (fun i H2 => Same H H2 ∧ H2 D = some (.lst ((l.take i).map fun d => .bl (isLitS d)))) ⟨new_same hD, upd_same⟩ (fun i H2 _ h => SqT.same h.1 ha) ?_ ?_
      · rintro i x H2 H3 hi ⟨s2, gD⟩ ⟨rfl, hx⟩
        obtain ⟨d', hcl, hx'⟩ := IsAll.get p hx
        refine ⟨rfl, yes_of ⟨_, rfl, x, d', rfl, Is.same s2 hx', fun H4 s4 => ⟨_, s4 _ _ gD, small1000 (by rw [List.length_map, List.length_take]; omega), same_upd hD (fun b u e => s4 _ _ (s2 _ _ e)), ?_⟩⟩⟩
        rw [upd_same, List.take_add_one, hcl, List.map_append]
        rfl
      · rintro H2 ⟨s2, gD⟩
        refine ⟨D, l.map isLitS, rfl, SqL.of ?_, ?_⟩
        · rw [gD, hl, List.take_of_length_le (Nat.le_refl _), List.map_map]
          rfl
        · have e : l.all isLitS = (l.map isLitS).all id := by
            rw [List.all_map]
            rfl
          rw [← e]
          exact q H2 s2
    | non => cases hs
    | lst h => cases hs
    | dic h => cases hs
    | bl b => cases hs
    | int i => cases hs
    | str x h => cases hs
theorem g_stand {f g i c' t wd lt : Addr} {fd fdL fdI fdC fdT fdW fdLT : FuncData} (F : Fs K mg "_can_stand" sStand ["thing"] f fd) (C : Fs K mg "is_clause" sIsCl ["thing", "most"] c' fdC) (L : Fs K mg "is_literal" sIsLit ["thing"] g fdL) (I : Fs K mg "is_integer" sIsInt ["thing"] i fdI)
    (Tm : Fs K mg "is_term" sIsTerm ["thing"] t fdT) (W : Fs K mg "is_word" sIsWord ["thing"] wd fdW) (LT : Fs K mg "is_literal_over_terms" sLitT ["thing"] lt fdLT) (T : Bx mg) (hM : ∃ k, mg "MOST_LITERALS" = some (.int 2 k)) :
    FnOk P w K mg base CX0 4 f fd ["thing"] (spG K standsS) := by
  obtain ⟨tk, hM⟩ := hM
  have GC : FnOk P w K mg base CX0 3 c' fdC ["thing", "most"] (spIsClG K) := g_iscl C L I T
  have GT : FnOk P w K mg base CX0 3 lt fdLT ["thing"] (spG K isLitTS) := g_litT LT L I Tm W T
  refine F.F.ok scStand (fun vs H Q E h => spG_len h) (fun cdv A outer s H vs Q E hr h => ?_)
  obtain ⟨v, d, rfl, hv, q⟩ := h
  refine ⟨_, pss_one (ps_ret (pe_and (pe_call GC hr (by rfl) C.m C.F.kp C.b .nil pass0 (pa_cons (pv 0) (pa_cons (pe_glob (v := .int 2) (by rfl) hM ⟨_, rfl⟩) pa_nil)))
      (pe_one (pe_callB (cr_all rfl) (by rfl) T.all (by decide +kernel) (pa_cons
        (pe_lc (own := [("literal", 1)]) (g := gName 1) (tt := tYes) rfl scStand.nd (pi_tup (pv 0)) (blkOk_by (N := ["thing", "literal"]) (sc := defScope sStand) (by decide +kernel))
          (fun _ _ _ _ _ => pg_name (i := 1) scStand.nd rfl (Or.inl rfl)) (fun _ _ _ _ _ => pts_nil)
          (fun _ _ _ _ _ => pe_call GT hr (by rfl) LT.m LT.F.kp LT.b .nil pass0 (pa_cons (pv 1) pa_nil))) pa_nil))))), ?_⟩
  refine ⟨_, rfl, v, d, 2, rfl, hv, fun H1 s1 => ⟨_, rfl, ?_⟩⟩
  have no : isClS 2 d = false → standsS d = false := by
    cases d with
    | tup l => intro e; show (isClS 2 (.tup l) && _) = false; rw [e]; rfl
    | _ => exact fun _ => rfl
  cases hs : isClS 2 d with
  | false =>
    rw [no hs] at q
    exact iteF (q H1 s1)
  | true =>
  have hv1 := Is.same s1 hv
  cases hv1 with
  | tup ha p n =>
    rename_i a xs l
    have hl := p.length
    have es : standsS (.tup l) = l.all isLitTS := by show (isClS 2 (.tup l) && _) = _; rw [hs, Bool.true_and]
    rw [es] at q
    refine iteT ⟨_, rfl, a, rfl, ⟨_, ha⟩, fun D hD => ?_⟩
    refine lc_it (walk_tup (xs := xs)) (fun i H2 => Same H1 H2 ∧ H2 D = some (.lst ((l.take i).map fun d => .bl (isLitTS d)))) ⟨new_same hD, upd_same⟩ (fun i H2 _ h => SqT.same h.1 ha) ?_ ?_
    · rintro i x H2 H3 hi ⟨s2, gD⟩ ⟨rfl, hx⟩
      obtain ⟨d', hcl, hx'⟩ := IsAll.get p hx
      refine ⟨rfl, yes_of ⟨_, rfl, x, d', rfl, Is.same s2 hx', fun H4 s4 => ⟨_, s4 _ _ gD, small1000 (by rw [List.length_map, List.length_take]; omega), same_upd hD (fun b u e => s4 _ _ (s2 _ _ e)), ?_⟩⟩⟩
      rw [upd_same, List.take_add_one, hcl, List.map_append]
      rfl
    · rintro H2 ⟨s2, gD⟩
      refine ⟨D, l.map isLitTS, rfl, SqL.of ?_, ?_⟩
      · rw [gD, hl, List.take_of_length_le (Nat.le_refl _), List.map_map]
        rfl
      · have e : l.all isLitTS = (l.map isLitTS).all id := by
          rw [List.all_map]
          rfl
        rw [← e]
        exact q H2 fun b u z => s2 _ _ (s1 _ _ z)
  | non => cases hs
  | lst h => cases hs
  | dic h => cases hs
  | bl b => cases hs
  | int i => cases hs
  | str x h => cases hs
def spFirstG (K : PySem.W.Frag) : Sp := fun vs H Q _ => ∃ (a : Addr) (xs : List V) (ds : List Sh), vs = [.ref a] ∧ SqT K H a xs ∧ IsAll K H xs ds ∧ ds.length ≤ 1000 ∧ ∀ H', Same H H' → Q (optV (firstWrongS ds)) H'
theorem g_first {f : Addr} {fd : FuncData} (F : Fs K mg "_first_wrong" sFirst ["clauses"] f fd) (M : Forms K mg) : FnOk P w K mg base CX0 5 f fd ["clauses"] (spFirstG K) := by
  obtain ⟨tk, hM⟩ := M.mC
  obtain ⟨_, _, dI⟩ := M.int
  obtain ⟨_, _, dW⟩ := M.word
  obtain ⟨_, _, dT⟩ := M.term
  obtain ⟨_, _, dL⟩ := M.lit
  obtain ⟨_, _, dC⟩ := M.cl
  obtain ⟨_, _, dS⟩ := M.stand
  obtain ⟨_, _, dLT⟩ := M.litT
  have T := M.T
  have GS : FnOk P w K mg base CX0 4 _ _ ["thing"] (spG K standsS) := g_stand dS dC dL dI dT dW dLT T M.mL
  refine F.F.ok scFirst (fun vs H Q E h => ?_) (fun cdv A outer s H vs Q E hr h => ?_)
  · obtain ⟨a, xs, cs, rfl, _⟩ := h
    rfl
  · obtain ⟨a, xs, cs, rfl, hsq, hall, hdl, q⟩ := h
    have hl : xs.length = cs.length := hall.length
    refine ⟨_, pss_cons (ps_if (pt_cmpR op_gt (pe_callB call_len_seq (by rfl) T.len PySem.boot_len (pa_cons (pv 0) pa_nil)) (pe_glob (v := .int 4) (by rfl) hM ⟨_, rfl⟩) (nomark _)) (pss_one (ps_ret (pe_un un_neg pe_int))) pss_nil)
      (pss_cons (ps_set (i := 1) scFirst.nd rfl (Or.inl rfl) pe_int)
      (pss_cons (ps_for PassesOwn.never rfl (pi_enumT (by rfl) T.enum (pa_cons (pv 0) pa_nil)) (pg_tup rfl (pgs_cons (pg_name (i := 2) scFirst.nd rfl (Or.inl rfl)) (pgs_cons (pg_name (i := 3) scFirst.nd rfl (Or.inl rfl)) pgs_nil)))
        (pss_cons (ps_if (pt_not (pt_val (pe_call GS hr (by rfl) dS.m dS.F.kp dS.b .nil pass0 (pa_cons (pv 3) pa_nil)))) (pss_one (ps_ret (pv 2))) pss_nil)
        (pss_cons (ps_if (pt_cmpR op_eq (pe_callB call_len_seq (by rfl) T.len PySem.boot_len (pa_cons (pv 3) pa_nil)) pe_int (nomark _)) (pss_one (ps_aug (i := 1) scFirst.nd rfl (Or.inl rfl) pe_int ip_add)) pss_nil)
        (pss_one (ps_if (pt_cmpR op_eq (pv 1) pe_int (nomark _)) (pss_one (ps_ret (pv 2))) pss_nil)))))
      (pss_one (ps_ret pe_non)))), ?_⟩
    refine ⟨_, rfl, a, xs, rfl, .inr hsq, _, _, rfl, rfl, _, rfl, ?_⟩
    rw [hl]
    by_cases h4 : (4 : Int) < (cs.length : Int)
    case pos =>
      rw [decide_eq_true h4]
      have e : firstWrongS cs = some (-1) := by
        unfold firstWrongS
        rw [if_pos (by omega)]
      rw [e] at q
      exact iteT ⟨_, rfl, q H fun _ _ z => z⟩
    case neg =>
    rw [decide_eq_false h4]
    have e : firstWrongS cs = wrongAtS 0 0 cs := by
      unfold firstWrongS
      rw [if_neg (by omega)]
    rw [e] at q
    obtain ⟨R, hR⟩ : ∃ R, wrongAtS 0 0 cs = R := ⟨_, rfl⟩
    rw [hR] at q
    refine iteF ?_
    refine ⟨_, rfl, a, xs, rfl, hsq, ?_⟩
    refine for_enumT (xs := xs) (fun i σ H2 => Same H H2 ∧ ∃ (d : Nat) (v2 v3 : Option V), σ = [some (.ref a), some (.int d), v2, v3] ∧ d < 2 ∧ wrongAtS i d (cs.drop i) = R) ⟨fun _ _ z => z, 0, none, none, rfl, by decide, hR⟩
      (fun i σ H2 _ h => SqT.same h.1 hsq) ?_ ?_
    · rintro i x σ H2 t hx ⟨s2, d, v2, v3, rfl, hd, hw⟩ ht
      obtain ⟨c, hcl, hy⟩ := IsAll.get hall hx
      have hdrop : cs.drop i = c :: cs.drop (i + 1) := (List.drop_eq_getElem?_toList_append).trans (by rw [hcl]; rfl)
      rw [hdrop] at hw
      have s3 : Same H (upd H2 t (.tup [.int (i : Nat), x])) := fun b u z => new_same ht b u (s2 b u z)
      refine ⟨t, _, rfl, SqT.of upd_same, rfl, _, _, rfl, _, _, rfl, rfl, ?_⟩
      refine ⟨_, rfl, x, c, rfl, Is.same s3 hy, fun H4 s4 => ⟨_, rfl, ?_⟩⟩
      have s14 : Same H H4 := fun b u z => s4 b u (s3 b u z)
      have hy4 := Is.same s14 hy
      unfold wrongAtS at hw
      cases hst : standsS c with
      | false =>
        rw [hst, if_neg Bool.false_ne_true] at hw
        rw [← hw] at q
        exact iteT ⟨_, rfl, q H4 s14⟩
      | true =>
        rw [hst, if_pos rfl] at hw
        refine iteF ?_
        cases hy4 with
        | tup hb p n =>
        rename_i b ys l
        have hyl := p.length
        have ell : lenS (.tup l) = l.length := rfl
        rw [ell] at hw
        refine ⟨_, rfl, b, ys, rfl, .inr hb, rfl, _, rfl, ?_⟩
        rw [hyl]
        by_cases h2 : l.length = 2
        case pos =>
          rw [if_pos h2] at hw
          have e2 : decide (V.int (l.length : Int) = V.int 2) = true := by rw [h2]; exact decide_eq_true rfl
          rw [e2]
          refine iteT ⟨_, rfl, _, _, rfl, rfl, ?_⟩
          refine ⟨_, rfl, rfl, _, rfl, ?_⟩
          by_cases h5 : d + 1 = 2
          case pos =>
            rw [if_pos h5] at hw
            have e5 : decide (V.int ((d : Int) + 1) = V.int 2) = true := by
              have : d = 1 := by omega
              rw [this]
              exact decide_eq_true rfl
            rw [e5]
            rw [← hw] at q
            exact iteT ⟨_, rfl, q H4 s14⟩
          case neg =>
            rw [if_neg h5] at hw
            have e5 : decide (V.int ((d : Int) + 1) = V.int 2) = false := decide_eq_false fun z => h5 (by have := V.int.inj z; omega)
            rw [e5]
            exact iteF ⟨s14, d + 1, _, _, rfl, by omega, hw⟩
        case neg =>
          rw [if_neg h2] at hw
          have e2 : decide (V.int (l.length : Int) = V.int 2) = false := decide_eq_false fun z => h2 (by have := V.int.inj z; omega)
          rw [e2]
          refine iteF ?_
          refine ⟨_, rfl, rfl, _, rfl, ?_⟩
          have h5 : ¬ d = 2 := by omega
          rw [if_neg h5] at hw
          have e5 : decide (V.int (d : Int) = V.int 2) = false := decide_eq_false fun z => h5 (by have := V.int.inj z; omega)
          rw [e5]
          exact iteF ⟨s14, d, _, _, rfl, hd, hw⟩
        | non => cases hst
        | lst h => cases hst
        | dic h => cases hst
        | bl b => cases hst
        | int i => cases hst
        | str x h => cases hst
    · rintro σ H2 ⟨s2, d, v2, v3, rfl, hd, hw⟩
      rw [List.drop_of_length_le (by rw [hl]; exact Nat.le_refl _)] at hw
      rw [← hw] at q
      exact q H2 s2
def spInitBG (K : PySem.W.Frag) (C : Addr) (F : Hp → Int → Prop) : Sp := fun vs H Q _ => ∃ (a dx p : Addr) (xs : List V) (ds : List Sh), vs = [.ref a, .ref p] ∧ H a = some (.ins C dx []) ∧ SqT K H p xs ∧ IsAll K H xs ds ∧ ds.length ≤ 1000 ∧
  (∀ cs, ds = cs.map shC → firstWrongS ds = none → firstWrong cs = none → ∀ H' q ys, CondF K H' a C dx p q cs ys → (∀ b u, b ≠ a → H b = some u → H' b = some u) → Q .non H') ∧ ∀ i, firstWrongS ds = some i → ∀ H1, Same H H1 → F H1 i
theorem body_initG {f C : Addr} (D : Cnd K mg C) {CX : CXT} (cdv : Value) (A : Around) (outer : List Env) (s : Shared) (H : Hp) (vs : List V) (Q : VK) (E : XK) (F : Hp → Int → Prop) (hr : Room 5 (A.deeper (envOfC "Cond.__init__" (defScope sInit) s.heap.objs.size f cdv))) {tR : TS}
    (hR : PS (cxOf CX P w K mg base nI "Cond.__init__" (defScope sInit) f cdv A outer s H E) raiseI tR) (hF : ∀ (D' : Ends) v0 v1 i v3 v4 v5 H1, Same H H1 → F H1 i → tR D' [v0, v1, some (.int i), v3, v4, v5] H1) (h : spInitBG K C F vs H Q E) :
    ∃ t, PSs (cxOf CX P w K mg base nI "Cond.__init__" (defScope sInit) f cdv A outer s H E) (defBody sInit) t ∧ t { nx := fun _ H' => Q .non H', rt := Q } (start nI vs) H := by
  obtain ⟨_, _, dF⟩ := D.first
  have GF : FnOk P w K mg base CX0 5 _ _ ["clauses"] (spFirstG K) := g_first dF D.M
  have T := D.M.T
  obtain ⟨a, dx, p, xs, ds, rfl, ha, hsq, hall, hdl, qn, qf⟩ := h
  refine ⟨_, pss_cons (ps_set (i := 2) scI.nd rfl (Or.inl rfl) (pe_call GF hr (by rfl) dF.m dF.F.kp dF.b .nil pass0 (pa_cons (pv 1) pa_nil)))
    (pss_cons (ps_if (pt_cmpR op_notN (pv 2) pe_non (nomark _)) (pss_one hR) pss_nil)
    (pss_cons (ps_fld (pv 0) (pv 1) (by rfl))
    (pss_one (ps_fld (pv 0) (pe_tupleOf (by rfl) T.tuple (pe_callB (cr_sortedX rfl) (by rfl) T.sorted (by decide +kernel) (pa_cons
      (pe_sc3 (own := [("clause", 3), ("one", 4), ("term", 5)]) (vs1 := [4, 5]) (vs2 := [5]) (g0 := gName 3) (g1 := gName 4) (g2 := gName 5) (tt0 := tYes) (tt1 := tYes) (w1 := iTup K (tVar 3)) (w2 := iTup K (tSl (rSlA K) (tVar 4) tNoPart (tPart (tC (.int 2))))) (tt2 := tTest (tOp rNe (tVar 5) (tC (.str "")))) (te := tVar 5) rfl scI.nd (pi_tup (pv 1)) (blkOk_by (N := nI) (sc := defScope sInit) (by decide +kernel)) (by decide) (by decide)
        (fun _ _ _ _ _ => pg_name (i := 3) scI.nd rfl (Or.inl rfl)) (fun _ _ _ _ _ => pts_nil)
        (fun _ _ _ _ _ => pi_tup (pv 3)) (fun _ _ _ _ _ => pg_name (i := 4) scI.nd rfl (Or.inl rfl)) (fun _ _ _ _ _ => pts_nil)
        (fun _ _ _ _ _ => pi_tup (pe_slice sl_tupA (pv 4) po_none (po_some pe_int))) (fun _ _ _ _ _ => pg_name (i := 5) scI.nd rfl (Or.inl rfl)) (fun _ _ _ _ _ => pts_one (pt_cmpR op_ne (pv 5) pe_str (nomark _)))
        (fun _ _ _ _ _ => pv 5)) pa_nil))) (by rfl))))), ?_⟩
  have bound : (64 : Nat) < scanBound := by decide
  refine ⟨_, rfl, p, xs, ds, rfl, hsq, hall, hdl, fun H1 s1 => ?_⟩
  cases hwS : firstWrongS ds with
  | some i => exact ⟨_, rfl, rfl, _, rfl, iteT (hF _ _ _ _ _ _ _ _ s1 (qf i hwS H1 s1))⟩
  | none =>
  obtain ⟨cs, rfl, hw⟩ := first_sh hwS
  have hc : Cs K H p xs cs := ⟨hsq, isC_all' hall (first_pos hwS), by rw [List.length_map] at hdl; exact hdl⟩
  have hl : xs.length = cs.length := Paired.length hc.p
  have q := qn cs rfl hwS hw
  obtain ⟨n4, hst⟩ := first_none hw
  refine ⟨_, rfl, rfl, _, rfl, iteF ?_⟩
  refine ⟨_, rfl, _, rfl, a, C, dx, [], rfl, s1 _ _ ha, D.cls, D.nc, by decide, ?_⟩
  obtain ⟨H2, e2⟩ : ∃ H2, upd H1 a (.ins C dx (putF "clauses" (.ref p) [])) = H2 := ⟨_, rfl⟩
  have ha2 : H2 a = some (.ins C dx (putF "clauses" (.ref p) [])) := by rw [← e2]; exact upd_same
  have hc2 : Cs K H2 p xs cs := by rw [← e2]; exact Cs.ins (s1 _ _ ha) (Cs.same s1 hc)
  have k2 : ∀ b u, b ≠ a → H b = some u → H2 b = some u := fun b u nb z => by rw [← e2, upd_ne nb]; exact s1 _ _ z
  rw [e2]
  refine ⟨_, rfl, p, rfl, ⟨_, hc2.sq⟩, fun Ds hD => ?_⟩
  refine walk_it (walk_tup (xs := xs)) (fun i H3 => Same H2 H3 ∧ ∃ l, H3 Ds = some (SetX P w Ds l) ∧ Col l (termsOf (cs.take i)) (4 * i)) ⟨new_same hD, [], upd_same, Col.nil⟩ (fun i H3 _ h => SqT.same h.1 hc2.sq) ?_ ?_
  · rintro i x H3 H4 hi ⟨s3, l, gD, hC⟩ ⟨rfl, hx⟩
    obtain ⟨c, hcl, b, ys, rfl, hb⟩ := paired_get hc2.p hx
    have hcm : c ∈ cs := List.mem_of_getElem? hcl
    have c2 := stands_len (hst c hcm)
    have hi4 : i < 4 := by omega
    have hyl : ys.length = c.length := hb.len
    refine ⟨rfl, yes_of ⟨_, rfl, b, rfl, ⟨_, SqT.same s3 hb.sq⟩, ?_⟩⟩
    refine walk_it (walk_tup (xs := ys)) (fun j H5 => Same H2 H5 ∧ ∃ l, H5 Ds = some (SetX P w Ds l) ∧ Col l (termsOf (cs.take i) ++ termsC (c.take j)) (4 * i + 2 * j)) ⟨s3, l, gD, hC.same (List.append_nil _).symm⟩ (fun j H5 _ h => SqT.same h.1 hb.sq) ?_ ?_
    · rintro j x H5 H6 hj ⟨s5, l5, g5, hC5⟩ ⟨rfl, hx5⟩
      obtain ⟨lt, hlt, e, rfl, he⟩ := paired_get hb.p hx5
      obtain ⟨t1, t2, n⟩ := lt
      have he5 := SqT.same s5 he
      refine ⟨rfl, yes_of ?_⟩
      refine ⟨_, rfl, _, rfl, e, _, rfl, he5, fun z => absurd z.2 (by show ¬ HT.sIx 3 3 (some 2) = 3; decide), fun _ q5 hq5 => ?_⟩
      have s6 := same_upd hq5 (fun b u z => z : Same H6 H6) (o := .tup [.str t1, .str t2])
      have nq : q5 ≠ Ds := fun z => by
        rw [z, g5] at hq5
        cases hq5
      refine ⟨q5, rfl, ⟨_, SqT.of upd_same⟩, ?_⟩
      refine walk_it (walk_tup (xs := [V.str t1, V.str t2])) (fun k H7 => Same H2 H7 ∧ H7 q5 = some (.tup [.str t1, .str t2]) ∧ ∃ l, H7 Ds = some (SetX P w Ds l) ∧ Col l (termsOf (cs.take i) ++ termsC (c.take j) ++ ([t1, t2].take k).filter noE) (4 * i + 2 * j + k))
        ⟨fun b u z => s6 _ _ (s5 _ _ z), upd_same, l5, (by rw [upd_ne (Ne.symm nq)]; exact g5), hC5.same (List.append_nil _).symm⟩ (fun k H7 _ h => SqT.of h.2.1) ?_ ?_
      · rintro k x H7 H8 hk ⟨s7, g7, l7, gD7, hC7⟩ ⟨rfl, hx7⟩
        obtain ⟨t, ht, rfl⟩ : ∃ t, [t1, t2][k]? = some t ∧ x = .str t := by
          have e : [V.str t1, V.str t2] = [t1, t2].map V.str := rfl
          rw [e, List.getElem?_map] at hx7
          obtain ⟨t, h1, h2⟩ := Option.map_eq_some_iff.mp hx7
          exact ⟨t, h1, h2.symm⟩
        have hk2 : k < 2 := hk
        have et : ([t1, t2].take (k + 1)).filter noE = ([t1, t2].take k).filter noE ++ (if t = "" then [] else [t]) := by
          rw [List.take_add_one, ht]
          exact filt _ t
        refine ⟨rfl, _, rfl, rfl, _, rfl, ?_⟩
        by_cases hz : t = ""
        · have e : (!decide (V.str t = V.str "")) = false := by rw [hz]; decide
          rw [e, et, if_pos hz]
          exact iteF ⟨s7, g7, l7, gD7, (hC7.same (by rw [List.append_nil])).more (Nat.le_succ _)⟩
        · have e : (!decide (V.str t = V.str "")) = true := by
            rw [decide_eq_false fun z => hz (V.str.inj z)]
            rfl
          rw [e, et, if_neg hz]
          refine iteT ⟨_, rfl, l7, t, rfl, gD7, by have := hC7.len; omega, same_upd hD s7, by rw [upd_ne nq]; exact g7, _, upd_same, ?_⟩
          exact (hC7.put (k := t)).same (List.append_assoc _ _ _)
      · rintro H7 ⟨s7, g7, l7, gD7, hC7⟩
        refine ⟨s7, l7, gD7, (hC7.same ?_).more (by show 4 * i + 2 * j + 2 ≤ _; omega)⟩
        rw [List.take_add_one, hlt]
        unfold termsC
        rw [List.flatMap_append, List.append_assoc]
        simp [termsL]
    · rintro H5 ⟨s5, l5, g5, hC5⟩
      refine ⟨s5, l5, g5, (hC5.same ?_).more (by omega)⟩
      rw [hyl, List.take_of_length_le (Nat.le_refl _), List.take_add_one, hcl]
      unfold termsOf
      rw [List.flatMap_append]
      simp
  · rintro H3 ⟨s3, l, gD, hC⟩
    rw [hl, List.take_of_length_le (Nat.le_refl _)] at hC
    refine ⟨Ds, l, rfl, gD, by have := hC.len; omega, fun zs p3 hso hpm hp3 => .inl ⟨p3, _, rfl, SqL.of upd_same, fun q4 hq4 => ?_⟩⟩
    have s5 : Same H2 (upd (upd H3 p3 (.lst (zs.map V.str))) q4 (.tup (zs.map V.str))) := fun b u z => new_same hq4 _ _ (new_same hp3 _ _ (s3 _ _ z))
    have ha5 := s5 _ _ ha2
    have hc5 := Cs.same s5 hc2
    refine ⟨_, rfl, a, C, dx, _, rfl, ha5, D.cls, D.nt, (by show 1 < 1000; decide), ?_⟩
    refine q _ q4 zs ⟨upd_same, ⟨xs, Cs.ins ha5 hc5⟩, SqT.ins ha5 (SqT.of upd_same), hso, hpm.nodup_iff.mpr hC.nd, fun t => hpm.mem_iff.trans (hC.mem t)⟩ fun b u nb z => ?_
    rw [upd_ne nb]
    exact s5 _ _ (k2 b u nb z)
end
end Kx
namespace Kx
open PySem L2 PySem.Spec PyProof.Rows

/-! the classes of errors: what the walk asks of each -/
abbrev veL : List Value := [.type "ValueError", .type "Exception", .type "BaseException", .type "object"]
theorem ve_ok (B : Addr) : PySem.HandSPX.refsVE (.ref B :: veL) = true := by
  show PySem.HandSPX.refsVE veL = true
  decide +kernel
structure Ct (K : PySem.W.Frag) (B C : Addr) : Prop where
  cls : ∃ nm q N bs sn sub ab col dd k0 k1 k2 k3 k5, K.lookup C = some (excClassObj nm q C N bs (.ref B :: veL) true sn sub ab col dd k0 k1 k2 k3 k5 "ValueError.__new__")
  sa : PySem.W.findIn K (.ref C) "__setattr__" = some (some (.builtin "object.__setattr__"))
  ga : PySem.W.findIn K (.ref C) "__getattribute__" = some (some (.builtin "BaseException.__getattribute__"))
  gg : PySem.W.findIn K (.ref C) "__getattr__" = some none
  tyC : PySem.W.typeIn K (.ref C) = some (.type "type")
  kC : PySem.W.keepIn K (.ref C) = true
  hdC : PySem.W.hasDictIn K C = true
  ha : PySem.W.findIn K (.ref C) "__class__" = some (some (.builtin "object.__class__"))
structure Gt (K : PySem.W.Frag) (B : Addr) : Prop where
  hn : PySem.W.specialIn K (.builtin "object.__class__") "__get__" = some (some (.builtin "getset_descriptor.__get__"))
  ht : PySem.W.takesIn K (.builtin "object.__class__") = some true
  isB : (PySem.W.clsIn K B).isSome = true
  tyB : PySem.W.typeIn K (.ref B) = some (.type "type")
  bsB : PySem.W.subIn K (.ref B) (.type "BaseException") = some true
  hdB : PySem.W.hasDictIn K B = true
section
variable {K : PySem.W.Frag} {B C D : Addr}
theorem Ct.cd (T : Ct K B C) : ∃ cd, PySem.W.clsIn K C = some cd ∧ cd.mro = .ref C :: .ref B :: veL := by
  obtain ⟨nm, q, N, bs, sn, sub, ab, col, dd, k0, k1, k2, k3, k5, h⟩ := T.cls
  exact ⟨_, by unfold PySem.W.clsIn; rw [h] <;> rfl, rfl⟩
theorem Ct.mro (T : Ct K B C) (v : Value) : PySem.W.mroIn K C v = some ((.ref C :: .ref B :: veL : List Value).contains v) := by
  obtain ⟨cd, h, e⟩ := T.cd
  unfold PySem.W.mroIn
  rw [h, Option.bind_some, e] <;> rfl
theorem Ct.base (T : Ct K B C) : PySem.W.subIn K (.ref C) (.type "BaseException") = some true := by
  show PySem.W.mroIn K C _ = _
  rw [T.mro]
  rfl
theorem Ct.isC (T : Ct K B C) : (PySem.W.clsIn K C).isSome = true := by
  obtain ⟨cd, h, _⟩ := T.cd
  rw [h]; rfl
theorem Ct.oex (T : Ct K B C) : OexC K C := by
  obtain ⟨nm, q, N, bs, sn, sub, ab, col, dd, k0, k1, k2, k3, k5, h⟩ := T.cls
  exact ⟨⟨nm, q, N, bs, _, sn, sub, ab, col, dd, k0, k1, k2, k3, k5, h, ve_ok B⟩, T.sa, T.base, T.tyC, T.kC⟩
theorem Ct.xf (T : Ct K B C) : XfC K C := ⟨T.ga, T.gg, T.base, T.hdC⟩
theorem kit_ref (T : Ct K B C) {b : Bool} (hD : (PySem.W.clsIn K D).isSome = true) (tD : PySem.W.typeIn K (.ref D) = some (.type "type")) (hb : (.ref C :: .ref B :: veL : List Value).contains (.ref D) = b) : PySem.W.kitOne K (.ref C) (.ref D) = some b := by
  unfold PySem.W.kitOne
  by_cases h : ((Value.ref C == Value.ref D) = true)
  · rw [if_pos h]
    have e : Value.ref C = Value.ref D := beq_iff_eq.mp h
    rw [← hb, ← e]
    simp
  · rw [if_neg h]
    show (if ((PySem.W.clsIn K D).isSome && PySem.W.typeIn K (.ref D) == some (.type "type")) = true then PySem.W.subIn K (.ref C) (.ref D) else none) = _
    rw [hD, tD, if_pos (by rfl)]
    show PySem.W.mroIn K C _ = _
    rw [T.mro, hb]
theorem kit_yes (T : Ct K B C) : PySem.W.kitOne K (.ref C) (.ref C) = some true := kit_ref T T.isC T.tyC (by simp)
theorem kit_no (T : Ct K B C) (S : Ct K B D) (h1 : D ≠ C) (h2 : D ≠ B) : PySem.W.kitOne K (.ref C) (.ref D) = some false := kit_ref T S.isC S.tyC (by simp [h1, h2])
theorem kit_b (T : Ct K B C) (G : Gt K B) : PySem.W.kitOne K (.ref C) (.ref B) = some true := kit_ref T G.isB G.tyB (by simp)
theorem kit_ve (T : Ct K B C) : PySem.W.kitOne K (.ref C) (.type "ValueError") = some true := by
  unfold PySem.W.kitOne
  rw [if_neg (by simp)]
  show (if PySem.W.kitMeta "ValueError" = true then PySem.W.subIn K (.ref C) (.type "ValueError") else none) = _
  rw [if_pos (by decide +kernel)]
  show PySem.W.mroIn K C _ = _
  rw [T.mro]
  rfl
end

/-! an error of a class as it stands: with its fields, or without any -/
def HasF (H : Hp) (a C : Addr) (fs : List (Str × V)) : Prop := ∃ d, d ≠ a ∧ H a = some (exo a C (some d)) ∧ H d = some (exd d fs)
def Bare (H : Hp) (a C : Addr) : Prop := H a = some (ExO (.ref C) a)
def ErrAt (H : Hp) (a C : Addr) : Prop := (∃ fs, HasF H a C fs) ∨ Bare H a C

section
variable {X : Cx} {pins : List (Addr × Obj)} {σ : L2.St} {H : Hp} {s : Shared} {a B C : Addr}
theorem err_inst (I : Inv X pins σ H s) (h : ErrAt H a C) : ∃ ox od, PySem.W.InstAt s.heap a ox C od := by
  rcases h with ⟨fs, d, _, h1, h2⟩ | h
  · obtain ⟨t1, e1⟩ := exo_at I.hok h1
    obtain ⟨mA, hn, _⟩ := exd_at I.hok h2
    obtain ⟨od, e2, _⟩ := lookIn_ns hn
    exact ⟨_, some od, ⟨e1, rfl, rfl, e2⟩⟩
  · obtain ⟨⟨oe, vs, e1, hz, hd, _⟩, _, _⟩ := I.hok a _ h
    obtain ⟨oc, odd, oda, osl⟩ := oe
    obtain ⟨z1, z2⟩ := hz
    dsimp only at z1 z2 hd
    subst z1 z2 hd
    exact ⟨_, none, ⟨e1, rfl, rfl, trivial⟩⟩
/-- isinstance(e, c), e an error that stands -/
def rIsErr (K : PySem.W.Frag) (B : Addr) : List V → Hp → VK → Prop := fun xs H Q => ∃ (a C : Addr) (c : V) (u : Value) (b : Bool), xs = [.ref a, c] ∧ ErrAt H a C ∧ Ct K B C ∧ ClsV c u ∧ PySem.W.kitOne K (.ref C) u = some b ∧ Q (.bl b) H
theorem call_isErr (G : Gt X.K B) : CallR X (.builtin "isinstance") (rIsErr X.K B) := by
  intro pins s σ H xs us Q I r h
  obtain ⟨a, C, c, u, b, rfl, he, T, k, e, q⟩ := h
  obtain ⟨u1, u2, rfl, r1, r2⟩ := vals2 r
  have z1 : u1 = Value.ref a := r1
  subst z1
  have e2 := k.eq r2
  subst e2
  obtain ⟨ox, od, J⟩ := err_inst I he
  exact PySem.W.kia_one (PySem.W.kitx_exc T.isC T.ga T.gg T.base T.ha G.hn G.ht (by rw [T.mro]; rfl)) I.kIn J e (fun z => nomatch z) fun tk => ⟨.bl b, H, I.tok tk, rfl, q⟩
/-- e.f, e an error that stands -/
theorem pe_errF {e : Expr} {te : TE} {pos : Pos} {n : Str} (he : PE X e te) (hb : attributeBase e n X.env (eval e X.env) = eval e X.env := by rfl) :
    PE X (.Attribute e n pos) (fun σ H Q => te σ H fun x H1 => ∃ (a B C : Addr) (fs : List (Str × V)) (v : V), x = .ref a ∧ Ct X.K B C ∧ PySem.W.findIn X.K (.ref C) n = some none ∧ HasF H1 a C fs ∧ fs.lookup n = some v ∧ Q v H1) := by
  refine ⟨fun pins s σ H Q I h => ?_⟩
  refine attr_of hb (thn (he.run pins s σ H _ I h) fun u s1 hh => ?_)
  obtain ⟨x, H1, I1, rx, a, B, C, fs, v, ex, T, hno, ⟨d, _, h1, h2⟩, l, q⟩ := hh
  subst ex
  obtain rfl : u = Value.ref a := rx
  obtain ⟨t1, e1⟩ := exo_at I1.hok h1
  obtain ⟨mA, hns, hr⟩ := exd_at I1.hok h2
  obtain ⟨od, ho, hl⟩ := lookIn_ns hns
  obtain ⟨u, hu, ru⟩ := RelO.some_of (v := v) (o := mA n) (by rw [← l]; exact hr n)
  have J : PySem.W.InstAt s1.heap a _ C (some od) := ⟨e1, rfl, rfl, ho⟩
  exact HandSPX.exc_get I1.kIn J T.ga T.gg T.base (PySem.W.findObj_own T.hdC hno rfl (by rw [hl, hu])) (handed_of ru) ⟨v, H1, I1.tok _, ru, q⟩
end

/-! how an error is made: its __init__ stores each argument under its own name -/
def spI (K : PySem.W.Frag) (ns : List Str) : Sp := fun vs H Q _ => ∃ (a B C : Addr) (ws : List V), vs = .ref a :: ws ∧ ws.length = ns.length ∧ Ct K B C ∧ (∀ f ∈ ns, PySem.W.findIn K (.ref C) f = some none) ∧ H a = some (exo a C none) ∧
  ∀ dx H', H dx = none → dx ≠ a → H' a = some (exo a C (some dx)) → H' dx = some (exd dx (ns.zip ws).reverse) → (∀ b, b ≠ a → b ≠ dx → H' b = H b) → Q .non H'
section
variable {X : Cx} {e : Expr} {es : List Expr} {ta : TA} {p pos : Pos}
/-- C(e, ..) as a value: a new error with its fields -/
theorem pe_err {CX : CXT} {x : Str} {B C fI : Addr} {k : Nat} {fd : FuncData} {ps : List Str} {ns : List Str} (T : Ct X.K B C) (hno : ∀ f ∈ ns, PySem.W.findIn X.K (.ref C) f = some none) (iC : PySem.W.findIn X.K (.ref C) "__init__" = some (some (.ref fI))) (tI : PySem.W.typeIn X.K (.ref fI) = some (.type "function"))
    (F1 : FnOk X.prog X.w X.K X.mg X.base CX k fI fd ps (spI X.K ns)) (hr : Room (k + 1) X.A) (hb : Binds X.K fd ps []) (hx : Passes CX X (fun _ _ _ => False)) (hm : X.mg x = some (.ref C)) (ha : PA X (e :: es) ta) (hg : Gl X x := by rfl)
    (hdb : (x == ("__debug__" : Str)) = false := by decide) (he : starEach (e :: es) X.env = (false, eval e X.env) :: starEach es X.env := by rfl) (hpl : (backTo pos (starEach es X.env)).any (·.1) = false := by rfl) :
    PE X (.Call (.Name x p) (e :: es) [] pos) (fun σ H Q => ta σ H fun vs H1 => vs.length = ns.length ∧ ns.length ≤ 100 ∧ ∀ a H2, H1 a = none → HasF H2 a C (ns.zip vs).reverse → Same H1 H2 → Q (.ref a) H2) := by
  refine ⟨fun pins s σ H Q I h => ?_⟩
  obtain ⟨nm, q, N, bs, sn, sub, ab, col, dd, k0, k1, k2, k3, k5, hC⟩ := T.cls
  refine wpAny_Call_Name_kw (ld_glob I hg hm ?_ hdb)
  refine PySem.W.callWith_K (h₀ := X.base) I.ok.mod.kin T.kC (thn (ha.run pos pins s σ H _ I h) fun us s1 ⟨vs, H1, I1, r1, hz, hz2, q1⟩ => ⟨I1.kIn, ?_⟩) he hpl
  show wpAny _ _ (call (.ref C) us) _ _ _
  obtain ⟨hp, g, dr, tk, os⟩ := s1
  have hsz : hp.objs.size ≤ hp.objs.size + 1 := Nat.le_succ _
  have hn : H1 (hp.objs.size + 1) = none := I1.hok.fresh hsz
  have kk : ∀ b o, hp.get? b = some o → ((hp.push (PySem.W.kdv_tup us)).push (PySem.HandSPX.excO C hp.objs.size)).get? b = some o := fun b o z => Heap.get?_push_of_some _ (Heap.get?_push_of_some _ z)
  have hget : ((hp.push (PySem.W.kdv_tup us)).push (PySem.HandSPX.excO C hp.objs.size)).get? (hp.objs.size + 1) = some (PySem.HandSPX.excO C hp.objs.size) := by heap_get
  have I2 := I1.laid (t' := tk) (a := hp.objs.size + 1) (o := exo (hp.objs.size + 1) C none) (h' := (hp.push (PySem.W.kdv_tup us)).push (PySem.HandSPX.excO C hp.objs.size)) kk hsz (exo_ok hget)
  have r2 : Vals (V.ref (hp.objs.size + 1) :: vs) (Value.ref (hp.objs.size + 1) :: us) := .cons rfl r1
  have hq : spI X.K ns (V.ref (hp.objs.size + 1) :: vs) (upd H1 (hp.objs.size + 1) (exo (hp.objs.size + 1) C none)) (fun v H2 => v = .non ∧ Q (.ref (hp.objs.size + 1)) H2) (fun _ _ _ => False) := by
    refine ⟨_, B, C, vs, rfl, hz, T, hno, upd_same, fun dx H' n1 n2 e1 e2 e3 => ⟨rfl, q1 _ H' hn ⟨dx, n2, e1, e2⟩ fun b o z => ?_⟩⟩
    have nb : b ≠ hp.objs.size + 1 := ne_of_none z hn
    have n3 : H1 dx = none := by rw [← upd_ne (H := H1) (o := exo (hp.objs.size + 1) C none) n2]; exact n1
    rw [e3 b nb (ne_of_none z n3), upd_ne nb]
    exact z
  have hl : (Value.ref (hp.objs.size + 1) :: us).length = ps.length := by
    have z := r2.length
    rw [F1.len _ _ _ _ hq] at z
    exact z.symm
  have hus : us.length ≤ sizeLine := by
    rw [← Paired.length r1, sizeLine_eq]
    omega
  have hbs := hb ⟨(hp.push (PySem.W.kdv_tup us)).push (PySem.HandSPX.excO C hp.objs.size), g, dr, tk, os⟩ (Value.ref (hp.objs.size + 1) :: us) I2.kIn (by rw [List.append_nil]; exact hl)
  rw [List.append_nil] at hbs
  refine wpAny_call (PySem.HandSPX.call_own F.excBase_ValueError (fun Y => PySem.HandSPX.refsVE_contains Y _ (ve_ok B)) (I1.kIn _ _ hC) (PySem.W.looks_findIn I1.kIn iC) (fun self => PySem.W.bind_fn I1.kIn self tI) hus
    (codeAny_mono (F1.run _ X.stack _ _ ⟨Value.ref (hp.objs.size + 1) :: us, []⟩ (Value.ref (hp.objs.size + 1) :: us) _ _ (fun _ _ _ => False) (hr.make C us []) (I2.env0.make C us []) hbs r2 hq) fun r s' hq' => ?_))
  cases r with
  | error er => exact hx pins σ _ _ er s' I2 hq'
  | ok fl =>
    cases fl with
    | ret u =>
      obtain ⟨v, H2, os2, bare2, un2, hok2, rv, ev, q2⟩ := hq'
      subst ev
      exact ⟨rv, .ref (hp.objs.size + 1), H2, I2.call' (ch := []) os2 un2 hok2 bare2 (fun b z => absurd z (by simp)), rfl, q2⟩
    | next => exact False.elim hq'
    | brk => exact False.elim hq'
    | cont => exact False.elim hq'
end
end Kx
namespace Kx
open PySem L2 PySem.Spec PyProof.Rows
open StX (fn_star cxUp_none bind_star1 pe_makeR tMakeR run_makeR star_any pa_star CXUp)
theorem takesN0 {X : Cx} : L2N.Takes X (fun _ _ _ _ => False) := fun _ _ x => by
  obtain ⟨_, _, _, _, _, _, _, _, _, _, _, _, _, _, _, _, z⟩ := x
  exact z.elim
section
variable {X : Cx} {e : Expr} {te : TE}
theorem pmkN_err {K : PySem.W.Frag} {H0 : Hp} (hK : X.K = K) (hH : X.H_0 = H0) (hx : X.ex = []) (he : PE X e te) : L2N.PMk X e (fun σ H Q => te σ H fun x H1 => ∃ a B C d : Addr, x = .ref a ∧ Ct K B C ∧ H1 a = some (exo a C (some d)) ∧ Fr0 H0 a ∧ Q (.ref C) (some d) (delH H1 a)) := by
  subst hK hH
  intro pins s σ H Q I h
  refine thn (he.run pins s σ H _ I h) fun u s1 ⟨v, H1, I1, r1, a, B, C, d, ev, T, ha, h0, q⟩ => ?_
  subst ev
  obtain rfl : u = Value.ref a := r1
  obtain ⟨t1, ho⟩ := exo_at I1.hok ha
  obtain ⟨G, gs, ga, J⟩ := I1.untrack (show H1 a = some (.ext _) from ha) h0 hx
  exact ⟨a, _, _, { s1 with heap := G }, delH H1 a, .ref C, some d, rfl, J, gs, ga, ho, ⟨rfl, rfl, fun vs z => by cases z; rfl⟩, rfl, rfl, delH_same, rfl, I1.bare, raises_own T.base T.tyC, q⟩
end
section
variable {P : Program} {w : World} {K : PySem.W.Frag} {mg : Str → Option Value} {base : Heap}
theorem sc_BadCond : FnScope ["self", "clause"] ["self", "clause"] (defScope (inClass (top 3) 0)) := ⟨rfl, rfl, rfl, by decide +kernel, rfl, by decide +kernel, by decide +kernel⟩
theorem ok_BadCond {f : Addr} {fd : FuncData} (F : Fun K "__init__" "BadCond.__init__" (inClass (top 3) 0) f fd) : FnOk P w K mg base CX0 1 f fd ["self", "clause"] (spI K ["clause"]) := by
  refine F.ok sc_BadCond (fun vs H Q E h => ?_) (fun cdv A outer s H vs Q E hr h => ?_)
  · obtain ⟨a, B, C, ws, rfl, hl, _⟩ := h
    show ws.length + 1 = 2
    rw [hl] <;> rfl
  · obtain ⟨a, B, C, ws, rfl, hl, T, hno, ha, k⟩ := h
    obtain ⟨v0, rfl⟩ : ∃ v0, ws = [v0] := match ws, hl with | [v0], _ => ⟨v0, rfl⟩
    refine ⟨_, pss_one (ps_ost (pv 0) (pv 1)), ?_⟩
    refine ⟨_, rfl, _, rfl, a, C, rfl, T.oex, hno _ (by simp), .inl ⟨ha, fun dx n1 n2 => ?_⟩⟩
    exact k dx _ n1 n2 upd_same (by rw [upd_ne n2, upd_same]; rfl) (fun b h1 h2 => by rw [upd_ne h1, upd_ne h2])
end
theorem del_keep {H H1 : Hp} {a : Addr} (s : Same H H1) (n : H a = none) : Same H (delH H1 a) := fun b o e => by
  rw [delH_ne (ne_of_none e n)]
  exact s b o e
theorem cxUpN {P : Program} {w : World} : CXUp (L2N.CX P w) := by
  rintro outer s H s2 H2 E e s' un kp ho ⟨a, B, H', cls, d, ea, fl, hok, ub, na, os, ag, he⟩
  refine ⟨a, B, H', cls, d, ea, fl, hok, ⟨fun b o q n hb => ub.keep b o (kp b o q) (un.free b o q n (by simp)) hb, fun b o q hb => ub.slot b o (kp b o q) hb, fun b o q n => ub.free b o (kp b o q) (un.free b o q n (by simp)), fun b o q hb => ub.there b o (kp b o q) hb,
    fun b xs q => ub.tups b xs (un.tups b xs q), fun b o xs q => ub.frzs b o xs (un.frzs b o xs q), fun b ps q => ?_⟩, na, os.trans ho, ag, he⟩
  obtain ⟨m1, z1⟩ := un.tbls b ps q
  obtain ⟨m2, z2⟩ := ub.tbls b _ z1
  exact ⟨m1 ++ m2, by rw [z2, Array.append_assoc]⟩
/-- what is told of a refusal: its class and where -/
def refusal (CB : Addr) (E : XK) : Hp → Int → Prop := fun H1 i => ∀ d H', Same H1 H' → H' d = some (exd d [("clause", .int i)]) → E (.ref CB) (some d) H'
def spInit (K : PySem.W.Frag) (C : Addr) (F : XK → Hp → Int → Prop) : Sp := fun vs H Q E => ∃ ws rest, vs = ws ++ rest ∧ ws.length = ([("self" : PySem.Str)] : List PySem.Str).length ∧ rest.length ≤ sizeLine ∧ ∀ p, H p = Option.none → spInitB K C (F E) (ws ++ [V.ref p]) (upd H p (.tup rest)) Q E
structure Bad (K : PySem.W.Frag) (mg : Str → Option Value) (B CB fB : Addr) (fdB : FuncData) : Prop where
  T : Ct K B CB
  no : ∀ x ∈ ([("clause" : PySem.Str)] : List PySem.Str), PySem.W.findIn K (.ref CB) x = some none
  iC : PySem.W.findIn K (.ref CB) "__init__" = some (some (.ref fB))
  tI : PySem.W.typeIn K (.ref fB) = some (.type "function")
  F : Fun K "__init__" "BadCond.__init__" (inClass (top 3) 0) fB fdB
  b : Binds K fdB ["self", "clause"] []
  gm : mg "BadCond" = some (.ref CB)
section
variable {P : Program} {w : World} {K : PySem.W.Frag} {mg : Str → Option Value} {base : Heap}
theorem fnR_init0 {f C : Addr} {fd : FuncData} (F : Fun K "__init__" "Cond.__init__" sInit f fd) (D : Cnd K mg C) : FnR P w K mg base CX0 6 f (spInit K C fun _ _ _ => False) := by
  obtain ⟨oc, od, kV, doc, pm, an, cdv, ct, osl, rfl, lk, hcd⟩ := F.ex
  refine fn_star (sp := fun vs H Q E => spInitB K C (fun _ _ => False) vs H Q E) lk hcd scI cxUp_none (bind_star1 (B := fun xs => bindArgs (PySem.W.fnOf "__init__" "Cond.__init__" (defArgs sInit) (defBody sInit) (defScope sInit) .none kV doc pm an cdv ct) ⟨xs, []⟩) (p1 := "self") (pv := "clauses") (fun a => by rfl) (fun a r rs => by rfl)) (fun A outer s H vs Q E hr h => ?_)
  exact body_init (f := f) (tR := tNever) D cdv A outer s H vs Q E _ hr ps_never (fun _ _ _ _ _ _ _ _ _ z => z) h
theorem fnR_init {f C B CB fB : Addr} {fd fdB : FuncData} (F : Fun K "__init__" "Cond.__init__" sInit f fd) (D : Cnd K mg C) (W : Bad K mg B CB fB fdB) : FnR P w K mg base (L2N.CX P w) 6 f (spInit K C (refusal CB)) := by
  obtain ⟨oc, od, kV, doc, pm, an, cdv, ct, osl, rfl, lk, hcd⟩ := F.ex
  refine fn_star (sp := fun vs H Q E => spInitB K C (refusal CB E) vs H Q E) lk hcd scI cxUpN (bind_star1 (B := fun xs => bindArgs (PySem.W.fnOf "__init__" "Cond.__init__" (defArgs sInit) (defBody sInit) (defScope sInit) .none kV doc pm an cdv ct) ⟨xs, []⟩) (p1 := "self") (pv := "clauses") (fun a => by rfl) (fun a r rs => by rfl)) (fun A outer s H vs Q E hr h => ?_)
  have tk : L2N.Takes (cxOf (L2N.CX P w) P w K mg base nI "Cond.__init__" (defScope sInit) f cdv A outer s H E) (fun cls d _ H => E cls d H) := L2N.takes_of rfl rfl rfl rfl
  refine body_init (f := f) D cdv A outer s H vs Q E _ hr (L2N.ps_raise rfl tk (by exact (pmkN_err (X := cxOf (L2N.CX P w) P w K mg base nI "Cond.__init__" (defScope sInit) f cdv A outer s H E) (K := K) (H0 := H) rfl rfl rfl
    (pe_err (ns := ["clause"]) (X := cxOf (L2N.CX P w) P w K mg base nI "Cond.__init__" (defScope sInit) f cdv A outer s H E) W.T W.no W.iC W.tI (ok_BadCond W.F) (hr.mono (by decide)) W.b pass0 W.gm (pa_cons (pv 2) pa_nil))))) (fun D' v0 v1 i v3 v4 v5 H1 s1 z => ?_) h
  refine ⟨_, rfl, rfl, (by show 1 ≤ 100; decide), fun e H2 n2 h2 s2 => ?_⟩
  obtain ⟨d, hne, h2a, h2d⟩ := h2
  exact ⟨e, B, CB, d, rfl, W.T, h2a, fr0_none (s1.free n2), z d _ (del_keep s2 n2) ((delH_ne hne).trans h2d)⟩
end
end Kx
namespace Kx
open PySem L2 PySem.Spec PyProof.Rows
open StX (fn_star cxUp_none bind_star1 pe_makeR tMakeR run_makeR star_any pa_star CXUp)
section
variable {X : Cx} {CX : CXT} {k : Nat} {f C : Addr} {sp : Sp} {E : XK} {x : Str} {e : Expr} {te : TE} {p pos sp_ : Pos}
/-- C(*y) -/
theorem pe_makeS (M : Mk X.K C f) (F : FnR X.prog X.w X.K X.mg X.base CX k f sp) (hr : Room (k + 1) X.A) (hg : Gl X x) (hm : X.mg x = some (.ref C)) (hx : Passes CX X E) (he : PE X e te) (hd : (x == ("__debug__" : Str)) = false := by decide)
    (hst : starEach [.Starred e sp_] X.env = [(true, eval e X.env)] := by rfl) :
    PE X (.Call (.Name x p) [.Starred e sp_] [] pos) (fun σ H Q => te σ H fun y H1 => ∃ a xs, y = V.ref a ∧ (SqT X.K H1 a xs ∨ SqL X.K H1 a xs) ∧ ∀ x dx, H1 x = none → H1 dx = none → dx ≠ x →
      sp (V.ref x :: xs) (upd (upd H1 dx (.own x)) x (.ins C dx [])) (fun v H2 => v = .non ∧ Q (.ref x) H2) E) := by
  refine ⟨fun pins s σ H Q I h => ?_⟩
  refine wpAny_Call_Name_kw (ld_glob I hg hm ?_ hd)
  refine PySem.W.callWith_S (h₀ := X.base) I.ok.mod.kin M.kp (thn (he.run pins s σ H _ I h) fun v s1 ⟨y, H1, I1, ry, a, xs, ey, hxs, q⟩ => ?_) hst
  subst ey
  obtain rfl : v = Value.ref a := ry
  exact star_any I1 hxs fun us s2 I2 rv => ⟨I2.kIn, run_makeR M F hr hx I2 rv q⟩
/-- C() -/
theorem pe_makeZ (M : Mk X.K C f) (F : FnR X.prog X.w X.K X.mg X.base CX k f sp) (hr : Room (k + 1) X.A) (hg : Gl X x) (hm : X.mg x = some (.ref C)) (hx : Passes CX X E) (hd : (x == ("__debug__" : Str)) = false := by decide) :
    PE X (.Call (.Name x p) [] [] pos) (tMakeR C sp E tNil) := by
  refine ⟨fun pins s σ H Q I h => ?_⟩
  refine wpAny_Call_Name_kw (ld_glob I hg hm ?_ hd)
  exact PySem.W.callWith_K0 I.kIn M.kp (run_makeR (us := []) (vs := []) M F hr hx I .nil h)
/-- one op other, both of the class C, by its own method -/
def rOwn (C : Addr) (sp : Sp) (E : XK) : R2 := fun x y H Q => ∃ (a b dx dy : Addr) (fs gs : List (Str × V)), x = .ref a ∧ y = .ref b ∧ H a = some (.ins C dx fs) ∧ H b = some (.ins C dy gs) ∧ sp [.ref a, .ref b] H Q E
theorem op_own {op : Operator} {fd : FuncData} {ps : List Str} (hc : PySem.W.selfFirst X.K C = true) (hs : PySem.W.findIn X.K (.ref C) (PySem.dunder op.info.2) = some (some (.ref f))) (hf : PySem.W.isFn X.K (.ref f) = true)
    (F : FnOk X.prog X.w X.K X.mg X.base CX k f fd ps sp) (hr : Room k X.A) (hb : Binds X.K fd ps []) (hx : Passes CX X E) : OpR X (binaryOp op) (rOwn C sp E) := by
  intro pins s σ H x y v u Q I rx ry h
  obtain ⟨a, b, dx, dy, fs, gs, rfl, rfl, ha, hb', q⟩ := h
  obtain rfl : v = Value.ref a := rx
  obtain rfl : u = Value.ref b := ry
  obtain ⟨m, fr⟩ := I.fr
  obtain ⟨_, O1, _⟩ := ins_get I.hok ha
  obtain ⟨o1, J1, _⟩ := O1.look
  obtain ⟨_, O2, _⟩ := ins_get I.hok hb'
  obtain ⟨o2, J2, _⟩ := O2.look
  refine PySem.W.binop_K fr I.ok.mod.kin J1 J2.type hc hs hf ?_
  refine thn (run_fn (us := [.ref a, .ref b]) (vs := [.ref a, .ref b]) F hr hb .nil hx I (.cons rfl (.cons rfl .nil)) q) fun z s' ⟨zv, H', I', rz, q'⟩ => ?_
  cases z <;> first | exact ⟨zv, H', I', rz, q'⟩ | (cases zv <;> first | (obtain ⟨_, z⟩ := rz; cases z) | cases rz)
end
end Kx
namespace Kx
open PySem L2 PySem.Spec PyProof.Rows
/-! clauses as data -/
def litD (l : Lit) : PyData := .tuple [.str l.1, .str l.2.1, .int l.2.2]
def clD (c : List Lit) : PyData := .tuple (c.map litD)
theorem dp_lit {K : PySem.W.Frag} {H : Hp} {x : V} {l : Lit} (h : IsLit K H x l) : Dp K H x (litD l) := by
  obtain ⟨a, rfl, q⟩ := h
  exact .tup q (.cons (.str _) (.cons (.str _) (.cons (.int _) .nil)))
theorem dp_all {K : PySem.W.Frag} {H : Hp} {α : Type} {R : V → α → Prop} {f : α → PyData} (hf : ∀ x y, R x y → Dp K H x (f y)) : ∀ {xs : List V} {ys : List α}, Paired R xs ys → DpAll K H xs (ys.map f)
  | _, _, .nil => .nil
  | _, _, .cons h t => .cons (hf _ _ h) (dp_all hf t)
theorem dp_cl {K : PySem.W.Frag} {H : Hp} {x : V} {c : List Lit} (h : IsC K H x c) : Dp K H x (clD c) := by
  obtain ⟨a, ys, rfl, q⟩ := h
  exact .tup q.sq (dp_all (fun _ _ z => dp_lit z) q.p)
theorem eqv_lit (l m : Lit) : PyData.eqv (litD l) (litD m) = decide (l = m) := by
  obtain ⟨a, b, c⟩ := l
  obtain ⟨a', b', c'⟩ := m
  simp only [litD, PyData.eqv, PyData.eqvAll, Bool.and_true]
  rw [Bool.eq_iff_iff]
  simp [Prod.ext_iff]
theorem eqv_lits : ∀ (c d : List Lit), PyData.eqvAll (c.map litD) (d.map litD) = decide (c = d)
  | [], [] => by simp [PyData.eqvAll]
  | [], _ :: _ => by simp [PyData.eqvAll]
  | _ :: _, [] => by simp [PyData.eqvAll]
  | l :: c, m :: d => by
    simp only [List.map_cons, PyData.eqvAll]
    rw [eqv_lit, eqv_lits c d]
    rw [Bool.eq_iff_iff]
    simp
theorem eqv_cl (c d : List Lit) : PyData.eqv (clD c) (clD d) = decide (c = d) := by
  show PyData.eqvAll _ _ = _
  exact eqv_lits c d
def okC (cs : List (List Lit)) : Prop := ∀ c ∈ cs, ∀ l ∈ c, PyData.strOk l.1 = true ∧ PyData.strOk l.2.1 = true
theorem lay_lits : ∀ {c : List Lit}, (∀ l ∈ c, PyData.strOk l.1 = true ∧ PyData.strOk l.2.1 = true) → PyData.canLayAll0 (c.map litD) = true ∧ PyData.depthAll (c.map litD) ≤ 1
  | [], _ => ⟨rfl, Nat.zero_le _⟩
  | l :: c, h => by
    obtain ⟨h1, h2⟩ := h l List.mem_cons_self
    obtain ⟨r1, r2⟩ := lay_lits (c := c) fun m hm => h m (List.mem_cons_of_mem _ hm)
    refine ⟨?_, ?_⟩
    · simp only [List.map_cons, PyData.canLayAll0, litD, PyData.canLay0, h1, h2, r1, Bool.and_self]
    · simp only [List.map_cons, PyData.depthAll, litD, PyData.depth]
      omega
theorem lay_cls : ∀ {cs : List (List Lit)}, okC cs → PyData.canLayAll0 (cs.map clD) = true ∧ PyData.depthAll (cs.map clD) ≤ 2
  | [], _ => ⟨rfl, Nat.zero_le _⟩
  | c :: cs, h => by
    obtain ⟨h1, h2⟩ := lay_lits (h c List.mem_cons_self)
    obtain ⟨r1, r2⟩ := lay_cls (cs := cs) fun m hm => h m (List.mem_cons_of_mem _ hm)
    refine ⟨?_, ?_⟩
    · simp only [List.map_cons, PyData.canLayAll0, clD, PyData.canLay0, h1, r1, Bool.and_self]
    · simp only [List.map_cons, PyData.depthAll, clD, PyData.depth]
      omega
theorem shaped_list {cs : List (List Lit)} (h : okC cs) : SeqAt.shaped (.list (cs.map clD)) = true := by
  obtain ⟨h1, h2⟩ := lay_cls h
  unfold SeqAt.shaped
  rw [Bool.and_eq_true, decide_eq_true_eq]
  exact ⟨h1, by show PyData.depthAll _ + 1 ≤ 64; omega⟩
theorem shaped_tup {cs : List (List Lit)} (h : okC cs) : SeqAt.shaped (.tuple (cs.map clD)) = true := shaped_list h
theorem shaped_cl {c : List Lit} (h : ∀ l ∈ c, PyData.strOk l.1 = true ∧ PyData.strOk l.2.1 = true) : SeqAt.shaped (clD c) = true := by
  obtain ⟨h1, h2⟩ := lay_lits h
  unfold SeqAt.shaped
  rw [Bool.and_eq_true, decide_eq_true_eq]
  exact ⟨h1, by show PyData.depthAll _ + 1 ≤ 64; omega⟩
theorem eqv_cls : ∀ (c d : List (List Lit)), PyData.eqvAll (c.map clD) (d.map clD) = decide (c = d)
  | [], [] => by simp [PyData.eqvAll]
  | [], _ :: _ => by simp [PyData.eqvAll]
  | _ :: _, [] => by simp [PyData.eqvAll]
  | l :: c, m :: d => by
    simp only [List.map_cons, PyData.eqvAll]
    rw [eqv_cl, eqv_cls c d]
    rw [Bool.eq_iff_iff]
    simp
theorem any_cl (cs : List (List Lit)) (c : List Lit) : ((cs.map clD).any fun z => PyData.eqv z (clD c)) = decide (c ∈ cs) := by
  rw [List.any_map, Bool.eq_iff_iff, List.any_eq_true, decide_eq_true_eq]
  constructor
  · rintro ⟨d, hd, e⟩
    have e' : PyData.eqv (clD d) (clD c) = true := e
    rw [eqv_cl, decide_eq_true_eq] at e'
    exact e' ▸ hd
  · intro h
    exact ⟨c, h, by show PyData.eqv (clD c) (clD c) = true; rw [eqv_cl]; exact decide_eq_true rfl⟩
/-- clauses put together, each once -/
def merge : List (List Lit) → List (List Lit) → List (List Lit)
  | m, [] => m
  | m, c :: r => merge (if c ∈ m then m else m ++ [c]) r
end Kx
namespace Kx
open PySem L2 PySem.Spec PyProof.Rows
open StX (fn_star cxUp_none bind_star1 pe_makeR tMakeR run_makeR star_any pa_star CXUp)
theorem ns_some_of {K : PySem.W.Frag} {h : Heap} {N : Addr} {mg : Str → Option Value} {n : Str} {v : Value} (X : K.In h) (G : h.Ns N mg) (e : PySem.W.nsIn K N n = some (some v)) : mg n = some v := by
  obtain ⟨o, es, ep, ho, hd, _, hf⟩ := G
  unfold PySem.W.nsIn at e
  split at e
  · rename_i c d es' n' sl q
    have := X _ _ q
    rw [ho] at this
    cases this
    cases hd
    split at e
    · rename_i en he
      cases e
      rw [← hf]
      unfold nsFind findBy
      rw [← Array.find?_toList, he]
      rfl
    · split at e <;> cases e
  · cases e
/-- what a class without bases has of its own ==, and no != of its own -/
structure EqCls (K : PySem.W.Frag) (C f : Addr) : Prop where
  eqf : PySem.W.findIn K (.ref C) "__eq__" = some (some (.ref f))
  isf : PySem.W.isFn K (.ref f) = true
  cls : ∃ nm q N bs hd sn sub ab col dd k0 k1 k2 k3 k5 newId, K.lookup C = some (excClassObj nm q C N bs [.type "object"] hd sn sub ab col dd k0 k1 k2 k3 k5 newId) ∧ PySem.W.nsOkIn K N = true ∧ PySem.W.nsIn K N "__eq__" = some (some (.ref f)) ∧ PySem.W.nsIn K N "__ne__" = some none
  fo : ∃ o, K.lookup f = some o ∧ o.cls = .type "function"
  sS : PySem.W.subIn K (.type "str") (.ref C) = some false
  sT : PySem.W.subIn K (.type "tuple") (.ref C) = some false
inductive Oth (K : PySem.W.Frag) (H : Hp) (C : Addr) : V → Prop where
  | ins {b dy : Addr} {gs : List (Str × V)} (h : H b = some (.ins C dy gs)) : Oth K H C (.ref b)
  | str (s : Str) : Oth K H C (.str s)
  | tup {b : Addr} {xs : List V} (h : SqT K H b xs) : Oth K H C (.ref b)
/-- x == y by the own == of x -/
def rOwnEq (K : PySem.W.Frag) (C : Addr) (sp : Sp) (E : XK) : R2 := fun x y H Q => ∃ (a dx : Addr) (fs : List (Str × V)), x = .ref a ∧ H a = some (.ins C dx fs) ∧ Oth K H C y ∧ sp [x, y] H (fun v H' => ∃ b, v = .bl b ∧ Q (.bl b) H') E
/-- x != y, of one class, by the own == of x -/
def rOwnNe (C : Addr) (sp : Sp) (E : XK) : R2 := fun x y H Q => ∃ (a b dx dy : Addr) (fs gs : List (Str × V)), x = .ref a ∧ y = .ref b ∧ H a = some (.ins C dx fs) ∧ H b = some (.ins C dy gs) ∧ sp [x, y] H (fun v H' => ∃ k, v = .bl k ∧ Q (.bl (!k)) H') E
section
variable {X : Cx} {CX : CXT} {k : Nat} {f C : Addr} {fd : FuncData} {ps : List Str} {sp : Sp} {E : XK}
theorem run_own (F : FnOk X.prog X.w X.K X.mg X.base CX k f fd ps sp) (hb : L2.Binds X.K fd ps []) (hx : Passes CX X E) {A : Around} (hr : Room k A) (hf : A.frames = X.A.frames) {pins : List (Addr × Obj)} {s : Shared} {σ : L2.St} {H : Hp} {us : List Value} {vs : List V} {Q : VK}
    (I : L2.Inv X pins σ H s) (r2 : Vals vs us) (hsp : sp vs H Q E) : wpAny (model X.prog X.w) A (call (.ref f) us) (fun u s' => ∃ v H', L2.Inv X pins σ H' s' ∧ L2.RelV v u ∧ Q v H') X.xe s := by
  have e0 : Env0 X.prog X.w X.K X.mg X.base A X.stack s H := by
    have e := I.env0
    exact ⟨by rw [hf]; exact e.frames, e.mod, e.bs, e.bsz, e.funs, e.frf, e.hok, e.bare⟩
  have hl := F.len _ _ _ _ hsp
  refine wpAny_call (codeAny_mono (F.run A X.stack s H ⟨us, []⟩ us vs _ E hr e0 (by
    have := hb s us I.kIn (by rw [List.append_nil, ← r2.length]; exact hl)
    simpa using this) r2 hsp) fun r s' hq => ?_)
  cases r with
  | error e => exact hx pins σ H s e s' I hq
  | ok fl =>
    cases fl with
    | ret w =>
      obtain ⟨z, H', I', rz, q⟩ := I.after hq
      exact ⟨z, H', I', rz, q⟩
    | next => exact False.elim hq
    | brk => exact False.elim hq
    | cont => exact False.elim hq
theorem op_ownEq (M : EqCls X.K C f) (F : FnOk X.prog X.w X.K X.mg X.base CX k f fd ps sp) (hr : Room k X.A) (hb : L2.Binds X.K fd ps []) (hx : Passes CX X E) : OpR X (compareOp .Eq) (rOwnEq X.K C sp E) := by
  intro pins s σ H x y v u Q I rx ry h
  obtain ⟨a, dx, fs, rfl, ha, ho, q⟩ := h
  obtain rfl : v = Value.ref a := rx
  obtain ⟨_, O1, _⟩ := ins_get I.hok ha
  obtain ⟨o1, J1, _⟩ := O1.look
  obtain ⟨m, hF⟩ := I.fr
  have fin : wpAny (model X.prog X.w) X.A (call (.ref f) [.ref a, u]) (PySem.W.CmpBack (EP X pins σ Q)) X.xe s := by
    refine wpAny_mono (run_own (vs := [.ref a, y]) (us := [.ref a, u]) F hb hx hr rfl I (.cons rfl (.cons ry .nil)) q) (fun z s' hz => ?_) fun _ _ e => e
    obtain ⟨zv, H', I', rz, b, rfl, q'⟩ := hz
    obtain rfl : z = Value.bool b := rz
    exact ⟨.bl b, H', I', rfl, q'⟩
  show wpAny (model X.prog X.w) X.A (richCompare .Eq (.ref a) u) (EP X pins σ Q) X.xe s
  have go : ∀ tb, PySem.W.Looks (model X.prog X.w) s.heap (typeOf u) tb → PySem.W.notFirst X.K C tb = true → wpAny (model X.prog X.w) X.A (richCompare .Eq (.ref a) u) (EP X pins σ Q) X.xe s := fun tb L hn =>
    PySem.W.cmp_K (op := .Eq) (tb := tb) hr.units0 hF I.ok.mod.kin J1 L hn M.eqf M.isf fin
  cases ho with
  | ins h =>
    rename_i b dy gs
    obtain rfl : u = Value.ref b := ry
    obtain ⟨_, O2, _⟩ := ins_get I.hok h
    obtain ⟨o2, J2, _⟩ := O2.look
    exact go (.ref C) J2.type (by simp [PySem.W.notFirst])
  | str z =>
    obtain ⟨t, rfl⟩ := (show ∃ t, u = Value.str z t from ry)
    exact go (.type "str") (PySem.W.Looks.of_pure rfl) (by unfold PySem.W.notFirst; rw [M.sS]; simp)
  | tup h =>
    rename_i b xs
    obtain rfl : u = Value.ref b := ry
    obtain ⟨its, r, ht, hz⟩ := I.tuple h
    obtain ⟨o, ho, hc⟩ := ht.typeIs
    refine go (.type "tuple") ?_ (by unfold PySem.W.notFirst; rw [M.sT]; simp)
    exact hc ▸ (PySem.W.Looks.ld ho).andThen .now
theorem op_ownNe (M : EqCls X.K C f) (F : FnOk X.prog X.w X.K X.mg X.base CX k f fd ps sp) (hr : Room (k + 1) X.A) (hb : L2.Binds X.K fd ps []) (hx : Passes CX X E) : OpR X (compareOp .NotEq) (rOwnNe C sp E) := by
  intro pins s σ H x y v u Q I rx ry h
  obtain ⟨a, b, dx, dy, fs, gs, rfl, rfl, ha, hb', q⟩ := h
  obtain rfl : v = Value.ref a := rx
  obtain rfl : u = Value.ref b := ry
  obtain ⟨_, O1, _⟩ := ins_get I.hok ha
  obtain ⟨o1, J1, _⟩ := O1.look
  obtain ⟨_, O2, _⟩ := ins_get I.hok hb'
  obtain ⟨o2, J2, _⟩ := O2.look
  obtain ⟨nm, qn, N, bs, hd, sn, sub, ab, col, dd, k0, k1, k2, k3, k5, newId, lk, hok, n1, n2⟩ := M.cls
  obtain ⟨fo, lf, fc⟩ := M.fo
  have G : s.heap.Ns N (s.heap.nsMap N) := .of_isNs (PySem.W.isNs_of_in I.kIn hok)
  have OX : s.heap.OwnEqNoNe a C f "object" [.type "object"] := ⟨_, fo, nm, qn, N, bs, hd, sn, sub, ab, col, dd, k0, k1, k2, k3, k5, newId, _, _, J1.at_, J1.cls, I.kIn _ _ lk, G, ns_some_of I.kIn G n1, I.kIn _ _ lf, fc, PySem.F.cmp_object.mro, PySem.F.cmp_object.eq.lookup, PySem.W.ns_none_of I.kIn G n2⟩
  refine compareOp_ne_ownEq PySem.F.cmp_object OX J2.at_ J2.cls (by have := hr.un; omega) ?_
  refine wpAny_mono (run_own (vs := [.ref a, .ref b]) (us := [.ref a, .ref b]) F hb hx hr.in1 rfl I (.cons rfl (.cons rfl .nil)) q) (fun z s' hz => ?_) fun _ _ e => e
  obtain ⟨zv, H', I', rz, b', rfl, q'⟩ := hz
  obtain rfl : z = Value.bool b' := rz
  exact ⟨b', rfl, .bl (!b'), H', I', rfl, q'⟩
/-- len(x) by its own __len__ -/
def rOwnLen (C : Addr) (sp : Sp) (E : XK) : List V → Hp → VK → Prop := fun xs H Q => ∃ (a dx : Addr) (fs : List (Str × V)), xs = [.ref a] ∧ H a = some (.ins C dx fs) ∧ sp xs H (fun v H' => ∃ i : Int, v = .int i ∧ 0 ≤ i ∧ i < 2 ^ 63 ∧ Q (.int i) H') E
theorem call_ownLen (hs : PySem.W.findIn X.K (.ref C) "__len__" = some (some (.ref f))) (hf : PySem.W.isFn X.K (.ref f) = true) (F : FnOk X.prog X.w X.K X.mg X.base CX k f fd ps sp) (hr : Room (k + 1) X.A) (hb : L2.Binds X.K fd ps []) (hx : Passes CX X E) : CallR X (.builtin "len") (rOwnLen C sp E) := by
  intro pins s σ H xs us Q I r h
  obtain ⟨a, dx, fs, rfl, ha, q⟩ := h
  obtain ⟨u, rfl, ru⟩ := vals1 r
  obtain rfl : u = Value.ref a := ru
  obtain ⟨_, O1, _⟩ := ins_get I.hok ha
  obtain ⟨o1, J1, _⟩ := O1.look
  obtain ⟨m, hF⟩ := I.fr
  refine PySem.W.len_K hF I.ok.mod.kin J1 hs hf ?_
  refine wpAny_mono (run_own (vs := [.ref a]) (us := [.ref a]) F hb hx hr.in1 rfl I (.cons rfl .nil) q) (fun z s' hz => ?_) fun _ _ e => e
  obtain ⟨zv, H', I', rz, i, rfl, i0, i1, q'⟩ := hz
  obtain ⟨t, rfl⟩ := (show ∃ t, z = Value.int i t from rz)
  exact ⟨⟨i0, i1⟩, .int i, H', I'.tok _, ⟨_, rfl⟩, q'⟩
/-- a list compared with an empty one -/
def rEqNil (K : PySem.W.Frag) : R2 := fun x y H Q => ∃ (a b : Addr) (xs : List V), x = .ref a ∧ y = .ref b ∧ SqL K H a xs ∧ SqL K H b [] ∧ Q (.bl xs.isEmpty) H
theorem op_eqNil (hu : X.A.units + 64 < cLine) : OpR X (compareOp .Eq) (rEqNil X.K) := by
  intro pins s σ H x y v u Q I rx ry h
  obtain ⟨a, b, xs, rfl, rfl, ha, hb, q⟩ := h
  obtain rfl : v = Value.ref a := rx
  obtain rfl : u = Value.ref b := ry
  obtain ⟨us, r1, p1, _⟩ := I.list ha
  obtain ⟨ws, r2, p2, _⟩ := I.list hb
  cases r2
  cases r1 with
  | nil =>
    refine SeqAt.eq_listAt (e := fun _ => true) p1.isList p2.isList rfl (by omega) (fun j h1 _ => absurd h1 (Nat.not_lt_zero _)) ?_
    exact ⟨.bl true, H, I, rfl, q⟩
  | cons r1 t =>
    refine SeqAt.eq_list_lengthsAt p1.isList p2.isList (by simp) (by omega) ?_
    exact ⟨.bl false, H, I, rfl, q⟩
end
/-! a Cond made of any things -/
def spInitG (K : PySem.W.Frag) (C : Addr) (F : XK → Hp → Int → Prop) : Sp := fun vs H Q E => ∃ ws rest, vs = ws ++ rest ∧ ws.length = ([("self" : PySem.Str)] : List PySem.Str).length ∧ rest.length ≤ sizeLine ∧ ∀ p, H p = Option.none → spInitBG K C (F E) (ws ++ [V.ref p]) (upd H p (.tup rest)) Q E
section
variable {P : Program} {w : World} {K : PySem.W.Frag} {mg : Str → Option Value} {base : Heap}
theorem fnR_initG {f C B CB fB : Addr} {fd fdB : FuncData} (F : Fun K "__init__" "Cond.__init__" sInit f fd) (D : Cnd K mg C) (W : Bad K mg B CB fB fdB) : FnR P w K mg base (L2N.CX P w) 6 f (spInitG K C (refusal CB)) := by
  obtain ⟨oc, od, kV, doc, pm, an, cdv, ct, osl, rfl, lk, hcd⟩ := F.ex
  refine fn_star (sp := fun vs H Q E => spInitBG K C (refusal CB E) vs H Q E) lk hcd scI cxUpN (bind_star1 (B := fun xs => bindArgs (PySem.W.fnOf "__init__" "Cond.__init__" (defArgs sInit) (defBody sInit) (defScope sInit) .none kV doc pm an cdv ct) ⟨xs, []⟩) (p1 := "self") (pv := "clauses") (fun a => by rfl) (fun a r rs => by rfl)) (fun A outer s H vs Q E hr h => ?_)
  have tk : L2N.Takes (cxOf (L2N.CX P w) P w K mg base nI "Cond.__init__" (defScope sInit) f cdv A outer s H E) (fun cls d _ H => E cls d H) := L2N.takes_of rfl rfl rfl rfl
  refine body_initG (f := f) D cdv A outer s H vs Q E _ hr (L2N.ps_raise rfl tk (by exact (pmkN_err (X := cxOf (L2N.CX P w) P w K mg base nI "Cond.__init__" (defScope sInit) f cdv A outer s H E) (K := K) (H0 := H) rfl rfl rfl
    (pe_err (ns := ["clause"]) (X := cxOf (L2N.CX P w) P w K mg base nI "Cond.__init__" (defScope sInit) f cdv A outer s H E) W.T W.no W.iC W.tI (ok_BadCond W.F) (hr.mono (by decide)) W.b pass0 W.gm (pa_cons (pv 2) pa_nil))))) (fun D' v0 v1 i v3 v4 v5 H1 s1 z => ?_) h
  refine ⟨_, rfl, rfl, (by show 1 ≤ 100; decide), fun e H2 n2 h2 s2 => ?_⟩
  obtain ⟨d, hne, h2a, h2d⟩ := h2
  exact ⟨e, B, CB, d, rfl, W.T, h2a, fr0_none (s1.free n2), z d _ (del_keep s2 n2) ((delH_ne hne).trans h2d)⟩
theorem initG_ok {H H1 : Hp} {C CB : Addr} {vs : List V} {ds : List Sh} {Q : VK} {E : XK} (s1 : Same H H1) (hp : IsAll K H1 vs ds) (hl : ds.length ≤ 1000)
    (k : ∀ cs, ds = cs.map shC → firstWrongS ds = none → firstWrong cs = none → ∀ r dz p q ys H', CondF K H' r C dz p q cs ys → Same H H' → H r = none → Q (.ref r) H') (kf : ∀ i, firstWrongS ds = some i → refusal CB E H i) : ∀ x dx, H1 x = none → H1 dx = none → dx ≠ x →
      spInitG K C (refusal CB) (V.ref x :: vs) (upd (upd H1 dx (.own x)) x (.ins C dx [])) (fun v H2 => v = .non ∧ Q (.ref x) H2) E := by
  intro r dz hr0 hdz hne
  have hml : vs.length = ds.length := hp.length
  refine ⟨[.ref r], vs, rfl, rfl, Nat.le_of_lt (small1000 (by omega)), fun p2 hp2 => ?_⟩
  have s5 : Same H1 (upd (upd H1 dz (.own r)) r (.ins C dz [])) := same_upd hr0 (new_same hdz)
  have s6 : Same H1 (upd (upd (upd H1 dz (.own r)) r (.ins C dz [])) p2 (.tup vs)) := fun b u z => new_same hp2 _ _ (s5 _ _ z)
  have hrp : r ≠ p2 := fun z => by
    rw [← z, upd_same] at hp2
    cases hp2
  refine ⟨r, dz, p2, vs, ds, rfl, (by rw [upd_ne hrp]; exact upd_same), SqT.of upd_same, IsAll.same s6 hp, hl, fun cs e hwS hw H' q2 zs hF hk => ⟨rfl, ?_⟩, fun i hi H2 s7 => ?_⟩
  · refine k cs e hwS hw r dz p2 q2 zs H' hF (fun b u z => hk b u (fun e => ?_) (s6 _ _ (s1 _ _ z))) (Same.free s1 hr0)
    rw [e, Same.free s1 hr0] at z
    cases z
  · exact fun d H' s8 z => kf i hi d H' (fun b u y => s8 _ _ (s7 _ _ (s6 _ _ (s1 _ _ y)))) z
end
end Kx
namespace Kx
open PySem L2 PySem.Spec PyProof.Rows
abbrev sAnd : Stmt := mth 2
abbrev nA : List Str := ["self", "other", "merged", "clause"]
structure CondAll (K : PySem.W.Frag) (mg : Str → Option Value) (B CB fB C fI : Addr) (fdB fdI : FuncData) : Prop where
  D : Cnd K mg C
  W : Bad K mg B CB fB fdB
  I : Fun K "__init__" "Cond.__init__" sInit fI fdI
  mkI : Mk K C fI
  ty : ∀ H a dx fs, H a = some (.ins C dx fs) → TyX K H (.ref a) (.ref C)
  kit : PySem.W.kitOne K (.ref C) (.ref C) = some true
def spAnd (K : PySem.W.Frag) (C CB : Addr) : Sp := fun vs H Q E => ∃ (a b dx dy p q p' q' : Addr) (cs cs' : List (List Lit)) (ys ys' : List Str), vs = [.ref a, .ref b] ∧ CondF K H a C dx p q cs ys ∧ CondF K H b C dy p' q' cs' ys' ∧ shortC (cs ++ cs') ∧ okC (cs ++ cs') ∧ (cs ++ cs').length ≤ 1000 ∧
  (firstWrong (merge [] (cs ++ cs')) = none → ∀ r dz p2 q2 zs H', CondF K H' r C dz p2 q2 (merge [] (cs ++ cs')) zs → Same H H' → H r = none → Q (.ref r) H') ∧ ∀ i, firstWrong (merge [] (cs ++ cs')) = some i → refusal CB E H i
theorem catA_of {K : PySem.W.Frag} {H : Hp} {a b : Addr} {xs ys : List V} {Q : VK} (h1 : SqT K H a xs) (h2 : SqT K H b ys) (hz : xs.length + ys.length ≤ sizeLine) (go : ∀ t H2, Same H H2 → SqT K H2 t (xs ++ ys) → Q (.ref t) H2) : rCatA K (.ref a) (.ref b) H Q := by
  refine ⟨a, b, xs, ys, rfl, rfl, h1, h2, hz, fun e => ?_, fun _ e => ?_, fun _ _ p hp => ?_⟩
  · exact go b H (fun _ _ z => z) (by rw [e]; exact h2)
  · exact go a H (fun _ _ z => z) (by rw [e, List.append_nil]; exact h1)
  · exact go p _ (new_same hp) (SqT.of upd_same)
theorem SqT.lst {K : PySem.W.Frag} {H : Hp} {a b : Addr} {ms : List V} {u : HO} {xs : List V} (ha : H a = some (.lst ms)) (h : SqT K H b xs) : SqT K (upd H a u) b xs := by
  rcases h with (h | ⟨o, h⟩) | h
  · exact .inl (.inl (by rw [upd_ne (fun e => by rw [e, ha] at h; cases h)]; exact h))
  · exact .inl (.inr ⟨o, by rw [upd_ne (fun e => by rw [e, ha] at h; cases h)]; exact h⟩)
  · exact .inr h
theorem IsC.lst {K : PySem.W.Frag} {H : Hp} {a : Addr} {ms : List V} {u : HO} {x : V} {c : List Lit} (ha : H a = some (.lst ms)) (h : IsC K H x c) : IsC K (upd H a u) x c := by
  obtain ⟨b, ys, e, q⟩ := h
  exact ⟨b, ys, e, SqT.lst ha q.sq, L2.Paired.mapP q.p fun _ _ ⟨d, z, r⟩ => ⟨d, z, SqT.lst ha r⟩, q.l1, q.l2⟩
theorem merge_snoc (c : List Lit) : ∀ (l m : List (List Lit)), merge m (l ++ [c]) = if c ∈ merge m l then merge m l else merge m l ++ [c]
  | [], m => rfl
  | d :: l, m => by
    show merge (if d ∈ m then m else m ++ [d]) (l ++ [c]) = _
    rw [merge_snoc c l]
    rfl
theorem merge_sub : ∀ (l m : List (List Lit)) (c : List Lit), c ∈ merge m l → c ∈ m ∨ c ∈ l
  | [], m, c, h => .inl h
  | d :: l, m, c, h => by
    have h' : c ∈ merge (if d ∈ m then m else m ++ [d]) l := h
    rcases merge_sub l _ c h' with z | z
    · by_cases hd : d ∈ m
      · rw [if_pos hd] at z
        exact .inl z
      · rw [if_neg hd] at z
        rcases List.mem_append.mp z with z | z
        · exact .inl z
        · exact .inr (by rw [List.mem_singleton.mp z]; exact List.mem_cons_self)
    · exact .inr (List.mem_cons_of_mem _ z)
theorem merge_len : ∀ (l m : List (List Lit)), (merge m l).length ≤ m.length + l.length
  | [], m => Nat.le_refl _
  | d :: l, m => by
    have h := merge_len l (if d ∈ m then m else m ++ [d])
    have e : (if d ∈ m then m else m ++ [d]).length ≤ m.length + 1 := by
      by_cases hd : d ∈ m
      · rw [if_pos hd]; exact Nat.le_succ _
      · rw [if_neg hd, List.length_append]; exact Nat.le_refl _
    show (merge (if d ∈ m then m else m ++ [d]) l).length ≤ m.length + (l.length + 1)
    omega
theorem paired_app {α β : Type} {R : α → β → Prop} : ∀ {xs : List α} {ys : List β} {xs' : List α} {ys' : List β}, Paired R xs ys → Paired R xs' ys' → Paired R (xs ++ xs') (ys ++ ys')
  | _, _, _, _, .nil, h => h
  | _, _, _, _, .cons a t, h => .cons a (paired_app t h)
section
variable {P : Program} {w : World} {K : PySem.W.Frag} {mg : Str → Option Value} {base : Heap} {B CB fB C fI : Addr} {fdB fdI : FuncData}
theorem scAnd : FnScope nA ["self", "other"] (defScope sAnd) := ⟨rfl, rfl, rfl, by decide +kernel, rfl, by decide +kernel, by decide +kernel⟩
theorem ok_and {f : Addr} {fd : FuncData} (F : Fun K "__and__" "Cond.__and__" sAnd f fd) (M : CondAll K mg B CB fB C fI fdB fdI) : FnOk P w K mg base (L2N.CX P w) 8 f fd ["self", "other"] (spAnd K C CB) := by
  obtain ⟨oc, od, kV, doc, pm, an, cdv, ct, osl, rfl, lk, hcd⟩ := F.ex
  have D := M.D
  have T := D.M.T
  have GI : FnR P w K mg base (L2N.CX P w) 6 fI (spInit K C (refusal CB)) := fnR_init M.I D M.W
  refine fn_of lk hcd scAnd (fun vs H Q E h => ?_) fun A outer s H vs Q E hr h => ?_
  · obtain ⟨a, b, dx, dy, p, q, p', q', cs, cs', ys, ys', rfl, _⟩ := h
    rfl
  · obtain ⟨a, b, dx, dy, p, q, p', q', cs, cs', ys, ys', rfl, ha, hb, hsh, hok, hlen, qn, qf⟩ := h
    have tk : L2N.Takes (cxOf (L2N.CX P w) P w K mg base nA "Cond.__and__" (defScope sAnd) f cdv A outer s H E) (fun cls d _ H => E cls d H) := L2N.takes_of rfl rfl rfl rfl
    have hx : Passes (L2N.CX P w) (cxOf (L2N.CX P w) P w K mg base nA "Cond.__and__" (defScope sAnd) f cdv A outer s H E) E := L2N.passes_call tk (fun _ _ _ _ z => z)
    have hu : (cxOf (L2N.CX P w) P w K mg base nA "Cond.__and__" (defScope sAnd) f cdv A outer s H E).A.units + 65 < cLine := by
      have := hr.un
      show (A.deeper (envOfC "Cond.__and__" (defScope sAnd) s.heap.objs.size f cdv)).units + 65 < cLine
      omega
    refine ⟨_, pss_cons (ps_if (pt_not (pt_val (pe_callB call_isi (by rfl) T.isi boot_isinstance (pa_cons (pv 1) (pa_cons (pe_glob (v := .ref C) (by rfl) D.gC rfl) pa_nil))))) (pss_one ps_never) pss_nil)
      (pss_cons (ps_set (i := 2) scAnd.nd rfl (Or.inl rfl) (pe_lst pa_nil))
      (pss_cons (ps_for (passes_of rfl) rfl (pi_tup (pe_op op_catA (pe_fld (pv 0) (by rfl)) (pe_fld (pv 1) (by rfl)))) (pg_name (i := 3) scAnd.nd rfl (Or.inl rfl))
        (pss_one (ps_if (pt_cmpR (op_notInD hu) (pv 3) (pv 2) (by with_unfolding_all rfl)) (pss_one (ps_expr (pe_bm PySem.F.plainAttrs_list PySem.F.slot_list_append PySem.F.type_list_append mt_append (pv 2) (pa_cons (pv 3) pa_nil)))) pss_nil)))
      (pss_one (ps_ret (pe_makeS (k := 6) M.mkI GI hr (by rfl) D.gC hx (pv 2)))))), ?_⟩
    obtain ⟨xs, hc⟩ := ha.cl
    obtain ⟨xs', hc'⟩ := hb.cl
    have hp := paired_app hc.p hc'.p
    have hpl : (xs ++ xs').length = (cs ++ cs').length := Paired.length hp
    refine ⟨_, rfl, .ref b, .ref C, _, _, true, rfl, .own C, M.ty _ b dy _ hb.ins, M.kit, true, rfl, iteF ?_⟩
    refine ⟨by show 0 ≤ sizeLine; decide, fun m hm => ?_⟩
    have s1 : Same H (upd H m (.lst [])) := new_same hm
    refine ⟨_, rfl, a, C, dx, _, .ref p, rfl, s1 _ _ ha.ins, D.cls, D.nc, rfl, _, rfl, b, C, dy, _, .ref p', rfl, s1 _ _ hb.ins, D.cls, D.nc, rfl, ?_⟩
    refine catA_of (SqT.same s1 hc.sq) (SqT.same s1 hc'.sq) (by rw [← List.length_append, hpl]; exact Nat.le_of_lt (small1000 hlen)) fun t H2 s2 ht => ?_
    refine ⟨t, rfl, ⟨_, ht⟩, ?_⟩
    refine for_tup (xs := xs ++ xs') (fun i σ H3 => (∃ v3, σ = [some (.ref a), some (.ref b), some (.ref m), v3]) ∧ Same H H3 ∧ SqT K H3 t (xs ++ xs') ∧ ∃ ms, H3 m = some (.lst ms) ∧ Paired (IsC K H3) ms (merge [] ((cs ++ cs').take i)))
      ⟨⟨none, rfl⟩, fun b u z => s2 _ _ (s1 _ _ z), ht, [], s2 _ _ upd_same, .nil⟩ (fun i σ H3 _ h => h.2.2.1) ?_ ?_
    · rintro i x σ H3 hx ⟨⟨v3, rfl⟩, s3, ht3, ms, gm, hms⟩
      obtain ⟨c, hcl, hxc⟩ := paired_get hp hx
      have hcm : c ∈ cs ++ cs' := List.mem_of_getElem? hcl
      have hx3 := IsC.same s3 hxc
      have hlm : ms.length ≤ 1000 := by
        have e1 : ms.length = (merge [] ((cs ++ cs').take i)).length := Paired.length hms
        have e2 := merge_len ((cs ++ cs').take i) []
        rw [List.length_take] at e2
        have e3 : ([] : List (List Lit)).length = 0 := rfl
        omega
      have okm : okC (merge [] ((cs ++ cs').take i)) := fun d hd => by
        rcases merge_sub _ _ _ hd with z | z
        · cases z
        · exact hok d (List.mem_of_mem_take z)
      have em : merge [] ((cs ++ cs').take (i + 1)) = if c ∈ merge [] ((cs ++ cs').take i) then merge [] ((cs ++ cs').take i) else merge [] ((cs ++ cs').take i) ++ [c] := by
        rw [List.take_add_one, hcl]
        exact merge_snoc c _ _
      refine ⟨_, rfl, _, rfl, clD c, _, dp_cl hx3, .lst (SqL.of gm) (dp_all (fun _ _ z => dp_cl z) hms), shaped_cl (hok c hcm), shaped_list okm, _, rfl, ?_⟩
      rw [any_cl]
      by_cases hin : c ∈ merge [] ((cs ++ cs').take i)
      case pos =>
        rw [decide_eq_true hin]
        rw [if_pos hin] at em
        exact iteF ⟨⟨_, rfl⟩, s3, ht3, ms, gm, by rw [em]; exact hms⟩
      case neg =>
        rw [decide_eq_false hin]
        rw [if_neg hin] at em
        refine iteT ?_
        refine ⟨_, rfl, .inl ⟨rfl, ms, SqL.of gm⟩, _, rfl, m, ms, x, rfl, rfl, gm, small1000 hlm, ?_⟩
        refine ⟨⟨_, rfl⟩, same_upd hm s3, SqT.lst gm ht3, _, upd_same, ?_⟩
        rw [em]
        exact paired_app (L2.Paired.mapP hms fun _ _ z => IsC.lst gm z) (.cons (IsC.lst gm hx3) .nil)
    · rintro σ H3 ⟨⟨v3, rfl⟩, s3, ht3, ms, gm, hms⟩
      rw [hpl, List.take_of_length_le (Nat.le_refl _)] at hms
      have hl : (merge [] (cs ++ cs')).length ≤ 1000 := Nat.le_trans (merge_len _ _) (by show 0 + (cs ++ cs').length ≤ 1000; omega)
      have hml : ms.length = (merge [] (cs ++ cs')).length := Paired.length hms
      refine ⟨_, rfl, m, ms, rfl, .inr (SqL.of gm), fun r dz hr0 hdz hne => ⟨[.ref r], ms, rfl, rfl, Nat.le_of_lt (small1000 (by omega)), fun p2 hp2 => ?_⟩⟩
      have s5 : Same H3 (upd (upd H3 dz (.own r)) r (.ins C dz [])) := same_upd hr0 (new_same hdz)
      have s6 : Same H3 (upd (upd (upd H3 dz (.own r)) r (.ins C dz [])) p2 (.tup ms)) := fun b u z => new_same hp2 _ _ (s5 _ _ z)
      have hrp : r ≠ p2 := fun z => by
        rw [← z, upd_same] at hp2
        cases hp2
      refine ⟨r, dz, p2, ms, merge [] (cs ++ cs'), rfl, (by rw [upd_ne hrp]; exact upd_same), ⟨SqT.of upd_same, pairedC_same s6 hms, hl⟩, fun c hcm l hlm => ?_, fun hw H' q2 zs hF hk => ⟨rfl, ?_⟩, fun i hw H1 s7 => ?_⟩
      · rcases merge_sub _ _ _ hcm with z | z
        · cases z
        · exact hsh c z l hlm
      · refine qn hw r dz p2 q2 zs H' hF (fun b u z => hk b u (fun e => ?_) (s6 _ _ (s3 _ _ z))) (Same.free s3 hr0)
        rw [e, Same.free s3 hr0] at z
        cases z
      · exact fun d H' s8 z => qf i hw d H' (fun b u y => s8 _ _ (s7 _ _ (s6 _ _ (s3 _ _ y)))) z
end
end Kx
namespace Kx
open PySem L2 PySem.Spec PyProof.Rows
abbrev sEqC : Stmt := mth 3
abbrev sLenC : Stmt := mth 4
/-- what a Cond is not -/
inductive NotCond (K : PySem.W.Frag) (H : Hp) : V → Prop where
  | str (s : Str) : NotCond K H (.str s)
  | tup {b : Addr} {xs : List V} (h : SqT K H b xs) : NotCond K H (.ref b)
def spEqC (K : PySem.W.Frag) (C : Addr) : Sp := fun vs H Q _ => ∃ (a dx p q : Addr) (cs : List (List Lit)) (ys : List Str) (y : V), vs = [.ref a, y] ∧ CondF K H a C dx p q cs ys ∧ okC cs ∧
  ((∃ (b dy p' q' : Addr) (cs' : List (List Lit)) (ys' : List Str), y = .ref b ∧ CondF K H b C dy p' q' cs' ys' ∧ okC cs' ∧ Q (.bl (decide (cs = cs'))) H) ∨ (NotCond K H y ∧ Q (.bl false) H))
def spLenC (K : PySem.W.Frag) (C : Addr) : Sp := fun vs H Q _ => ∃ (a dx p q : Addr) (cs : List (List Lit)) (ys : List Str), vs = [.ref a] ∧ CondF K H a C dx p q cs ys ∧ Q (.int cs.length) H
section
variable {P : Program} {w : World} {K : PySem.W.Frag} {mg : Str → Option Value} {base : Heap} {B CB fB C fI : Addr} {fdB fdI : FuncData}
theorem scEqC : FnScope ["self", "other"] ["self", "other"] (defScope sEqC) := ⟨rfl, rfl, rfl, by decide +kernel, rfl, by decide +kernel, by decide +kernel⟩
theorem ok_eqC {f : Addr} {fd : FuncData} (F : Fun K "__eq__" "Cond.__eq__" sEqC f fd) (M : CondAll K mg B CB fB C fI fdB fdI) (kS : PySem.W.kitOne K (.type "str") (.ref C) = some false) (kT : PySem.W.kitOne K (.type "tuple") (.ref C) = some false) :
    FnOk P w K mg base CX0 1 f fd ["self", "other"] (spEqC K C) := by
  have D := M.D
  have T := D.M.T
  refine F.ok scEqC (fun vs H Q E h => ?_) (fun cdv A outer s H vs Q E hr h => ?_)
  · obtain ⟨a, dx, p, q, cs, ys, y, rfl, _⟩ := h
    rfl
  · obtain ⟨a, dx, p, q, cs, ys, y, rfl, ha, hok, h⟩ := h
    have hu : (cxOf CX0 P w K mg base ["self", "other"] "Cond.__eq__" (defScope sEqC) f cdv A outer s H E).nox.A.units + 64 < cLine := hr.units
    refine ⟨_, pss_one (ps_ret (pe_and (pe_callB call_isi (by rfl) T.isi boot_isinstance (pa_cons (pv 1) (pa_cons (pe_glob (v := .ref C) (by rfl) D.gC rfl) pa_nil)))
      (pe_one (pe_cmpR (op_eqD hu) (pe_fld (pv 0) (by rfl)) (pe_fld (pv 1) (by rfl)) (nomark _))))), ?_⟩
    rcases h with ⟨b, dy, p', q', cs', ys', rfl, hb, hok', h⟩ | ⟨hn, h⟩
    · obtain ⟨xs, hc⟩ := ha.cl
      obtain ⟨xs', hc'⟩ := hb.cl
      refine ⟨_, rfl, .ref b, .ref C, _, _, true, rfl, .own C, M.ty _ b dy _ hb.ins, M.kit, true, rfl, iteT ?_⟩
      refine ⟨_, rfl, a, C, dx, _, .ref p, rfl, ha.ins, D.cls, D.nc, rfl, _, rfl, b, C, dy, _, .ref p', rfl, hb.ins, D.cls, D.nc, rfl, ?_⟩
      refine ⟨.tuple (cs.map clD), .tuple (cs'.map clD), .tup hc.sq (dp_all (fun _ _ z => dp_cl z) hc.p), .tup hc'.sq (dp_all (fun _ _ z => dp_cl z) hc'.p), shaped_tup hok, shaped_tup hok', ?_⟩
      have e : PyData.eqv (.tuple (cs.map clD)) (.tuple (cs'.map clD)) = decide (cs = cs') := eqv_cls cs cs'
      rw [e]
      exact h
    · cases hn with
      | str z => exact ⟨_, rfl, .str z, .ref C, _, _, false, rfl, .own C, .base (.str z), kS, false, rfl, iteF h⟩
      | tup ht =>
        rename_i b xs
        exact ⟨_, rfl, .ref b, .ref C, _, _, false, rfl, .own C, tyT ht, kT, false, rfl, iteF h⟩
theorem scLenC : FnScope ["self"] ["self"] (defScope sLenC) := ⟨rfl, rfl, rfl, by decide +kernel, rfl, by decide +kernel, by decide +kernel⟩
theorem ok_lenC {f : Addr} {fd : FuncData} (F : Fun K "__len__" "Cond.__len__" sLenC f fd) (D : Cnd K mg C) : FnOk P w K mg base CX0 1 f fd ["self"] (spLenC K C) := by
  have T := D.M.T
  refine F.ok scLenC (fun vs H Q E h => ?_) (fun cdv A outer s H vs Q E hr h => ?_)
  · obtain ⟨a, dx, p, q, cs, ys, rfl, _⟩ := h
    rfl
  · obtain ⟨a, dx, p, q, cs, ys, rfl, ha, h⟩ := h
    obtain ⟨xs, hc⟩ := ha.cl
    refine ⟨_, pss_one (ps_ret (pe_callB call_len_seq (by rfl) T.len PySem.boot_len (pa_cons (pe_fld (pv 0) (by rfl)) pa_nil))), ?_⟩
    refine ⟨_, rfl, a, C, dx, _, .ref p, rfl, ha.ins, D.cls, D.nc, rfl, p, xs, rfl, .inr hc.sq, ?_⟩
    rw [Paired.length hc.p]
    exact h
end
theorem paired_get_of {α β : Type} {R : α → β → Prop} : ∀ {xs : List α} {ys : List β}, xs.length = ys.length → (∀ (i : Nat) x y, xs[i]? = some x → ys[i]? = some y → R x y) → Paired R xs ys
  | [], [], _, _ => .nil
  | [], _ :: _, h, _ => by cases h
  | _ :: _, [], h, _ => by cases h
  | x :: xs, y :: ys, h, k => .cons (k 0 x y rfl rfl) (paired_get_of (Nat.succ.inj h) fun i a b h1 h2 => k (i + 1) a b (by simpa using h1) (by simpa using h2))
/-- list(a text): its signs -/
def rListStr : List V → Hp → VK → Prop := fun xs H Q => ∃ z : Str, xs = [.str z] ∧ z.length ≤ 1000 ∧ ∀ l, H l = none → Q (.ref l) (upd H l (.lst (z.cps.toList.map fun c => .str ⟨#[c]⟩)))
section
variable {X : Cx}
theorem call_listStr (hc : X.calm = true) : CallR X (.type "list") rListStr := by
  intro pins s σ H xs us Q I r h
  obtain ⟨z, rfl, hz, q⟩ := h
  obtain ⟨u, rfl, ru⟩ := vals1 r
  obtain ⟨t, rfl⟩ := (show ∃ t, u = Value.str z t from ru)
  refine call_list_str (I.ok.hd hc) z t (fun h' tk acc' c' hk hS hi => ?_) (Nat.le_of_lt (small1000 hz))
  refine ⟨.ref s.heap.objs.size, _, I.laid (t' := tk) (o := .lst (z.cps.toList.map fun c => .str ⟨#[c]⟩)) hk (Nat.le_refl _) ?_, rfl, q _ (I.hok.fresh (Nat.le_refl _))⟩
  refine ⟨by rw [List.length_map, Array.length_toList]; exact Nat.le_of_lt (small1000 hz), acc'.toList, c', ?_, by rw [Array.toArray_toList]; exact hS⟩
  refine paired_get_of (by rw [List.length_map, Array.length_toList, Array.length_toList]; exact hi.1.symm) fun i x y h1 h2 => ?_
  rw [List.getElem?_map] at h1
  obtain ⟨c, hc1, rfl⟩ := Option.map_eq_some_iff.mp h1
  rw [Array.getElem?_toList] at hc1 h2
  obtain ⟨c2, u, e, rfl⟩ := hi.2 i y h2
  rw [hc1] at e
  cases e
  exact ⟨u, rfl⟩
end
end Kx
namespace Kx
open PySem L2 PySem.Spec PyProof.Rows PySem.Froz
/-! set(a list of texts) -/
section
variable {P : Program} {w : World} {A : Around} {E : Value → Shared → Prop} {s : Shared}
theorem tx_put {a : Addr} {l : List Str} {k : Str} {u : Tok} {Q : Bool → Shared → Prop} (R : TxAt P w s.heap a l) (room : l.length + 1 < scanBound)
    (hQ : ∀ (b : Bool) (h' : Heap), Heap.SameBut a s.heap h' → TxAt P w h' a (put l k) → Q b { s with heap := h', toks := s.toks + 1 }) :
    wpAny (model P w) A (setAdd a (.str k u)) Q E s := by
  obtain ⟨D, ho, G⟩ := R
  unfold setAdd
  refine wpAny_holding (wpAny_bind ((strKind P w).pyHash (is_str k u) ?_))
  by_cases hk : k ∈ l
  · exact add_old (s := { s with toks := s.toks + 1 }) ho G.tx hk (by omega) (hQ _ s.heap (Heap.SameBut.refl a s.heap) ⟨D, ho, by unfold put; rw [if_pos hk]; exact G⟩)
  · exact add_x (s := { s with toks := s.toks + 1 }) ho G.tx hk room (hQ _ _ (Heap.SameBut.update s.heap a (fun _ => sObj "set" (addTx (hashStr w k) (.str k u) D))) ⟨_, get_upd _ ho rfl, by unfold put; rw [if_neg hk]; exact G.add u hk⟩)
theorem strsAre_get : ∀ {vs : List Value} {ts : List Str} {i : Nat} {v : Value}, StrsAre vs ts → vs[i]? = some v → ∃ x t, ts[i]? = some x ∧ v = Value.str x t
  | _, _, _, _, .nil, h => by simp at h
  | _, _, 0, _, .cons x t _, h => ⟨x, t, rfl, by simp at h; exact h.symm⟩
  | _, _, i + 1, _, .cons _ _ r, h => by
    obtain ⟨x, t, e1, e2⟩ := strsAre_get (i := i) r (by simpa using h)
    exact ⟨x, t, by simpa using e1, e2⟩
theorem TxAt.at {h h' : Heap} {a : Addr} {l : List Str} (R : TxAt P w h a l) (e : ∀ o, h.get? a = some o → h'.get? a = some o) : TxAt P w h' a l := let ⟨D, ho, G⟩ := R; ⟨D, e _ ho, G⟩
theorem up_loop {R : Result → Shared → Prop} {It : Addr} {fp wr : List Addr} {G : Array GenState → Array GenState → Prop} {n : Nat} {Pp : Nat → Value → Prop} {St : Nat → Shared → Prop} (W : WalksS P w A.in1 It fp wr G n Pp St) {S : Addr} (hS : S ∉ fp) {ts : List Str}
    (hv : ∀ i v, Pp i v → ∃ x t, ts[i]? = some x ∧ v = Value.str x t) (hl : ts.length = n) (hn : n + 1 < scanBound) :
    ∀ (k i : Nat) (s : Shared) (l : List Str), i + k = n → St i s → TxAt P w s.heap S l → l.length ≤ i → l.Nodup → (∀ x, x ∈ l ↔ x ∈ ts.take i) →
      (∀ s' l', Moved (S :: wr) G s s' → TxAt P w s'.heap S l' → l'.length ≤ n → l'.Nodup → (∀ x, x ∈ l' ↔ x ∈ ts) → R (.ok (.ret .none)) s') →
      codeAny (model P w) A (.builtin "set.update.loop" ⟨[.ref S, .ref It], []⟩) R s := by
  have off : S ∉ wr := fun z => hS (W.sub _ z)
  have more : ∀ {a b : Shared}, Moved wr G a b → Moved (S :: wr) G a b := fun m => m.mono fun _ z => List.mem_cons_of_mem _ z
  intro k
  induction k with
  | zero =>
    intro i s l hi st T le nd mem fin
    obtain rfl : i = n := hi
    refine codeAny_builtin PyProof.Rows.F.entry_set_update_loop ?_
    rw [Around.under_plainId PyProof.Rows.F.plain_set_update_loop _]
    show wpAny (model P w) A.in1 (pyNext (.ref It) >>= fun r => _) _ _ s
    refine wpAny_bind (W.done s _ _ st fun s1 m => ?_)
    have e : ts.take i = ts := List.take_of_length_le (by omega)
    rw [e] at mem
    exact wpAny_pure (fin s1 l (more m) (T.at fun o z => m.heap S o off z) le nd mem)
  | succ k ih =>
    intro i s l hi st T le nd mem fin
    have lt : i < n := by omega
    refine codeAny_builtin PyProof.Rows.F.entry_set_update_loop ?_
    rw [Around.under_plainId PyProof.Rows.F.plain_set_update_loop _]
    show wpAny (model P w) A.in1 (pyNext (.ref It) >>= fun r => _) _ _ s
    refine wpAny_bind (W.item i s _ _ lt st fun v s1 pv st1 m => ?_)
    obtain ⟨x, t, hx, rfl⟩ := hv i v pv
    have T1 := T.at fun o z => m.heap S o off z
    show wpAny (model P w) A.in1 (holding [Value.str x t] (setAdd S (.str x t)) >>= fun r => _) _ _ s1
    refine wpAny_bind (wpAny_holding (tx_put T1 (by omega) fun b h' sb T2 => ?_))
    refine wpAny_pure ⟨plainId_quiet PyProof.Rows.F.plain_set_update_loop _, ih (i + 1) _ (put l x) (by omega) (W.frame _ s1 _ _ st1 (Nat.le_succ _) fun c hc o z => (sb.2 c fun y => hS (y ▸ hc)).trans z) T2 (Nat.le_trans put_len (Nat.succ_le_succ le)) (put_nodup nd) (fun y => ?_) fun s2 l' m2 T3 le3 nd3 mem3 => ?_⟩
    · rw [mem_put, mem y, List.take_add_one, hx]
      show _ ↔ y ∈ ts.take i ++ [x]
      rw [List.mem_append, List.mem_singleton]
    · exact fin s2 l' (Moved.trans W.gtrans ((more m).then_heap (Nat.le_succ _) fun c o nc z => (sb.2 c fun y => nc (y ▸ List.mem_cons_self)).trans z) m2) T3 le3 nd3 mem3
theorem call_setTx {a : Addr} {items : Array Value} {ts : List Str} {Q : Value → Shared → Prop} (hh : A.handled = none) (hl : s.heap.IsList a items) (hi : StrsAre items.toList ts) (hn : ts.length + 1 < scanBound)
    (h : ∀ (h' : Heap) (tk : Nat) (l : List Str), TxAt P w h' s.heap.objs.size l → l.Nodup → l.length ≤ ts.length → (∀ x, x ∈ l ↔ x ∈ ts) → (∀ b o, s.heap.get? b = some o → h'.get? b = some o) → Q (.ref s.heap.objs.size) { s with heap := h', toks := tk }) :
    wpAny (model P w) A (call (.type "set") [.ref a]) Q E s := by
  have hz : items.size = ts.length := by
    have e := StrsAre.len_eq hi
    rw [Array.length_toList] at e
    exact e
  obtain ⟨_, _, mro⟩ := PySem.F.called_set.mro
  have made := PySem.F.called_set.made
  have self := PySem.F.called_set.sub
  refine wpAny_call (codeAny_of_tree (show wpAny _ _ (callAny (.type "set") _) _ _ _ from wpAny_pure ⟨Code.quiet_builtin _ (by decide +kernel), codeAny_builtin PySem.F.entry_type_call ?_⟩))
  rw [Around.under_plain (weight_type_call_type "set" [.ref a] []) rfl]
  have noT := PySem.F.called_set.notType
  have can := PySem.F.called_set.canCreate
  have chk := PySem.F.typeCall_set_1 (.ref a)
  repeat' (first | assumption | wp_step)
  refine codeAny_mono (code_set_led1 (P := P) (w := w) (.ref a) (E := E) (Q₁ := fun obj s1 => obj = .ref s.heap.objs.size ∧ s1 = { s with heap := s.heap.push { cls := .type "set", dict := none, data := .set #[] 0 (.fresh 0 0 (!w.params.followText "set-order")) } }) ⟨rfl, rfl⟩) fun r s1 h1 => ?_
  rcases r with e | fl
  · exact h1
  cases fl with
  | next => exact h1.elim
  | brk => exact h1.elim
  | cont => exact h1.elim
  | ret obj =>
  obtain ⟨rfl, rfl⟩ := h1
  obtain ⟨ol, hol, hcl, nl, hdl⟩ := hl
  have hS : (s.heap.push { cls := .type "set", dict := none, data := .set #[] 0 (.fresh 0 0 (!w.params.followText "set-order")) }).get? s.heap.objs.size = some { cls := .type "set", dict := none, data := .set #[] 0 (.fresh 0 0 (!w.params.followText "set-order")) } := Heap.get?_push_size _ rfl
  have hlt : a < s.heap.objs.size := Heap.lt_size hol
  generalize hH : s.heap.push { cls := .type "set", dict := none, data := .set #[] 0 (.fresh 0 0 (!w.params.followText "set-order")) } = hp at hS ⊢
  have hsz : hp.objs.size = s.heap.objs.size + 1 := by rw [← hH]; exact Heap.size_push ..
  have keep : ∀ b o, s.heap.get? b = some o → hp.get? b = some o := fun b o e => by rw [← hH]; exact Heap.get?_push_of_some _ e
  have T0 : TxAt P w hp s.heap.objs.size [] := by rw [← hH]; exact txAt_new
  have hol1 := keep a ol hol
  have hl1 : hp.IsList a items := ⟨ol, hol1, hcl, nl, hdl⟩
  have f4 : Shared.TypeIs { s with heap := hp } (.ref s.heap.objs.size) "set" := ⟨_, hS, rfl⟩
  have look := PySem.F.called_set.init.lookup
  have bnd := PySem.F.called_set.init.bind (.ref s.heap.objs.size)
  repeat' (first | assumption | wp_step)
  refine codeAny_mono (codeAny_call_builtin (R := wants (fun r s2 => r = .none ∧ ∃ h' tk l, s2 = { s with heap := h', toks := tk } ∧ TxAt P w h' s.heap.objs.size l ∧ l.Nodup ∧ l.length ≤ ts.length ∧ (∀ x, x ∈ l ↔ x ∈ ts) ∧
    ∀ b o, s.heap.get? b = some o → h'.get? b = some o) E) PySem.F.called_set.init.plain PySem.F.entry_set_init (check_set_init_1 f4 ?_)) fun r2 s2 h2 => ?_
  · obtain ⟨ocls, odict, odata, oslots⟩ := ol
    dsimp only at hcl hdl
    subst hcl hdl
    have f1 := PySem.F.sub_list_set
    have f2 := PySem.F.sub_list_frozenset
    have f3 : (Value.type "list" == Value.type "dict") = false := by decide
    unfold Builtin.«set.__init__»
    unfold noKeywords Builtin.Frozenset.updateFrom
    generalize hI : pyIter = It
    wp_walk
    subst hI
    refine wpAny_pyIter_list hl1 ?_
    refine wpAny_bind (wpAny_runValue ?_)
    have ne1 : a ≠ hp.objs.size := Nat.ne_of_lt (Nat.lt_of_lt_of_eq (Nat.lt_succ_of_lt hlt) hsz.symm)
    have off : s.heap.objs.size ∉ [hp.objs.size, a] := by
      rw [List.mem_cons, List.mem_singleton]
      exact fun z => z.elim (Nat.ne_of_lt (Nat.lt_of_lt_of_eq (Nat.lt_succ_self _) hsz.symm)) (Nat.ne_of_gt hlt)
    have hv : ∀ (i : Nat) (v : Value), items[i]? = some v → ∃ x t, ts[i]? = some x ∧ v = Value.str x t := fun i v e => by
      exact strsAre_get hi (by rw [Array.getElem?_toList]; exact e)
    refine up_loop ((Walks.list (by simp [hh]) _ a ne1 items).toS) off (ts := ts) hv hz.symm (by omega) items.size 0 _ [] (Nat.zero_add _) ⟨⟨_, Heap.get?_push_size _ rfl, rfl, rfl⟩, hl1.push _⟩
      (T0.at fun o e => Heap.get?_push_of_some _ e) (Nat.le_refl _) List.nodup_nil (fun x => by simp) fun s3 l m T le nd mem => ?_
    refine wpAny_pure ?_
    show wpAny _ _ (ret Value.none) _ _ _
    obtain ⟨h3, g3, d3, t3, o3⟩ := s3
    obtain rfl : g3 = s.gens := m.gens
    obtain rfl : d3 = s.drawn := m.drawn
    obtain rfl : o3 = s.os := m.os
    refine wpAny_pure ⟨rfl, h3, t3, l, rfl, T, nd, by omega, mem, fun b o e => ?_⟩
    have lt := Heap.lt_size e
    refine m.heap b o ?_ (Heap.get?_push_of_some _ (keep b o e))
    rw [List.mem_cons, List.mem_singleton]
    exact fun z => z.elim (Nat.ne_of_lt lt) (Nat.ne_of_lt (Nat.lt_of_lt_of_eq (Nat.lt_succ_of_lt lt) hsz.symm))
  · rcases r2 with e | fl
    · exact h2
    cases fl with
    | next => exact h2.elim
    | brk => exact h2.elim
    | cont => exact h2.elim
    | ret r =>
    obtain ⟨rfl, h', tk, l, rfl, T, nd, le, mem, kp⟩ := h2
    repeat' (first | assumption | wp_step)
    exact h h' tk l T nd le mem kp
end
/-- set(xs), xs a list of texts -/
def rSetTx (K : PySem.W.Frag) (P : Program) (w : World) : List V → Hp → VK → Prop := fun vs H Q => ∃ (a : Addr) (ts : List Str), vs = [.ref a] ∧ SqL K H a (ts.map V.str) ∧ ts.length ≤ 60 ∧
  ∀ (p : Addr) (l : List Str), H p = none → l.Nodup → l.length ≤ ts.length → (∀ x, x ∈ l ↔ x ∈ ts) → Q (.ref p) (upd H p (SetX P w p l))
section
variable {X : Cx}
theorem strsAre_of : ∀ {ts : List Str} {us : List Value}, Vals (ts.map V.str) us → StrsAre us ts
  | [], _, .nil => .nil
  | t :: ts, _, .cons h r => by
    obtain ⟨k, e⟩ := h
    subst e
    exact .cons t k (strsAre_of r)
theorem cr_setTx (hc : X.calm = true) : CallR X (.type "set") (rSetTx X.K X.prog X.w) := by
  intro pins s σ H xs us Q I r h
  obtain ⟨a, ts, rfl, ha, hn, q⟩ := h
  rw [Vals.ref1 r]
  obtain ⟨its, rv, pl, _⟩ := I.list ha
  have lim : scanBound > 64 := by decide
  refine call_setTx (P := X.prog) (w := X.w) (I.ok.hd hc) pl.isList (strsAre_of rv) (by omega) fun h' tk l T nd le mem kp => ?_
  exact ⟨.ref s.heap.objs.size, _, I.laid (t' := tk) (o := SetX X.prog X.w s.heap.objs.size l) kp (Nat.le_refl _) (setX_new T), rfl, q _ l (I.hok.fresh (Nat.le_refl _)) nd le mem⟩
end
end Kx
namespace Kx
open PySem L2 PySem.Spec PyProof.Rows
theorem spl1 : ∀ (x acc : List Nat), (TL.spl [46] 0 acc x).length ≤ x.length + 1 ∧ ∀ p ∈ TL.spl [46] 0 acc x, p.length ≤ acc.length + x.length
  | [], acc => by
    rw [TL.spl_nil]
    refine ⟨Nat.le_refl _, fun p hp => ?_⟩
    rw [List.mem_singleton.mp hp]
    exact Nat.le_refl _
  | c :: r, acc => by
    cases h : TL.pre [46] (c :: r) with
    | true =>
      rw [TL.spl_hit h]
      have e := spl1 r []
      refine ⟨Nat.succ_le_succ e.1, fun p hp => ?_⟩
      rcases List.mem_cons.mp hp with rfl | z
      · exact Nat.le_add_right _ _
      · have e2 := e.2 p z
        simp only [List.length_cons, List.length_nil] at *
        omega
    | false =>
      rw [TL.spl_miss h]
      have e := spl1 r (acc ++ [c])
      refine ⟨Nat.le_succ_of_le e.1, fun p hp => ?_⟩
      have e2 := e.2 p hp
      simp only [List.length_cons, List.length_append, List.length_nil] at *
      omega
theorem short_of {t : Str} (h : t.length ≤ 900) : Short t := by
  have e := TL.split_spl t "." (by decide +kernel) (TL.kind_ok (by decide +kernel))
  rw [show TL.tl "." = [46] from by decide +kernel] at e
  have b := spl1 (TL.tl t) []
  rw [TL.len_tl] at h
  refine ⟨by rw [TL.len_tl]; omega, ?_, fun x hx => ?_⟩
  · rw [← List.length_map (f := TL.tl), e]
    omega
  · have m : TL.tl x ∈ List.map TL.tl (Txt.split t ".") := List.mem_map_of_mem hx
    rw [e] at m
    have := b.2 _ m
    rw [TL.len_tl]
    simp only [List.length_nil] at this
    omega
theorem join0 : ∀ {l : List Str}, l.length ≤ 2 → TL.tl (Txt.join "" l) = (l.map TL.tl).flatten
  | [], _ => by decide +kernel
  | [x], _ => by
    rw [TL.join_eq, TL.tl_join]
    show TL.tl x = _
    simp
  | [x, y], _ => by
    rw [TL.join_eq, TL.tl_join]
    show TL.tl x ++ (TL.tl "" ++ TL.tl y) = _
    rw [show TL.tl "" = [] from by decide +kernel]
    simp
  | _ :: _ :: _ :: _, h => by simp at h
theorem tl_cps (x : Str) : TL.tl x = x.cps.toList := rfl
theorem filt_all {α : Type} (f : α → Bool) (l : List α) : (l.filter fun x => !f x).isEmpty = l.all f := by
  induction l with
  | nil => rfl
  | cons x r ih => cases h : f x <;> simp [h, ih]
theorem words_split (l : List Str) (h : l.length ≤ 2) : l.all isWord = (((l.filter fun x => !decide (1 ≤ x.length ∧ x.length ≤ 8)).isEmpty) && (((Txt.join "" l).cps.toList.filter fun c => !decide (c ∈ lets.cps.toList)).isEmpty)) := by
  rw [filt_all (f := fun x : Str => decide (1 ≤ x.length ∧ x.length ≤ 8)), filt_all (f := fun c => decide (c ∈ lets.cps.toList)), ← tl_cps, join0 h]
  clear h
  induction l with
  | nil => rfl
  | cons x r ih =>
    rw [List.all_cons, List.all_cons, List.map_cons, List.flatten_cons, List.all_append, ih]
    unfold isWord
    rw [tl_cps]
    cases decide (1 ≤ x.length ∧ x.length ≤ 8) <;> cases (x.cps.toList.all fun c => decide (c ∈ lets.cps.toList)) <;> simp
theorem filt_snoc {α : Type} {f : α → Bool} {l : List α} {i : Nat} {z : α} (hz : l[i]? = some z) : (l.take (i + 1)).filter f = (l.take i).filter f ++ (if f z = true then [z] else []) := by
  rw [List.take_add_one, hz, List.filter_append]
  show _ ++ List.filter f [z] = _
  cases h : f z <;> simp [h]
theorem filt_len {α : Type} {f : α → Bool} {l : List α} {i : Nat} : ((l.take i).filter f).length ≤ l.length := Nat.le_trans (List.length_filter_le _ _) (by rw [List.length_take]; exact Nat.min_le_right _ _)
abbrev sTermL : Stmt := top 31
section
variable {P : Program} {w : World} {K : PySem.W.Frag} {mg : PySem.Str → Option Value} {base : Heap}
abbrev nTL : List PySem.Str := ["_law_thing", "_law_parts", "_law_long", "_law_odd_here", "_law_part", "_law_sign"]
theorem scTermL : FnScope nTL ["_law_thing"] (defScope sTermL) := ⟨rfl, rfl, rfl, by decide +kernel, rfl, by decide +kernel, by decide +kernel⟩
theorem split_e : (Txt.split "" ".").length ≤ 2 := by decide +kernel
theorem ok_termL {f : Addr} {fd : FuncData} (F : Fs K mg "_law_is_term" sTermL ["_law_thing"] f fd) (T : Bx mg) : FnOk P w K mg base CX0 1 f fd ["_law_thing"] (spG K isTermS) := by
  refine F.F.ok scTermL (fun vs H Q E h => spG_len h) (fun cdv A outer s H vs Q E hr h => ?_)
  obtain ⟨v, d, rfl, hv, q⟩ := h
  obtain ⟨ty, tyx, t1, t2, t3, t4⟩ := hv.ty
  have hu : (cxOf CX0 P w K mg base nTL "_law_is_term" (defScope sTermL) f cdv A outer s H E).nox.A.units + 64 < cLine := by
    have := hr.un
    show (A.deeper (envOfC "_law_is_term" (defScope sTermL) s.heap.objs.size f cdv)).units + 64 < cLine
    omega
  refine ⟨_, pss_cons (ps_if (pt_not (pt_val (pe_callB call_isi (by rfl) T.isi boot_isinstance (pa_cons (pv 0) (pa_cons (pe_bltn (v := .ty "str") (by rfl) T.str (by decide +kernel) rfl) pa_nil))))) (pss_one (ps_ret pe_bl)) pss_nil)
      (pss_cons (ps_set (i := 1) scTermL.nd rfl (Or.inl rfl) (pe_split (pv 0) pe_str))
      (pss_cons (ps_if (pt_cmpR op_gt (pe_callB call_len_seq (by rfl) T.len PySem.boot_len (pa_cons (pv 1) pa_nil)) pe_int (nomark _)) (pss_one (ps_ret pe_bl)) pss_nil)
      (pss_cons (ps_setLc (i := 2) (own := [("_law_part", 4)]) (g := gName 4) (te := tVar 4) rfl scTermL.nd rfl rfl (sw_true rfl rfl rfl rfl) (pi_list (pv 1)) (blkOk_by (N := nTL) (sc := defScope sTermL) (by decide +kernel))
          (fun _ _ _ _ _ => pg_name (i := 4) scTermL.nd rfl (Or.inl rfl)) (fun _ _ _ _ _ => pts_one (pt_not (pt_chain op_lt op_lt pe_int (pe_callB call_len_str (by rfl) T.len PySem.boot_len (pa_cons (pv 4) pa_nil)) pe_int))) (fun _ _ _ _ _ => pv 4))
      (pss_cons (ps_setLc (i := 3) (own := [("_law_sign", 5)]) (g := gName 5) (te := tVar 5) rfl scTermL.nd rfl rfl (sw_true rfl rfl rfl rfl) (pi_str (pe_join pe_str (pv 1))) (blkOk_by (N := nTL) (sc := defScope sTermL) (by decide +kernel))
          (fun _ _ _ _ _ => pg_name (i := 5) scTermL.nd rfl (Or.inl rfl)) (fun _ _ _ _ _ => pts_one (pt_cmpR op_notIn_sign (pv 5) pe_str (by with_unfolding_all rfl))) (fun _ _ _ _ _ => pv 5))
      (pss_one (ps_ret (pe_or (pe_cmpR op_eq (pv 0) pe_str (nomark _)) (pe_one (pe_and (pe_cmpR (op_eqNil hu) (pv 2) (pe_lst pa_nil) (nomark _)) (pe_one (pe_cmpR (op_eqNil hu) (pv 3) (pe_lst pa_nil) (nomark _)))))))))))), ?_⟩
  refine ⟨_, rfl, v, .ty "str", _, _, _, rfl, .ty _, tyx, kit_ty t2, _, rfl, ?_⟩
  have no : isStrS d = false → isTermS d = false := by cases d <;> first | exact fun _ => rfl | exact fun z => nomatch z
  cases hs : isStrS d with
  | false =>
    rw [no hs] at q
    exact iteT (q H fun _ _ z => z)
  | true =>
  refine iteF ?_
  cases hv with
  | str t hsh =>
    have q : ∀ H', Same H H' → Q (.bl (isTerm t)) H' := q
    have hl := hsh.l
    refine ⟨_, rfl, ⟨t, rfl⟩, t, ".", rfl, rfl, (by decide), (by rw [sizeLine_eq]; omega), fun p hp => ?_⟩
    have gp : (upd H p (.lst ((Txt.split t ".").map V.str))) p = some (.lst ((Txt.split t ".").map V.str)) := upd_same
    have s1 : Same H (upd H p (.lst ((Txt.split t ".").map V.str))) := new_same hp
    have hsn := hsh.n
    have hse := hsh.e
    have e0 : isTerm t = (decide (t = "") || (decide ((Txt.split t ".").length ≤ 2) && (Txt.split t ".").all isWord)) := rfl
    have z2 : t = "" → (Txt.split t ".").length ≤ 2 := fun e => by rw [e]; exact split_e
    generalize Txt.split t "." = parts at hsn hse gp s1 e0 z2 ⊢
    generalize hH1 : upd H p (.lst (parts.map V.str)) = H1 at gp s1 ⊢
    refine ⟨_, rfl, p, _, rfl, .inl (SqL.of gp), _, _, rfl, rfl, _, rfl, ?_⟩
    rw [List.length_map]
    by_cases h2 : (2 : Int) < (parts.length : Int)
    case pos =>
      rw [decide_eq_true h2]
      have e1 : isTerm t = false := by
        rw [e0, decide_eq_false (fun z => by have := z2 z; omega), decide_eq_false (by omega)]
        rfl
      rw [e1] at q
      exact iteT (q _ s1)
    case neg =>
    rw [decide_eq_false h2]
    refine iteF ⟨_, rfl, p, rfl, ⟨_, SqL.of gp⟩, fun D hD => ?_⟩
    have nD : p ≠ D := fun z => by
      rw [← z, gp] at hD
      cases hD
    refine lc_it (walk_list (xs := parts.map V.str)) (fun i H2 => Same H1 H2 ∧ H2 D = some (.lst (((parts.take i).filter fun x => !decide (1 ≤ x.length ∧ x.length ≤ 8)).map V.str))) ⟨new_same hD, upd_same⟩ (fun i H2 _ h => SqL.of (h.1 _ _ gp)) ?_ ?_
    · rintro i x H2 H3 hi ⟨s2, gD⟩ ⟨rfl, hx⟩
      rw [List.getElem?_map] at hx
      obtain ⟨z, hz, rfl⟩ := Option.map_eq_some_iff.mp hx
      have hz9 : z.length ≤ 1000 := hse z (List.mem_of_getElem? hz)
      have hz9s : z.length ≤ sizeLine := Nat.le_of_lt (small1000 hz9)
      have stp := filt_snoc (f := fun x : Str => !decide (1 ≤ x.length ∧ x.length ≤ 8)) hz
      refine ⟨rfl, ?_⟩
      refine ⟨_, rfl, z, rfl, hz9s, _, _, rfl, rfl, _, rfl, ?_⟩
      have hg2 : (((parts.take i).filter fun x => !decide (1 ≤ x.length ∧ x.length ≤ 8)).map V.str).length < sizeLine := by
        rw [List.length_map]
        have := filt_len (f := fun x : Str => !decide (1 ≤ x.length ∧ x.length ≤ 8)) (l := parts) (i := i)
        exact small1000 (by omega)
      have yes : decide (1 ≤ z.length ∧ z.length ≤ 8) = false → Same H1 (upd H3 D (.lst (((parts.take i).filter fun x => !decide (1 ≤ x.length ∧ x.length ≤ 8)).map V.str ++ [V.str z]))) ∧ (upd H3 D (.lst (((parts.take i).filter fun x => !decide (1 ≤ x.length ∧ x.length ≤ 8)).map V.str ++ [V.str z]))) D = some (.lst (((parts.take (i + 1)).filter fun x => !decide (1 ≤ x.length ∧ x.length ≤ 8)).map V.str)) := fun e => by
        refine ⟨same_upd hD s2, ?_⟩
        rw [upd_same, stp, e, List.map_append]
        rfl
      by_cases h0 : (0 : Int) < (z.length : Int)
      case neg =>
        rw [decide_eq_false h0]
        exact iteF ⟨_, rfl, iteT ⟨_, rfl, _, gD, hg2, yes (decide_eq_false (by omega))⟩⟩
      case pos =>
      rw [decide_eq_true h0]
      refine iteT ⟨_, _, rfl, rfl, _, rfl, ?_⟩
      by_cases h9 : (z.length : Int) < 9
      case neg =>
        rw [decide_eq_false h9]
        exact iteT ⟨_, rfl, _, gD, hg2, yes (decide_eq_false (by omega))⟩
      case pos =>
        rw [decide_eq_true h9]
        refine iteF ⟨s2, ?_⟩
        rw [gD, stp, decide_eq_true (by omega : 1 ≤ z.length ∧ z.length ≤ 8)]
        simp
    · rintro H2 ⟨s2, gD⟩
      rw [List.length_map, List.take_of_length_le (Nat.le_refl _)] at gD
      have gp2 : H2 p = some (.lst (parts.map V.str)) := s2 _ _ gp
      have s02 : Same H H2 := fun b u z => s2 _ _ (s1 _ _ z)
      have hsum : (parts.map (·.length)).sum ≤ 2000 := by
        match parts, h2, hse with
        | [], _, _ => decide
        | [x], _, e => have := e x (by simp); simp; omega
        | [x, y], _, e => have := e x (by simp); have := e y (by simp); simp; omega
        | _ :: _ :: _ :: _, h, _ => simp at h; omega
      have hjl : (Txt.join "" parts).length ≤ 2000 := by
        rw [TL.len_tl, join0 (by omega), List.length_flatten, List.map_map]
        rw [show (parts.map (List.length ∘ TL.tl)) = parts.map (·.length) from List.map_congr_left fun x _ => (TL.len_tl x).symm]
        exact hsum
      refine ⟨⟨_, rfl⟩, _, rfl, "", p, parts, rfl, rfl, .inl (SqL.of gp2), ?_, _, rfl, fun D2 hD2 => ?_⟩
      · show _ + parts.length * 0 ≤ _
        omega
      have n2 : D ≠ D2 := fun z => by
        rw [← z, gD] at hD2
        cases hD2
      generalize hj : Txt.join "" parts = jt at hjl ⊢
      refine lc_it walk_str (fun i H3 => Same H2 H3 ∧ H3 D2 = some (.lst (((jt.cps.toList.take i).filter fun c => !decide (c ∈ lets.cps.toList)).map fun c => V.str ⟨#[c]⟩))) ⟨new_same hD2, upd_same⟩ (fun _ _ _ _ => trivial) ?_ ?_
      · rintro i x H3 H4 hi ⟨s3, g3⟩ ⟨rfl, c, hc, rfl⟩
        have hc' : jt.cps.toList[i]? = some c := by rw [Array.getElem?_toList]; exact hc
        have stp := filt_snoc (f := fun c => !decide (c ∈ lets.cps.toList)) hc'
        refine ⟨rfl, _, rfl, c, lets, rfl, rfl, _, rfl, ?_⟩
        by_cases hin : c ∈ lets.cps.toList
        case pos =>
          rw [decide_eq_true hin] at stp ⊢
          refine iteF ⟨s3, ?_⟩
          rw [g3, stp]
          simp
        case neg =>
          rw [decide_eq_false hin] at stp ⊢
          refine iteT ⟨_, rfl, _, g3, ?_, same_upd hD2 s3, ?_⟩
          · rw [List.length_map]
            have := filt_len (f := fun c => !decide (c ∈ lets.cps.toList)) (l := jt.cps.toList) (i := i)
            have e2 : jt.cps.toList.length = jt.cps.size := Array.length_toList
            have e : jt.length = jt.cps.size := rfl
            rw [sizeLine_eq]
            omega
          · rw [upd_same, stp, List.map_append]
            rfl
      · rintro H3 ⟨s3, g3⟩
        rw [List.take_of_length_le (by rw [Array.length_toList]; exact Nat.le_refl _)] at g3
        have s03 : Same H H3 := fun b u z => s3 _ _ (s02 _ _ z)
        have gD3 := s3 _ _ gD
        refine ⟨_, rfl, rfl, _, rfl, ?_⟩
        have n3 : ∀ b u, H3 b = some u → ∀ q2, H3 q2 = none → (upd H3 q2 (.lst [])) b = some u := fun b u e q2 e2 => by
          rw [upd_ne (ne_of_none e e2)]
          exact e
        by_cases ht : t = ""
        case pos =>
          rw [decide_eq_true (show V.str t = V.str "" from by rw [ht])]
          rw [e0, decide_eq_true ht, Bool.true_or] at q
          exact iteT (q _ s03)
        case neg =>
        rw [decide_eq_false (show ¬V.str t = V.str "" from fun z => ht (V.str.inj z))]
        rw [e0, decide_eq_false ht, Bool.false_or, decide_eq_true (by omega), Bool.true_and, words_split parts (by omega), hj] at q
        refine iteF ⟨_, rfl, by show 0 ≤ sizeLine; decide, fun q2 h2' => ⟨_, _, _, rfl, rfl, SqL.of (n3 _ _ gD3 q2 h2'), SqL.of upd_same, _, rfl, ?_⟩⟩
        have s04 : Same H (upd H3 q2 (.lst [])) := fun b u z => n3 _ _ (s03 _ _ z) q2 h2'
        have g34 := n3 _ _ g3 q2 h2'
        generalize upd H3 q2 (.lst []) = H4 at s04 g34 ⊢
        rw [List.isEmpty_map]
        cases e5 : (List.filter (fun x : Str => !decide (1 ≤ x.length ∧ x.length ≤ 8)) parts).isEmpty with
        | false =>
          rw [e5, Bool.false_and] at q
          exact iteF (q _ s04)
        | true =>
          rw [e5, Bool.true_and] at q
          refine iteT ⟨_, rfl, by show 0 ≤ sizeLine; decide, fun q3 h3' => ⟨_, _, _, rfl, rfl, SqL.of (new_same h3' _ _ g34), SqL.of upd_same, ?_⟩⟩
          rw [List.isEmpty_map]
          exact q _ fun b u z => new_same h3' _ _ (s04 _ _ z)
  | non => cases hs
  | lst h => cases hs
  | dic h => cases hs
  | bl b => cases hs
  | int i => cases hs
  | tup h p n => cases hs
end
end Kx
namespace Kx
open PySem L2 PySem.Spec PyProof.Rows
theorem term_str {d : Sh} (h : isTermS d = true) : isStrS d = true := by cases d <;> first | rfl | cases h
theorem litTS_eq (a b c : Sh) : isLitTS (.tup [a, b, c]) = (isTermS a && (isTermS b && isIntS c)) := by
  show ((isStrS a && (isStrS b && isIntS c)) && (isTermS a && isTermS b)) = _
  cases ha : isTermS a with
  | false => simp
  | true =>
    rw [term_str ha]
    cases hb : isTermS b with
    | false => simp
    | true => rw [term_str hb]; simp
theorem litTS_lit {d : Sh} (h : isLitTS d = true) : isLitS d = true := by
  cases e : isLitS d with
  | true => rfl
  | false => rw [litT_false e] at h; exact h
theorem stands_eq (l : List Sh) : standsS (.tup l) = (decide (l.length = 1 ∨ l.length = 2) && l.all isLitTS) := by
  show ((decide (1 ≤ l.length ∧ (l.length : Int) ≤ 2) && l.all isLitS) && l.all isLitTS) = _
  have e : decide (1 ≤ l.length ∧ (l.length : Int) ≤ 2) = decide (l.length = 1 ∨ l.length = 2) := by
    rw [decide_eq_decide]
    omega
  rw [e]
  cases h : l.all isLitTS with
  | false => simp
  | true =>
    rw [show l.all isLitS = true from List.all_eq_true.mpr fun x hx => litTS_lit (List.all_eq_true.mp h x hx)]
    simp
theorem all_take {α : Type} {f : α → Bool} {l : List α} {i : Nat} {x : α} (h : (l.take i).all f = true) (hx : l[i]? = some x) (hf : f x = true) : (l.take (i + 1)).all f = true := by
  rw [List.take_add_one, hx, List.all_append, h]
  show (true && List.all [x] f) = true
  simp [hf]
theorem all_not {α : Type} {f : α → Bool} {l : List α} {i : Nat} {x : α} (hx : l[i]? = some x) (hf : f x = false) : l.all f = false := by
  rw [List.all_eq_false]
  exact ⟨x, List.mem_of_getElem? hx, by simp [hf]⟩
abbrev sClL : Stmt := top 32
section
variable {P : Program} {w : World} {K : PySem.W.Frag} {mg : PySem.Str → Option Value} {base : Heap}
abbrev nCL : List PySem.Str := ["_law_thing", "_law_one_here"]
theorem scClL : FnScope nCL ["_law_thing"] (defScope sClL) := ⟨rfl, rfl, rfl, by decide +kernel, rfl, by decide +kernel, by decide +kernel⟩
theorem ok_clauseL {f g : Addr} {fd fdT : FuncData} (F : Fs K mg "_law_is_clause" sClL ["_law_thing"] f fd) (Tm : Fs K mg "_law_is_term" sTermL ["_law_thing"] g fdT) (T : Bx mg) : FnOk P w K mg base CX0 2 f fd ["_law_thing"] (spG K standsS) := by
  have GT : FnOk P w K mg base CX0 1 g fdT ["_law_thing"] (spG K isTermS) := ok_termL Tm T
  refine F.F.ok scClL (fun vs H Q E h => spG_len h) (fun cdv A outer s H vs Q E hr h => ?_)
  obtain ⟨v, d, rfl, hv, q⟩ := h
  obtain ⟨ty, tyx, t1, t2, t3, t4⟩ := hv.ty
  refine ⟨_, pss_cons (ps_if (PW.pt (pw_or (pt_not (pt_val (pe_callB call_isi (by rfl) T.isi boot_isinstance (pa_cons (pv 0) (pa_cons (pe_bltn (v := .ty "tuple") (by rfl) T.tuple (by decide +kernel) rfl) pa_nil)))))
        (pw_or1 (pt_cmpR op_notIn_seq (pe_callB call_len_seq (by rfl) T.len PySem.boot_len (pa_cons (pv 0) pa_nil)) (pe_tup (pa_cons pe_int (pa_cons pe_int pa_nil))) (by with_unfolding_all rfl))))) (pss_one (ps_ret pe_bl)) pss_nil)
      (pss_cons (ps_for PassesOwn.never rfl (pi_tup (pv 0)) (pg_name (i := 1) scClL.nd rfl (Or.inl rfl))
        (pss_cons (ps_if (PW.pt (pw_or (pt_not (pt_val (pe_callB call_isi (by rfl) T.isi boot_isinstance (pa_cons (pv 1) (pa_cons (pe_bltn (v := .ty "tuple") (by rfl) T.tuple (by decide +kernel) rfl) pa_nil)))))
          (pw_or (pt_cmpR op_ne (pe_callB call_len_seq (by rfl) T.len PySem.boot_len (pa_cons (pv 1) pa_nil)) pe_int (nomark _))
          (pw_or (pt_not (pt_val (pe_call GT hr (by rfl) Tm.m Tm.F.kp Tm.b .nil pass0 (pa_cons (pe_ix ix_tup (pv 1) pe_int (fun _ _ => rfl)) pa_nil))))
          (pw_or1 (pt_not (pt_val (pe_call GT hr (by rfl) Tm.m Tm.F.kp Tm.b .nil pass0 (pa_cons (pe_ix ix_tup (pv 1) pe_int (fun _ _ => rfl)) pa_nil))))))))) (pss_one (ps_ret pe_bl)) pss_nil)
        (pss_one (ps_if (PW.pt (pw_or (pt_not (pt_val (pe_callB call_isi (by rfl) T.isi boot_isinstance (pa_cons (pe_ix ix_tup (pv 1) pe_int (fun _ _ => rfl)) (pa_cons (pe_bltn (v := .ty "int") (by rfl) T.int (by decide +kernel) rfl) pa_nil)))))
          (pw_or1 (pt_val (pe_callB call_isi (by rfl) T.isi boot_isinstance (pa_cons (pe_ix ix_tup (pv 1) pe_int (fun _ _ => rfl)) (pa_cons (pe_bltn (v := .ty "bool") (by rfl) T.bool (by decide +kernel) rfl) pa_nil))))))) (pss_one (ps_ret pe_bl)) pss_nil))))
      (pss_one (ps_ret pe_bl))), ?_⟩
  refine ⟨_, rfl, v, .ty "tuple", _, _, _, rfl, .ty _, tyx, kit_ty t1, _, rfl, ?_⟩
  have no : isTupS d = false → standsS d = false := by cases d <;> first | exact fun _ => rfl | exact fun z => nomatch z
  cases hs : isTupS d with
  | false =>
    rw [no hs] at q
    exact iteT (iteT (q H fun _ _ z => z))
  | true =>
  refine iteF ?_
  cases hv with
  | tup ha p n =>
    rename_i a xs l
    have hl := p.length
    rw [stands_eq] at q
    refine ⟨_, rfl, a, xs, rfl, .inr ha, by show 2 ≤ sizeLine; decide, fun p2 hp2 => ⟨p2, _, rfl, .inr (SqT.of upd_same), rfl, rfl, _, rfl, ?_⟩⟩
    have s1 := new_same (o := .tup [V.int 1, V.int 2]) hp2
    generalize upd H p2 (.tup [V.int 1, V.int 2]) = H1 at s1 ⊢
    have e1 : inV (.int (xs.length : Int)) [.int 1, .int 2] = decide (l.length = 1 ∨ l.length = 2) := by
      show ((1 : Int) == (xs.length : Int) || ((2 : Int) == (xs.length : Int) || false)) = _
      rw [Bool.or_false, Bool.eq_iff_iff, Bool.or_eq_true, beq_iff_eq, beq_iff_eq, decide_eq_true_eq]
      omega
    rw [e1]
    show if (!decide (l.length = 1 ∨ l.length = 2)) = true then _ else _
    by_cases h12 : l.length = 1 ∨ l.length = 2
    case neg =>
      rw [decide_eq_false h12]
      rw [decide_eq_false h12, Bool.false_and] at q
      exact iteT (q _ s1)
    case pos =>
    rw [decide_eq_true h12]
    rw [decide_eq_true h12, Bool.true_and] at q
    have ha1 := SqT.same s1 ha
    refine iteF ⟨_, rfl, a, rfl, ⟨_, ha1⟩, ?_⟩
    refine for_tup (xs := xs) (fun i σ H3 => (∃ v1, σ = [some (.ref a), v1]) ∧ Same H H3 ∧ (l.take i).all isLitTS = true) ⟨⟨_, rfl⟩, s1, rfl⟩ (fun i σ H3 _ h => SqT.same h.2.1 ha) ?_ ?_
    · rintro i x σ H3 hx ⟨⟨v1, rfl⟩, s3, hall⟩
      obtain ⟨d', hd', hv0⟩ := IsAll.get p hx
      have hv' := hv0.same s3
      obtain ⟨ty', tyx', u1, u2, u3, u4⟩ := hv'.ty
      have bad : isLitTS d' = false → ∀ H', Same H H' → Q (.bl false) H' := fun e H' z => by
        have := q H' z
        rw [all_not hd' e] at this
        exact this
      have no' : isTupS d' = false → isLitTS d' = false := by cases d' <;> first | exact fun _ => rfl | exact fun z => nomatch z
      refine ⟨_, rfl, x, .ty "tuple", _, _, _, rfl, .ty _, tyx', kit_ty u1, _, rfl, ?_⟩
      cases hs' : isTupS d' with
      | false => exact iteT (iteT (bad (no' hs') _ s3))
      | true =>
      refine iteF ?_
      cases hv' with
      | tup hb pb nb =>
        rename_i b ys l'
        have hl' := pb.length
        refine ⟨_, rfl, b, ys, rfl, .inr hb, rfl, _, rfl, ?_⟩
        by_cases h3 : ys.length = 3
        case neg =>
          rw [show (!decide (V.int (ys.length : Int) = V.int 3)) = true from by rw [decide_eq_false fun z => h3 (by have := V.int.inj z; omega)]; rfl]
          have e : isLitTS (.tup l') = false := by
            rw [hl'] at h3
            match l', h3 with
            | [], _ => rfl
            | [_], _ => rfl
            | [_, _], _ => rfl
            | [_, _, _], h => exact absurd rfl h
            | _ :: _ :: _ :: _ :: _, _ => rfl
          exact iteT (iteT (bad e _ s3))
        case pos =>
        rw [show (!decide (V.int (ys.length : Int) = V.int 3)) = false from by rw [h3]; rfl]
        refine iteF ?_
        cases pb with
        | nil => cases h3
        | cons p1 pb =>
        cases pb with
        | nil => cases h3
        | cons p2 pb =>
        cases pb with
        | nil => cases h3
        | cons p3 pb =>
        cases pb with
        | cons _ _ => exact absurd h3 (by simp)
        | nil =>
        rename_i x1 d1 x2 d2 x3 d3
        rw [litTS_eq] at bad
        have good : isLitTS (.tup [d1, d2, d3]) = (isTermS d1 && (isTermS d2 && isIntS d3)) := litTS_eq _ _ _
        refine ⟨_, rfl, b, _, _, _, rfl, rfl, hb, rfl, x1, d1, rfl, p1, fun H4 s4 => ⟨_, rfl, ?_⟩⟩
        have s34 : Same H H4 := fun b u z => s4 _ _ (s3 _ _ z)
        cases c1 : isTermS d1 with
        | false =>
          rw [c1, Bool.false_and] at bad
          exact iteT (iteT (bad rfl _ s34))
        | true =>
        rw [c1, Bool.true_and] at bad good
        refine iteF ⟨_, rfl, b, _, _, _, rfl, rfl, SqT.same s4 hb, rfl, x2, d2, rfl, p2.same s4, fun H5 s5 => ⟨_, rfl, ?_⟩⟩
        have s45 : Same H3 H5 := fun b u z => s5 _ _ (s4 _ _ z)
        have s35 : Same H H5 := fun b u z => s5 _ _ (s34 _ _ z)
        cases c2 : isTermS d2 with
        | false =>
          rw [c2, Bool.false_and] at bad
          exact iteT (bad rfl _ s35)
        | true =>
        rw [c2, Bool.true_and] at bad good
        obtain ⟨ty3, tyx3, w1, w2, w3, w4⟩ := (p3.same s45).ty
        refine iteF ⟨_, rfl, b, _, _, _, rfl, rfl, SqT.same s45 hb, rfl, x3, .ty "int", _, _, _, rfl, .ty _, tyx3, kit_ty w4, _, rfl, ?_⟩
        cases c3 : (isIntS d3 || isBlS d3) with
        | false =>
          have c4 : isIntS d3 = false := by cases z : isIntS d3 <;> simp_all
          exact iteT (iteT (bad c4 _ s35))
        | true =>
        refine iteF ⟨_, rfl, b, _, _, _, rfl, rfl, SqT.same s45 hb, rfl, x3, .ty "bool", _, _, _, rfl, .ty _, tyx3, kit_ty w3, _, rfl, ?_⟩
        cases c5 : isBlS d3 with
        | true =>
          have c4 : isIntS d3 = false := by cases d3 <;> first | rfl | cases c5
          exact iteT (bad c4 _ s35)
        | false =>
          have c4 : isIntS d3 = true := by cases z : isIntS d3 <;> simp_all
          refine iteF ⟨⟨_, rfl⟩, s35, all_take hall hd' (good.trans c4)⟩
      | non => cases hs'
      | lst h => cases hs'
      | dic h => cases hs'
      | bl b => cases hs'
      | int i => cases hs'
      | str x h => cases hs'
    · rintro σ H3 ⟨⟨v1, rfl⟩, s3, hall⟩
      rw [List.take_of_length_le (by omega)] at hall
      rw [hall] at q
      exact q _ s3
  | non => cases hs
  | lst h => cases hs
  | dic h => cases hs
  | bl b => cases hs
  | int i => cases hs
  | str x h => cases hs
end
end Kx
namespace Kx
open PySem L2 PySem.Spec PyProof.Rows
abbrev sDueL : Stmt := top 33
def oV : Option Int → V | none => .non | some i => .int i
theorem drop_cons {α : Type} {l : List α} {i : Nat} {x : α} (h : l[i]? = some x) : l.drop i = x :: l.drop (i + 1) := by
  obtain ⟨hi, e⟩ := List.getElem?_eq_some_iff.mp h
  rw [List.drop_eq_getElem_cons hi, e]
def spDueL (K : PySem.W.Frag) : Sp := fun vs H Q _ => ∃ (l : Addr) (ms : List V) (ds : List Sh), vs = [.ref l] ∧ SqL K H l ms ∧ IsAll K H ms ds ∧ ds.length ≤ 1000 ∧ ∀ H', Same H H' → Q (oV (firstWrongS ds)) H'
section
variable {P : Program} {w : World} {K : PySem.W.Frag} {mg : PySem.Str → Option Value} {base : Heap}
abbrev nDL : List PySem.Str := ["_law_some", "_law_wide", "_law_k"]
theorem scDueL : FnScope nDL ["_law_some"] (defScope sDueL) := ⟨rfl, rfl, rfl, by decide +kernel, rfl, by decide +kernel, by decide +kernel⟩
theorem ok_dueL {f g t : Addr} {fd fdC fdT : FuncData} (F : Fs K mg "_law_due" sDueL ["_law_some"] f fd) (C : Fs K mg "_law_is_clause" sClL ["_law_thing"] g fdC) (Tm : Fs K mg "_law_is_term" sTermL ["_law_thing"] t fdT) (T : Bx mg) (rng : mg "range" = none) :
    FnOk P w K mg base CX0 3 f fd ["_law_some"] (spDueL K) := by
  have GC : FnOk P w K mg base CX0 2 g fdC ["_law_thing"] (spG K standsS) := ok_clauseL C Tm T
  refine F.F.ok scDueL (fun vs H Q E h => ?_) (fun cdv A outer s H vs Q E hr h => ?_)
  · obtain ⟨l, ms, ds, rfl, _⟩ := h
    rfl
  · obtain ⟨l, ms, ds, rfl, hl, hp, hn, q⟩ := h
    have hml := hp.length
    refine ⟨_, pss_cons (ps_if (pt_cmpR op_gt (pe_callB call_len_seq (by rfl) T.len PySem.boot_len (pa_cons (pv 0) pa_nil)) pe_int (nomark _)) (pss_one (ps_ret (pe_un un_neg pe_int))) pss_nil)
      (pss_cons (ps_set (i := 1) scDueL.nd rfl (Or.inl rfl) pe_int)
      (pss_cons (ps_for PassesOwn.never rfl (pi_range1 rfl rng (pa_cons (pe_callB call_len_seq (by rfl) T.len PySem.boot_len (pa_cons (pv 0) pa_nil)) pa_nil)) (pg_name (i := 2) scDueL.nd rfl (Or.inl rfl))
        (pss_cons (ps_if (PW.pt (pw_or (pt_not (pt_val (pe_call GC hr (by rfl) C.m C.F.kp C.b .nil pass0 (pa_cons (pe_ix ix_list (pv 0) (pv 2) (fun _ _ => rfl)) pa_nil))))
            (pw_or1 (PW.pt (pw_and (pt_cmpR op_eq (pe_callB call_len_seq (by rfl) T.len PySem.boot_len (pa_cons (pe_ix ix_list (pv 0) (pv 2) (fun _ _ => rfl)) pa_nil)) pe_int (nomark _)) (pw_and1 (pt_cmpR op_eq (pv 1) pe_int (nomark _)))))))) (pss_one (ps_ret (pv 2))) pss_nil)
        (pss_one (ps_set (i := 1) scDueL.nd rfl (Or.inl rfl) (pe_op op_sub (pe_op op_add (pv 1) (pe_callB call_len_seq (by rfl) T.len PySem.boot_len (pa_cons (pe_ix ix_list (pv 0) (pv 2) (fun _ _ => rfl)) pa_nil))) pe_int)))))
      (pss_one (ps_ret pe_non)))), ?_⟩
    refine ⟨_, rfl, l, ms, rfl, .inl hl, _, _, rfl, rfl, _, rfl, ?_⟩
    rw [hml]
    by_cases h4 : (4 : Int) < (ds.length : Int)
    case pos =>
      rw [decide_eq_true h4]
      have e : firstWrongS ds = some (-1) := by
        unfold firstWrongS
        rw [if_pos (by omega)]
      rw [e] at q
      exact iteT ⟨_, rfl, q _ fun _ _ z => z⟩
    case neg =>
    rw [decide_eq_false h4]
    have e : firstWrongS ds = wrongAtS 0 0 ds := by
      unfold firstWrongS
      rw [if_neg (by omega)]
    rw [e] at q
    refine iteF ⟨_, rfl, l, ms, rfl, .inl hl, ?_⟩
    rw [hml]
    refine ⟨_, rfl, by omega, by omega, ?_⟩
    refine for_range (lo := 0) (n := ds.length) (fun i σ H3 => (∃ (d : Nat) (v2 : Option V), σ = [some (.ref l), some (.int d), v2] ∧ d ≤ 1 ∧ wrongAtS 0 0 ds = wrongAtS i d (ds.drop i)) ∧ Same H H3) ⟨⟨0, none, rfl, by decide, rfl⟩, fun _ _ z => z⟩ ?_ ?_
    · rintro i σ H3 hi ⟨⟨d, v2, rfl, hd, he⟩, s3⟩
      have hi' : ds[i]? = some ds[i] := List.getElem?_eq_getElem hi
      have hm' : ms[i]? = some (ms[i]'(by omega)) := List.getElem?_eq_getElem (by omega)
      obtain ⟨c, hc, hx⟩ := IsAll.get hp hm'
      generalize ms[i]'(by omega) = x at hm' hx
      rw [drop_cons hc] at he
      have e1 : wrongAtS i d (c :: ds.drop (i + 1)) = if standsS c = true then if (if lenS c = 2 then d + 1 else d) = 2 then some (i : Int) else wrongAtS (i + 1) (if lenS c = 2 then d + 1 else d) (ds.drop (i + 1)) else some (i : Int) := rfl
      rw [e1] at he
      have hl3 := SqL.same s3 hl
      have hx3 := hx.same s3
      have at3 : atI ms (0 + (i : Int)) = some x := at_of (by omega) hm'
      refine ⟨_, rfl, _, rfl, l, ms, _, _, rfl, rfl, hl3, at3, x, c, rfl, hx3, fun H4 s4 => ⟨_, rfl, ?_⟩⟩
      have s34 : Same H H4 := fun b u z => s4 _ _ (s3 _ _ z)
      cases hst : standsS c with
      | false =>
        rw [hst, if_neg (by decide)] at he
        rw [he] at q
        refine iteT (iteT ⟨_, rfl, ?_⟩)
        have := q H4 s34
        rw [Int.zero_add]
        exact this
      | true =>
        rw [hst, if_pos rfl] at he
        have hx4 := hx3.same s4
        cases hx4 with
        | tup ha pa na =>
          rename_i a ys l'
          have hl' := pa.length
          rw [stands_eq, Bool.and_eq_true, decide_eq_true_eq] at hst
          have h12 := hst.1
          have el : lenS (.tup l') = l'.length := rfl
          rw [el] at he
          have hl4 := SqL.same s34 hl
          refine iteF ⟨_, rfl, _, rfl, l, ms, _, _, rfl, rfl, hl4, at3, a, ys, rfl, .inr ha, rfl, _, rfl, ?_⟩
          rw [hl']
          have nxt : ∀ d' : Nat, d' ≤ 1 → (d' : Int) = d + l'.length - 1 → wrongAtS 0 0 ds = wrongAtS (i + 1) d' (ds.drop (i + 1)) → (∃ (dd : Nat) (v2 : Option V), [some (V.ref l), some (.int ((d : Int) + l'.length - 1)), some (.int (0 + (i : Int)))] = [some (.ref l), some (.int dd), v2] ∧ dd ≤ 1 ∧ wrongAtS 0 0 ds = wrongAtS (i + 1) dd (ds.drop (i + 1))) ∧ Same H H4 := fun d' h1 h2 h3 => ⟨⟨d', _, by rw [← h2], h1, h3⟩, s34⟩
          rcases h12 with h1 | h2
          · rw [if_neg (show ¬ l'.length = 2 by omega), if_neg (show ¬ d = 2 by omega)] at he
            rw [decide_eq_false (fun z => by have := V.int.inj z; omega)]
            refine iteF (iteF ?_)
            refine ⟨_, rfl, _, rfl, _, rfl, l, ms, _, _, rfl, rfl, hl4, at3, a, ys, rfl, .inr ha, _, _, rfl, rfl, _, _, rfl, rfl, ?_⟩
            rw [hl']
            exact nxt d hd (by omega) he
          · rw [if_pos h2] at he
            rw [h2, decide_eq_true (by rfl)]
            refine iteT ⟨_, rfl, rfl, _, rfl, ?_⟩
            by_cases hd1 : d = 1
            case pos =>
              rw [decide_eq_true (by rw [hd1]; rfl)]
              rw [hd1, if_pos rfl] at he
              rw [he] at q
              refine iteT ⟨_, rfl, ?_⟩
              have := q H4 s34
              rw [Int.zero_add]
              exact this
            case neg =>
              rw [decide_eq_false (fun z => hd1 (by have := V.int.inj z; omega))]
              rw [if_neg (show ¬ d + 1 = 2 by omega)] at he
              refine iteF ?_
              refine ⟨_, rfl, _, rfl, _, rfl, l, ms, _, _, rfl, rfl, hl4, at3, a, ys, rfl, .inr ha, _, _, rfl, rfl, _, _, rfl, rfl, ?_⟩
              rw [hl']
              exact nxt (d + 1) (by clear he; omega) (by rw [h2]; push_cast; omega) he
        | _ => cases hst
    · rintro σ H3 ⟨⟨d, v2, rfl, hd, he⟩, s3⟩
      rw [List.drop_length] at he
      rw [he] at q
      exact q _ s3
end
end Kx
namespace Kx
open PySem L2
abbrev sWell : Stmt := top 25
abbrev sDraw : Stmt := top 26
abbrev sOne : Stmt := top 27

/-- a source of draws as it stands: three whole numbers, the last one small -/
def WellAt (H : Hp) (p : Addr) (n : Int) : Prop := ∃ a b c : Int, H p = some (.lst [.int a, .int b, .int c]) ∧ 0 ≤ b ∧ b < 4294967296 ∧ 0 ≤ c ∧ c ≤ n
def spWell : Sp := fun vs H Q _ => ∃ c : Int, vs = [.int c] ∧ ∀ p H', H p = none → Same H H' → WellAt H' p 0 → Q (.ref p) H'
def spDraw : Sp := fun vs H Q _ => ∃ (p : Addr) (m n : Int), vs = [.ref p, .int m] ∧ WellAt H p n ∧ n ≤ 1000000 ∧ 0 < m ∧ m < 1000000 ∧
  ∀ (r : Int) (xs : List V), 0 ≤ r → r < m → WellAt (upd H p (.lst xs)) p (n + 1) → Q (.int r) (upd H p (.lst xs))
def spOne (K : PySem.W.Frag) : Sp := fun vs H Q _ => ∃ (p q : Addr) (n : Int) (ys : List V), vs = [.ref p, .ref q] ∧ WellAt H p n ∧ n ≤ 1000000 ∧ p ≠ q ∧ SqL K H q ys ∧ 0 < ys.length ∧ ys.length < 1000000 ∧
  ∀ (r : Nat) (v : V) (xs : List V), ys[r]? = some v → WellAt (upd H p (.lst xs)) p (n + 1) → Q v (upd H p (.lst xs))

structure Bl (mg : Str → Option Value) : Prop where
  int : mg "int" = none
  len : mg "len" = none

section
variable {P : Program} {w : World} {K : PySem.W.Frag} {mg : Str → Option Value} {base : Heap}
theorem scW : FnScope ["_law_cell"] ["_law_cell"] (defScope sWell) := ⟨rfl, rfl, rfl, by decide +kernel, rfl, by decide +kernel, by decide +kernel⟩
theorem ok_well {f : Addr} {fd : FuncData} (F : Fun K "_law_well" "_law_well" sWell f fd) (T : Bl mg) : FnOk P w K mg base CX0 1 f fd ["_law_cell"] spWell := by
  refine F.ok scW (fun vs H Q E h => ?_) (fun cdv A outer s H vs Q E hr h => ?_)
  · obtain ⟨c, rfl, _⟩ := h
    rfl
  · obtain ⟨c, rfl, k⟩ := h
    have hu := hu_of hr
    refine ⟨_, pss_one (ps_ret (pe_lst (pa_cons (pe_op op_mul (pv 0) (pe_callTy call_int1 (by rfl) T.int (by decide +kernel) (pa_cons (pe_cmpR op_ge (pv 0) (pe_op op_pow pe_int pe_int) (nomark _)) pa_nil)))
      (pa_cons (pe_op op_mod (pe_callTy call_int1 (by rfl) T.int (by decide +kernel) (pa_cons (pv 0) pa_nil)) pe_int) (pa_cons pe_int pa_nil))))), ?_⟩
    refine ⟨_, rfl, _, rfl, _, _, rfl, rfl, ⟨by decide, by decide, by decide⟩, _, _, rfl, rfl, .inr ⟨_, rfl, _, _, rfl, rfl, .inr ?_, _, rfl, .inl ⟨_, rfl, _, _, rfl, rfl, (by show (0 : Int) < 2147483629; decide), (by show 3 ≤ sizeLine; decide), fun p hp => ?_⟩⟩⟩
    · split <;> omega
    · refine k p _ hp (fun b o e => ?_) ⟨_, _, 0, upd_same, Int.emod_nonneg _ (by decide), ?_, Int.le_refl _, Int.le_refl _⟩
      · rw [upd_ne (ne_of_none e hp)]
        exact e
      · have := Int.emod_lt_of_pos c (show (0 : Int) < 2147483629 by decide)
        omega
theorem ml (x : Int) : -(2 ^ 64) < x % 2147483647 ∧ x % 2147483647 < 2 ^ 64 := by omega
theorem scD : FnScope ["_law_well_here", "_law_base", "_law_digit", "_law_number"] ["_law_well_here", "_law_base"] (defScope sDraw) := ⟨rfl, rfl, rfl, by decide +kernel, rfl, by decide +kernel, by decide +kernel⟩
theorem ok_draw {f : Addr} {fd : FuncData} (F : Fun K "_law_draw" "_law_draw" sDraw f fd) (T : Bl mg) : FnOk P w K mg base CX0 1 f fd ["_law_well_here", "_law_base"] spDraw := by
  refine F.ok scD (fun vs H Q E h => ?_) (fun cdv A outer s H vs Q E hr h => ?_)
  · obtain ⟨p, m, n, rfl, _⟩ := h
    rfl
  · obtain ⟨p, m, n, rfl, ⟨a, b, c, hp, hb0, hb1, hc0, hcn⟩, hn, hm0, hm1, k⟩ := h
    have hu := hu_of hr
    refine ⟨_, pss_cons (ps_if (pt_cmpR op_gt (pe_ix ix_list (pv 0) pe_int (fun _ _ => rfl)) pe_int (nomark _))
        (pss_cons (ps_set (i := 2) scD.nd rfl (Or.inl rfl) (pe_op op_mod (pe_callTy call_int1 (by rfl) T.int (by decide +kernel) (pa_cons (pe_ix ix_list (pv 0) pe_int (fun _ _ => rfl)) pa_nil)) (pv 1)))
        (pss_cons (ps_asg (pe_op op_fdivW (pe_ix ix_list (pv 0) pe_int (fun _ _ => rfl)) (pv 1)) (pg_sub (pv 0) pe_int set_list))
        (pss_one (ps_ret (pv 2))))) pss_nil)
      (pss_cons (ps_asg (pe_op op_add (pe_ix ix_list (pv 0) pe_int (fun _ _ => rfl)) pe_int) (pg_sub (pv 0) pe_int set_list))
      (pss_cons (ps_set (i := 3) scD.nd rfl (Or.inl rfl) (pe_op op_mod (pe_callTy call_int1 (by rfl) T.int (by decide +kernel) (pa_cons (pe_op op_mul (pe_callTy call_int1 (by rfl) T.int (by decide +kernel) (pa_cons
          (pe_op op_add (pe_op op_add (pe_ix ix_list (pv 0) pe_int (fun _ _ => rfl)) (pe_op op_mul pe_int (pe_ix ix_list (pv 0) pe_int (fun _ _ => rfl)))) pe_int) pa_nil)) pe_int) pa_nil)) pe_int))
      (pss_cons (ps_set (i := 3) scD.nd rfl (Or.inl rfl) (pe_op op_mod (pe_callTy call_int1 (by rfl) T.int (by decide +kernel) (pa_cons (pe_op op_mul (pv 3) (pe_op op_add (pe_op op_fdiv (pv 3) pe_int) pe_int)) pa_nil)) pe_int))
      (pss_one (ps_ret (pe_op op_mod (pe_callTy call_int1 (by rfl) T.int (by decide +kernel) (pa_cons (pe_op op_mod (pe_callTy call_int1 (by rfl) T.int (by decide +kernel) (pa_cons (pe_op op_mul (pv 3) (pe_op op_add (pe_op op_fdiv (pv 3) pe_int) pe_int)) pa_nil)) pe_int) pa_nil)) (pv 1))))))), ?_⟩
    have g0 : ∀ (x y z : V), atI [x, y, z] 0 = some x := fun _ _ _ => rfl
    have g1 : ∀ (x y z : V), atI [x, y, z] 1 = some y := fun _ _ _ => rfl
    have g2 : ∀ (x y z : V), atI [x, y, z] 2 = some z := fun _ _ _ => rfl
    have hc1 : c + 1 ≤ n + 1 := by omega
    refine ⟨_, rfl, p, _, _, _, rfl, rfl, SqL.of hp, g0 _ _ _, _, _, rfl, rfl, _, rfl, ?_⟩
    refine ite2 (fun _ => ?_) (fun _ => ?_)
    · refine ⟨_, rfl, p, _, _, _, rfl, rfl, SqL.of hp, g0 _ _ _, .inl ⟨_, rfl, _, rfl, _, _, rfl, rfl, hm0, ?_⟩⟩
      refine ⟨_, rfl, p, _, _, _, rfl, rfl, SqL.of hp, g0 _ _ _, _, rfl, _, _, rfl, rfl, wide_div (b := 20) hm0 (by omega) (by decide) (by decide), _, rfl, p, _, _, 0, rfl, rfl, hp, rfl, _, rfl, ?_⟩
      exact k _ _ (Int.emod_nonneg _ (by omega)) (Int.emod_lt_of_pos _ hm0) ⟨_, b, c, upd_same, hb0, hb1, hc0, by omega⟩
    · refine ⟨_, rfl, p, _, _, _, rfl, rfl, SqL.of hp, g2 _ _ _, _, _, rfl, rfl, _, rfl, p, _, _, 2, rfl, rfl, hp, rfl, ?_⟩
      have e2 : (upd H p (.lst [.int a, .int b, .int (c + 1)])) p = some (.lst [.int a, .int b, .int (c + 1)]) := upd_same
      refine ⟨_, rfl, p, _, _, _, rfl, rfl, SqL.of e2, g1 _ _ _, _, rfl, p, _, _, _, rfl, rfl, SqL.of e2, g2 _ _ _, _, _, rfl, rfl, .inl ⟨by decide, by decide⟩, _, _, rfl, rfl, _, _, rfl, rfl,
        .inl ⟨_, rfl, _, _, rfl, rfl, .inr ⟨by decide, by decide⟩, .inl ⟨_, rfl, _, _, rfl, rfl, (by show (0 : Int) < 2147483647; decide), ?_⟩⟩⟩
      refine ⟨_, rfl, _, rfl, _, _, rfl, rfl, ⟨by decide, by decide⟩, _, _, rfl, rfl, _, _, rfl, rfl, .inl (ml _), .inl ⟨_, rfl, _, _, rfl, rfl, (by show (0 : Int) < 2147483647; decide), ?_⟩⟩
      refine ⟨_, rfl, _, rfl, _, _, rfl, rfl, ⟨by decide, by decide⟩, _, _, rfl, rfl, _, _, rfl, rfl, .inl (ml _), .inl ⟨_, rfl, _, _, rfl, rfl, (by show (0 : Int) < 2147483399; decide), .inl ⟨_, rfl, _, rfl, _, _, rfl, rfl, hm0, ?_⟩⟩⟩
      exact k _ _ (Int.emod_nonneg _ (by omega)) (Int.emod_lt_of_pos _ hm0) ⟨a, b, c + 1, upd_same, hb0, hb1, by omega, by omega⟩
theorem scO : FnScope ["_law_well_here", "_law_some"] ["_law_well_here", "_law_some"] (defScope sOne) := ⟨rfl, rfl, rfl, by decide +kernel, rfl, by decide +kernel, by decide +kernel⟩
theorem ok_one {f g : Addr} {fd fdD : FuncData} (F : Fun K "_law_one" "_law_one" sOne f fd) (T : Bl mg) (FD : Fun K "_law_draw" "_law_draw" sDraw g fdD) (bD : Binds K fdD ["_law_well_here", "_law_base"] []) (mD : mg "_law_draw" = some (.ref g)) : FnOk P w K mg base CX0 2 f fd ["_law_well_here", "_law_some"] (spOne K) := by
  have GD : FnOk P w K mg base CX0 1 g fdD ["_law_well_here", "_law_base"] spDraw := ok_draw FD T
  refine F.ok scO (fun vs H Q E h => ?_) (fun cdv A outer s H vs Q E hr h => ?_)
  · obtain ⟨p, q, n, ys, rfl, _⟩ := h
    rfl
  · obtain ⟨p, q, n, ys, rfl, hW, hn, hne, hq, h0, h1, k⟩ := h
    refine ⟨_, pss_one (ps_ret (pe_ix ix_list (pv 1) (pe_call GD hr rfl mD FD.kp bD .nil pass0 (pa_cons (pv 0) (pa_cons (pe_callB call_len_seq (by rfl) T.len PySem.boot_len (pa_cons (pv 1) pa_nil)) pa_nil))) (fun _ _ => rfl))), ?_⟩
    refine ⟨_, rfl, _, rfl, _, rfl, q, ys, rfl, .inl hq, p, _, n, rfl, hW, hn, by omega, by omega, fun r xs r0 r1 hW' => ?_⟩
    have hr2 : r.toNat < ys.length := by omega
    have e1 : ys[r.toNat]? = some ys[r.toNat] := by simp [hr2]
    refine ⟨q, ys, r, _, rfl, rfl, ?_, at_of (j := r.toNat) (by omega) e1, k r.toNat _ xs e1 hW'⟩
    rcases hq with (z | ⟨o, z⟩) | z
    · exact .inl (.inl (by rw [upd_ne (fun e => hne e.symm)]; exact z))
    · exact .inl (.inr ⟨o, by rw [upd_ne (fun e => hne e.symm)]; exact z⟩)
    · exact .inr z
end
end Kx
namespace Kx
open PySem L2 PySem.Spec PyProof.Rows
/-- all stands but what is at p -/
def KeepB (p : Addr) (H H' : Hp) : Prop := ∀ b u, b ≠ p → H b = some u → H' b = some u
theorem KeepB.trans {p : Addr} {H1 H2 H3 : Hp} (a : KeepB p H1 H2) (b : KeepB p H2 H3) : KeepB p H1 H3 := fun x u n z => b x u n (a x u n z)
theorem KeepB.of {p : Addr} {H1 H2 : Hp} (a : Same H1 H2) : KeepB p H1 H2 := fun x u _ z => a x u z
theorem KeepB.at {p : Addr} {H : Hp} {o : HO} : KeepB p H (upd H p o) := fun x u n z => by rw [upd_ne n]; exact z
theorem KeepB.upd {H H' : Hp} {p D : Addr} {o : HO} (h : KeepB p H H') (hD : H D = none) : KeepB p H (L2.upd H' D o) := fun b u nb z => by
  have e : b ≠ D := fun y => by rw [y, hD] at z; cases z
  rw [upd_ne e]
  exact h b u nb z
theorem WellAt.mono {H : Hp} {p : Addr} {n m : Int} (h : WellAt H p n) (l : n ≤ m) : WellAt H p m := let ⟨a, b, c, e, h0, h1, h2, h3⟩ := h; ⟨a, b, c, e, h0, h1, h2, by omega⟩
theorem WellAt.same {H H' : Hp} {p : Addr} {n : Int} (h : WellAt H p n) (s : Same H H') : WellAt H' p n := let ⟨a, b, c, e, r⟩ := h; ⟨a, b, c, s _ _ e, r⟩
theorem WellAt.lst {H : Hp} {p : Addr} {n : Int} (h : WellAt H p n) : ∃ ms, H p = some (.lst ms) := let ⟨_, _, _, e, _⟩ := h; ⟨_, e⟩
theorem WellAt.upd {H : Hp} {p D : Addr} {n : Int} {o : HO} (h : WellAt H p n) (ne : D ≠ p) : WellAt (L2.upd H D o) p n := let ⟨a, b, c, e, r⟩ := h; ⟨a, b, c, by rw [upd_ne (fun z => ne z.symm)]; exact e, r⟩
theorem WellAt.ne {H : Hp} {p q : Addr} {n : Int} (h : WellAt H p n) (e : H q = none) : q ≠ p := fun z => by
  obtain ⟨_, g⟩ := h.lst
  rw [z, g] at e
  cases e
theorem SqT.keep {K : PySem.W.Frag} {H H' : Hp} {p b : Addr} {ms xs : List V} (hp : H p = some (.lst ms)) (k : KeepB p H H') (h : SqT K H b xs) : SqT K H' b xs := by
  rcases h with (h | ⟨o, h⟩) | h
  · exact .inl (.inl (k _ _ (fun e => by rw [e, hp] at h; cases h) h))
  · exact .inl (.inr ⟨o, k _ _ (fun e => by rw [e, hp] at h; cases h) h⟩)
  · exact .inr h
theorem SqL.keepX {K : PySem.W.Frag} {H H' : Hp} {p b : Addr} {ms' xs : List V} (hp' : H' p = some (.lst ms')) (k : KeepB p H H') (h : SqL K H b xs) : ∃ xs, SqL K H' b xs := by
  by_cases e : b = p
  · rw [e]
    exact ⟨_, SqL.of hp'⟩
  · rcases h with (h | ⟨o, h⟩) | h
    · exact ⟨xs, .inl (.inl (k _ _ e h))⟩
    · exact ⟨xs, .inl (.inr ⟨o, k _ _ e h⟩)⟩
    · exact ⟨xs, .inr h⟩
mutual
theorem Is.keep {K : PySem.W.Frag} {H H' : Hp} {p : Addr} {ms ms' : List V} (hp : H p = some (.lst ms)) (hp' : H' p = some (.lst ms')) (k : KeepB p H H') : ∀ {v : V} {d : Sh}, Is K H v d → Is K H' v d
  | _, _, .non => .non
  | _, _, .lst h => .lst (let ⟨_, z⟩ := h; SqL.keepX hp' k z)
  | _, _, .dic h => .dic (let ⟨kvs, z⟩ := h; ⟨kvs, k _ _ (fun e => by rw [e, hp] at z; cases z) z⟩)
  | _, _, .bl b => .bl b
  | _, _, .int i => .int i
  | _, _, .str x h => .str x h
  | _, _, .tup h q n => .tup (SqT.keep hp k h) (IsAll.keep hp hp' k q) n
theorem IsAll.keep {K : PySem.W.Frag} {H H' : Hp} {p : Addr} {ms ms' : List V} (hp : H p = some (.lst ms)) (hp' : H' p = some (.lst ms')) (k : KeepB p H H') : ∀ {xs : List V} {l : List Sh}, IsAll K H xs l → IsAll K H' xs l
  | _, _, .nil => .nil
  | _, _, .cons h t => .cons (Is.keep hp hp' k h) (IsAll.keep hp hp' k t)
end
theorem IsAll.app {K : PySem.W.Frag} {H : Hp} : ∀ {xs ys : List V} {l m : List Sh}, IsAll K H xs l → IsAll K H ys m → IsAll K H (xs ++ ys) (l ++ m)
  | _, _, _, _, .nil, h => h
  | _, _, _, _, .cons a t, h => .cons a (IsAll.app t h)
structure Drw (K : PySem.W.Frag) (mg : PySem.Str → Option Value) : Prop where
  T : Bl mg
  well : ∃ f fd, Fs K mg "_law_well" sWell ["_law_cell"] f fd
  draw : ∃ f fd, Fs K mg "_law_draw" sDraw ["_law_well_here", "_law_base"] f fd
  one : ∃ f fd, Fs K mg "_law_one" sOne ["_law_well_here", "_law_some"] f fd
abbrev sTermD : Stmt := top 28
/-- a drawn text -/
def Good (z : Str) : Prop := z.length ≤ 20 ∧ PyData.strOk z = true
theorem strOk_tl (z : Str) : PyData.strOk z = (TL.tl z).all (· < 0x110000) := by
  unfold PyData.strOk
  rw [tl_cps, Array.all_toList]
theorem ok_app {a b : Str} (h1 : PyData.strOk a = true) (h2 : PyData.strOk b = true) : PyData.strOk (a ++ b) = true := by
  rw [strOk_tl] at *
  rw [TL.tl_append, List.all_append, h1, h2]
  rfl
theorem len_app (a b : Str) : (a ++ b).length = a.length + b.length := by
  rw [TL.len_tl, TL.tl_append, List.length_append, ← TL.len_tl, ← TL.len_tl]
theorem joinL0 : ∀ l : List (List Nat), TL.joinL [] l = l.flatten
  | [] => rfl
  | [p] => by simp [TL.joinL]
  | p :: q :: r => by
    show p ++ ([] ++ TL.joinL [] (q :: r)) = _
    rw [joinL0 (q :: r)]
    simp
theorem join_good {l : List Str} (h : ∀ x ∈ l, x.length = 1 ∧ PyData.strOk x = true) : (Txt.join "" l).length = l.length ∧ PyData.strOk (Txt.join "" l) = true := by
  have e : TL.tl (Txt.join "" l) = (l.map TL.tl).flatten := by
    rw [TL.join_eq, TL.tl_join, show TL.tl "" = [] from by decide +kernel, joinL0]
  refine ⟨?_, ?_⟩
  · rw [TL.len_tl, e]
    clear e
    induction l with
    | nil => rfl
    | cons x r ih =>
      rw [List.map_cons, List.flatten_cons, List.length_append, ih fun y hy => h y (List.mem_cons_of_mem _ hy), ← TL.len_tl, (h x List.mem_cons_self).1, List.length_cons]
      omega
  · rw [strOk_tl, e, List.all_eq_true]
    intro c hc
    obtain ⟨y, hy, hc⟩ := List.mem_flatten.mp hc
    obtain ⟨x, hx, rfl⟩ := List.mem_map.mp hy
    have := (h x hx).2
    rw [strOk_tl, List.all_eq_true] at this
    exact this c hc
theorem sum_ones : ∀ {l : List Str}, (∀ x ∈ l, x.length = 1 ∧ PyData.strOk x = true) → (l.map (·.length)).sum = l.length
  | [], _ => rfl
  | x :: r, h => by
    rw [List.map_cons, List.sum_cons, sum_ones fun y hy => h y (List.mem_cons_of_mem _ hy), (h x List.mem_cons_self).1, List.length_cons]
    omega
theorem strs_get {ys : List V} {B : Str → Prop} (h : ∀ v ∈ ys, ∃ z, v = V.str z ∧ B z) {r : Nat} {v : V} (g : ys[r]? = some v) : ∃ z, v = V.str z ∧ B z := h v (List.mem_of_getElem? g)
def spTermD : Sp := fun vs H Q _ => ∃ (p : Addr) (n : Int), vs = [.ref p] ∧ WellAt H p n ∧ n + 20 ≤ 1000000 ∧ ∀ z H', Good z → KeepB p H H' → WellAt H' p (n + 20) → Q (.str z) H'
section
variable {P : Program} {w : World} {K : PySem.W.Frag} {mg : PySem.Str → Option Value} {base : Heap}
abbrev nTD : List PySem.Str := ["_law_well_here", "_law_word", "_law_k"]
theorem scTermD : FnScope nTD ["_law_well_here"] (defScope sTermD) := ⟨rfl, rfl, rfl, by decide +kernel, rfl, by decide +kernel, by decide +kernel⟩
theorem ok_termD {f : Addr} {fd : FuncData} (F : Fs K mg "_law_term" sTermD ["_law_well_here"] f fd) (D : Drw K mg) (rng : mg "range" = none) (ls : mg "list" = none) : FnOk P w K mg base CX0 3 f fd ["_law_well_here"] spTermD := by
  obtain ⟨_, _, dD⟩ := D.draw
  obtain ⟨_, _, dO⟩ := D.one
  have GD : FnOk P w K mg base CX0 1 _ _ ["_law_well_here", "_law_base"] spDraw := ok_draw dD.F D.T
  have GO : FnOk P w K mg base CX0 2 _ _ ["_law_well_here", "_law_some"] (spOne K) := ok_one dO.F D.T dD.F dD.b dD.m
  refine F.F.ok scTermD (fun vs H Q E h => ?_) (fun cdv A outer s H vs Q E hr h => ?_)
  · obtain ⟨p, n, rfl, _⟩ := h
    rfl
  · obtain ⟨p, n, rfl, hW, hn, k⟩ := h
    have hr1 : Room 1 (A.deeper (envOfC "_law_term" (defScope sTermD) s.heap.objs.size f cdv)) := hr.mono (by decide)
    refine ⟨_, pss_cons (ps_set (i := 1) scTermD.nd rfl (Or.inl rfl) (pe_join pe_str
        (pe_lc (own := [("_law_k", 2)]) (g := gName 2) (tt := tYes) (te := tCall (spOne K) [] E0 (tCons (tVar 0) (tCons (tCB rListStr (tCons (tC (.str "abkz")) tNil)) tNil))) rfl scTermD.nd
          (pi_range1 rfl rng (pa_cons (pe_op op_add pe_int (pe_call GD hr1 (by rfl) dD.m dD.F.kp dD.b .nil pass0 (pa_cons (pv 0) (pa_cons pe_int pa_nil)))) pa_nil)) (blkOk_by (N := nTD) (sc := defScope sTermD) (by decide +kernel))
          (fun _ _ _ _ _ => pg_name (i := 2) scTermD.nd rfl (Or.inl rfl)) (fun _ _ _ _ _ => pts_nil)
          (fun _ _ _ _ _ => pe_call GO hr (by rfl) dO.m dO.F.kp dO.b .nil pass0 (pa_cons (pv 0) (pa_cons (pe_callTy (call_listStr rfl) (by rfl) ls (by decide +kernel) (pa_cons pe_str pa_nil)) pa_nil))))))
      (pss_one (ps_ret (pe_call GO hr (by rfl) dO.m dO.F.kp dO.b .nil pass0 (pa_cons (pv 0) (pa_cons (pe_lst (pa_cons pe_str (pa_cons pe_str (pa_cons pe_str (pa_cons pe_str (pa_cons pe_str (pa_cons (pv 1)
        (pa_cons (pe_op op_add_str pe_str (pv 1)) (pa_cons (pe_op op_add_str (pv 1) pe_str) (pa_cons pe_str (pa_cons pe_str pa_nil))))))))))) pa_nil))))), ?_⟩
    refine ⟨⟨_, rfl⟩, ?_⟩
    refine ⟨_, rfl, p, 8, n, rfl, hW, by omega, by decide, by decide, fun r xs r0 r1 hW1 => ⟨_, _, rfl, rfl, _, rfl, by omega, by omega, fun D hD => ?_⟩⟩
    have nDp : D ≠ p := hW1.ne hD
    have hHD : H D = none := by rw [upd_ne nDp] at hD; exact hD
    refine lc_range (lo := 0) (n := (1 + r).toNat) (fun i H4 => KeepB p H H4 ∧ WellAt H4 p (n + 1 + i) ∧ ∃ ts : List Str, H4 D = some (.lst (ts.map V.str)) ∧ ts.length = i ∧ ∀ x ∈ ts, x.length = 1 ∧ PyData.strOk x = true)
      ⟨(KeepB.at).trans (KeepB.of (new_same hD)), (hW1.same (new_same hD)).mono (by omega), [], upd_same, rfl, fun c hc => nomatch hc⟩ ?_ ?_
    · rintro i H4 hi ⟨k4, W4, ts, gD, hlt, hts⟩
      refine ⟨rfl, yes_of ⟨_, rfl, "abkz", rfl, by decide, fun q hq => ⟨p, q, n + 1 + i, _, rfl, W4.same (new_same hq), by omega, (W4.ne hq).symm, SqL.of upd_same, by decide +kernel, by decide +kernel, fun r2 v xs2 hv W5 => ?_⟩⟩⟩
      rw [List.getElem?_map] at hv
      obtain ⟨c, hc, rfl⟩ := Option.map_eq_some_iff.mp hv
      have hc1 : c ∈ ("abkz" : Str).cps.toList := List.mem_of_getElem? hc
      have hc2 : (Str.mk #[c]).length = 1 ∧ PyData.strOk ⟨#[c]⟩ = true := by
        have e : ("abkz" : Str).cps.toList = [97, 98, 107, 122] := by decide +kernel
        rw [e] at hc1
        simp only [List.mem_cons, List.not_mem_nil, or_false] at hc1
        rcases hc1 with rfl | rfl | rfl | rfl <;> exact ⟨by decide +kernel, by decide +kernel⟩
      have nDq : D ≠ q := fun z => by rw [← z, gD] at hq; cases hq
      have k5 : KeepB p H4 (upd (upd H4 q (.lst (("abkz" : Str).cps.toList.map fun c => V.str ⟨#[c]⟩))) p (.lst xs2)) := (KeepB.of (new_same hq)).trans KeepB.at
      have gD5 := k5 D _ nDp gD
      generalize upd (upd H4 q (.lst (("abkz" : Str).cps.toList.map fun c => V.str ⟨#[c]⟩))) p (.lst xs2) = H5 at W5 k5 gD5 ⊢
      refine ⟨_, gD5, small1000 (by rw [List.length_map]; omega), (k4.trans k5).upd hHD, (W5.upd nDp).mono (by omega), ts ++ [⟨#[c]⟩], by rw [upd_same, List.map_append]; rfl, by rw [List.length_append, hlt]; rfl, fun x hx => ?_⟩
      rcases List.mem_append.mp hx with z | z
      · exact hts x z
      · rw [List.mem_singleton.mp z]
        exact hc2
    · rintro H4 ⟨k4, W4, ts, gD, hlt, hts⟩
      obtain ⟨jl, jo⟩ := join_good hts
      refine ⟨"", D, ts, rfl, rfl, .inl (SqL.of gD), ?_, ?_⟩
      · show _ + ts.length * 0 ≤ _
        rw [sum_ones hts]
        omega
      have wl : (Txt.join "" ts).length ≤ 8 := by omega
      generalize Txt.join "" ts = word at jl jo wl ⊢
      have ez : ∀ m : Nat, m ≤ 12 → m ≤ sizeLine := fun m hm => by rw [sizeLine_eq]; omega
      refine ⟨_, rfl, _, rfl, _, rfl, _, _, rfl, rfl, ?_, _, rfl, _, _, rfl, rfl, ?_, by show 10 ≤ sizeLine; decide, fun q hq => ?_⟩
      · exact ez _ (by show 2 + word.length ≤ 12; omega)
      · exact ez _ (by show word.length + 2 ≤ 12; omega)
      generalize hys : ([_, _, _, _, _, _, _, _, _, _] : List V) = ys at hq ⊢
      have hyl : ys.length = 10 := by rw [← hys]; rfl
      have gd : ∀ v ∈ ys, ∃ z, v = V.str z ∧ Good z := by
        rw [← hys]
        intro v hv
        have gw : Good word := ⟨by omega, jo⟩
        have g2 : Good ("p." ++ word) := ⟨by rw [len_app]; show 2 + _ ≤ 20; omega, ok_app (by decide +kernel) jo⟩
        have g3 : Good (word ++ ".f") := ⟨by rw [len_app]; show _ + 2 ≤ 20; omega, ok_app jo (by decide +kernel)⟩
        simp only [List.mem_cons, List.not_mem_nil, or_false] at hv
        rcases hv with h | h | h | h | h | h | h | h | h | h
        · exact ⟨_, h, by decide, by decide +kernel⟩
        · exact ⟨_, h, by decide, by decide +kernel⟩
        · exact ⟨_, h, by decide, by decide +kernel⟩
        · exact ⟨_, h, by decide, by decide +kernel⟩
        · exact ⟨_, h, by decide, by decide +kernel⟩
        · exact ⟨_, h, gw⟩
        · exact ⟨_, h, g2⟩
        · exact ⟨_, h, g3⟩
        · exact ⟨_, h, by decide, by decide +kernel⟩
        · exact ⟨_, h, by decide, by decide +kernel⟩
      refine ⟨p, q, _, ys, rfl, W4.same (new_same hq), by omega, (W4.ne hq).symm, SqL.of upd_same, by omega, by omega, fun r2 v xs2 hv W5 => ?_⟩
      obtain ⟨z, rfl, gz⟩ := strs_get gd hv
      exact k z _ gz (k4.trans ((KeepB.of (new_same hq)).trans KeepB.at)) (W5.mono (by omega))
end
end Kx
namespace Kx
open PySem L2 PySem.Spec PyProof.Rows
abbrev sClD : Stmt := top 29
def goodC (c : List Lit) : Prop := ∀ l ∈ c, Good l.1 ∧ Good l.2.1
theorem good_short {z : Str} (h : Good z) : Short z := short_of (by have := h.1; omega)
theorem is_lit {K : PySem.W.Frag} {H : Hp} {t : Addr} {a b : Str} {i : Int} (ht : SqT K H t [.str a, .str b, .int i]) (ha : Good a) (hb : Good b) : Is K H (.ref t) (shL (a, b, i)) :=
  .tup ht (.cons (.str a (good_short ha)) (.cons (.str b (good_short hb)) (.cons (.int i) .nil))) (by show 3 ≤ 1000; decide)
def spClD (K : PySem.W.Frag) : Sp := fun vs H Q _ => ∃ (p : Addr) (n : Int), vs = [.ref p] ∧ WellAt H p n ∧ n + 200 ≤ 1000000 ∧ ∀ t xs c H', SqT K H' t xs → IsAll K H' xs (c.map shL) → 1 ≤ c.length → c.length ≤ 3 → goodC c → KeepB p H H' → WellAt H' p (n + 200) → Q (.ref t) H'
theorem ints_get {ys : List V} (h : ∀ v ∈ ys, ∃ i, v = V.int i) {r : Nat} {v : V} (g : ys[r]? = some v) : ∃ i, v = V.int i := h v (List.mem_of_getElem? g)
section
variable {P : Program} {w : World} {K : PySem.W.Frag} {mg : PySem.Str → Option Value} {base : Heap}
abbrev nClD : List PySem.Str := ["_law_well_here", "_law_found", "_law_k", "_law_number"]
theorem scClD : FnScope nClD ["_law_well_here"] (defScope sClD) := ⟨rfl, rfl, rfl, by decide +kernel, rfl, by decide +kernel, by decide +kernel⟩
theorem ok_clD {f t : Addr} {fd fdT : FuncData} (F : Fs K mg "_law_clause" sClD ["_law_well_here"] f fd) (Tm : Fs K mg "_law_term" sTermD ["_law_well_here"] t fdT) (D : Drw K mg) (T : Bx mg) (rng : mg "range" = none) (ls : mg "list" = none) : FnOk P w K mg base CX0 4 f fd ["_law_well_here"] (spClD K) := by
  obtain ⟨_, _, dD⟩ := D.draw
  obtain ⟨_, _, dO⟩ := D.one
  have GD : FnOk P w K mg base CX0 1 _ _ ["_law_well_here", "_law_base"] spDraw := ok_draw dD.F D.T
  have GO : FnOk P w K mg base CX0 2 _ _ ["_law_well_here", "_law_some"] (spOne K) := ok_one dO.F D.T dD.F dD.b dD.m
  have GT : FnOk P w K mg base CX0 3 _ _ ["_law_well_here"] spTermD := ok_termD Tm D rng ls
  refine F.F.ok scClD (fun vs H Q E h => ?_) (fun cdv A outer s H vs Q E hr h => ?_)
  · obtain ⟨p, n, rfl, _⟩ := h
    rfl
  · obtain ⟨p, n, rfl, hW, hn, k⟩ := h
    have hr1 : Room 1 (A.deeper (envOfC "_law_clause" (defScope sClD) s.heap.objs.size f cdv)) := hr.mono (by decide)
    have hr2 : Room 2 (A.deeper (envOfC "_law_clause" (defScope sClD) s.heap.objs.size f cdv)) := hr.mono (by decide)
    refine ⟨_, pss_cons (ps_set (i := 1) scClD.nd rfl (Or.inl rfl) (pe_lst pa_nil))
      (pss_cons (ps_for PassesOwn.never rfl (pi_range1 rfl rng (pa_cons (pe_call GO hr2 (by rfl) dO.m dO.F.kp dO.b .nil pass0 (pa_cons (pv 0) (pa_cons (pe_lst (pa_cons pe_int (pa_cons pe_int (pa_cons pe_int (pa_cons pe_int (pa_cons pe_int (pa_cons pe_int (pa_cons pe_int pa_nil)))))))) pa_nil))) pa_nil)) (pg_name (i := 2) scClD.nd rfl (Or.inl rfl))
        (pss_cons (ps_set (i := 3) scClD.nd rfl (Or.inl rfl) (pe_call GO hr2 (by rfl) dO.m dO.F.kp dO.b .nil pass0 (pa_cons (pv 0) (pa_cons (pe_lst (pa_cons pe_int (pa_cons (pe_un un_neg pe_int) (pa_cons pe_int (pa_cons (pe_op op_add (pe_op op_pow pe_int pe_int) (pe_call GD hr1 (by rfl) dD.m dD.F.kp dD.b .nil pass0 (pa_cons (pv 0) (pa_cons pe_int pa_nil))))
            (pa_cons (pe_un un_neg (pe_op op_pow pe_int pe_int)) (pa_cons (pe_op op_sub (pe_call GD hr1 (by rfl) dD.m dD.F.kp dD.b .nil pass0 (pa_cons (pv 0) (pa_cons pe_int pa_nil))) pe_int) pa_nil))))))) pa_nil))))
        (pss_one (ps_expr (pe_bm PySem.F.plainAttrs_list PySem.F.slot_list_append PySem.F.type_list_append mt_append (pv 1) (pa_cons (pe_tup (pa_cons (pe_call GT hr (by rfl) Tm.m Tm.F.kp Tm.b .nil pass0 (pa_cons (pv 0) pa_nil)) (pa_cons (pe_call GT hr (by rfl) Tm.m Tm.F.kp Tm.b .nil pass0 (pa_cons (pv 0) pa_nil)) (pa_cons (pv 3) pa_nil)))) pa_nil))))))
      (pss_one (ps_ret (pe_tupleOf (by rfl) T.tuple (pv 1))))), ?_⟩
    refine ⟨by show 0 ≤ sizeLine; decide, fun D hD => ⟨_, rfl, by show 7 ≤ sizeLine; decide, fun q hq => ?_⟩⟩
    have nDp : D ≠ p := hW.ne hD
    have nDq : D ≠ q := fun z => by rw [← z, upd_same] at hq; cases hq
    have W1 := hW.same (new_same (o := .lst []) hD)
    have W2 := W1.same (new_same (o := .lst [V.int 1, .int 1, .int 1, .int 1, .int 2, .int 2, .int 3]) hq)
    refine ⟨p, q, n, _, rfl, W2, by omega, (W1.ne hq).symm, SqL.of upd_same, by decide, by decide, fun r v xs2 hv W3 => ?_⟩
    obtain ⟨j, rfl, hj1, hj3⟩ : ∃ j : Int, v = .int j ∧ 1 ≤ j ∧ j ≤ 3 := by
      have := List.mem_of_getElem? hv
      simp only [List.mem_cons, List.not_mem_nil, or_false] at this
      rcases this with h | h | h | h | h | h | h <;> exact ⟨_, h, by decide, by decide⟩
    refine ⟨_, rfl, by omega, by omega, ?_⟩
    have k3 : KeepB p (upd H D (.lst [])) (upd (upd (upd H D (.lst [])) q (.lst [V.int 1, .int 1, .int 1, .int 1, .int 2, .int 2, .int 3])) p (.lst xs2)) := (KeepB.of (new_same hq)).trans KeepB.at
    have k03 : KeepB p H (upd (upd (upd H D (.lst [])) q (.lst [V.int 1, .int 1, .int 1, .int 1, .int 2, .int 2, .int 3])) p (.lst xs2)) := (KeepB.of (new_same hD)).trans k3
    have gD3 := k3 D _ nDp upd_same
    generalize upd (upd (upd H D (.lst [])) q (.lst [V.int 1, .int 1, .int 1, .int 1, .int 2, .int 2, .int 3])) p (.lst xs2) = H3 at W3 k03 gD3 ⊢
    refine for_range (lo := 0) (n := j.toNat) (fun i σ H4 => (∃ o2 o3, σ = [some (.ref p), some (.ref D), o2, o3]) ∧ KeepB p H H4 ∧ WellAt H4 p (n + 1 + 43 * i) ∧ ∃ ms c, H4 D = some (.lst ms) ∧ IsAll K H4 ms (c.map shL) ∧ c.length = i ∧ goodC c)
      ⟨⟨none, none, rfl⟩, k03, W3.mono (by omega), [], [], gD3, .nil, rfl, fun c hc => nomatch hc⟩ ?_ ?_
    · rintro i σ H4 hi ⟨⟨o2, o3, rfl⟩, k4, W4, ms, c, gD, hms, hcl, hgc⟩
      refine ⟨_, rfl, _, rfl, _, _, rfl, rfl, ⟨by decide, by decide, by decide⟩, _, rfl, p, 99, _, rfl, W4, by omega, by decide, by decide, fun r5 xs5 q0 q1 W5 => ⟨_, _, rfl, rfl, _, _, rfl, rfl, ⟨by decide, by decide, by decide⟩, _, rfl, _, rfl, p, 99, _, rfl, W5, by omega, by decide, by decide, fun r6 xs6 q2 q3 W6 => ⟨_, _, rfl, rfl, by show 6 ≤ sizeLine; decide, fun z hz => ?_⟩⟩⟩
      have k6 : KeepB p H4 (upd (upd H4 p (.lst xs5)) p (.lst xs6)) := (KeepB.at).trans KeepB.at
      generalize hys : ([_, _, _, _, _, _] : List V) = ys at hz ⊢
      have hyl : ys.length = 6 := by rw [← hys]; rfl
      have hin : ∀ v ∈ ys, ∃ i, v = V.int i := by
        rw [← hys]
        intro v hv
        simp only [List.mem_cons, List.not_mem_nil, or_false] at hv
        rcases hv with h | h | h | h | h | h <;> exact ⟨_, h⟩
      generalize upd (upd H4 p (.lst xs5)) p (.lst xs6) = H6 at W6 k6 hz ⊢
      refine ⟨p, z, _, ys, rfl, W6.same (new_same hz), by omega, (W6.ne hz).symm, SqL.of upd_same, by omega, by omega, fun r7 v7 xs7 hv7 W7 => ?_⟩
      obtain ⟨num, rfl⟩ := ints_get hin hv7
      have k7 : KeepB p H4 (upd (upd H6 z (.lst ys)) p (.lst xs7)) := k6.trans ((KeepB.of (new_same hz)).trans KeepB.at)
      generalize upd (upd H6 z (.lst ys)) p (.lst xs7) = H7 at W7 k7 ⊢
      refine ⟨_, rfl, .inl ⟨rfl, _, SqL.of (k7 _ _ nDp gD)⟩, ?_⟩
      refine ⟨_, rfl, p, _, rfl, W7, by omega, fun a H8 ga k8 W8 => ⟨_, rfl, p, _, rfl, W8, by omega, fun b H9 gb k9 W9 => ⟨_, rfl, by show 3 ≤ sizeLine; decide, fun t ht => ?_⟩⟩⟩
      have k49 : KeepB p H4 H9 := (k7.trans k8).trans k9
      have gD9 := k49 _ _ nDp gD
      have nDt : D ≠ t := fun z => by rw [← z, gD9] at ht; cases ht
      have hml : ms.length = c.length := by rw [hms.length, List.length_map]
      obtain ⟨ms4, hp4⟩ := W4.lst
      obtain ⟨ms9, hp9⟩ := W9.lst
      refine ⟨D, ms, _, rfl, rfl, by rw [upd_ne nDt]; exact gD9, small1000 (by omega), ⟨_, _, rfl⟩, ((k4.trans k49).trans (KeepB.of (new_same ht))).upd hD, ((W9.same (new_same ht)).upd nDp).mono (by omega), _, c ++ [(a, b, num)], upd_same, ?_, by rw [List.length_append, hcl]; rfl, fun l hl => ?_⟩
      · have gDt : (upd H9 t (.tup [.str a, .str b, .int num])) D = some (.lst ms) := by rw [upd_ne nDt]; exact gD9
        rw [List.map_append]
        exact IsAll.keep gDt upd_same KeepB.at (((IsAll.keep hp4 hp9 k49 hms).same (new_same ht)).app (.cons (is_lit (SqT.of upd_same) ga gb) .nil))
      · rcases List.mem_append.mp hl with z | z
        · exact hgc l z
        · rw [List.mem_singleton.mp z]
          exact ⟨ga, gb⟩
    · rintro σ H4 ⟨⟨o2, o3, rfl⟩, k4, W4, ms, c, gD, hms, hcl, hgc⟩
      have ht : ∀ t, H4 t = none → Same H4 (upd H4 t (.tup ms)) := fun t ht => new_same ht
      refine ⟨_, rfl, .inl ⟨D, ms, rfl, SqL.of gD, fun t h => k t ms c _ (SqT.of upd_same) (hms.same (ht t h)) (by omega) (by omega) hgc (k4.trans (KeepB.of (ht t h))) ((W4.same (ht t h)).mono (by omega))⟩⟩
end
end Kx
namespace Kx
open PySem L2 PySem.Spec PyProof.Rows
abbrev sOdd : Stmt := top 30
inductive OkS : Sh → Prop
  | oth : OkS .oth
  | bl : OkS .bl
  | int (i : Int) : OkS (.int i)
  | str (s : Str) (h : PyData.strOk s = true) : OkS (.str s)
  | tup (l : List Sh) (h : ∀ d ∈ l, OkS d) : OkS (.tup l)
theorem IsAll.take {K : PySem.W.Frag} {H : Hp} : ∀ {xs : List V} {l : List Sh} (n : Nat), IsAll K H xs l → IsAll K H (xs.take n) (l.take n)
  | _, _, 0, _ => .nil
  | _, _, n + 1, .nil => .nil
  | _, _, n + 1, .cons a t => .cons a (IsAll.take n t)
theorem IsAll.drop {K : PySem.W.Frag} {H : Hp} : ∀ {xs : List V} {l : List Sh} (n : Nat), IsAll K H xs l → IsAll K H (xs.drop n) (l.drop n)
  | _, _, 0, h => h
  | _, _, n + 1, .nil => .nil
  | _, _, n + 1, .cons a t => IsAll.drop n t
theorem sl_go {K : PySem.W.Frag} {a : Addr} {xs : List V} {l : List Sh} {lo hi : Option Int} {H : Hp} {Q : VK} (hs : SqT K H a xs) (ha : IsAll K H xs l)
    (k : ∀ t xs' l' H', SqT K H' t xs' → IsAll K H' xs' l' → (∀ d ∈ l', d ∈ l) → l'.length ≤ l.length → Same H H' → Q (.ref t) H') : rSlA K (.ref a) lo hi H Q := by
  refine ⟨a, xs, rfl, hs, fun _ => k a xs l H hs ha (fun _ z => z) (Nat.le_refl _) fun _ _ z => z, fun _ p hp => ?_⟩
  have e := new_same (o := .tup (cutV xs lo hi)) hp
  refine k p _ _ _ (SqT.of upd_same) (((ha.drop (HT.sIx xs.length 0 lo)).take (HT.sIx xs.length xs.length hi - HT.sIx xs.length 0 lo)).same e) (fun d hd => List.mem_of_mem_drop (List.mem_of_mem_take hd)) (by rw [List.length_take, List.length_drop]; omega) e
theorem cat_go {K : PySem.W.Frag} {a b : Addr} {xs ys : List V} {l m : List Sh} {H : Hp} {Q : VK} (h1 : SqT K H a xs) (h2 : SqT K H b ys) (ha : IsAll K H xs l) (hb : IsAll K H ys m) (hl : l.length + m.length ≤ 1000)
    (k : ∀ t xs' H', SqT K H' t xs' → IsAll K H' xs' (l ++ m) → Same H H' → Q (.ref t) H') : rCatA K (.ref a) (.ref b) H Q := by
  have e1 := ha.length
  have e2 := hb.length
  refine ⟨a, b, xs, ys, rfl, rfl, h1, h2, Nat.le_of_lt (small1000 (by omega)), fun e => ?_, fun _ e => ?_, fun _ _ p hp => ?_⟩
  · subst e
    cases ha
    exact k b ys H h2 hb fun _ _ z => z
  · subst e
    cases hb
    rw [List.append_nil] at k
    exact k a xs H h1 ha fun _ _ z => z
  · exact k p _ _ (SqT.of upd_same) ((ha.app hb).same (new_same hp)) (new_same hp)
theorem Is.wk {K : PySem.W.Frag} {H H' : Hp} {p : Addr} {n m : Int} (W : WellAt H p n) (W' : WellAt H' p m) (k : KeepB p H H') {v : V} {d : Sh} (h : Is K H v d) : Is K H' v d := by
  obtain ⟨_, e⟩ := W.lst
  obtain ⟨_, e'⟩ := W'.lst
  exact Is.keep e e' k h
theorem IsAll.wk {K : PySem.W.Frag} {H H' : Hp} {p : Addr} {n m : Int} (W : WellAt H p n) (W' : WellAt H' p m) (k : KeepB p H H') {v : List V} {d : List Sh} (h : IsAll K H v d) : IsAll K H' v d := by
  obtain ⟨_, e⟩ := W.lst
  obtain ⟨_, e'⟩ := W'.lst
  exact IsAll.keep e e' k h
theorem SqT.wk {K : PySem.W.Frag} {H H' : Hp} {p t : Addr} {n : Int} (W : WellAt H p n) (k : KeepB p H H') {xs : List V} (h : SqT K H t xs) : SqT K H' t xs := by
  obtain ⟨_, e⟩ := W.lst
  exact SqT.keep e k h
/-- a thing whose texts can stand -/
def Thing (K : PySem.W.Frag) (H : Hp) (v : V) : Prop := ∃ d, Is K H v d ∧ OkS d
theorem Thing.same {K : PySem.W.Frag} {H H' : Hp} {v : V} (s : Same H H') (h : Thing K H v) : Thing K H' v := let ⟨d, a, b⟩ := h; ⟨d, a.same s, b⟩
theorem Thing.wk {K : PySem.W.Frag} {H H' : Hp} {p : Addr} {n m : Int} {v : V} (W : WellAt H p n) (W' : WellAt H' p m) (k : KeepB p H H') (h : Thing K H v) : Thing K H' v := let ⟨d, a, b⟩ := h; ⟨d, a.wk W W' k, b⟩
theorem Thing.str {K : PySem.W.Frag} {H : Hp} {z : Str} (h : Good z) : Thing K H (.str z) := ⟨_, .str z (good_short h), .str z h.2⟩
theorem Thing.int {K : PySem.W.Frag} {H : Hp} {i : Int} : Thing K H (.int i) := ⟨_, .int i, .int i⟩
theorem Thing.bl {K : PySem.W.Frag} {H : Hp} {b : Bool} : Thing K H (.bl b) := ⟨_, .bl b, .bl⟩
theorem Thing.non {K : PySem.W.Frag} {H : Hp} : Thing K H .non := ⟨_, .non, .oth⟩
theorem Thing.lst {K : PySem.W.Frag} {H : Hp} {a : Addr} {xs : List V} (h : SqL K H a xs) : Thing K H (.ref a) := ⟨_, .lst ⟨_, h⟩, .oth⟩
theorem Thing.dic {K : PySem.W.Frag} {H : Hp} {a : Addr} {xs : List (Key × V)} (h : H a = some (.dK xs)) : Thing K H (.ref a) := ⟨_, .dic ⟨_, h⟩, .oth⟩
theorem things {K : PySem.W.Frag} {H : Hp} : ∀ {xs : List V}, (∀ x ∈ xs, Thing K H x) → ∃ l, IsAll K H xs l ∧ ∀ d ∈ l, OkS d
  | [], _ => ⟨[], .nil, fun _ z => nomatch z⟩
  | x :: xs, h => by
    obtain ⟨d, a, b⟩ := h x List.mem_cons_self
    obtain ⟨l, c, e⟩ := things fun y hy => h y (List.mem_cons_of_mem _ hy)
    refine ⟨d :: l, .cons a c, fun y hy => ?_⟩
    rcases List.mem_cons.mp hy with rfl | z
    · exact b
    · exact e y z
theorem Thing.tup {K : PySem.W.Frag} {H : Hp} {a : Addr} {xs : List V} (h : SqT K H a xs) (hx : ∀ x ∈ xs, Thing K H x) (hl : xs.length ≤ 1000) : Thing K H (.ref a) := by
  obtain ⟨l, p, q⟩ := things hx
  exact ⟨_, .tup h p (by rw [← p.length]; exact hl), .tup _ q⟩
/-- slices and sums of tuples of things -/
theorem things_all {K : PySem.W.Frag} {H : Hp} : ∀ {xs : List V} {l : List Sh}, IsAll K H xs l → (∀ d ∈ l, OkS d) → ∀ x ∈ xs, Thing K H x
  | _, _, .nil, _, _, h => nomatch h
  | _, _, .cons a t, h, x, hx => by
    rcases List.mem_cons.mp hx with rfl | z
    · exact ⟨_, a, h _ List.mem_cons_self⟩
    · exact things_all t (fun d hd => h d (List.mem_cons_of_mem _ hd)) x z
theorem slT_go {K : PySem.W.Frag} {a : Addr} {xs : List V} {lo hi : Option Int} {H : Hp} {Q : VK} (hs : SqT K H a xs) (ha : ∀ x ∈ xs, Thing K H x)
    (k : ∀ t xs' H', SqT K H' t xs' → (∀ x ∈ xs', Thing K H' x) → xs'.length ≤ xs.length → Same H H' → Q (.ref t) H') : rSlA K (.ref a) lo hi H Q := by
  obtain ⟨l, p, q⟩ := things ha
  exact sl_go hs p fun t xs' l' H' h1 h2 h3 h4 h5 => k t xs' H' h1 (things_all h2 fun d hd => q d (h3 d hd)) (by rw [h2.length, p.length]; exact h4) h5
theorem catT_go {K : PySem.W.Frag} {a b : Addr} {xs ys : List V} {H : Hp} {Q : VK} (h1 : SqT K H a xs) (h2 : SqT K H b ys) (ha : ∀ x ∈ xs, Thing K H x) (hb : ∀ x ∈ ys, Thing K H x) (hl : xs.length + ys.length ≤ 1000)
    (k : ∀ t H', Thing K H' (.ref t) → Same H H' → Q (.ref t) H') : rCatA K (.ref a) (.ref b) H Q := by
  obtain ⟨l, p, q⟩ := things ha
  obtain ⟨m, p', q'⟩ := things hb
  have e1 := p.length
  have e2 := p'.length
  refine cat_go h1 h2 p p' (by omega) fun t xs' H' a b c => k t H' ⟨_, .tup a b (by rw [List.length_append]; omega), .tup _ fun d hd => ?_⟩ c
  rcases List.mem_append.mp hd with z | z
  · exact q d z
  · exact q' d z
theorem things_get {K : PySem.W.Frag} {H : Hp} {ys : List V} (h : ∀ v ∈ ys, Thing K H v) {r : Nat} {v : V} (g : ys[r]? = some v) : Thing K H v := h v (List.mem_of_getElem? g)
theorem good_of {z : Str} (h : z.length ≤ 20) (k : PyData.strOk z = true) : Good z := ⟨h, k⟩
theorem one_go {K : PySem.W.Frag} {B : Hp → V → Prop} {H : Hp} {p q : Addr} {n : Int} {ys : List V} {Q : VK} {E : XK} (bm : ∀ {H1 H2 : Hp} {n1 n2 : Int} {y : V}, WellAt H1 p n1 → WellAt H2 p n2 → KeepB p H1 H2 → B H1 y → B H2 y)
    (W : WellAt H p n) (hn : n ≤ 1000000) (hq : H q = none) (hy : ∀ y ∈ ys, B H y) (h0 : 0 < ys.length) (h1 : ys.length < 1000000) (k : ∀ v H', B H' v → KeepB p H H' → WellAt H' p (n + 1) → Q v H') : spOne K [.ref p, .ref q] (upd H q (.lst ys)) Q E := by
  refine ⟨p, q, n, ys, rfl, W.same (new_same hq), hn, (W.ne hq).symm, SqL.of upd_same, h0, h1, fun r v xs hv W2 => ?_⟩
  have k2 : KeepB p H (upd (upd H q (.lst ys)) p (.lst xs)) := (KeepB.of (new_same hq)).trans KeepB.at
  exact k v _ (bm W W2 k2 (hy v (List.mem_of_getElem? hv))) k2 W2
theorem th_nil {K : PySem.W.Frag} {H : Hp} : ∀ y ∈ ([] : List V), Thing K H y := fun _ z => nomatch z
theorem th_cons {K : PySem.W.Frag} {H : Hp} {x : V} {xs : List V} (h : Thing K H x) (t : ∀ y ∈ xs, Thing K H y) : ∀ y ∈ x :: xs, Thing K H y := fun y hy => by
  rcases List.mem_cons.mp hy with rfl | z
  · exact h
  · exact t y z
def TupT (K : PySem.W.Frag) (H : Hp) (v : V) : Prop := ∃ a xs, v = V.ref a ∧ SqT K H a xs ∧ (∀ x ∈ xs, Thing K H x) ∧ xs.length ≤ 10
theorem TupT.wk {K : PySem.W.Frag} {H H' : Hp} {p : Addr} {n m : Int} {v : V} (W : WellAt H p n) (W' : WellAt H' p m) (k : KeepB p H H') (h : TupT K H v) : TupT K H' v := let ⟨a, xs, e, s, t, l⟩ := h; ⟨a, xs, e, SqT.wk W k s, fun x hx => (t x hx).wk W W' k, l⟩
theorem TupT.same {K : PySem.W.Frag} {H H' : Hp} {v : V} (s : Same H H') (h : TupT K H v) : TupT K H' v := let ⟨a, xs, e, q, t, l⟩ := h; ⟨a, xs, e, SqT.same s q, fun x hx => (t x hx).same s, l⟩
theorem TupT.thing {K : PySem.W.Frag} {H : Hp} {v : V} (h : TupT K H v) : Thing K H v := by
  obtain ⟨a, xs, rfl, q, t, l⟩ := h
  exact Thing.tup q t (by omega)
theorem tt_new {K : PySem.W.Frag} {H : Hp} {a : Addr} {xs : List V} (h : H a = none) (t : ∀ x ∈ xs, Thing K H x) (l : xs.length ≤ 10) : TupT K (upd H a (.tup xs)) (.ref a) := ⟨a, xs, rfl, SqT.of upd_same, fun x hx => (t x hx).same (new_same h), l⟩
theorem ls_new {K : PySem.W.Frag} {H : Hp} {a : Addr} {xs : List V} : Thing K (upd H a (.lst xs)) (.ref a) := Thing.lst (SqL.of upd_same)
theorem lits_ok : ∀ {c : List Lit}, goodC c → ∀ d ∈ c.map shL, OkS d := fun {c} h d hd => by
  obtain ⟨l, hl, rfl⟩ := List.mem_map.mp hd
  obtain ⟨h1, h2⟩ := h l hl
  refine .tup _ fun d hd => ?_
  simp only [List.mem_cons, List.not_mem_nil, or_false] at hd
  rcases hd with rfl | rfl | rfl
  · exact .str _ h1.2
  · exact .str _ h2.2
  · exact .int _
theorem le_sz {n : Nat} (h : n ≤ 100) : n ≤ sizeLine := by rw [sizeLine_eq]; omega
/-- drawn from a clause: any thing -/
def spOdd (K : PySem.W.Frag) : Sp := fun vs H Q _ => ∃ (p t : Addr) (n : Int) (xs : List V) (c : List Lit), vs = [.ref p, .ref t] ∧ WellAt H p n ∧ n + 10 ≤ 1000000 ∧ SqT K H t xs ∧ IsAll K H xs (c.map shL) ∧ 1 ≤ c.length ∧ c.length ≤ 3 ∧ goodC c ∧
  ∀ v H', Thing K H' v → KeepB p H H' → WellAt H' p (n + 10) → Q v H'
section
variable {P : Program} {w : World} {K : PySem.W.Frag} {mg : PySem.Str → Option Value} {base : Heap}
abbrev nOd : List PySem.Str := ["_law_well_here", "_law_clause_here", "_law_left", "_law_right", "_law_number", "_law_odd_here", "_law_way"]
theorem scOd : FnScope nOd ["_law_well_here", "_law_clause_here"] (defScope sOdd) := ⟨rfl, rfl, rfl, by decide +kernel, rfl, by decide +kernel, by decide +kernel⟩
theorem ok_odd {f : Addr} {fd : FuncData} (F : Fs K mg "_law_odd" sOdd ["_law_well_here", "_law_clause_here"] f fd) (D : Drw K mg) (ls : mg "list" = none) : FnOk P w K mg base CX0 3 f fd ["_law_well_here", "_law_clause_here"] (spOdd K) := by
  obtain ⟨_, _, dD⟩ := D.draw
  obtain ⟨_, _, dO⟩ := D.one
  have GD : FnOk P w K mg base CX0 1 _ _ ["_law_well_here", "_law_base"] spDraw := ok_draw dD.F D.T
  have GO : FnOk P w K mg base CX0 2 _ _ ["_law_well_here", "_law_some"] (spOne K) := ok_one dO.F D.T dD.F dD.b dD.m
  refine F.F.ok scOd (fun vs H Q E h => ?_) (fun cdv A outer s H vs Q E hr h => ?_)
  · obtain ⟨p, t, n, xs, c, rfl, _⟩ := h
    rfl
  · obtain ⟨p, t, n, xs, c, rfl, hW, hn, ht, hx, hc1, hc3, hg, k⟩ := h
    have hr1 : Room 1 (A.deeper (envOfC "_law_odd" (defScope sOdd) s.heap.objs.size f cdv)) := hr.mono (by decide)
    have hr2 : Room 2 (A.deeper (envOfC "_law_odd" (defScope sOdd) s.heap.objs.size f cdv)) := hr.mono (by decide)
    refine ⟨_, (pss_cons (ps_asg (pe_ix ix_tup (pv 1) pe_int (fun _ _ => rfl)) (pg_tup rfl (pgs_cons (pg_name (i := 2) scOd.nd rfl (Or.inl rfl)) (pgs_cons (pg_name (i := 3) scOd.nd rfl (Or.inl rfl)) (pgs_cons (pg_name (i := 4) scOd.nd rfl (Or.inl rfl)) pgs_nil)))))
      (pss_cons (ps_set (i := 5) scOd.nd rfl (Or.inl rfl) (pe_call GO hr2 (by rfl) dO.m dO.F.kp dO.b .nil pass0 (pa_cons (pv 0) (pa_cons (pe_lst (pa_cons pe_str (pa_cons pe_str (pa_cons pe_str (pa_cons pe_str (pa_cons pe_str (pa_cons pe_str (pa_cons pe_str (pa_cons pe_str (pa_cons pe_non (pa_cons pe_int (pa_cons (pe_tup (pa_cons pe_str pa_nil)) (pa_cons pe_str (pa_cons (pe_lst (pa_cons pe_str pa_nil)) (pa_cons pe_int pa_nil))))))))))))))) pa_nil))))
      (pss_cons (ps_set (i := 6) scOd.nd rfl (Or.inl rfl) (pe_call GD hr1 (by rfl) dD.m dD.F.kp dD.b .nil pass0 (pa_cons (pv 0) (pa_cons pe_int pa_nil))))
      (pss_cons (ps_if (pt_cmpR op_lt (pv 6) pe_int (nomark _)) (pss_one (ps_ret (pe_op op_catA (pe_tup (pa_cons (pe_ix ix_list (pe_lst (pa_cons (pe_tup (pa_cons (pv 5) (pa_cons (pv 3) (pa_cons (pv 4) pa_nil)))) (pa_cons (pe_tup (pa_cons (pv 2) (pa_cons (pv 5) (pa_cons (pv 4) pa_nil)))) pa_nil))) (pv 6) (fun _ _ => rfl)) pa_nil)) (pe_slice sl_tupA (pv 1) (po_some pe_int) po_none)))) pss_nil)
      (pss_cons (ps_if (pt_cmpR op_eq (pv 6) pe_int (nomark _)) (pss_one (ps_ret (pe_op op_catA (pe_tup (pa_cons (pe_tup (pa_cons (pv 2) (pa_cons (pv 3) (pa_cons (pe_call GO hr2 (by rfl) dO.m dO.F.kp dO.b .nil pass0 (pa_cons (pv 0) (pa_cons (pe_lst (pa_cons (pe_cmpR op_eq pe_int pe_int (nomark _)) (pa_cons (pe_cmpR op_eq pe_int pe_int (nomark _)) (pa_cons pe_non (pa_cons pe_str (pa_cons (pe_tup (pa_cons pe_int pa_nil)) (pa_cons (pe_lst pa_nil) (pa_cons pe_dnewK pa_nil)))))))) pa_nil))) pa_nil)))) pa_nil)) (pe_slice sl_tupA (pv 1) (po_some pe_int) po_none)))) pss_nil)
      (pss_cons (ps_if (pt_cmpR op_eq (pv 6) pe_int (nomark _)) (pss_one (ps_ret (pe_op op_catA (pe_slice sl_tupA (pv 1) po_none (po_some pe_int)) (pe_call GO hr2 (by rfl) dO.m dO.F.kp dO.b .nil pass0 (pa_cons (pv 0) (pa_cons (pe_lst (pa_cons (pe_tup (pa_cons (pe_tup (pa_cons (pv 2) (pa_cons (pv 3) pa_nil))) pa_nil)) (pa_cons (pe_tup (pa_cons (pe_tup (pa_cons (pv 2) (pa_cons (pv 3) (pa_cons pe_int (pa_cons pe_int pa_nil))))) pa_nil)) (pa_cons (pe_tup (pa_cons (pe_lst (pa_cons (pv 2) (pa_cons (pv 3) (pa_cons pe_int pa_nil)))) pa_nil)) (pa_cons (pe_tup (pa_cons pe_non pa_nil)) pa_nil))))) pa_nil)))))) pss_nil)
      (pss_one (ps_ret (pe_call GO hr2 (by rfl) dO.m dO.F.kp dO.b .nil pass0 (pa_cons (pv 0) (pa_cons (pe_lst (pa_cons (pe_tup pa_nil) (pa_cons (pe_callTy call_list_of (by rfl) ls (by decide +kernel) (pa_cons (pv 1) pa_nil)) (pa_cons pe_non (pa_cons pe_str (pa_cons pe_str (pa_cons pe_int (pa_cons (pe_ix ix_tup (pv 1) pe_int (fun _ _ => rfl)) (pa_cons pe_dnewK (pa_cons (pe_tup (pa_cons (pe_tup pa_nil) pa_nil)) (pa_cons (pe_tup (pa_cons (pe_ix ix_tup (pv 1) pe_int (fun _ _ => rfl)) (pa_cons (pe_tup pa_nil) pa_nil))) (pa_cons (pe_tup (pa_cons (pv 1) pa_nil)) pa_nil)))))))))))) pa_nil))))))))))), ?_⟩
    have sg : ∀ {H' : Hp} {z : Str}, z.length ≤ 20 → PyData.strOk z = true → Thing K H' (.str z) := fun a b => Thing.str ⟨a, b⟩
    cases c with
    | nil => exact absurd hc1 (by decide)
    | cons l0 c' =>
    cases hx with
    | cons a0 t0 =>
    rename_i x0 xr
    have hxl : (x0 :: xr).length ≤ 3 := by
      have := t0.length
      rw [List.length_map] at this
      rw [List.length_cons] at hc3 ⊢
      omega
    have hT : ∀ x ∈ x0 :: xr, Thing K H x := things_all (.cons a0 t0) (lits_ok hg)
    have T0 := hT x0 List.mem_cons_self
    have Tt : Thing K H (.ref t) := Thing.tup ht hT (by omega)
    obtain ⟨gl, gr⟩ := hg l0 List.mem_cons_self
    obtain ⟨e, rfl, he⟩ := isLit_of a0
    refine ⟨_, rfl, t, _, _, _, rfl, rfl, ht, at_of (j := 0) (by decide) rfl, e, _, rfl, he, rfl, _, _, rfl, _, _, rfl, _, _, rfl, rfl, ?_⟩
    refine ⟨_, rfl, le_sz (Nat.le_of_ble_eq_true rfl), fun t1 h1 => ⟨le_sz (Nat.le_of_ble_eq_true rfl), fun q1 h2 => ⟨le_sz (Nat.le_of_ble_eq_true rfl), fun q h3 => ?_⟩⟩⟩
    have sA : Same H (upd (upd H t1 (.tup [.str "a"])) q1 (.lst [.str "a"])) := fun b u z => new_same h2 _ _ (new_same h1 _ _ z)
    have m1 : Thing K (upd (upd H t1 (.tup [.str "a"])) q1 (.lst [.str "a"])) (.ref t1) := (tt_new h1 (th_cons (sg (by decide) (by decide +kernel)) th_nil) (Nat.le_of_ble_eq_true rfl)).thing.same (new_same h2)
    have m2 : Thing K (upd (upd H t1 (.tup [.str "a"])) q1 (.lst [.str "a"])) (.ref q1) := ls_new
    refine one_go (E := E0) (B := Thing K) (fun a b c d => d.wk a b c) (hW.same sA) (by omega) h3 (th_cons (sg (by decide) (by decide +kernel)) (th_cons (sg (by decide) (by decide +kernel)) (th_cons (sg (by decide) (by decide +kernel)) (th_cons (sg (by decide) (by decide +kernel))
      (th_cons (sg (by decide) (by decide +kernel)) (th_cons (sg (by decide) (by decide +kernel)) (th_cons (sg (by decide) (by decide +kernel)) (th_cons (sg (by decide) (by decide +kernel)) (th_cons .non (th_cons .int (th_cons m1 (th_cons (sg (by decide) (by decide +kernel)) (th_cons m2 (th_cons .int th_nil))))))))))))))
      (Nat.le_of_ble_eq_true rfl) (Nat.le_of_ble_eq_true rfl) fun vo H3 Tvo k3 W3 => ?_
    have k03 : KeepB p H H3 := (KeepB.of sA).trans k3
    clear m1 m2
    refine ⟨_, rfl, p, 9, n + 1, rfl, W3, by omega, by decide, by decide, fun way xs4 y0 y9 W4 => ?_⟩
    have k4 : KeepB p H (upd H3 p (.lst xs4)) := k03.trans KeepB.at
    have Tvo4 := Tvo.wk W3 W4 KeepB.at
    generalize upd H3 p (.lst xs4) = H4 at W4 k4 Tvo4 ⊢
    have hT4 : ∀ x ∈ V.ref e :: xr, Thing K H4 x := fun x hx => (hT x hx).wk hW W4 k4
    have ht4 := SqT.wk hW k4 ht
    have Tl : ∀ {H' : Hp}, Thing K H' (.str l0.1) := Thing.str gl
    have Tr : ∀ {H' : Hp}, Thing K H' (.str l0.2.1) := Thing.str gr
    have fin8 : ∀ {a : Addr} {H8 : Hp}, TupT K H8 (.ref a) → KeepB p H4 H8 → WellAt H8 p (n + 8) → rSlA K (.ref t) (some 1) none H8 (fun y H9 => rCatA K (.ref a) y H9 Q) := fun {a H8} u k8 W8 => by
      refine slT_go (SqT.wk W4 k8 ht4) (fun x hx => (hT4 x hx).wk W4 W8 k8) fun t9 xs9 H9 g9 T9 l9 s9 => ?_
      obtain ⟨a', ys, ea, hs, hy, hl⟩ := u.same s9
      cases ea
      exact catT_go hs g9 hy T9 (by omega) fun tz Hz Tz sz => k _ Hz Tz (k4.trans (k8.trans ((KeepB.of s9).trans (KeepB.of sz)))) (((W8.same s9).same sz).mono (by omega))
    refine ⟨_, rfl, _, _, rfl, rfl, _, rfl, ?_⟩
    by_cases w2 : way < 2
    case pos =>
      rw [decide_eq_true w2]
      refine iteT ⟨_, rfl, _, rfl, _, rfl, le_sz (Nat.le_of_ble_eq_true rfl), fun a1 g1 => ⟨_, rfl, _, rfl, _, rfl, le_sz (Nat.le_of_ble_eq_true rfl), fun a2 g2 => ⟨le_sz (Nat.le_of_ble_eq_true rfl), fun q5 g5 => ?_⟩⟩⟩
      have u1 := tt_new (K := K) g1 (th_cons Tvo4 (th_cons Tr (th_cons (Thing.int (i := l0.2.2)) th_nil))) (Nat.le_of_ble_eq_true rfl)
      have Tvo5 := Tvo4.same (new_same (o := .tup [vo, .str l0.2.1, .int l0.2.2]) g1)
      have s5 : Same H4 (upd H4 a1 (.tup [vo, .str l0.2.1, .int l0.2.2])) := new_same g1
      generalize upd H4 a1 (.tup [vo, .str l0.2.1, .int l0.2.2]) = H5 at u1 g2 g5 Tvo5 s5 ⊢
      have u2 := tt_new (K := K) g2 (th_cons Tl (th_cons Tvo5 (th_cons (Thing.int (i := l0.2.2)) th_nil))) (Nat.le_of_ble_eq_true rfl)
      have u1' := u1.same (new_same (o := .tup [.str l0.1, vo, .int l0.2.2]) g2)
      have s6 : Same H5 (upd H5 a2 (.tup [.str l0.1, vo, .int l0.2.2])) := new_same g2
      generalize upd H5 a2 (.tup [.str l0.1, vo, .int l0.2.2]) = H6 at u1' g5 u2 s6 ⊢
      have s7 := new_same (o := .lst [V.ref a1, .ref a2]) g5
      obtain ⟨pv, e1, Tpv⟩ : ∃ pv, atI [V.ref a1, V.ref a2] way = some pv ∧ Thing K (upd H6 q5 (.lst [V.ref a1, .ref a2])) pv := by
        rcases (show way = 0 ∨ way = 1 by omega) with z | z
        · exact ⟨.ref a1, by rw [z]; rfl, (u1'.same s7).thing⟩
        · exact ⟨.ref a2, by rw [z]; rfl, (u2.same s7).thing⟩
      refine ⟨_, rfl, q5, _, way, pv, rfl, rfl, SqL.of upd_same, e1, le_sz (Nat.le_of_ble_eq_true rfl), fun a3 g3 => ⟨_, rfl, _, rfl, ?_⟩⟩
      generalize upd H6 q5 (.lst [V.ref a1, .ref a2]) = H7 at Tpv s7 g3 ⊢
      have u3 := tt_new (K := K) g3 (th_cons Tpv th_nil) (Nat.le_of_ble_eq_true rfl)
      have s48 : Same H4 (upd H7 a3 (.tup [pv])) := fun b u z => new_same g3 _ _ (s7 _ _ (s6 _ _ (s5 _ _ z)))
      generalize upd H7 a3 (.tup [pv]) = H8 at u3 s48 ⊢
      exact fin8 u3 (KeepB.of s48) ((W4.same s48).mono (by omega))
    case neg =>
    rw [decide_eq_false w2]
    refine iteF ⟨_, rfl, rfl, _, rfl, ?_⟩
    by_cases w3 : way = 2
    case pos =>
      rw [decide_eq_true (by rw [w3])]
      refine iteT ⟨_, rfl, _, rfl, _, rfl, rfl, rfl, le_sz (Nat.le_of_ble_eq_true rfl), fun a1 g1 => ?_⟩
      have u1 := tt_new (K := K) g1 (th_cons (Thing.int (i := 1)) th_nil) (Nat.le_of_ble_eq_true rfl)
      have s5 := new_same (o := .tup [V.int 1]) g1
      generalize upd H4 a1 (.tup [V.int 1]) = H5 at u1 s5 ⊢
      refine ⟨le_sz (Nat.le_of_ble_eq_true rfl), fun a2 g2 => ?_⟩
      have u2 := ls_new (K := K) (H := H5) (a := a2) (xs := [])
      have s6 := new_same (o := .lst []) g2
      generalize upd H5 a2 (.lst []) = H6 at u2 s6 ⊢
      intro a3 g3
      have u3 := Thing.dic (K := K) (H := upd H6 a3 (.dK [])) (a := a3) (xs := []) upd_same
      have s7 := new_same (o := .dK []) g3
      generalize upd H6 a3 (.dK []) = H7 at u3 s7 ⊢
      refine ⟨le_sz (Nat.le_of_ble_eq_true rfl), fun q5 g5 => ?_⟩
      have s47 : Same H4 H7 := fun b u z => s7 _ _ (s6 _ _ (s5 _ _ z))
      refine one_go (E := E0) (B := Thing K) (fun a b c d => d.wk a b c) (W4.same s47) (by omega) g5 (th_cons .bl (th_cons .bl (th_cons .non (th_cons (sg (by decide) (by decide +kernel)) (th_cons ((u1.thing.same s6).same s7) (th_cons (u2.same s7) (th_cons u3 th_nil)))))))
        (Nat.le_of_ble_eq_true rfl) (Nat.le_of_ble_eq_true rfl) fun vz H8 Tz k8 W8 => ⟨le_sz (Nat.le_of_ble_eq_true rfl), fun a6 g6 => ⟨le_sz (Nat.le_of_ble_eq_true rfl), fun a7 g7 => ⟨_, rfl, _, rfl, ?_⟩⟩⟩
      have u6 := tt_new (K := K) g6 (th_cons Tl (th_cons Tr (th_cons Tz th_nil))) (Nat.le_of_ble_eq_true rfl)
      have u7 := tt_new (K := K) g7 (th_cons u6.thing th_nil) (Nat.le_of_ble_eq_true rfl)
      exact fin8 u7 ((KeepB.of s47).trans (k8.trans ((KeepB.of (new_same g6)).trans (KeepB.of (new_same g7))))) (((W8.same (new_same g6)).same (new_same g7)).mono (by omega))
    case neg =>
    rw [decide_eq_false (fun z => w3 (V.int.inj z))]
    refine iteF ⟨_, rfl, rfl, _, rfl, ?_⟩
    by_cases w4 : way = 3
    case pos =>
      rw [decide_eq_true (by rw [w4])]
      refine iteT ⟨_, rfl, _, rfl, ?_⟩
      refine slT_go ht4 hT4 fun t5 xs5 H5 h5 T5 l5 s5 => ⟨_, rfl, _, rfl, _, rfl, le_sz (Nat.le_of_ble_eq_true rfl), fun a1 g1 => ?_⟩
      have u1 := tt_new (K := K) g1 (th_cons Tl (th_cons Tr th_nil)) (Nat.le_of_ble_eq_true rfl)
      have s6 := new_same (o := .tup [V.str l0.1, .str l0.2.1]) g1
      generalize upd H5 a1 (.tup [V.str l0.1, .str l0.2.1]) = H6 at u1 s6 ⊢
      refine ⟨le_sz (Nat.le_of_ble_eq_true rfl), fun a2 g2 => ?_⟩
      have u2 := tt_new (K := K) g2 (th_cons u1.thing th_nil) (Nat.le_of_ble_eq_true rfl)
      have s7 := new_same (o := .tup [V.ref a1]) g2
      generalize upd H6 a2 (.tup [V.ref a1]) = H7 at u2 s7 ⊢
      refine ⟨_, rfl, _, rfl, le_sz (Nat.le_of_ble_eq_true rfl), fun a3 g3 => ?_⟩
      have u3 := tt_new (K := K) g3 (th_cons Tl (th_cons Tr (th_cons (Thing.int (i := 1)) (th_cons (Thing.int (i := 1)) th_nil)))) (Nat.le_of_ble_eq_true rfl)
      have s8 := new_same (o := .tup [V.str l0.1, .str l0.2.1, .int 1, .int 1]) g3
      generalize upd H7 a3 (.tup [V.str l0.1, .str l0.2.1, .int 1, .int 1]) = H8 at u3 s8 ⊢
      refine ⟨le_sz (Nat.le_of_ble_eq_true rfl), fun a4 g4 => ?_⟩
      have u4 := tt_new (K := K) g4 (th_cons u3.thing th_nil) (Nat.le_of_ble_eq_true rfl)
      have s9 := new_same (o := .tup [V.ref a3]) g4
      generalize upd H8 a4 (.tup [V.ref a3]) = H9 at u4 s9 ⊢
      refine ⟨_, rfl, _, rfl, le_sz (Nat.le_of_ble_eq_true rfl), fun a5 g5 => ?_⟩
      have u5 := ls_new (K := K) (H := H9) (a := a5) (xs := [V.str l0.1, .str l0.2.1, .int 1])
      have s10 := new_same (o := .lst [V.str l0.1, .str l0.2.1, .int 1]) g5
      generalize upd H9 a5 (.lst [V.str l0.1, .str l0.2.1, .int 1]) = H10 at u5 s10 ⊢
      refine ⟨le_sz (Nat.le_of_ble_eq_true rfl), fun a6 g6 => ?_⟩
      have u6 := tt_new (K := K) g6 (th_cons u5 th_nil) (Nat.le_of_ble_eq_true rfl)
      have s11 := new_same (o := .tup [V.ref a5]) g6
      generalize upd H10 a6 (.tup [V.ref a5]) = H11 at u6 s11 ⊢
      refine ⟨le_sz (Nat.le_of_ble_eq_true rfl), fun a7 g7 => ?_⟩
      have u7 := tt_new (K := K) g7 (th_cons Thing.non th_nil) (Nat.le_of_ble_eq_true rfl)
      have s12 := new_same (o := .tup [V.non]) g7
      generalize upd H11 a7 (.tup [V.non]) = H12 at u7 s12 ⊢
      refine ⟨le_sz (Nat.le_of_ble_eq_true rfl), fun q5 g8 => ?_⟩
      have s1012 : Same H9 H12 := fun b u z => s12 _ _ (s11 _ _ (s10 _ _ z))
      have s712 : Same H7 H12 := fun b u z => s1012 _ _ (s9 _ _ (s8 _ _ z))
      have s512 : Same H5 H12 := fun b u z => s712 _ _ (s7 _ _ (s6 _ _ z))
      have s412 : Same H4 H12 := fun b u z => s512 _ _ (s5 _ _ z)
      have all4 : ∀ y ∈ [V.ref a2, .ref a4, .ref a6, .ref a7], TupT K H12 y := by
        intro y hy
        simp only [List.mem_cons, List.not_mem_nil, or_false] at hy
        rcases hy with rfl | rfl | rfl | rfl
        · exact u2.same s712
        · exact u4.same s1012
        · exact u6.same s12
        · exact u7
      show spOne K [.ref p, .ref q5] (upd H12 q5 (.lst [V.ref a2, .ref a4, .ref a6, .ref a7])) (fun y H2 => rCatA K (.ref t5) y H2 Q) E0
      refine one_go (E := E0) (B := TupT K) (fun a b c d => d.wk a b c) (W4.same s412) (by omega) g8 all4 (Nat.le_of_ble_eq_true rfl) (Nat.le_of_ble_eq_true rfl) fun vz H13 Tz k13 W13 => ?_
      obtain ⟨az, ys, rfl, hs, hy, hl⟩ := Tz
      have W12 := W4.same s412
      exact catT_go (SqT.wk W12 k13 (SqT.same s512 h5)) hs (fun x hx => ((T5 x hx).same s512).wk W12 W13 k13) hy (by omega) fun tz Hz Tz sz => k _ Hz Tz (k4.trans ((KeepB.of s412).trans (k13.trans (KeepB.of sz)))) ((W13.same sz).mono (by omega))
    case neg =>
    rw [decide_eq_false (fun z => w4 (V.int.inj z))]
    refine iteF ⟨_, rfl, le_sz (Nat.le_of_ble_eq_true rfl), fun a1 g1 => ?_⟩
    have Tt4 := Tt.wk hW W4 k4
    have T04 := T0.wk hW W4 k4
    have u1 := tt_new (K := K) g1 th_nil (Nat.le_of_ble_eq_true rfl)
    have s5 := new_same (o := .tup []) g1
    generalize upd H4 a1 (.tup []) = H5 at u1 s5 ⊢
    refine ⟨_, rfl, t, _, rfl, .inr (SqT.same s5 ht4), fun a2 g2 => ?_⟩
    have u2 := ls_new (K := K) (H := H5) (a := a2) (xs := V.ref e :: xr)
    have s6 := new_same (o := .lst (V.ref e :: xr)) g2
    generalize upd H5 a2 (.lst (V.ref e :: xr)) = H6 at u2 s6 ⊢
    have s46 : Same H4 H6 := fun b u z => s6 _ _ (s5 _ _ z)
    refine ⟨_, rfl, t, _, _, _, rfl, rfl, SqT.same s46 ht4, at_of (j := 0) (by decide) rfl, fun a3 g3 => ?_⟩
    have u3 := Thing.dic (K := K) (H := upd H6 a3 (.dK [])) (a := a3) (xs := []) upd_same
    have s7 := new_same (o := .dK []) g3
    generalize upd H6 a3 (.dK []) = H7 at u3 s7 ⊢
    refine ⟨le_sz (Nat.le_of_ble_eq_true rfl), fun a4 g4 => ?_⟩
    have u4 := tt_new (K := K) g4 th_nil (Nat.le_of_ble_eq_true rfl)
    have s8 := new_same (o := .tup []) g4
    generalize upd H7 a4 (.tup []) = H8 at u4 s8 ⊢
    refine ⟨le_sz (Nat.le_of_ble_eq_true rfl), fun a5 g5 => ?_⟩
    have u5 := tt_new (K := K) g5 (th_cons u4.thing th_nil) (Nat.le_of_ble_eq_true rfl)
    have s9 := new_same (o := .tup [V.ref a4]) g5
    generalize upd H8 a5 (.tup [V.ref a4]) = H9 at u5 s9 ⊢
    have s69 : Same H6 H9 := fun b u z => s9 _ _ (s8 _ _ (s7 _ _ z))
    have s49 : Same H4 H9 := fun b u z => s69 _ _ (s46 _ _ z)
    refine ⟨_, rfl, t, _, _, _, rfl, rfl, SqT.same s49 ht4, at_of (j := 0) (by decide) rfl, le_sz (Nat.le_of_ble_eq_true rfl), fun a6 g6 => ?_⟩
    have u6 := tt_new (K := K) g6 th_nil (Nat.le_of_ble_eq_true rfl)
    have s10 := new_same (o := .tup []) g6
    generalize upd H9 a6 (.tup []) = H10 at u6 s10 ⊢
    refine ⟨le_sz (Nat.le_of_ble_eq_true rfl), fun a7 g7 => ?_⟩
    have u7 := tt_new (K := K) g7 (th_cons ((T04.same s49).same s10) (th_cons u6.thing th_nil)) (Nat.le_of_ble_eq_true rfl)
    have s11 := new_same (o := .tup [V.ref e, .ref a6]) g7
    generalize upd H10 a7 (.tup [V.ref e, .ref a6]) = H11 at u7 s11 ⊢
    refine ⟨_, rfl, le_sz (Nat.le_of_ble_eq_true rfl), fun a8 g8 => ?_⟩
    have s411 : Same H4 H11 := fun b u z => s11 _ _ (s10 _ _ (s49 _ _ z))
    have u8 := tt_new (K := K) g8 (th_cons (Tt4.same s411) th_nil) (Nat.le_of_ble_eq_true rfl)
    have s12 := new_same (o := .tup [V.ref t]) g8
    generalize upd H11 a8 (.tup [V.ref t]) = H12 at u8 s12 ⊢
    refine ⟨le_sz (Nat.le_of_ble_eq_true rfl), fun q5 g9 => ?_⟩
    have s912 : Same H9 H12 := fun b u z => s12 _ _ (s11 _ _ (s10 _ _ z))
    have s712 : Same H7 H12 := fun b u z => s912 _ _ (s9 _ _ (s8 _ _ z))
    have s612 : Same H6 H12 := fun b u z => s712 _ _ (s7 _ _ z)
    have s412 : Same H4 H12 := fun b u z => s612 _ _ (s46 _ _ z)
    exact one_go (E := E0) (B := Thing K) (fun a b c d => d.wk a b c) (W4.same s412) (by omega) g9
      (th_cons ((u1.thing.same s6).same s612) (th_cons (u2.same s612) (th_cons .non (th_cons (sg (by decide) (by decide +kernel)) (th_cons (sg (by decide) (by decide +kernel)) (th_cons .int (th_cons (T04.same s412) (th_cons (u3.same s712) (th_cons (u5.thing.same s912) (th_cons (u7.thing.same s12) (th_cons u8.thing th_nil)))))))))))
      (Nat.le_of_ble_eq_true rfl) (Nat.le_of_ble_eq_true rfl) fun vz H13 Tz k13 W13 => k vz H13 Tz (k4.trans ((KeepB.of s412).trans k13)) (W13.mono (by omega))
end
end Kx
namespace Kx
open PySem L2 PySem.Spec PyProof.Rows
open StX (pe_makeR tMakeR)
abbrev sMadeL : Stmt := top 34
def spMadeL (K : PySem.W.Frag) (C CB : Addr) : Sp := fun vs H Q E => ∃ (l : Addr) (ms : List V) (ds : List Sh), vs = [.ref l] ∧ SqL K H l ms ∧ IsAll K H ms ds ∧ ds.length ≤ 6 ∧
  (∀ cs, ds = cs.map shC → firstWrongS ds = none → firstWrong cs = none → ∀ r dz p q ys H', CondF K H' r C dz p q cs ys → Same H H' → H r = none → Q (.ref r) H') ∧ ∀ i, firstWrongS ds = some i → refusal CB E H i
section
variable {P : Program} {w : World} {K : PySem.W.Frag} {mg : PySem.Str → Option Value} {base : Heap} {B CB fB C fI : Addr} {fdB fdI : FuncData}
theorem scMadeL : FnScope ["_law_some"] ["_law_some"] (defScope sMadeL) := ⟨rfl, rfl, rfl, by decide +kernel, rfl, by decide +kernel, by decide +kernel⟩
theorem ok_madeL {f : Addr} {fd : FuncData} (F : Fun K "_law_made" "_law_made" sMadeL f fd) (M : CondAll K mg B CB fB C fI fdB fdI) : FnOk P w K mg base (L2N.CX P w) 8 f fd ["_law_some"] (spMadeL K C CB) := by
  obtain ⟨oc, od, kV, doc, pm, an, cdv, ct, osl, rfl, lk, hcd⟩ := F.ex
  have D := M.D
  have T := D.M.T
  have GI : FnR P w K mg base (L2N.CX P w) 6 fI (spInitG K C (refusal CB)) := fnR_initG M.I D M.W
  refine fn_of lk hcd scMadeL (fun vs H Q E h => ?_) fun A outer s H vs Q E hr h => ?_
  · obtain ⟨l, ms, ds, rfl, _⟩ := h
    rfl
  · obtain ⟨l, ms, ds, rfl, hl, hp, h6, qn, qf⟩ := h
    have tk : L2N.Takes (cxOf (L2N.CX P w) P w K mg base ["_law_some"] "_law_made" (defScope sMadeL) f cdv A outer s H E) (fun cls d _ H => E cls d H) := L2N.takes_of rfl rfl rfl rfl
    have hx : Passes (L2N.CX P w) (cxOf (L2N.CX P w) P w K mg base ["_law_some"] "_law_made" (defScope sMadeL) f cdv A outer s H E) E := L2N.passes_call tk (fun _ _ _ _ z => z)
    have hu : (cxOf (L2N.CX P w) P w K mg base ["_law_some"] "_law_made" (defScope sMadeL) f cdv A outer s H E).A.units + 64 < cLine := by
      have := hr.un
      show (A.deeper (envOfC "_law_made" (defScope sMadeL) s.heap.objs.size f cdv)).units + 64 < cLine
      omega
    have hml := hp.length
    refine ⟨_, (pss_cons (ps_if (pt_cmpR op_lt (pe_callB call_len_seq (by rfl) T.len PySem.boot_len (pa_cons (pv 0) pa_nil)) pe_int (nomark _)) (pss_one (ps_ret (pe_ifExp (pt_cmpR (op_eqNil hu) (pv 0) (pe_lst pa_nil) (nomark _)) (pe_makeZ (k := 6) M.mkI GI hr (by rfl) D.gC hx) (pe_makeR (k := 6) M.mkI GI hr (by rfl) D.gC hx (pa_cons (pe_ix ix_list (pv 0) pe_int (fun _ _ => rfl)) pa_nil))))) pss_nil)
      (pss_cons (ps_if (pt_cmpR op_eq (pe_callB call_len_seq (by rfl) T.len PySem.boot_len (pa_cons (pv 0) pa_nil)) pe_int (nomark _)) (pss_one (ps_ret (pe_makeR (k := 6) M.mkI GI hr (by rfl) D.gC hx (pa_cons (pe_ix ix_list (pv 0) pe_int (fun _ _ => rfl)) (pa_cons (pe_ix ix_list (pv 0) pe_int (fun _ _ => rfl)) pa_nil))))) pss_nil)
      (pss_cons (ps_if (pt_cmpR op_eq (pe_callB call_len_seq (by rfl) T.len PySem.boot_len (pa_cons (pv 0) pa_nil)) pe_int (nomark _)) (pss_one (ps_ret (pe_makeR (k := 6) M.mkI GI hr (by rfl) D.gC hx (pa_cons (pe_ix ix_list (pv 0) pe_int (fun _ _ => rfl)) (pa_cons (pe_ix ix_list (pv 0) pe_int (fun _ _ => rfl)) (pa_cons (pe_ix ix_list (pv 0) pe_int (fun _ _ => rfl)) pa_nil)))))) pss_nil)
      (pss_cons (ps_if (pt_cmpR op_eq (pe_callB call_len_seq (by rfl) T.len PySem.boot_len (pa_cons (pv 0) pa_nil)) pe_int (nomark _)) (pss_one (ps_ret (pe_makeR (k := 6) M.mkI GI hr (by rfl) D.gC hx (pa_cons (pe_ix ix_list (pv 0) pe_int (fun _ _ => rfl)) (pa_cons (pe_ix ix_list (pv 0) pe_int (fun _ _ => rfl)) (pa_cons (pe_ix ix_list (pv 0) pe_int (fun _ _ => rfl)) (pa_cons (pe_ix ix_list (pv 0) pe_int (fun _ _ => rfl)) pa_nil))))))) pss_nil)
      (pss_cons (ps_if (pt_cmpR op_eq (pe_callB call_len_seq (by rfl) T.len PySem.boot_len (pa_cons (pv 0) pa_nil)) pe_int (nomark _)) (pss_one (ps_ret (pe_makeR (k := 6) M.mkI GI hr (by rfl) D.gC hx (pa_cons (pe_ix ix_list (pv 0) pe_int (fun _ _ => rfl)) (pa_cons (pe_ix ix_list (pv 0) pe_int (fun _ _ => rfl)) (pa_cons (pe_ix ix_list (pv 0) pe_int (fun _ _ => rfl)) (pa_cons (pe_ix ix_list (pv 0) pe_int (fun _ _ => rfl)) (pa_cons (pe_ix ix_list (pv 0) pe_int (fun _ _ => rfl)) pa_nil)))))))) pss_nil)
      (pss_one (ps_ret (pe_makeR (k := 6) M.mkI GI hr (by rfl) D.gC hx (pa_cons (pe_ix ix_list (pv 0) pe_int (fun _ _ => rfl)) (pa_cons (pe_ix ix_list (pv 0) pe_int (fun _ _ => rfl)) (pa_cons (pe_ix ix_list (pv 0) pe_int (fun _ _ => rfl)) (pa_cons (pe_ix ix_list (pv 0) pe_int (fun _ _ => rfl)) (pa_cons (pe_ix ix_list (pv 0) pe_int (fun _ _ => rfl)) (pa_cons (pe_ix ix_list (pv 0) pe_int (fun _ _ => rfl)) pa_nil)))))))))))))), ?_⟩
    have mk := fun {H1 : Hp} (s1 : Same H H1) => initG_ok (C := C) (Q := Q) (E := E) s1 (hp.same s1) (by omega) qn qf
    have s0 : Same H H := fun _ _ z => z
    refine ⟨_, rfl, l, ms, rfl, .inl hl, _, _, rfl, rfl, _, rfl, ?_⟩
    by_cases c0 : ms.length = 0
    · have em : ms = [] := List.eq_nil_of_length_eq_zero c0
      subst em
      refine iteT ⟨_, rfl, by show 0 ≤ sizeLine; decide, fun z hz => ⟨_, _, _, rfl, rfl, SqL.same (new_same hz) hl, SqL.of upd_same, _, rfl, iteT ?_⟩⟩
      exact mk (new_same hz)
    by_cases c1 : ms.length = 1
    · obtain ⟨x0, rfl⟩ := List.length_eq_one_iff.mp c1
      refine iteT ⟨_, rfl, by show 0 ≤ sizeLine; decide, fun z hz => ⟨_, _, _, rfl, rfl, SqL.same (new_same hz) hl, SqL.of upd_same, _, rfl, iteF ?_⟩⟩
      refine ⟨_, rfl, l, _, 0, x0, rfl, rfl, SqL.same (new_same hz) hl, rfl, ?_⟩
      exact mk (new_same hz)
    by_cases c2 : ms.length = 2
    · obtain ⟨x0, x1, rfl⟩ : ∃ x0 x1, ms = [x0, x1] := match ms, c2 with | [x0, x1], _ => ⟨x0, x1, rfl⟩
      refine iteF ⟨_, rfl, l, _, rfl, .inl hl, rfl, _, rfl, iteT ?_⟩
      exact ⟨_, rfl, l, _, 0, x0, rfl, rfl, hl, rfl, _, rfl, l, _, 1, x1, rfl, rfl, hl, rfl, mk s0⟩
    by_cases c3 : ms.length = 3
    · obtain ⟨x0, x1, x2, rfl⟩ : ∃ x0 x1 x2, ms = [x0, x1, x2] := match ms, c3 with | [x0, x1, x2], _ => ⟨x0, x1, x2, rfl⟩
      refine iteF ⟨_, rfl, l, _, rfl, .inl hl, rfl, _, rfl, iteF ⟨_, rfl, l, _, rfl, .inl hl, rfl, _, rfl, iteT ?_⟩⟩
      exact ⟨_, rfl, l, _, 0, x0, rfl, rfl, hl, rfl, _, rfl, l, _, 1, x1, rfl, rfl, hl, rfl, _, rfl, l, _, 2, x2, rfl, rfl, hl, rfl, mk s0⟩
    by_cases c4 : ms.length = 4
    · obtain ⟨x0, x1, x2, x3, rfl⟩ : ∃ x0 x1 x2 x3, ms = [x0, x1, x2, x3] := match ms, c4 with | [x0, x1, x2, x3], _ => ⟨x0, x1, x2, x3, rfl⟩
      refine iteF ⟨_, rfl, l, _, rfl, .inl hl, rfl, _, rfl, iteF ⟨_, rfl, l, _, rfl, .inl hl, rfl, _, rfl, iteF ⟨_, rfl, l, _, rfl, .inl hl, rfl, _, rfl, iteT ?_⟩⟩⟩
      exact ⟨_, rfl, l, _, 0, x0, rfl, rfl, hl, rfl, _, rfl, l, _, 1, x1, rfl, rfl, hl, rfl, _, rfl, l, _, 2, x2, rfl, rfl, hl, rfl, _, rfl, l, _, 3, x3, rfl, rfl, hl, rfl, mk s0⟩
    by_cases c5 : ms.length = 5
    · obtain ⟨x0, x1, x2, x3, x4, rfl⟩ : ∃ x0 x1 x2 x3 x4, ms = [x0, x1, x2, x3, x4] := match ms, c5 with | [x0, x1, x2, x3, x4], _ => ⟨x0, x1, x2, x3, x4, rfl⟩
      refine iteF ⟨_, rfl, l, _, rfl, .inl hl, rfl, _, rfl, iteF ⟨_, rfl, l, _, rfl, .inl hl, rfl, _, rfl, iteF ⟨_, rfl, l, _, rfl, .inl hl, rfl, _, rfl, iteF ⟨_, rfl, l, _, rfl, .inl hl, rfl, _, rfl, iteT ?_⟩⟩⟩⟩
      exact ⟨_, rfl, l, _, 0, x0, rfl, rfl, hl, rfl, _, rfl, l, _, 1, x1, rfl, rfl, hl, rfl, _, rfl, l, _, 2, x2, rfl, rfl, hl, rfl, _, rfl, l, _, 3, x3, rfl, rfl, hl, rfl, _, rfl, l, _, 4, x4, rfl, rfl, hl, rfl, mk s0⟩
    · obtain ⟨x0, x1, x2, x3, x4, x5, rfl⟩ : ∃ x0 x1 x2 x3 x4 x5, ms = [x0, x1, x2, x3, x4, x5] := match ms, (show ms.length = 6 by omega) with | [x0, x1, x2, x3, x4, x5], _ => ⟨x0, x1, x2, x3, x4, x5, rfl⟩
      refine iteF ⟨_, rfl, l, _, rfl, .inl hl, rfl, _, rfl, iteF ⟨_, rfl, l, _, rfl, .inl hl, rfl, _, rfl, iteF ⟨_, rfl, l, _, rfl, .inl hl, rfl, _, rfl, iteF ⟨_, rfl, l, _, rfl, .inl hl, rfl, _, rfl, iteF ?_⟩⟩⟩⟩
      exact ⟨_, rfl, l, _, 0, x0, rfl, rfl, hl, rfl, _, rfl, l, _, 1, x1, rfl, rfl, hl, rfl, _, rfl, l, _, 2, x2, rfl, rfl, hl, rfl, _, rfl, l, _, 3, x3, rfl, rfl, hl, rfl, _, rfl, l, _, 4, x4, rfl, rfl, hl, rfl, _, rfl, l, _, 5, x5, rfl, rfl, hl, rfl, mk s0⟩
end
end Kx
namespace Kx
open PySem L2 PySem.Spec PyProof.Rows
/-! sorted texts without doubles are told by what they hold -/
theorem rising_pw : ∀ {l : List Str} {p : Str}, risingS p l = true → (p :: l).Pairwise fun a b => a.cps.toList ≤ b.cps.toList
  | [], p, _ => List.pairwise_singleton _ _
  | x :: r, p, h => by
    have h : (!ltCps x.cps.toList p.cps.toList && risingS x r) = true := h
    rw [Bool.and_eq_true, ltCps_eq] at h
    have ih := rising_pw h.2
    have hp : p.cps.toList ≤ x.cps.toList := by
      have := h.1
      simpa using this
    refine List.pairwise_cons.mpr ⟨fun y hy => ?_, ih⟩
    rcases List.mem_cons.mp hy with rfl | z
    · exact hp
    · exact List.le_trans hp ((List.pairwise_cons.mp ih).1 y z)
theorem sorted_pw : ∀ {l : List Str}, sortedS l = true → l.Pairwise fun a b => a.cps.toList ≤ b.cps.toList
  | [], _ => .nil
  | _ :: _, h => rising_pw h
theorem sorted_eq {l m : List Str} (h1 : sortedS l = true) (h2 : m.Pairwise fun a b => a.cps.toList ≤ b.cps.toList) (n1 : l.Nodup) (n2 : m.Nodup) (e : ∀ x, x ∈ l ↔ x ∈ m) : l = m :=
  List.Perm.eq_of_pairwise (fun a b _ _ x y => TL.ext_tl (List.le_antisymm x y)) (sorted_pw h1) h2 ((List.perm_ext_iff_of_nodup n1 n2).mpr e)
/-! what the first wrong clause says of all -/
theorem wr_none : ∀ (l : List (List Lit)) (i d : Nat), d ≤ 1 → (wrongAt i d l = none ↔ (∀ c ∈ l, stands c = true) ∧ d + l.countP (fun c => decide (c.length = 2)) ≤ 1)
  | [], i, d, hd => by
    refine ⟨fun _ => ⟨fun _ h => (nomatch h), by simpa using hd⟩, fun _ => rfl⟩
  | c :: r, i, d, hd => by
    unfold wrongAt
    by_cases hs : stands c = true
    case neg =>
      rw [if_neg hs]
      refine ⟨fun h => (nomatch h), fun h => absurd (h.1 c List.mem_cons_self) hs⟩
    case pos =>
    rw [if_pos hs, List.countP_cons]
    by_cases h2 : c.length = 2
    · rw [if_pos h2, decide_eq_true h2, if_pos (show true = true from rfl)]
      by_cases h3 : d + 1 = 2
      · rw [if_pos h3]
        refine ⟨fun h => (nomatch h), fun h => ?_⟩
        have := h.2
        omega
      · rw [if_neg h3, wr_none r (i + 1) (d + 1) (by omega)]
        refine ⟨fun h => ⟨fun x hx => ?_, by omega⟩, fun h => ⟨fun x hx => h.1 x (List.mem_cons_of_mem _ hx), by omega⟩⟩
        rcases List.mem_cons.mp hx with rfl | z
        · exact hs
        · exact h.1 x z
    · rw [if_neg h2, decide_eq_false h2, if_neg (show ¬ (d = 2) by omega), wr_none r (i + 1) d hd, if_neg (show ¬ (false = true) by decide), Nat.add_zero]
      refine ⟨fun h => ⟨fun x hx => ?_, by omega⟩, fun h => ⟨fun x hx => h.1 x (List.mem_cons_of_mem _ hx), by omega⟩⟩
      rcases List.mem_cons.mp hx with rfl | z
      · exact hs
      · exact h.1 x z
theorem firstC_none {cs : List (List Lit)} : firstWrong cs = none ↔ cs.length ≤ 4 ∧ (∀ c ∈ cs, stands c = true) ∧ cs.countP (fun c => decide (c.length = 2)) ≤ 1 := by
  unfold firstWrong
  by_cases h : 4 < cs.length
  · rw [if_pos h]
    exact ⟨fun z => (nomatch z), fun z => absurd z.1 (by omega)⟩
  · rw [if_neg h, wr_none cs 0 0 (by decide), Nat.zero_add]
    exact ⟨fun z => ⟨by omega, z⟩, fun z => z.2⟩
theorem first_sub {cs ds : List (List Lit)} (h : firstWrong cs = none) (s : ds.Sublist cs) : firstWrong ds = none := by
  rw [firstC_none] at *
  exact ⟨Nat.le_trans s.length_le h.1, fun c hc => h.2.1 c (s.subset hc), Nat.le_trans s.countP_le h.2.2⟩
theorem stands_shC {c : List Lit} (h : stands c = true) (h1 : 1 ≤ c.length) : standsS (shC c) = true := by
  have h : (decide ((c.length : Int) ≤ 2) && c.all fun l => isTerm l.1 && isTerm l.2.1) = true := h
  rw [Bool.and_eq_true, decide_eq_true_eq] at h
  show standsS (.tup (c.map shL)) = true
  rw [stands_eq, Bool.and_eq_true, decide_eq_true_eq, List.length_map]
  refine ⟨by omega, ?_⟩
  rw [List.all_map, List.all_eq_true]
  intro l hl
  have e := List.all_eq_true.mp h.2 l hl
  show isLitTS (.tup [.str l.1, .str l.2.1, .int l.2.2]) = true
  rw [litTS_eq]
  show (isTerm l.1 && (isTerm l.2.1 && true)) = true
  rw [Bool.and_true]
  exact e
theorem lenS_shC (c : List Lit) : lenS (shC c) = c.length := List.length_map ..
theorem wrongS_none : ∀ (l : List (List Lit)) (i d : Nat), wrongAt i d l = none → (∀ c ∈ l, 1 ≤ c.length) → wrongAtS i d (l.map shC) = none
  | [], _, _, _, _ => rfl
  | c :: r, i, d, h, h1 => by
    rw [List.map_cons]
    unfold wrongAt at h
    unfold wrongAtS
    by_cases hs : stands c = true
    case neg => rw [if_neg hs] at h; cases h
    case pos =>
    rw [if_pos hs] at h
    rw [if_pos (stands_shC hs (h1 c List.mem_cons_self)), lenS_shC]
    by_cases h3 : (if c.length = 2 then d + 1 else d) = 2
    · rw [if_pos h3] at h; cases h
    · rw [if_neg h3] at h
      rw [if_neg h3]
      exact wrongS_none r _ _ h fun x hx => h1 x (List.mem_cons_of_mem _ hx)
theorem firstS_none {cs : List (List Lit)} (h : firstWrong cs = none) (h1 : ∀ c ∈ cs, 1 ≤ c.length) : firstWrongS (cs.map shC) = none := by
  unfold firstWrong at h
  unfold firstWrongS
  rw [List.length_map]
  by_cases h4 : 4 < cs.length
  · rw [if_pos h4] at h; cases h
  · rw [if_neg h4] at h
    rw [if_neg h4]
    exact wrongS_none _ _ _ h h1
theorem firstS_pos {cs : List (List Lit)} (h : firstWrongS (cs.map shC) = none) : ∀ c ∈ cs, 1 ≤ c.length := by
  unfold firstWrongS at h
  by_cases h4 : 4 < (cs.map shC).length
  · rw [if_pos h4] at h; cases h
  · rw [if_neg h4] at h
    exact firstSh_pos h
theorem shL_inj {a b : Lit} (h : shL a = shL b) : a = b := by
  obtain ⟨a1, a2, a3⟩ := a
  obtain ⟨b1, b2, b3⟩ := b
  unfold shL at h
  injection h with h
  injection h with h1 h
  injection h with h2 h
  injection h with h3 h
  injection h1 with h1
  injection h2 with h2
  injection h3 with h3
  dsimp only at h1 h2 h3
  subst h1 h2 h3
  rfl
theorem map_inj {α β : Type} {f : α → β} (hf : ∀ {a b}, f a = f b → a = b) : ∀ {l m : List α}, l.map f = m.map f → l = m
  | [], [], _ => rfl
  | [], _ :: _, h => by cases h
  | _ :: _, [], h => by cases h
  | a :: l, b :: m, h => by
    rw [List.map_cons, List.map_cons] at h
    injection h with h1 h2
    rw [hf h1, map_inj hf h2]
theorem shC_inj {a b : List Lit} (h : shC a = shC b) : a = b := by
  unfold shC at h
  injection h with h
  exact map_inj shL_inj h
theorem shCs_inj {a b : List (List Lit)} (h : a.map shC = b.map shC) : a = b := map_inj shC_inj h
theorem okS_str {s : Str} (h : OkS (.str s)) : PyData.strOk s = true := by cases h; assumption
theorem okS_mem {l : List Sh} (h : OkS (.tup l)) : ∀ d ∈ l, OkS d := by cases h; assumption
theorem okC_of {cs : List (List Lit)} (h : ∀ d ∈ cs.map shC, OkS d) : okC cs := fun c hc l hl => by
  have h1 := okS_mem (h (shC c) (List.mem_map_of_mem hc)) (shL l) (List.mem_map_of_mem hl)
  exact ⟨okS_str (okS_mem h1 _ (by simp)), okS_str (okS_mem h1 _ (by simp))⟩
/-! the terms that the law gathers -/
def cTerms (c : List Lit) : List Str := match c with
  | [] => []
  | a :: r => [a.1, a.2.1, ((a :: r).getLast (by simp)).1, ((a :: r).getLast (by simp)).2.1]
theorem cTerms_mem {c : List Lit} (h1 : 1 ≤ c.length) (h2 : c.length ≤ 2) {t : Str} : (t ∈ cTerms c ∧ t ≠ "") ↔ t ∈ termsC c := by
  match c, h1, h2 with
  | [a], _, _ =>
    unfold cTerms termsC termsL
    simp [noE]
    grind
  | [a, b], _, _ =>
    unfold cTerms termsC termsL
    simp [noE]
    grind
theorem gather_mem {cs : List (List Lit)} (h1 : ∀ c ∈ cs, 1 ≤ c.length) (h2 : ∀ c ∈ cs, c.length ≤ 2) {t : Str} : (t ∈ cs.flatMap cTerms ∧ t ≠ "") ↔ t ∈ termsOf cs := by
  unfold termsOf
  rw [List.mem_flatMap, List.mem_flatMap]
  constructor
  · rintro ⟨⟨c, hc, ht⟩, hn⟩
    exact ⟨c, hc, (cTerms_mem (h1 c hc) (h2 c hc)).mp ⟨ht, hn⟩⟩
  · rintro ⟨c, hc, ht⟩
    have := (cTerms_mem (h1 c hc) (h2 c hc)).mpr ht
    exact ⟨⟨c, hc, this.1⟩, this.2⟩
end Kx
namespace Kx
open PySem L2 PySem.Spec PyProof.Rows
section
variable {X : Cx}
theorem pe_ownX {W : WX} {op : Operator} {k : Nat} {f C : Addr} {fd : FuncData} {ps : List PySem.Str} {sp : Sp} {e1 e2 : Expr} {ta tb : TE} {pos : Pos} (tk : L2N.Takes X W) (hc : PySem.W.selfFirst X.K C = true) (hs : PySem.W.findIn X.K (.ref C) (PySem.dunder op.info.2) = some (some (.ref f))) (hf : PySem.W.isFn X.K (.ref f) = true)
    (F : FnOk X.prog X.w X.K X.mg X.base (L2N.CX X.prog X.w) k f fd ps sp) (hr : Room k X.A) (hb : Binds X.K fd ps []) (h1 : PE X e1 ta) (h2 : PE X e2 tb) :
    PE X (.BinOp e1 op e2 pos) (fun σ H Q => ta σ H fun x H1 => tb σ H1 fun y H2 => rOwn C sp (WE W σ) x y H2 Q) := by
  refine ⟨fun pins s σ H Q I h => ?_⟩
  refine wpAny_BinOp (binT h1 h2 I h fun v u s2 x y H2 I2 rx ry q => ?_)
  obtain ⟨a, b, dx, dy, fs, gs, rfl, rfl, ha, hb', q⟩ := q
  obtain rfl : v = Value.ref a := rx
  obtain rfl : u = Value.ref b := ry
  obtain ⟨m, fr⟩ := I2.fr
  obtain ⟨_, O1, _⟩ := ins_get I2.hok ha
  obtain ⟨o1, J1, _⟩ := O1.look
  obtain ⟨_, O2, _⟩ := ins_get I2.hok hb'
  obtain ⟨o2, J2, _⟩ := O2.look
  refine PySem.W.binop_K fr I2.ok.mod.kin J1 J2.type hc hs hf ?_
  refine thn (run_fnS (E := WE W) (us := [.ref a, .ref b]) (vs := [.ref a, .ref b]) F hr hb (L2N.passAt tk σ) I2 (.cons rfl (.cons rfl .nil)) q) fun z s' ⟨zv, H', I', rz, q'⟩ => ?_
  cases z <;> first | exact ⟨zv, H', I', rz, q'⟩ | (cases zv <;> first | (obtain ⟨_, z⟩ := rz; cases z) | cases rz)
theorem pe_xfE {a C : Addr} {oe : Obj} {cls : Value} {d : Option Addr} {pn : List (Addr × Obj)} {e : Expr} {te : TE} {pos : Pos} {n : PySem.Str} (T : XfC X.K C) (hno : PySem.W.findIn X.K (.ref C) n = some none) (hz : Zc cls d oe) (hf : ∃ vs, oe.data = .fields vs)
    (he : PE (X.suite a ((a, oe) :: pn)) e te) (hb : attributeBase e n X.env (eval e X.env) = eval e X.env := by rfl) : PE (X.suite a ((a, oe) :: pn)) (.Attribute e n pos)
      (fun σ H Q => te σ H fun x H1 => x = .ref a ∧ cls = .ref C ∧ ∃ (dd : Addr) (fs : List (PySem.Str × V)) (v : V), d = some dd ∧ H1 dd = some (exd dd fs) ∧ fs.lookup n = some v ∧ Q v H1) := by
  refine ⟨fun pins s σ H Q I h => attr_of hb (thn (he.run pins s σ H _ I h) fun u s1 hh => ?_)⟩
  obtain ⟨x, H1, I1, rx, rfl, rfl, dd, fs, v, rfl, ea, l, q⟩ := hh
  obtain rfl : u = Value.ref a := rx
  obtain ⟨ha, _⟩ := I1.pin (a, oe) (List.mem_append_left _ List.mem_cons_self)
  obtain ⟨vs, hd⟩ := hf
  obtain ⟨mA, hns, hr⟩ := exd_at I1.hok ea
  obtain ⟨od, ho, hl⟩ := lookIn_ns hns
  obtain ⟨u, hu, ru⟩ := RelO.some_of (v := v) (o := mA n) (by rw [← l]; exact hr n)
  have J : PySem.W.InstAt s1.heap a oe C (some od) := ⟨ha, hz.1, by unfold PySem.W.notCls; rw [hd] <;> rfl, by rw [hz.2]; exact ho⟩
  exact HandSPX.exc_get I1.kIn J T.ga T.gg T.exC (PySem.W.findObj_own T.hdC hno rfl (by rw [hl, hu])) (handed_of ru) ⟨v, H1, I1.tok _, ru, q⟩
end
end Kx
namespace Kx
open PySem L2 PySem.Spec PyProof.Rows
def PinIs (p : Addr × Obj) (C : Addr) (H : Hp) : Prop := ∃ vs d, p.2.data = .fields vs ∧ Zc (.ref C) d p.2 ∧ (d = none ∨ ∃ dd fs, d = some dd ∧ H dd = some (exd dd fs))
theorem PinIs.same {p : Addr × Obj} {C : Addr} {H H' : Hp} (h : PinIs p C H) (s : Same H H') : PinIs p C H' := by
  obtain ⟨vs, d, h1, h2, h3⟩ := h
  exact ⟨vs, d, h1, h2, h3.imp id fun ⟨dd, fs, e, z⟩ => ⟨dd, fs, e, s _ _ z⟩⟩
section
variable {X : Cx} {B : Addr}
def rIsPin (K : PySem.W.Frag) (p : Addr × Obj) (B : Addr) : List V → Hp → VK → Prop := fun xs H Q => ∃ (C : Addr) (c : V) (u : Value) (b : Bool), xs = [.ref p.1, c] ∧ PinIs p C H ∧ Ct K B C ∧ ClsV c u ∧ PySem.W.kitOne K (.ref C) u = some b ∧ Q (.bl b) H
theorem call_isPin {p : Addr × Obj} (G : Gt X.K B) (hp : p ∈ X.pn) : CallR X (.builtin "isinstance") (rIsPin X.K p B) := by
  intro pins s σ H xs us Q I r h
  obtain ⟨C, c, u, b, rfl, ⟨vs, d, hd, hz, hdd⟩, T, k, e, q⟩ := h
  obtain ⟨u1, u2, rfl, r1, r2⟩ := vals2 r
  have z1 : u1 = Value.ref p.1 := r1
  subst z1
  have e2 := k.eq r2
  subst e2
  obtain ⟨a, oc, odd, oda, osl⟩ := p
  obtain ⟨g, _⟩ := I.pin _ (List.mem_append_left pins hp)
  obtain ⟨y1, y2⟩ := hz
  dsimp only at g hd y1 y2
  subst y1 y2 hd
  have J : ∃ od, PySem.W.InstAt s.heap a ⟨.ref C, odd, .fields vs, osl⟩ C od := by
    rcases hdd with rfl | ⟨dd, fs, rfl, hx⟩
    · exact ⟨none, g, rfl, rfl, trivial⟩
    · obtain ⟨mA, hn, _⟩ := exd_at I.hok hx
      obtain ⟨od, e2, _⟩ := lookIn_ns hn
      exact ⟨some od, g, rfl, rfl, e2⟩
  obtain ⟨od, J⟩ := J
  exact PySem.W.kia_one (PySem.W.kitx_exc T.isC T.ga T.gg T.base T.ha G.hn G.ht (by rw [T.mro]; rfl)) I.kIn J e (fun z => nomatch z) fun tk => ⟨.bl b, H, I.tok tk, rfl, q⟩
/-- isinstance(e, c) in the suite, told by the class and the dict of e alone -/
def rIsCls (K : PySem.W.Frag) (B a : Addr) (cls : Value) (d : Option Addr) : List V → Hp → VK → Prop := fun xs H Q => ∃ (C : Addr) (c : V) (u : Value) (b : Bool), xs = [.ref a, c] ∧ cls = .ref C ∧ (d = none ∨ ∃ dd fs, d = some dd ∧ H dd = some (exd dd fs)) ∧ Ct K B C ∧ ClsV c u ∧ PySem.W.kitOne K (.ref C) u = some b ∧ Q (.bl b) H
theorem call_isCls {a : Addr} {oe : Obj} {cls : Value} {d : Option Addr} {pn : List (Addr × Obj)} (G : Gt X.K B) (hz : Zc cls d oe) (hf : ∃ vs, oe.data = .fields vs) : CallR (X.suite a ((a, oe) :: pn)) (.builtin "isinstance") (rIsCls X.K B a cls d) := by
  intro pins s σ H xs us Q I r h
  obtain ⟨C, c, u, b, rfl, rfl, hd, T, k, e, q⟩ := h
  obtain ⟨vs, hv⟩ := hf
  exact call_isPin (X := X.suite a ((a, oe) :: pn)) (p := (a, oe)) G List.mem_cons_self pins s σ H _ us Q I r ⟨C, c, u, b, rfl, ⟨vs, d, hv, hz, hd⟩, T, k, e, q⟩
end
end Kx
namespace Kx
open PySem L2 PySem.Spec PyProof.Rows
open StX (pe_makeR tMakeR)
abbrev sRight : Stmt := top 35
theorem passN {X : Cx} : Passes (L2N.CX X.prog X.w) X E0 := fun _ _ _ _ _ _ _ h => by
  obtain ⟨_, _, _, _, _, _, _, _, _, _, _, _, z⟩ := h
  exact z.elim
theorem wrS_small : ∀ (l : List Sh) (i d : Nat) {j : Int}, wrongAtS i d l = some j → 0 ≤ j ∧ j ≤ i + l.length
  | [], _, _, _, h => by cases h
  | c :: r, i, d, j, h => by
    unfold wrongAtS at h
    rw [List.length_cons]
    by_cases hs : standsS c = true
    · rw [if_pos hs] at h
      by_cases h3 : (if lenS c = 2 then d + 1 else d) = 2
      · rw [if_pos h3] at h
        cases h
        omega
      · rw [if_neg h3] at h
        have := wrS_small r _ _ h
        omega
    · rw [if_neg hs] at h
      cases h
      omega
theorem firstS_small {l : List Sh} {j : Int} (h6 : l.length ≤ 6) (h : firstWrongS l = some j) : j.natAbs.log2 < 1920 := by
  have e : j.natAbs ≤ 10 := by
    unfold firstWrongS at h
    by_cases h4 : 4 < l.length
    · rw [if_pos h4] at h
      cases h
      decide
    · rw [if_neg h4] at h
      have := wrS_small l _ _ h
      omega
  have := Nat.log2_le_self j.natAbs
  omega
theorem pairC {K : PySem.W.Frag} {H : Hp} : ∀ {xs : List V} {cs : List (List Lit)}, IsAll K H xs (cs.map shC) → (∀ c ∈ cs, 1 ≤ c.length) → Paired (IsC K H) xs cs
  | [], [], _, _ => .nil
  | _ :: _, [], h, _ => nomatch h
  | [], _ :: _, h, _ => nomatch h
  | _ :: _, c :: _, .cons a t, h => .cons (isC_of a (h c List.mem_cons_self)) (pairC t fun x hx => h x (List.mem_cons_of_mem _ hx))
theorem CondF.same {K : PySem.W.Frag} {H H' : Hp} {a C dx p q : Addr} {cs : List (List Lit)} {ys : List PySem.Str} (s : Same H H') (h : CondF K H a C dx p q cs ys) : CondF K H' a C dx p q cs ys :=
  ⟨s _ _ h.ins, Exists.imp (fun _ z => Cs.same s z) h.cl, SqT.same s h.tm, h.so, h.nd, h.mem⟩
theorem made_go {K : PySem.W.Frag} {C CB lx : Addr} {H : Hp} {ms : List V} {cs : List (List Lit)} {Q : VK} (h1 : SqL K H lx ms) (h2 : IsAll K H ms (cs.map shC)) (h3 : cs.length ≤ 6) (hw : firstWrong cs = none) (hpos : ∀ c ∈ cs, 1 ≤ c.length)
    (k : ∀ r dz p q ys H', CondF K H' r C dz p q cs ys → Same H H' → Q (.ref r) H') : spMadeL K C CB [.ref lx] H Q E0 :=
  ⟨lx, ms, _, rfl, h1, h2, by rw [List.length_map]; exact h3, fun cs'' e _ _ r dz p q ys H' hF s _ => by (cases shCs_inj e; exact k r dz p q ys H' hF s), fun i hi => by (rw [firstS_none hw hpos] at hi; cases hi)⟩
theorem ne_go {K : PySem.W.Frag} {C r r2 dz dz2 p p2 q q2 : Addr} {H : Hp} {cs cs2 : List (List Lit)} {ys ys2 : List Str} {Q : VK} (h1 : CondF K H r C dz p q cs ys) (h2 : CondF K H r2 C dz2 p2 q2 cs2 ys2) (o1 : okC cs) (o2 : okC cs2) (k : Q (.bl (!decide (cs = cs2))) H) : rOwnNe C (spEqC K C) E0 (.ref r) (.ref r2) H Q :=
  ⟨r, r2, dz, dz2, _, _, rfl, rfl, h1.ins, h2.ins, r, dz, p, q, cs, ys, _, rfl, h1, o1, .inl ⟨r2, dz2, p2, q2, cs2, ys2, rfl, h2, o2, _, rfl, k⟩⟩
theorem eq_go {K : PySem.W.Frag} {C r r2 dz dz2 p p2 q q2 : Addr} {H : Hp} {cs cs2 : List (List Lit)} {ys ys2 : List Str} {Q : VK} (h1 : CondF K H r C dz p q cs ys) (h2 : CondF K H r2 C dz2 p2 q2 cs2 ys2) (o1 : okC cs) (o2 : okC cs2) (k : Q (.bl (decide (cs = cs2))) H) : rOwnEq K C (spEqC K C) E0 (.ref r) (.ref r2) H Q :=
  ⟨r, dz, _, rfl, h1.ins, .ins h2.ins, r, dz, p, q, cs, ys, _, rfl, h1, o1, .inl ⟨r2, dz2, p2, q2, cs2, ys2, rfl, h2, o2, _, rfl, k⟩⟩
theorem eqT_go {K : PySem.W.Frag} {C r t dz p q : Addr} {H : Hp} {cs : List (List Lit)} {ys : List Str} {xs : List V} {Q : VK} (h1 : CondF K H r C dz p q cs ys) (o1 : okC cs) (h2 : SqT K H t xs) (k : Q (.bl false) H) : rOwnEq K C (spEqC K C) E0 (.ref r) (.ref t) H Q :=
  ⟨r, dz, _, rfl, h1.ins, .tup h2, r, dz, p, q, cs, ys, _, rfl, h1, o1, .inr ⟨.tup h2, _, rfl, k⟩⟩
theorem eqS_go {K : PySem.W.Frag} {C r dz p q : Addr} {H : Hp} {cs : List (List Lit)} {ys : List Str} {z : Str} {Q : VK} (h1 : CondF K H r C dz p q cs ys) (o1 : okC cs) (k : Q (.bl false) H) : rOwnEq K C (spEqC K C) E0 (.ref r) (.str z) H Q :=
  ⟨r, dz, _, rfl, h1.ins, .str z, r, dz, p, q, cs, ys, _, rfl, h1, o1, .inr ⟨.str z, _, rfl, k⟩⟩
theorem cut1 {n : Nat} (h : 1 ≤ n) : HT.sIx n 0 (some 1) = 1 := by
  have e := HT.sIx_nat n 0 1
  rw [show ((1 : Nat) : Int) = 1 from rfl] at e
  rw [e]
  omega
theorem cutm {n : Nat} (h : 1 ≤ n) : HT.sIx n n (some (-1)) = n - 1 := by
  show (if (-1 : Int) < 0 then ((-1 : Int) + (n : Int)).toNat else min (-1 : Int).toNat n) = _
  rw [if_pos (by decide)]
  omega
theorem eqv_strs : ∀ l : List Str, PyData.eqvAll (l.map PyData.str) (l.map PyData.str) = true
  | [] => rfl
  | x :: r => by
    rw [List.map_cons]
    show (PyData.eqv (.str x) (.str x) && PyData.eqvAll _ _) = true
    rw [eqv_strs r]
    simp [PyData.eqv]
theorem lay_strs : ∀ {l : List Str}, (∀ t ∈ l, PyData.strOk t = true) → PyData.canLayAll0 (l.map PyData.str) = true ∧ PyData.depthAll (l.map PyData.str) = 0
  | [], _ => ⟨rfl, rfl⟩
  | x :: r, h => by
    obtain ⟨a, b⟩ := lay_strs (l := r) fun t ht => h t (List.mem_cons_of_mem _ ht)
    refine ⟨?_, ?_⟩
    · simp only [List.map_cons, PyData.canLayAll0, PyData.canLay0, h x List.mem_cons_self, a, Bool.and_self]
    · simp only [List.map_cons, PyData.depthAll, PyData.depth, b, Nat.max_self]
theorem shaped_strs {l : List Str} (h : ∀ t ∈ l, PyData.strOk t = true) : SeqAt.shaped (.tuple (l.map PyData.str)) = true := by
  obtain ⟨a, b⟩ := lay_strs h
  unfold SeqAt.shaped
  rw [Bool.and_eq_true, decide_eq_true_eq]
  exact ⟨a, by show PyData.depthAll _ + 1 ≤ 64; omega⟩
theorem dp_strs {K : PySem.W.Frag} {H : Hp} : ∀ l : List Str, DpAll K H (l.map V.str) (l.map PyData.str)
  | [] => .nil
  | x :: r => .cons (.str x) (dp_strs r)
theorem ok_cTerms {c : List Lit} (h : ∀ l ∈ c, PyData.strOk l.1 = true ∧ PyData.strOk l.2.1 = true) : ∀ t ∈ cTerms c, PyData.strOk t = true := by
  intro t ht
  match c, h, ht with
  | a :: r, h, ht =>
    unfold cTerms at ht
    simp only [List.mem_cons, List.not_mem_nil, or_false] at ht
    have hl := h _ (List.getLast_mem (l := a :: r) (by simp))
    have ha := h a List.mem_cons_self
    rcases ht with rfl | rfl | rfl | rfl
    · exact ha.1
    · exact ha.2
    · exact hl.1
    · exact hl.2
def rRepI : List V → Hp → VK → Prop := fun xs H Q => ∃ i : Int, xs = [.int i] ∧ i.natAbs.log2 < 1920 ∧ Q (.str (toString i)) H
structure RightOf (K : PySem.W.Frag) (mg : PySem.Str → Option Value) (B CB fB C fI fE fL : Addr) (fdB fdI fdE fdL : FuncData) : Prop where
  A : CondAll K mg B CB fB C fI fdB fdI
  FE : Fun K "__eq__" "Cond.__eq__" sEqC fE fdE
  bE : Binds K fdE ["self", "other"] []
  M : EqCls K C fE
  kS : PySem.W.kitOne K (.type "str") (.ref C) = some false
  kT : PySem.W.kitOne K (.type "tuple") (.ref C) = some false
  FL : Fun K "__len__" "Cond.__len__" sLenC fL fdL
  bL : Binds K fdL ["self"] []
  lf : PySem.W.findIn K (.ref C) "__len__" = some (some (.ref fL))
  li : PySem.W.isFn K (.ref fL) = true
  G : Gt K B
  gB : mg "ContractError" = some (.ref B)
def spRight (K : PySem.W.Frag) : Sp := fun vs H Q _ => ∃ (l : Addr) (ms : List V) (ds : List Sh), vs = [.ref l] ∧ SqL K H l ms ∧ IsAll K H ms ds ∧ (∀ d ∈ ds, OkS d) ∧ ds.length ≤ 6 ∧ ∀ H', Same H H' → Q (.bl true) H'
abbrev nRt : List PySem.Str := ["_law_some", "_law_due_here", "_law_cond", "e", "_law_terms_so", "_law_one_here", "_law_term_here"]
section
variable {P : Program} {w : World} {K : PySem.W.Frag} {mg : PySem.Str → Option Value} {base : Heap} {B CB fB C fI fE fL : Addr} {fdB fdI fdE fdL : FuncData}
theorem scRt : FnScope nRt ["_law_some"] (defScope sRight) := ⟨rfl, rfl, rfl, by decide +kernel, rfl, by decide +kernel, by decide +kernel⟩
theorem ok_right {f g u t m : Addr} {fd fdD fdU fdT fdM : FuncData} (F : Fs K mg "_law_is_right" sRight ["_law_some"] f fd) (dD : Fs K mg "_law_due" sDueL ["_law_some"] g fdD) (dU : Fs K mg "_law_is_clause" sClL ["_law_thing"] u fdU) (dT : Fs K mg "_law_is_term" sTermL ["_law_thing"] t fdT)
    (dM : Fs K mg "_law_made" sMadeL ["_law_some"] m fdM) (N : RightOf K mg B CB fB C fI fE fL fdB fdI fdE fdL) (rng : mg "range" = none) (ls : mg "list" = none) (st : mg "set" = none) (rp : mg "repr" = none) : FnOk P w K mg base CX0 9 f fd ["_law_some"] (spRight K) := by
  have D := N.A.D
  have T := D.M.T
  have W := N.A.W
  have GD : FnOk P w K mg base CX0 3 g fdD ["_law_some"] (spDueL K) := ok_dueL dD dU dT T rng
  have GM : FnOk P w K mg base (L2N.CX P w) 8 m fdM ["_law_some"] (spMadeL K C CB) := ok_madeL dM.F N.A
  have GE : FnOk P w K mg base CX0 1 fE fdE ["self", "other"] (spEqC K C) := ok_eqC N.FE N.A N.kS N.kT
  have GL : FnOk P w K mg base CX0 1 fL fdL ["self"] (spLenC K C) := ok_lenC N.FL D
  refine F.F.ok scRt (fun vs H Q E h => ?_) (fun cdv A outer s H vs Q E hr h => ?_)
  · obtain ⟨l, ms, ds, rfl, _⟩ := h
    rfl
  · obtain ⟨l, ms, ds, rfl, hl, hp, hok, h6, k⟩ := h
    have hr8 : Room 8 (A.deeper (envOfC "_law_is_right" (defScope sRight) s.heap.objs.size f cdv)) := hr.mono (by decide)
    have hr3 : Room 3 (A.deeper (envOfC "_law_is_right" (defScope sRight) s.heap.objs.size f cdv)) := hr.mono (by decide)
    have hu : (cxOf CX0 P w K mg base nRt "_law_is_right" (defScope sRight) f cdv A outer s H E).nox.A.units + 64 < cLine := by
      have := hr.un
      show (A.deeper (envOfC "_law_is_right" (defScope sRight) s.heap.objs.size f cdv)).units + 64 < cLine
      omega
    refine ⟨_, (pss_cons (ps_set (i := 1) scRt.nd rfl (Or.inl rfl) (pe_call GD hr3 (by rfl) dD.m dD.F.kp dD.b .nil pass0 (pa_cons (pv 0) pa_nil)))
      (pss_cons (L2N.ps_try_as (i := 3) (Wout := fun _ _ _ _ => False)
      (tb := fun W => tAsg (tCallS (spMadeL K C CB) (WE W) (tCons (tVar 0) tNil)) (gName 2))
      (ts := fun a cls d => tRet (tAndV (tCB (rIsCls K B a cls d) (tCons (tVar 3) (tCons (tC (.ref CB)) tNil))) (tOp rEq (tCB rRepI (tCons (fun σ H Q => tVar 3 σ H fun x H1 => x = .ref a ∧ cls = .ref CB ∧ ∃ (dd : Addr) (fs : List (PySem.Str × V)) (v : V), d = some dd ∧ H1 dd = some (exd dd fs) ∧ fs.lookup ("clause" : PySem.Str) = some v ∧ Q v H1) tNil)) (tCB rRepI (tCons (tVar 1) tNil)))))
      rfl rfl scRt.nd rfl rfl ⟨rfl, by decide, .inl N.gB⟩ takesN0
      (fun W pn xe tk _ => pss_one (ps_set (i := 2) scRt.nd rfl (Or.inl rfl) (pe_callS GM hr8 (by rfl) dM.m dM.F.kp dM.b (fun σ => L2N.passAt tk σ) (pa_cons (pv 0) pa_nil))))
      (fun a oe cls d pn hz hf => pss_one (ps_ret (pe_and (pe_callB (call_isCls N.G hz.zc hf) (by rfl) T.isi boot_isinstance (pa_cons (pv 3) (pa_cons (pe_glob (v := .ref CB) (by rfl) W.gm rfl) pa_nil)))
        (pe_one (pe_cmpR op_eq (pe_callB SkE.call_repr_int (by rfl) rp (by decide +kernel) (pa_cons (pe_xfE (X := (cxOf CX0 P w K mg base nRt "_law_is_right" (defScope sRight) f cdv A outer s H E).nox) (n := "clause") (C := CB) W.T.xf (W.no _ (by simp)) hz.zc hf (pv 3)) pa_nil)) (pe_callB SkE.call_repr_int (by rfl) rp (by decide +kernel) (pa_cons (pv 1) pa_nil)) (by with_unfolding_all rfl)))))))
      (pss_cons (ps_if (PW.pt (pw_or (pt_cmpR op_notN (pv 1) pe_non (nomark _)) (pw_or (pt_cmpR (op_neD hu) (pe_fld (pv 2) (by rfl)) (pe_tupleOf (by rfl) T.tuple (pv 0)) (by with_unfolding_all rfl)) (pw_or1 (pt_cmpR op_ne (pe_callB (call_ownLen N.lf N.li GL (hr.mono (by decide)) N.bL pass0) (by rfl) T.len PySem.boot_len (pa_cons (pv 2) pa_nil)) (pe_callB call_len_seq (by rfl) T.len PySem.boot_len (pa_cons (pv 0) pa_nil)) (by with_unfolding_all rfl)))))) (pss_one (ps_ret pe_bl)) pss_nil)
      (pss_cons (ps_set (i := 4) scRt.nd rfl (Or.inl rfl) (pe_lst pa_nil))
      (pss_cons (ps_for PassesOwn.never rfl (pi_list (pv 0)) (pg_name (i := 5) scRt.nd rfl (Or.inl rfl)) (pss_one (ps_set (i := 4) scRt.nd rfl (Or.inl rfl) (pe_op op_cat (pv 4) (pe_lst (pa_cons (pe_ix ix_tup (pe_ix ix_tup (pv 5) pe_int (fun _ _ => rfl)) pe_int (fun _ _ => rfl)) (pa_cons (pe_ix ix_tup (pe_ix ix_tup (pv 5) pe_int (fun _ _ => rfl)) pe_int (fun _ _ => rfl)) (pa_cons (pe_ix ix_tup (pe_ix ix_tup (pv 5) (pe_un un_neg pe_int) (fun _ _ => rfl)) pe_int (fun _ _ => rfl)) (pa_cons (pe_ix ix_tup (pe_ix ix_tup (pv 5) (pe_un un_neg pe_int) (fun _ _ => rfl)) pe_int (fun _ _ => rfl)) pa_nil)))))))))
      (pss_cons (ps_if (pt_cmpR (op_neD hu) (pe_fld (pv 2) (by rfl)) (pe_tupleOf (by rfl) T.tuple (pe_lc (own := [("_law_term_here", 6)]) (g := gName 6) (tt := tTest (tOp rNe (tVar 6) (tC (.str "")))) (te := tVar 6) rfl scRt.nd
        (pi_list (pe_callB (cr_sortedX rfl) (by rfl) T.sorted (by decide +kernel) (pa_cons (pe_callTy (cr_setTx rfl) (by rfl) st (by decide +kernel) (pa_cons (pv 4) pa_nil)) pa_nil))) (blkOk_by (N := nRt) (sc := defScope sRight) (by decide +kernel))
        (fun _ _ _ _ _ => pg_name (i := 6) scRt.nd rfl (Or.inl rfl)) (fun _ _ _ _ _ => pts_one (pt_cmpR op_ne (pv 6) pe_str (nomark _))) (fun _ _ _ _ _ => pv 6))) (by with_unfolding_all rfl)) (pss_one (ps_ret pe_bl)) pss_nil)
      (pss_cons (ps_if (PW.pt (pw_or (pt_cmpR (op_ownNe N.M GE (hr.mono (by decide)) N.bE pass0) (pv 2) (pe_call GM hr8 (by rfl) dM.m dM.F.kp dM.b .nil passN (pa_cons (pe_callTy call_list_of (by rfl) ls (by decide +kernel) (pa_cons (pv 0) pa_nil)) pa_nil)) (by with_unfolding_all rfl)) (pw_or (pt_not (pt_cmpR (op_ownEq N.M GE (hr.mono (by decide)) N.bE pass0) (pv 2) (pe_call GM hr8 (by rfl) dM.m dM.F.kp dM.b .nil passN (pa_cons (pv 0) pa_nil)) (by with_unfolding_all rfl))) (pw_or (pt_cmpR (op_ownEq N.M GE (hr.mono (by decide)) N.bE pass0) (pv 2) (pe_tupleOf (by rfl) T.tuple (pv 0)) (by with_unfolding_all rfl)) (pw_or1 (pt_cmpR (op_ownEq N.M GE (hr.mono (by decide)) N.bE pass0) (pv 2) pe_str (by with_unfolding_all rfl))))))) (pss_one (ps_ret pe_bl)) pss_nil)
      (pss_one (ps_ret (pe_or (pe_cmpR op_eq (pe_callB call_len_seq (by rfl) T.len PySem.boot_len (pa_cons (pv 0) pa_nil)) pe_int (nomark _)) (pe_one (pe_and (pe_cmpR (op_ownNe N.M GE (hr.mono (by decide)) N.bE pass0) (pv 2) (pe_call GM hr8 (by rfl) dM.m dM.F.kp dM.b .nil passN (pa_cons (pe_slice sl_list (pv 0) (po_some pe_int) po_none) pa_nil)) (by with_unfolding_all rfl)) (pe_one (pe_cmpR (op_ownNe N.M GE (hr.mono (by decide)) N.bE pass0) (pv 2) (pe_call GM hr8 (by rfl) dM.m dM.F.kp dM.b .nil passN (pa_cons (pe_slice sl_list (pv 0) po_none (po_some (pe_un un_neg pe_int))) pa_nil)) (by with_unfolding_all rfl))))))))))))))), ?_⟩
    cases hfw : firstWrongS ds with
    | some i0 =>
      refine ⟨_, rfl, l, ms, ds, rfl, hl, hp, by omega, fun H1 s1 => ?_⟩
      rw [hfw]
      refine ⟨_, rfl, l, ms, ds, rfl, SqL.same s1 hl, hp.same s1, h6, fun cs e hS => by (rw [hfw] at hS; cases hS), fun i hi d H' s' hd => ?_⟩
      rw [hfw] at hi
      cases hi
      have sm := firstS_small (by omega) hfw
      refine ⟨true, PySem.W.exm_ref N.G.bsB N.G.hdB N.G.tyB (by show PySem.W.mroIn K CB _ = _; rw [W.T.mro]; simp), fun _ a' na => ?_, fun z => nomatch z⟩
      refine ⟨_, rfl, CB, .ref CB, _, true, rfl, rfl, .inr ⟨d, _, rfl, hd⟩, W.T, .own CB, kit_yes W.T, true, rfl, iteT ?_⟩
      refine ⟨_, rfl, rfl, rfl, d, _, .int i0, rfl, hd, (by simp [List.lookup]), i0, rfl, sm, _, rfl, i0, rfl, sm, rfl, ?_⟩
      rw [decide_eq_true rfl]
      exact k _ fun b u z => s' _ _ (s1 _ _ z)
    | none =>
    obtain ⟨cs, rfl, hw⟩ := first_sh hfw
    have hpos := firstS_pos hfw
    obtain ⟨n4, hst, hc2⟩ := firstC_none.mp hw
    have okc := okC_of hok
    have hml : ms.length = cs.length := by rw [hp.length, List.length_map]
    refine ⟨_, rfl, l, ms, _, rfl, hl, hp, by omega, fun H1 s1 => ?_⟩
    rw [hfw]
    refine ⟨_, rfl, l, ms, _, rfl, SqL.same s1 hl, hp.same s1, h6, fun cs' e _ _ r dz p q ys H2 hF s2 hr0 => ?_, fun i hi => by (rw [hfw] at hi; cases hi)⟩
    cases shCs_inj e
    have s02 : Same H H2 := fun b u z => s2 _ _ (s1 _ _ z)
    clear s1 s2
    have hl2 := SqL.same s02 hl
    have hp2 := pairC (hp.same s02) hpos
    obtain ⟨xs, hc⟩ := hF.cl
    refine ⟨_, rfl, rfl, _, rfl, iteF ⟨_, rfl, r, C, dz, _, .ref p, rfl, hF.ins, D.cls, D.nc, rfl, _, rfl, .inl ⟨l, ms, rfl, hl2, fun t2 ht2 => ?_⟩⟩⟩
    have s3 := new_same (o := .tup ms) ht2
    have hp3 := pairedC_same s3 hp2
    have hF3 := CondF.same s3 hF
    have hc3 := Cs.same s3 hc
    refine ⟨.tuple (cs.map clD), .tuple (cs.map clD), .tup hc3.sq (dp_all (fun _ _ z => dp_cl z) hc3.p), .tup (SqT.of upd_same) (dp_all (fun _ _ z => dp_cl z) hp3), shaped_tup okc, shaped_tup okc, ?_⟩
    have e1 : PyData.eqv (.tuple (cs.map clD)) (.tuple (cs.map clD)) = decide (cs = cs) := eqv_cls cs cs
    rw [e1, decide_eq_true rfl]
    have s03 : Same H (upd H2 t2 (.tup ms)) := fun b u z => s3 _ _ (s02 _ _ z)
    generalize upd H2 t2 (.tup ms) = H3 at s3 hp3 hF3 hc3 s03 ⊢
    have hl3 := SqL.same s03 hl
    refine ⟨_, rfl, iteF ⟨_, rfl, r, dz, _, rfl, hF3.ins, r, dz, p, q, cs, ys, rfl, hF3, ⟨_, rfl, by omega, by omega, ?_⟩⟩⟩
    refine ⟨_, rfl, l, ms, rfl, .inl hl3, rfl, _, rfl, ?_⟩
    rw [hml, show (!decide (V.int (cs.length : Int) = V.int (cs.length : Int))) = false from by rw [decide_eq_true rfl]; rfl]
    refine iteF ⟨by show 0 ≤ sizeLine; decide, fun a4 h4 => ?_⟩
    have s4 := new_same (o := .lst []) h4
    have g4 : (upd H3 a4 (.lst [])) a4 = some (.lst ([].map V.str)) := upd_same
    generalize upd H3 a4 (.lst []) = H4 at s4 g4 ⊢
    have s04 : Same H H4 := fun b u z => s4 _ _ (s03 _ _ z)
    have hp4 := pairedC_same s4 hp3
    have hF4 := CondF.same s4 hF3
    have hst2 : ∀ c ∈ cs, c.length ≤ 2 := fun c hc => by
      have h := hst c hc
      have h : (decide ((c.length : Int) ≤ 2) && c.all fun l => isTerm l.1 && isTerm l.2.1) = true := h
      rw [Bool.and_eq_true, decide_eq_true_eq] at h
      omega
    refine ⟨_, rfl, l, rfl, ⟨ms, SqL.same s04 hl⟩, ?_⟩
    refine for_list (xs := ms) (fun i σ H5 => (∃ a v5, σ = [some (.ref l), some .non, some (.ref r), none, some (.ref a), v5, none] ∧ H5 a = some (.lst (((cs.take i).flatMap cTerms).map V.str)) ∧ ((cs.take i).flatMap cTerms).length ≤ 4 * i) ∧ Same H4 H5) ⟨⟨a4, none, rfl, g4, Nat.le_refl _⟩, fun _ _ z => z⟩ (fun i σ H5 _ h => SqL.same h.2 (SqL.same s04 hl)) ?_ ?_
    · rintro i x σ H5 hx ⟨⟨a, v5, rfl, ga, la⟩, s5⟩
      obtain ⟨c, hcl, hxc⟩ := paired_get hp4 hx
      have hcm : c ∈ cs := List.mem_of_getElem? hcl
      have hi4 : i < 4 := by
        have := (List.getElem?_eq_some_iff.mp hcl).1
        omega
      obtain ⟨b, zs, rfl, hb⟩ := IsC.same s5 hxc
      have nx : ∀ q5, H5 q5 = none → ∀ t1 t2 t3 t4 : Str, cTerms c = [t1, t2, t3, t4] → rCat (.ref a) (.ref q5) (upd H5 q5 (.lst [.str t1, .str t2, .str t3, .str t4])) (fun v H6 => ∃ a', v = .ref a' ∧ H6 a' = some (.lst (((cs.take (i + 1)).flatMap cTerms).map V.str)) ∧ ((cs.take (i + 1)).flatMap cTerms).length ≤ 4 * (i + 1) ∧ Same H4 H6) := fun q5 hq t1 t2 t3 t4 ec => by
        have e6 : (cs.take (i + 1)).flatMap cTerms = (cs.take i).flatMap cTerms ++ [t1, t2, t3, t4] := by
          rw [List.take_add_one, hcl, List.flatMap_append]
          show _ ++ [c].flatMap cTerms = _
          rw [List.flatMap_singleton, ec]
        have sq := new_same (o := .lst [V.str t1, .str t2, .str t3, .str t4]) hq
        refine ⟨a, q5, _, _, rfl, rfl, sq _ _ ga, upd_same, by rw [List.length_map]; exact le_sz (by show _ + 4 ≤ 100; omega), fun p6 hp6 => ⟨p6, rfl, ?_, ?_, fun b u z => new_same hp6 _ _ (sq _ _ (s5 _ _ z))⟩⟩
        · rw [upd_same, e6, List.map_append]
          rfl
        · rw [e6, List.length_append]
          show _ + 4 ≤ _
          omega
      have h12 : c.length = 1 ∨ c.length = 2 := by
        have := hpos c hcm
        have := hst2 c hcm
        omega
      have hbp := hb.p
      have hbs := hb.sq
      have hbl := hb.len
      rcases h12 with h1 | h2
      · obtain ⟨la1, rfl⟩ := List.length_eq_one_iff.mp h1
        obtain ⟨z0, rfl⟩ := List.length_eq_one_iff.mp (show zs.length = 1 from hbl)
        cases hbp with
        | cons p0 _ =>
        obtain ⟨e0, rfl, he0⟩ := p0
        refine ⟨_, rfl, _, rfl, b, _, _, _, rfl, rfl, hbs, rfl, e0, _, _, _, rfl, rfl, he0, rfl, _, rfl, b, _, _, _, rfl, rfl, hbs, rfl, e0, _, _, _, rfl, rfl, he0, rfl,
          _, rfl, _, rfl, b, _, _, _, rfl, rfl, hbs, rfl, e0, _, _, _, rfl, rfl, he0, rfl, _, rfl, _, rfl, b, _, _, _, rfl, rfl, hbs, rfl, e0, _, _, _, rfl, rfl, he0, rfl, by show 4 ≤ sizeLine; decide, fun q5 hq => ?_⟩
        obtain ⟨a', b', xs', zs', x1, x2, x3, x4, x5, x6⟩ := nx q5 hq la1.1 la1.2.1 la1.1 la1.2.1 rfl
        refine ⟨a', b', xs', zs', x1, x2, x3, x4, x5, fun p6 hp6 => ?_⟩
        obtain ⟨a6, y1, y2, y3, y4⟩ := x6 p6 hp6
        cases y1
        exact ⟨⟨_, _, rfl, y2, y3⟩, y4⟩
      · obtain ⟨la1, lb1, rfl⟩ : ∃ x y, c = [x, y] := match c, h2 with | [x, y], _ => ⟨x, y, rfl⟩
        obtain ⟨z0, z1, rfl⟩ : ∃ x y, zs = [x, y] := match zs, (show zs.length = 2 from hbl) with | [x, y], _ => ⟨x, y, rfl⟩
        cases hbp with
        | cons p0 pr =>
        cases pr with
        | cons p1 _ =>
        obtain ⟨e0, rfl, he0⟩ := p0
        obtain ⟨e1', rfl, he1⟩ := p1
        refine ⟨_, rfl, _, rfl, b, _, _, _, rfl, rfl, hbs, rfl, e0, _, _, _, rfl, rfl, he0, rfl, _, rfl, b, _, _, _, rfl, rfl, hbs, rfl, e0, _, _, _, rfl, rfl, he0, rfl,
          _, rfl, _, rfl, b, _, _, _, rfl, rfl, hbs, rfl, e1', _, _, _, rfl, rfl, he1, rfl, _, rfl, _, rfl, b, _, _, _, rfl, rfl, hbs, rfl, e1', _, _, _, rfl, rfl, he1, rfl, by show 4 ≤ sizeLine; decide, fun q5 hq => ?_⟩
        obtain ⟨a', b', xs', zs', x1, x2, x3, x4, x5, x6⟩ := nx q5 hq la1.1 la1.2.1 lb1.1 lb1.2.1 rfl
        refine ⟨a', b', xs', zs', x1, x2, x3, x4, x5, fun p6 hp6 => ?_⟩
        obtain ⟨a6, y1, y2, y3, y4⟩ := x6 p6 hp6
        cases y1
        exact ⟨⟨_, _, rfl, y2, y3⟩, y4⟩
    · rintro σ H5 ⟨⟨a, v5, rfl, ga, la⟩, s5⟩
      rw [hml, List.take_of_length_le (Nat.le_refl _)] at ga la
      have s05 : Same H H5 := fun b u z => s5 _ _ (s04 _ _ z)
      have hF5 := CondF.same s5 hF4
      refine ⟨_, rfl, r, C, dz, _, .ref q, rfl, hF5.ins, D.cls, D.nt, rfl, _, rfl, a, cs.flatMap cTerms, rfl, SqL.of ga, by omega, fun pS lS hS nd le mem => ?_⟩
      have s6 := new_same (o := SetX P w pS lS) hS
      refine ⟨pS, lS, rfl, upd_same, by omega, fun zs pZ so perm hZ => ?_⟩
      have s7 := new_same (o := .lst (zs.map V.str)) hZ
      generalize hH7 : upd (upd H5 pS _) pZ _ = H7
      have gZ : H7 pZ = some (.lst (zs.map V.str)) := by rw [← hH7]; exact upd_same
      have s57 : Same H5 H7 := by rw [← hH7]; exact fun b u z => s7 _ _ (s6 _ _ z)
      have zl : zs.length ≤ 60 := by rw [perm.length_eq]; omega
      refine ⟨pZ, rfl, ⟨_, SqL.of gZ⟩, fun D2 hD2 => ?_⟩
      refine lc_it (walk_list (xs := zs.map V.str)) (fun i H8 => Same H7 H8 ∧ H8 D2 = some (.lst (((zs.take i).filter fun x : Str => !decide (x = "")).map V.str))) ⟨new_same hD2, upd_same⟩ (fun i H8 _ h => SqL.of (h.1 _ _ gZ)) ?_ ?_
      · rintro i x H8 H9 hi ⟨s8, g8⟩ ⟨rfl, hx⟩
        rw [List.getElem?_map] at hx
        obtain ⟨z, hz, rfl⟩ := Option.map_eq_some_iff.mp hx
        have stp := filt_snoc (f := fun x : Str => !decide (x = "")) hz
        refine ⟨rfl, _, rfl, rfl, _, rfl, ?_⟩
        by_cases hzn : z = ""
        case pos =>
          rw [show (!decide (V.str z = V.str "")) = false from by rw [hzn, decide_eq_true rfl]; rfl]
          refine iteF ⟨s8, ?_⟩
          rw [g8, stp, hzn, decide_eq_true rfl]
          simp
        case neg =>
          rw [show (!decide (V.str z = V.str "")) = true from by rw [decide_eq_false (fun e => hzn (V.str.inj e))]; rfl]
          refine iteT ⟨_, rfl, _, g8, ?_, same_upd hD2 s8, ?_⟩
          · rw [List.length_map]
            have := filt_len (f := fun x : Str => !decide (x = "")) (l := zs) (i := i)
            exact small1000 (by omega)
          · rw [upd_same, stp, decide_eq_false hzn, List.map_append]
            rfl
      · rintro H8 ⟨s8, g8⟩
        rw [List.length_map, List.take_of_length_le (Nat.le_refl _)] at g8
        have s58 : Same H5 H8 := fun b u z => s8 _ _ (s57 _ _ z)
        have eys : ys = zs.filter fun x : Str => !decide (x = "") := by
          refine sorted_eq hF5.so ((sorted_pw so).filter _) hF5.nd ((perm.nodup_iff.mpr nd).filter _) fun t => ?_
          rw [List.mem_filter, perm.mem_iff, mem, hF5.mem, ← gather_mem hpos hst2]
          simp
        refine .inl ⟨D2, _, rfl, SqL.of g8, fun t9 ht9 => ?_⟩
        rw [← eys]
        have s9 := new_same (o := .tup (ys.map V.str)) ht9
        have g9 : (upd H8 t9 (.tup (ys.map V.str))) t9 = some (.tup (ys.map V.str)) := upd_same
        have s59 : Same H5 (upd H8 t9 (.tup (ys.map V.str))) := fun b u z => s9 _ _ (s58 _ _ z)
        generalize upd H8 t9 (.tup (ys.map V.str)) = H9 at g9 s59 ⊢
        have hF9 := CondF.same s59 hF5
        have oky : ∀ t ∈ ys, PyData.strOk t = true := fun t ht => by
          have h := (gather_mem hpos hst2).mpr ((hF5.mem t).mp ht)
          obtain ⟨c, hc, htc⟩ := List.mem_flatMap.mp h.1
          exact ok_cTerms (okc c hc) t htc
        refine ⟨.tuple (ys.map PyData.str), .tuple (ys.map PyData.str), .tup hF9.tm (dp_strs ys), .tup (SqT.of g9) (dp_strs ys), shaped_strs oky, shaped_strs oky, ?_⟩
        rw [show PyData.eqv (.tuple (ys.map PyData.str)) (.tuple (ys.map PyData.str)) = true from eqv_strs ys]
        have s09 : Same H H9 := fun b u z => s59 _ _ (s05 _ _ z)
        refine ⟨_, rfl, iteF ?_⟩
        clear g8 s8 s58 s57 gZ g9 s59
        refine ⟨_, rfl, _, rfl, l, ms, rfl, .inl (SqL.same s09 hl), fun l10 h10 => ?_⟩
        have s10 := new_same (o := .lst ms) h10
        dsimp only [tNil, List.nil_append, List.append_nil, List.cons_append]
        refine made_go (SqL.of upd_same) ((hp.same s09).same s10) (by omega) hw hpos fun r11 d11 p11 q11 ys11 H11 F11 s11 => ?_
        have s911 : Same H9 H11 := fun b u z => s11 _ _ (s10 _ _ z)
        have s011 : Same H H11 := fun b u z => s911 _ _ (s09 _ _ z)
        have hF11 := CondF.same s911 hF9
        refine ne_go hF11 F11 okc okc ⟨_, rfl, ?_⟩
        rw [decide_eq_true rfl]
        refine iteF ⟨_, rfl, _, rfl, ?_⟩
        dsimp only [tNil, List.nil_append, List.append_nil, List.cons_append]
        refine made_go (SqL.same s011 hl) (hp.same s011) (by omega) hw hpos fun r12 d12 p12 q12 ys12 H12 F12 s12 => ?_
        have s012 : Same H H12 := fun b u z => s12 _ _ (s011 _ _ z)
        have hF12 := CondF.same s12 hF11
        refine eq_go hF12 F12 okc okc ⟨_, rfl, ?_⟩
        rw [decide_eq_true rfl]
        refine iteF ⟨_, rfl, _, rfl, .inl ⟨l, ms, rfl, SqL.same s012 hl, fun t13 h13 => ?_⟩⟩
        have s13 := new_same (o := .tup ms) h13
        have hF13 := CondF.same s13 hF12
        refine eqT_go hF13 okc (SqT.of upd_same) ⟨_, rfl, iteF ?_⟩
        have s013 : Same H (upd H12 t13 (.tup ms)) := fun b u z => s13 _ _ (s012 _ _ z)
        generalize upd H12 t13 (.tup ms) = H13 at hF13 s013 ⊢
        refine ⟨_, rfl, ?_⟩
        dsimp only [tC]
        refine eqS_go hF13 okc ⟨_, rfl, iteF ?_⟩
        refine ⟨_, rfl, l, ms, rfl, .inl (SqL.same s013 hl), rfl, _, rfl, ?_⟩
        rw [hml]
        by_cases h0 : cs.length = 0
        case pos =>
          rw [h0, show decide (V.int ((0 : Nat) : Int) = V.int 0) = true from rfl]
          exact iteT (k _ s013)
        case neg =>
        rw [decide_eq_false (fun e => h0 (by have := V.int.inj e; omega))]
        have hn1 : 1 ≤ ms.length := by omega
        refine iteF ⟨_, rfl, _, rfl, _, rfl, l, ms, rfl, SqL.same s013 hl, fun l14 h14 => ?_⟩
        have s14 := new_same (o := .lst (cutV ms (some 1) none)) h14
        have c1 : cutV ms (some 1) none = (ms.drop 1).take (ms.length - 1) := by
          unfold cutV
          rw [cut1 hn1]
          rfl
        have c2 : cutV ms none (some (-1)) = (ms.drop 0).take (ms.length - 1) := by
          unfold cutV
          rw [cutm hn1]
          rfl
        have sub1 : ((cs.drop 1).take (ms.length - 1)).Sublist cs := (List.take_sublist _ _).trans (List.drop_sublist _ _)
        have sub2 : ((cs.drop 0).take (ms.length - 1)).Sublist cs := (List.take_sublist _ _).trans (List.drop_sublist _ _)
        have nn : ∀ {ds : List (List Lit)}, ds.length < cs.length → decide (cs = ds) = false := fun h => decide_eq_false fun e => by rw [e] at h; exact Nat.lt_irrefl _ h
        have p1 : IsAll K (upd H13 l14 (.lst (cutV ms (some 1) none))) (cutV ms (some 1) none) (((cs.drop 1).take (ms.length - 1)).map shC) := by
          rw [List.map_take, List.map_drop]
          have := (((hp.same s013).same s14).drop 1).take (ms.length - 1)
          rw [c1] at this ⊢
          exact this
        dsimp only [tNil, List.nil_append, List.append_nil, List.cons_append]
        refine made_go (SqL.of upd_same) p1 (Nat.le_trans sub1.length_le (by omega)) (first_sub hw sub1) (fun c hc => hpos c (sub1.subset hc)) fun r15 d15 p15 q15 ys15 H15 F15 s15 => ?_
        have s1315 : Same H13 H15 := fun b u z => s15 _ _ (s14 _ _ z)
        have s015 : Same H H15 := fun b u z => s1315 _ _ (s013 _ _ z)
        have hF15 := CondF.same s1315 hF13
        refine ne_go hF15 F15 okc (fun c hc => okc c (sub1.subset hc)) ⟨_, rfl, ?_⟩
        rw [nn (by rw [List.length_take, List.length_drop]; omega)]
        refine iteT ⟨_, rfl, _, rfl, _, rfl, _, rfl, l, ms, rfl, SqL.same s015 hl, fun l16 h16 => ?_⟩
        have s16 := new_same (o := .lst (cutV ms none (some (-1)))) h16
        have p2 : IsAll K (upd H15 l16 (.lst (cutV ms none (some (-1))))) (cutV ms none (some (-1))) (((cs.drop 0).take (ms.length - 1)).map shC) := by
          rw [List.map_take, List.map_drop]
          have := (((hp.same s015).same s16).drop 0).take (ms.length - 1)
          rw [c2] at this ⊢
          exact this
        dsimp only [tNil, List.nil_append, List.append_nil, List.cons_append]
        refine made_go (SqL.of upd_same) p2 (Nat.le_trans sub2.length_le (by omega)) (first_sub hw sub2) (fun c hc => hpos c (sub2.subset hc)) fun r17 d17 p17 q17 ys17 H17 F17 s17 => ?_
        have s1517 : Same H15 H17 := fun b u z => s17 _ _ (s16 _ _ z)
        refine ne_go (CondF.same s1517 hF15) F17 okc (fun c hc => okc c (sub2.subset hc)) ?_
        rw [nn (by rw [List.length_take, List.length_drop]; omega)]
        exact k _ fun b u z => s1517 _ _ (s015 _ _ z)
end
end Kx
namespace Kx
open PySem L2 PySem.Spec PyProof.Rows
abbrev sLaw : Stmt := top 36
abbrev nL : List PySem.Str := ["_law_script", "_law_cell", "_law_well_here", "_law_some", "_law_at", "_law_k"]
theorem cut_mem {xs : List V} {lo hi : Option Int} : ∀ v ∈ cutV xs lo hi, v ∈ xs := fun v h => List.mem_of_mem_drop (List.mem_of_mem_take h)
theorem IsAll.set {K : PySem.W.Frag} {H : Hp} : ∀ {xs : List V} {l : List Sh} {v : V} {d : Sh} (i : Nat), IsAll K H xs l → Is K H v d → IsAll K H (xs.set i v) (l.set i d)
  | _, _, _, _, _, .nil, _ => .nil
  | _, _, _, _, 0, .cons _ t, h => .cons h t
  | _, _, _, _, i + 1, .cons a t, h => .cons a (IsAll.set i t h)
structure LawOf (K : PySem.W.Frag) (mg : PySem.Str → Option Value) (B CB fB C fI fE fL : Addr) (fdB fdI fdE fdL : FuncData) : Prop where
  N : RightOf K mg B CB fB C fI fE fL fdB fdI fdE fdL
  D : Drw K mg
  rng : mg "range" = none
  ls : mg "list" = none
  st : mg "set" = none
  rp : mg "repr" = none
  term : ∃ f fd, Fs K mg "_law_term" sTermD ["_law_well_here"] f fd
  clause : ∃ f fd, Fs K mg "_law_clause" sClD ["_law_well_here"] f fd
  odd : ∃ f fd, Fs K mg "_law_odd" sOdd ["_law_well_here", "_law_clause_here"] f fd
  isT : ∃ f fd, Fs K mg "_law_is_term" sTermL ["_law_thing"] f fd
  isC : ∃ f fd, Fs K mg "_law_is_clause" sClL ["_law_thing"] f fd
  due : ∃ f fd, Fs K mg "_law_due" sDueL ["_law_some"] f fd
  made : ∃ f fd, Fs K mg "_law_made" sMadeL ["_law_some"] f fd
  right : ∃ f fd, Fs K mg "_law_is_right" sRight ["_law_some"] f fd
section
variable {P : Program} {w : World} {K : PySem.W.Frag} {mg : PySem.Str → Option Value} {base : Heap} {B CB fB C fI fE fL : Addr} {fdB fdI fdE fdL : FuncData}
theorem scL : FnScope nL ["_law_script"] (defScope sLaw) := ⟨rfl, rfl, rfl, by decide +kernel, rfl, by decide +kernel, by decide +kernel⟩
theorem law_body {a : Addr} {ns : List Int} (M : LawOf K mg B CB fB C fI fE fL fdB fdI fdE fdL) (f : Addr) (cdv : Value) (A : Around) (outer : List Env) (s : Shared) (H : Hp) (E : XK) (hr : Room 9 (A.deeper (envOfC "law" (defScope sLaw) s.heap.objs.size f cdv)))
    (hS : SqL K H a (ns.map V.int)) (hn : ns.length ≤ 63) : ∃ t, PSs (cxOf CX0 P w K mg base nL "law" (defScope sLaw) f cdv A outer s H E).nox (defBody sLaw) t ∧ t { nx := fun _ _ => V.non = V.bl true, rt := fun v _ => v = V.bl true } (start nL [.ref a]) H := by
  have T := M.N.A.D.M.T
  obtain ⟨_, _, dW⟩ := M.D.well
  obtain ⟨_, _, dD⟩ := M.D.draw
  obtain ⟨_, _, dO⟩ := M.D.one
  obtain ⟨_, _, dT⟩ := M.term
  obtain ⟨_, _, dC⟩ := M.clause
  obtain ⟨_, _, dX⟩ := M.odd
  obtain ⟨_, _, iT⟩ := M.isT
  obtain ⟨_, _, iC⟩ := M.isC
  obtain ⟨_, _, dU⟩ := M.due
  obtain ⟨_, _, dM⟩ := M.made
  obtain ⟨_, _, dR⟩ := M.right
  have GW : FnOk P w K mg base CX0 1 _ _ ["_law_cell"] spWell := ok_well dW.F M.D.T
  have GD : FnOk P w K mg base CX0 1 _ _ ["_law_well_here", "_law_base"] spDraw := ok_draw dD.F M.D.T
  have GO : FnOk P w K mg base CX0 2 _ _ ["_law_well_here", "_law_some"] (spOne K) := ok_one dO.F M.D.T dD.F dD.b dD.m
  have GC : FnOk P w K mg base CX0 4 _ _ ["_law_well_here"] (spClD K) := ok_clD dC dT M.D T M.rng M.ls
  have GX : FnOk P w K mg base CX0 3 _ _ ["_law_well_here", "_law_clause_here"] (spOdd K) := ok_odd dX M.D M.ls
  have GR : FnOk P w K mg base CX0 9 _ _ ["_law_some"] (spRight K) := ok_right dR dU iC iT dM M.N M.rng M.ls M.st M.rp
  have hr1 : Room 1 _ := hr.mono (by decide)
  have hr2 : Room 2 _ := hr.mono (by decide)
  have hr3 : Room 3 _ := hr.mono (by decide)
  have hr4 : Room 4 _ := hr.mono (by decide)
  have hu : (cxOf CX0 P w K mg base nL "law" (defScope sLaw) f cdv A outer s H E).nox.A.units + 64 < cLine := hr.units
  refine ⟨_, (pss_cons (ps_for PassesOwn.never rfl (pi_list (pe_op op_cat (pe_slice sl_list (pv 0) po_none (po_some pe_int)) (pe_lst (pa_cons pe_int pa_nil)))) (pg_name (i := 1) scL.nd rfl (Or.inl rfl)) (pss_cons (ps_set (i := 2) scL.nd rfl (Or.inr rfl) (pe_call GW hr1 (by rfl) dW.m dW.F.kp dW.b .nil pass0 (pa_cons (pv 1) pa_nil)))
      (pss_cons (ps_setLc (i := 3) (own := [("_law_k", 5)]) (g := gName 5) (tt := tYes) (te := tCall (spClD K) [] E0 (tCons (tVar 2) tNil)) rfl scL.nd rfl rfl (sw_true rfl rfl rfl rfl)
        (pi_range1 rfl M.rng (pa_cons (pe_call GO hr2 (by rfl) dO.m dO.F.kp dO.b .nil pass0 (pa_cons (pv 2) (pa_cons (pe_lst (pa_cons pe_int (pa_cons pe_int (pa_cons pe_int (pa_cons pe_int (pa_cons pe_int (pa_cons pe_int (pa_cons pe_int (pa_cons pe_int pa_nil))))))))) pa_nil))) pa_nil)) (blkOk_by (N := nL) (sc := defScope sLaw) (by decide +kernel))
        (fun _ _ _ _ _ => pg_name (i := 5) scL.nd rfl (Or.inl rfl)) (fun _ _ _ _ _ => pts_nil) (fun _ _ _ _ _ => pe_call GC hr4 (by rfl) dC.m dC.F.kp dC.b .nil pass0 (pa_cons (pv 2) pa_nil)))
      (pss_cons (ps_if (PW.pt (pw_and (pt_cmpR (op_neD hu) (pv 3) (pe_lst pa_nil) (nomark _)) (pw_and1 (pt_cmpR op_eq (pe_call GD hr1 (by rfl) dD.m dD.F.kp dD.b .nil pass0 (pa_cons (pv 2) (pa_cons pe_int pa_nil))) pe_int (nomark _))))) (pss_cons (ps_set (i := 4) scL.nd rfl (Or.inl rfl) (pe_call GD hr1 (by rfl) dD.m dD.F.kp dD.b .nil pass0 (pa_cons (pv 2) (pa_cons (pe_callB call_len_seq (by rfl) T.len PySem.boot_len (pa_cons (pv 3) pa_nil)) pa_nil))))
      (pss_one (ps_asg (pe_call GX hr3 (by rfl) dX.m dX.F.kp dX.b .nil pass0 (pa_cons (pv 2) (pa_cons (pe_ix ix_list (pv 3) (pv 4) (fun _ _ => rfl)) pa_nil))) (pg_sub (pv 3) (pv 4) set_list)))) pss_nil)
      (pss_one (ps_if (pt_not (pt_val (pe_call GR hr (by rfl) dR.m dR.F.kp dR.b .nil pass0 (pa_cons (pv 3) pa_nil)))) (pss_one (ps_ret pe_bl)) pss_nil))))))
      (pss_one (ps_ret (pe_and (pe_call GR hr (by rfl) dR.m dR.F.kp dR.b .nil pass0 (pa_cons (pe_lst pa_nil) pa_nil)) (pe_one (pe_call GR hr (by rfl) dR.m dR.F.kp dR.b .nil pass0 (pa_cons (pe_lst (pa_cons (pe_tup (pa_cons (pe_tup (pa_cons pe_str (pa_cons pe_str (pa_cons pe_int pa_nil)))) pa_nil)) pa_nil)) pa_nil))))))), ?_⟩
  have hc : ∀ v ∈ cutV (ns.map V.int) none (some 10) ++ [V.int 0], ∃ c, v = V.int c := by
    intro v hv
    rcases List.mem_append.mp hv with h | h
    · obtain ⟨c, _, e⟩ := List.mem_map.mp (cut_mem v h)
      exact ⟨c, e.symm⟩
    · exact ⟨0, by simpa using h⟩
  have hcl : (cutV (ns.map V.int) none (some 10)).length ≤ 63 := Nat.le_trans (cutV_length _ _ _) (by rw [List.length_map]; exact hn)
  refine ⟨_, rfl, _, rfl, a, _, rfl, hS, fun l0 n0 => ?_⟩
  refine ⟨by show 1 ≤ sizeLine; decide, fun l1 n1 => ?_⟩
  have e01 : l0 ≠ l1 := ne_of_none (o := .lst (cutV (ns.map V.int) none (some 10))) upd_same n1
  refine ⟨l0, l1, _, _, rfl, rfl, (by rw [upd_ne e01]; exact upd_same), upd_same, (Nat.le_of_lt (small1000 (by show _ + 1 ≤ 1000; omega))), fun l2 n2 => ?_⟩
  refine ⟨l2, rfl, ⟨_, SqL.of upd_same⟩, ?_⟩
  refine for_list (K := K) (a := l2) (xs := cutV (ns.map V.int) none (some 10) ++ [V.int 0])
    (fun i σ H2 => ∃ o1 o2 o3 o4 : Option V, σ = [some (.ref a), o1, o2, o3, o4, none] ∧ H2 l2 = some (.lst (cutV (ns.map V.int) none (some 10) ++ [V.int 0])))
    ⟨none, none, none, none, rfl, upd_same⟩ (fun i σ H2 _ ⟨_, _, _, _, _, h2⟩ => SqL.of h2) ?_ ?_
  · rintro i y σ H2 hi ⟨o1, o2, o3, o4, rfl, h2⟩
    obtain ⟨c, rfl⟩ := hc y (List.mem_of_getElem? hi)
    refine ⟨_, rfl, c, rfl, fun wl H3 nw s3 hW => ?_⟩
    have nl2 : l2 ≠ wl := ne_of_none h2 nw
    have h23 := s3 _ _ h2
    refine ⟨_, rfl, le_sz (Nat.le_of_ble_eq_true rfl), fun q hq => ?_⟩
    have W2 := hW.same (new_same (o := .lst [V.int 0, .int 1, .int 2, .int 3, .int 4, .int 4, .int 5, .int 6]) hq)
    refine ⟨wl, q, 0, _, rfl, W2, by decide, (hW.ne hq).symm, SqL.of upd_same, by decide, by decide, fun r v xs2 hv W3 => ?_⟩
    obtain ⟨j, rfl, hj0, hj6⟩ : ∃ j : Int, v = .int j ∧ 0 ≤ j ∧ j ≤ 6 := by
      have := List.mem_of_getElem? hv
      simp only [List.mem_cons, List.not_mem_nil, or_false] at this
      rcases this with h | h | h | h | h | h | h | h <;> exact ⟨_, h, by decide, by decide⟩
    have k3 : KeepB wl H3 (upd (upd H3 q (.lst [V.int 0, .int 1, .int 2, .int 3, .int 4, .int 4, .int 5, .int 6])) wl (.lst xs2)) := (KeepB.of (new_same hq)).trans KeepB.at
    refine ⟨_, rfl, by omega, by omega, ?_⟩
    generalize upd (upd H3 q (.lst [V.int 0, .int 1, .int 2, .int 3, .int 4, .int 4, .int 5, .int 6])) wl (.lst xs2) = H4 at W3 k3 ⊢
    have h24 := k3 _ _ nl2 h23
    intro D hD
    have nDw : D ≠ wl := W3.ne hD
    have nD2 : D ≠ l2 := fun z => by rw [z, h24] at hD; cases hD
    refine lc_range (lo := 0) (n := j.toNat) (fun i H5 => KeepB wl H4 H5 ∧ WellAt H5 wl (1 + 200 * i) ∧ ∃ ms cs, H5 D = some (.lst ms) ∧ IsAll K H5 ms (cs.map shC) ∧ cs.length = i ∧ ∀ c ∈ cs, 1 ≤ c.length ∧ c.length ≤ 3 ∧ goodC c)
      ⟨KeepB.of (new_same hD), (W3.same (new_same hD)).mono (by omega), [], [], upd_same, .nil, rfl, fun c hc => nomatch hc⟩ ?_ ?_
    · rintro i H5 hi ⟨k5, W5, ms, cs, gD, hms, hcl, hcs⟩
      refine ⟨rfl, yes_of ⟨_, rfl, wl, 1 + 200 * i, rfl, W5, by omega, fun t xs c H6 ht hx c1 c3 gc k6 W6 => ?_⟩⟩
      have gD6 := k6 D _ nDw gD
      have hml : ms.length = i := by rw [hms.length, List.length_map, hcl]
      refine ⟨ms, gD6, small1000 (by omega), (k5.trans k6).upd hD, (W6.upd nDw).mono (by omega), _, cs ++ [c], upd_same, ?_, by rw [List.length_append, hcl]; rfl, fun d hd => ?_⟩
      · rw [List.map_append]
        refine IsAll.keep gD6 upd_same KeepB.at ((IsAll.wk W5 W6 k6 hms).app (.cons (.tup ht hx ?_) .nil))
        rw [List.length_map]
        omega
      · rcases List.mem_append.mp hd with z | z
        · exact hcs d z
        · rw [List.mem_singleton.mp z]
          exact ⟨c1, c3, gc⟩
    · rintro H5 ⟨k5, W5, ms, cs, gD, hms, hcl, hcs⟩
      have h25 := k5 _ _ nl2 h24
      have hml : ms.length = cs.length := by rw [hms.length, List.length_map]
      have okc : okC cs := okC_of fun d hd => by
        obtain ⟨c, hc, rfl⟩ := List.mem_map.mp hd
        exact .tup _ (lits_ok (hcs c hc).2.2)
      have okd : ∀ d ∈ cs.map shC, OkS d := fun d hd => by
        obtain ⟨c, hc, rfl⟩ := List.mem_map.mp hd
        exact .tup _ (lits_ok (hcs c hc).2.2)
      have hpos : ∀ c ∈ cs, 1 ≤ c.length := fun c hc => (hcs c hc).1
      refine ⟨_, rfl, le_sz (Nat.le_of_ble_eq_true rfl), fun z hz => ?_⟩
      have sz := new_same (o := .lst []) hz
      have gD6 := sz _ _ gD
      have hms6 := hms.same sz
      have W6 := W5.same sz
      have h26 := sz _ _ h25
      refine ⟨_, _, .lst (SqL.of gD6) (dp_all (fun _ _ y => dp_cl y) (pairC hms6 hpos)), .lst (SqL.of upd_same) .nil, shaped_list okc, rfl, ?_⟩
      have ev : (PyData.eqv (.list (cs.map clD)) (.list [])) = decide (cs = []) := eqv_cls cs []
      rw [ev]
      generalize upd H5 z (.lst []) = H6 at gD6 hms6 W6 h26 ⊢
      have hl6 : (cs.map shC).length ≤ 6 := by rw [List.length_map]; omega
      by_cases hc0 : cs = []
      case pos =>
        rw [decide_eq_true hc0]
        exact ⟨_, rfl, iteF (iteF ⟨_, rfl, D, ms, _, rfl, SqL.of gD6, hms6, okd, hl6, fun H' s => ⟨_, rfl, iteF ⟨_, _, _, _, rfl, s _ _ h26⟩⟩⟩)⟩
      case neg =>
      rw [decide_eq_false hc0]
      have hpos2 : 0 < cs.length := List.length_pos_iff.mpr hc0
      refine ⟨_, rfl, iteT ⟨_, rfl, wl, 2, _, rfl, W6, by omega, by decide, by decide, fun r2 xs7 q0 q1 W7 => ⟨rfl, _, rfl, ?_⟩⟩⟩
      have k7 : KeepB wl H6 (upd H6 wl (.lst xs7)) := KeepB.at
      have hms7 := IsAll.wk W6 W7 k7 hms6
      have gD7 := k7 _ _ nDw gD6
      have h27 := k7 _ _ nl2 h26
      generalize upd H6 wl (.lst xs7) = H7 at W7 hms7 gD7 h27 ⊢
      by_cases h0 : r2 = 0
      case neg =>
        rw [show decide (V.int r2 = V.int 0) = false from decide_eq_false fun y => h0 (V.int.inj y)]
        exact iteF ⟨_, rfl, D, ms, _, rfl, SqL.of gD7, hms7, okd, hl6, fun H' s => ⟨_, rfl, iteF ⟨_, _, _, _, rfl, s _ _ h27⟩⟩⟩
      case pos =>
      rw [show decide (V.int r2 = V.int 0) = true from by rw [h0]; exact decide_eq_true rfl]
      refine iteT ⟨_, rfl, _, rfl, D, ms, rfl, .inl (SqL.of gD7), wl, _, _, rfl, W7, by omega, by omega, by omega, fun at3 xs8 q2 q3 W8 => ?_⟩
      have k8 : KeepB wl H7 (upd H7 wl (.lst xs8)) := KeepB.at
      have hms8 := IsAll.wk W7 W8 k8 hms7
      have gD8 := k8 _ _ nDw gD7
      have h28 := k8 _ _ nl2 h27
      generalize upd H7 wl (.lst xs8) = H8 at W8 hms8 gD8 h28 ⊢
      have hlt : at3.toNat < ms.length := by omega
      have hget : ms[at3.toNat]? = some (ms[at3.toNat]'hlt) := List.getElem?_eq_getElem hlt
      obtain ⟨d0, hd0, hi0⟩ := IsAll.get hms8 hget
      generalize ms[at3.toNat]'hlt = x0 at hget hi0
      rw [List.getElem?_map] at hd0
      obtain ⟨c0, hc0', rfl⟩ := Option.map_eq_some_iff.mp hd0
      obtain ⟨c1, c3, gc⟩ := hcs c0 (List.mem_of_getElem? hc0')
      obtain ⟨t0, xs0, rfl, ht0, hx0⟩ : ∃ t xs, x0 = V.ref t ∧ SqT K H8 t xs ∧ IsAll K H8 xs (c0.map shL) := by
        cases hi0 with
        | tup ha pa na => exact ⟨_, _, rfl, ha, pa⟩
      refine ⟨_, rfl, _, rfl, _, rfl, D, ms, at3, _, rfl, rfl, SqL.of gD8, at_of (j := at3.toNat) (by omega) hget, wl, t0, _, xs0, c0, rfl, W8, by omega, ht0, hx0, c1, c3, gc, fun vo H9 Tv k9 W9 => ?_⟩
      obtain ⟨dv, hdv, odv⟩ := Tv
      have gD9 := k9 _ _ nDw gD8
      have h29 := k9 _ _ nl2 h28
      have hms9 := IsAll.wk W8 W9 k9 hms8
      refine ⟨_, rfl, _, rfl, D, ms, at3, at3.toNat, rfl, rfl, gD9, by (unfold ixN; rw [if_pos q2, if_pos q3]), ?_⟩
      have kD : KeepB D H9 (upd H9 D (.lst (ms.set at3.toNat vo))) := KeepB.at
      have h210 := kD _ _ nD2.symm h29
      have hfin := IsAll.keep gD9 upd_same kD (IsAll.set at3.toNat hms9 hdv)
      refine ⟨_, rfl, D, _, _, rfl, SqL.of upd_same, hfin, fun d hd => ?_, by rw [List.length_set]; exact hl6, fun H' s => ⟨_, rfl, iteF ⟨_, _, _, _, rfl, s _ _ h210⟩⟩⟩
      rcases List.mem_or_eq_of_mem_set hd with y | y
      · exact okd d y
      · rw [y]
        exact odv
  · rintro σ H2 ⟨o1, o2, o3, o4, rfl, h2⟩
    refine ⟨le_sz (Nat.le_of_ble_eq_true rfl), fun l5 h5 => ?_⟩
    refine ⟨l5, [], [], rfl, SqL.of upd_same, .nil, fun d hd => (nomatch hd), by decide, fun H' s => ⟨_, rfl, iteT ?_⟩⟩
    refine ⟨le_sz (Nat.le_of_ble_eq_true rfl), fun t1 g1 => ⟨le_sz (Nat.le_of_ble_eq_true rfl), fun t2 g2 => ⟨le_sz (Nat.le_of_ble_eq_true rfl), fun l3 g3 => ?_⟩⟩⟩
    have gE : goodC [(("", "", 0) : Lit)] := fun l hl => by
      rw [List.mem_singleton.mp hl]
      exact ⟨⟨by decide, by decide +kernel⟩, ⟨by decide, by decide +kernel⟩⟩
    have i1 : Is K (upd H' t1 (.tup [.str "", .str "", .int 0])) (.ref t1) (shL ("", "", 0)) := is_lit (SqT.of upd_same) (gE _ List.mem_cons_self).1 (gE _ List.mem_cons_self).2
    have i2 : Is K (upd (upd H' t1 (.tup [.str "", .str "", .int 0])) t2 (.tup [.ref t1])) (.ref t2) (shC [("", "", 0)]) := .tup (SqT.of upd_same) (.cons (i1.same (new_same g2)) .nil) (by decide)
    exact ⟨l3, [.ref t2], [shC [("", "", 0)]], rfl, SqL.of upd_same, .cons (i2.same (new_same g3)) .nil, fun d hd => by (rw [List.mem_singleton.mp hd]; exact .tup _ (lits_ok gE)), by decide, fun H'' s'' => rfl⟩
end
end Kx
namespace Kx
open PySem L2 PySem.Spec PyProof.Rows
/-! the law's own call, by a caller around whom nothing is being shown -/
section
variable {P : Program} {w : World} {K : PySem.W.Frag} {mg mb : Str → Option Value} {fa a : Addr} {s : Shared} {vs : List Value} {ns : List Int}
abbrev oScript (vs : List Value) : Obj := { cls := .type "list", data := .seq vs.toArray }
/-- what may be tracked at the entry: the script, and nothing else -/
structure Entry (K : PySem.W.Frag) (H : Hp) (a : Addr) (vs : List Value) (ns : List Int) : Prop where
  only : ∀ b u, H b = some u → b = a ∧ u = .frz (oScript vs) (.lst (ns.map V.int)) ∧ K.lookup a = none
  seq : SqL K H a (ns.map V.int)
theorem entry_run {oc kV doc pm cdv ct : Value} {od an : Option Addr} {osl : Array (Option Value)} {H : Hp} (En : Entry K H a vs ns)
    (KX : K.In s.heap) (hns : s.heap.Ns mainGlobals mg) (hb : s.heap.Ns builtinsNs mb) (hbb : ∀ x : Str, x ≠ "__name__" → mb x = bootBuiltins x) (hlim : s.heap.NoLimit) (hg : s.gens = #[])
    (ha : s.heap.get? a = some (oScript vs)) (hi : IntsAre vs ns) (hl : ns.length ≤ 63)
    (lk : K.lookup fa = some ⟨oc, od, .func (PySem.W.fnOf "law" "law" (defArgs sLaw) (defBody sLaw) (defScope sLaw) .none kV doc pm an cdv ct), osl⟩) (hcd : PySem.W.codeIn K cdv "law" = true)
    (body : ∀ (base : Heap), K.In base → base.Ns mainGlobals mg → ∃ t, PSs (cxOf CX0 P w K mg base nL "law" (defScope sLaw) fa cdv callerA [] s H E0).nox (defBody sLaw) t ∧ t { nx := fun _ _ => V.non = V.bl true, rt := fun v _ => v = V.bl true } (start nL [.ref a]) H) :
    codeAny (model P w) callerA (.call (.ref fa) ⟨[.ref a], []⟩) (fun r s' => r = .ok (.ret (.bool true)) ∧ OldK s.heap s'.heap ∧ s'.os = s.os ∧ AllBare s'.gens) s := by
  have rv := vals_ints hi
  have free : ∀ {b : Addr} {o : Obj}, s.heap.get? b = some o → (b = a → o ≠ oScript vs) → H b = none := fun {b o} e d => by
    cases q : H b with
    | none => rfl
    | some u =>
      obtain ⟨rfl, _, _⟩ := En.only b u q
      rw [ha] at e
      exact absurd (Option.some.inj e).symm (d rfl)
  have freeD : ∀ {b : Addr} {o : Obj} {es : Array DictEntry} {ep : Nat}, s.heap.get? b = some o → o.data = .dict es ep → H b = none := fun {b o es ep} e d =>
    free e fun _ z => by
      rw [z] at d
      cases d
  have nsB : ∀ {b : Addr} {m : Str → Option Value}, s.heap.Ns b m → (hidT s.heap H).Ns b m := fun {b m} ⟨o, es, ep, e, d, r⟩ => ⟨o, es, ep, hidT_get e (freeD e d), d, r⟩
  have KB : K.In (hidT s.heap H) := fun b o e => hidT_get (KX b o e) (by
    cases q : H b with
    | none => rfl
    | some u =>
      obtain ⟨rfl, _, n⟩ := En.only b u q
      rw [n] at e
      cases e)
  have M : Mod K mg (hidT s.heap H) := ⟨KB, nsB hns, ⟨mb, nsB hb, hbb⟩, let ⟨mc, h1, h2⟩ := hlim; ⟨mc, nsB h1, h2⟩⟩
  have ok : HOk P w H s.heap := fun b u q => by
    obtain ⟨rfl, rfl, _⟩ := En.only b u q
    exact ⟨ha, by rw [List.length_map]; exact Nat.le_of_lt (small1000 (by omega)), vs, _, rv, ha⟩
  have e0 : Env0 P w K mg (hidT s.heap H) callerA [] s H := ⟨rfl, M, fun b o e => of_hidT e, Nat.le_of_eq (hidT_size _ _), trivial, fun b hb => absurd (show b ∈ ([] : List Addr) from hb) (by simp), ok, .of_eq hg⟩
  have F : FnScope nL ["_law_script"] (defScope sLaw) := scL
  have bd : BindsTo s (PySem.W.fnOf "law" "law" (defArgs sLaw) (defBody sLaw) (defScope sLaw) .none kV doc pm an cdv ct) ⟨[.ref a], []⟩ [("_law_script", .ref a)] := .of_eq rfl
  refine codeAny_call_function (by decide) (KX _ _ lk) rfl F.co F.gen rfl (PySem.W.codeRec_of KX hcd) (bd _ _ _ _ ?_)
  refine wpAny_newFunctionEnv_cells F.kind (fun y hy => ?_) fun env he s1 x => ?_
  · rw [List.mem_singleton.mp hy]
    exact .inl (by rfl)
  · subst he
    refine ⟨hlim.keeps x.toInCall.keep, codeAny_func ?_⟩
    obtain ⟨t, ht, hq⟩ := body _ KB (nsB hns)
    have I := inv_start (CX := CX0) (E := E0) (us := [.ref a]) (vs := [.ref a]) F (show callerA.handled = none from rfl) e0 rfl (.cons rfl .nil) x
    refine wpAny_mono (ht.run [] s1 _ H _ (I.wish _) hq) (fun fl s' hs => ?_) fun e s' hs => False.elim hs
    · cases fl with
      | ret u =>
        obtain ⟨v, σ', H', J, r, q⟩ := hs
        have q' : v = .bl true := q
        subst q'
        obtain rfl : u = Value.bool true := r
        refine ⟨rfl, OldK.of_keep fun b o e => ?_, J.os, J.bare⟩
        cases z : H b with
        | none => exact J.base.keep b o e z (fun y => absurd (show b ∈ ([] : List Addr) from y) (by simp)) (fun y => absurd (show b ∈ ([] : List Addr) from y) (by simp))
        | some u =>
          obtain ⟨rfl, rfl, _⟩ := En.only b u z
          obtain ⟨e2, _⟩ := J.hok b _ (J.base.frzs b _ _ z)
          rw [ha] at e
          cases e
          exact e2
      | next =>
        obtain ⟨_, _, _, q⟩ := hs
        cases (show V.non = V.bl true from q)
      | brk =>
        obtain ⟨_, _, _, q⟩ := hs
        exact False.elim q
      | cont =>
        obtain ⟨_, _, _, q⟩ := hs
        exact False.elim q
end
end Kx
namespace Kx
open PySem L2 PySem.Spec PyProof.Rows
/-! what the top has left, and the law's head -/
structure Law (K : PySem.W.Frag) (mg : Str → Option Value) (fa : Addr) : Prop where
  ex : ∃ (B CB fB C fI fE fL : Addr) (fdB fdI fdE fdL : FuncData), LawOf K mg B CB fB C fI fE fL fdB fdI fdE fdL
  fn : ∃ (oc kV doc pm cdv ct : Value) (od an : Option Addr) (osl : Array (Option Value)), K.lookup fa = some ⟨oc, od, .func (PySem.W.fnOf "law" "law" (defArgs sLaw) (defBody sLaw) (defScope sLaw) .none kV doc pm an cdv ct), osl⟩ ∧ PySem.W.codeIn K cdv "law" = true
theorem walk {l : PySem.W.OpenLaw} {q : Program} {loose : List Str} {XP : (Str → Option Value) → Heap → Prop} {YP : World → Heap → Prop} {d : DefRec} {K : Params → PySem.W.Frag} (hn : l.most = some 63) (hdf : d.params.defaults = [])
    (hY : ∀ (w : World) (h : Heap), YP w h → (K w.params).In h)
    (F : ∀ (w : World) (mg : Str → Option Value) (fa : Addr) (h : Heap), (K w.params).In h → h.Ns mainGlobals mg → mg d.name = some (.ref fa) → Law (K w.params) mg fa) :
    PySem.W.WalkO q loose XP YP l.row.toRowW d [] (fun f vs => PySem.call f vs) := by
  refine Att.attach_call hn hdf fun w s₀ s₁ mg mb fa o pm cd doc a vs ns G Y ho hd hcd hmg hobj hints hlen hg => ?_
  have KX := hY w _ Y
  obtain ⟨⟨B, CB, fB, C, fI, fE, fL, fdB, fdI, fdE, fdL, M⟩, ⟨oc, kV, dc, pm', cdv, ct, od, an, osl, lk, hc⟩⟩ := F w mg fa _ KX G.T.g hmg
  have go : ∀ H, Entry (K w.params) H a vs ns → _ := fun H En => entry_run (P := l.prog) (w := w) En KX G.T.g G.T.b G.T.builtins G.T.nolimit hg hobj hints hlen lk hc fun base _ _ =>
    law_body (P := l.prog) (w := w) (base := base) M fa cdv callerA [] s₁ H E0 (Room.deeper (k := 9) (A := callerA) ⟨rfl, by decide, by decide⟩ _) En.seq hlen
  cases hk : (K w.params).lookup a with
  | some ob =>
    have e := KX a ob hk
    rw [hobj] at e
    cases e
    exact go (fun _ => none) ⟨fun b u z => (by cases (show (none : Option HO) = some u from z)), .inr ⟨_, vs.toArray, _, hk, rfl, rfl, rfl, by rw [List.size_toArray, hints.length]; exact Nat.le_of_lt (small1000 (by omega)), by simpa using vals_ints hints⟩⟩
  | none =>
    refine go (fun b => if b = a then some (.frz (oScript vs) (.lst (ns.map V.int))) else none) ⟨fun b u z => ?_, .inl (.inr ⟨oScript vs, if_pos rfl⟩)⟩
    by_cases hb : b = a
    · have z' := (if_pos hb).symm.trans z
      exact ⟨hb, (Option.some.inj z').symm, hk⟩
    · have z' := (if_neg hb).symm.trans z
      cases z'
end Kx
namespace Kx
open PySem L2 PySem.Spec PyProof.Rows
section
variable {K : PySem.W.Frag} {mg : Str → Option Value} {h : Heap} {B C : Addr}
theorem ct_mk {nm q : Str} {N : Addr} {bs : List Value} {sn : List Str} {sub : List Value} {ab : Bool} {col : Option Bool} {dd : Option Addr} {k0 k1 k2 k3 k5 : Option Value}
    (x : K.lookup C = some (excClassObj nm q C N bs (.ref B :: veL) true sn sub ab col dd k0 k1 k2 k3 k5 "ValueError.__new__")) (sa : PySem.W.findIn K (.ref C) "__setattr__" = some (some (.builtin "object.__setattr__")))
    (ga : PySem.W.findIn K (.ref C) "__getattribute__" = some (some (.builtin "BaseException.__getattribute__"))) (gg : PySem.W.findIn K (.ref C) "__getattr__" = some none) (tyC : PySem.W.typeIn K (.ref C) = some (.type "type")) (kC : PySem.W.keepIn K (.ref C) = true)
    (hdC : PySem.W.hasDictIn K C = true) (ha : PySem.W.findIn K (.ref C) "__class__" = some (some (.builtin "object.__class__"))) : Ct K B C := ⟨⟨nm, q, N, bs, sn, sub, ab, col, dd, k0, k1, k2, k3, k5, x⟩, sa, ga, gg, tyC, kC, hdC, ha⟩
theorem def_mk {x : Str} {st : Stmt} {ps : List Str} {f : Addr} {oc : Value} {od an : Option Addr} {osl : Array (Option Value)} {kV doc pm cdv ct : Value} (X : K.In h) (G : h.Ns mainGlobals mg) (m : PySem.W.nsIn K mainGlobals x = some (some (.ref f)))
    (l : K.lookup f = some ⟨oc, od, .func (PySem.W.fnOf x x (defArgs st) (defBody st) (defScope st) .none kV doc pm an cdv ct), osl⟩) (c : PySem.W.codeIn K cdv x = true) (k : PySem.W.keepIn K (.ref f) = true)
    (b : ∀ (kV doc pm : Value) (an : Option Addr) (cdv ct : Value) (us : List Value), us.length = ps.length → bindArgs (PySem.W.fnOf x x (defArgs st) (defBody st) (defScope st) .none kV doc pm an cdv ct) ⟨us, []⟩ = pure (ps.zip us)) :
    ∃ f fd, Fs K mg x st ps f fd := ⟨f, _, fun_mk l c k, (fun_mk (st := st) l c k).binds b, PySem.W.mg_of X G m⟩
theorem bad_mk {CB f : Addr} {oc : Value} {od an : Option Addr} {osl : Array (Option Value)} {kV doc pm cdv ct : Value} (T : Ct K B CB) (iC : PySem.W.findIn K (.ref CB) "__init__" = some (some (.ref f))) (tI : PySem.W.typeIn K (.ref f) = some (.type "function"))
    (l : K.lookup f = some ⟨oc, od, .func (PySem.W.fnOf "__init__" "BadCond.__init__" (defArgs (inClass (top 3) 0)) (defBody (inClass (top 3) 0)) (defScope (inClass (top 3) 0)) .none kV doc pm an cdv ct), osl⟩) (c : PySem.W.codeIn K cdv "BadCond.__init__" = true) (k : PySem.W.keepIn K (.ref f) = true)
    (no : ∀ x ∈ ([("clause" : Str)] : List Str), PySem.W.findIn K (.ref CB) x = some none) (gm : mg "BadCond" = some (.ref CB)) : ∃ fd, Bad K mg B CB f fd :=
  ⟨_, T, no, iC, tI, fun_mk l c k, (fun_mk (st := inClass (top 3) 0) l c k).binds (fun _ _ _ _ _ _ us hl => match us, hl with | [_, _], _ => rfl), gm⟩
theorem eq_mk {f : Addr} {oc : Value} {od an : Option Addr} {osl : Array (Option Value)} {kV doc pm cdv ct : Value} (l : K.lookup f = some ⟨oc, od, .func (PySem.W.fnOf "__eq__" "Cond.__eq__" (defArgs sEqC) (defBody sEqC) (defScope sEqC) .none kV doc pm an cdv ct), osl⟩) (c : PySem.W.codeIn K cdv "Cond.__eq__" = true) (k : PySem.W.keepIn K (.ref f) = true) :
    ∃ fd, Fun K "__eq__" "Cond.__eq__" sEqC f fd ∧ Binds K fd ["self", "other"] [] := ⟨_, fun_mk l c k, (fun_mk (st := sEqC) l c k).binds (fun _ _ _ _ _ _ us hl => match us, hl with | [_, _], _ => rfl)⟩
theorem len_mk {f : Addr} {oc : Value} {od an : Option Addr} {osl : Array (Option Value)} {kV doc pm cdv ct : Value} (l : K.lookup f = some ⟨oc, od, .func (PySem.W.fnOf "__len__" "Cond.__len__" (defArgs sLenC) (defBody sLenC) (defScope sLenC) .none kV doc pm an cdv ct), osl⟩) (c : PySem.W.codeIn K cdv "Cond.__len__" = true) (k : PySem.W.keepIn K (.ref f) = true) :
    ∃ fd, Fun K "__len__" "Cond.__len__" sLenC f fd ∧ Binds K fd ["self"] [] := ⟨_, fun_mk l c k, (fun_mk (st := sLenC) l c k).binds (fun _ _ _ _ _ _ us hl => match us, hl with | [_], _ => rfl)⟩
theorem init_mk {f : Addr} {oc : Value} {od an : Option Addr} {osl : Array (Option Value)} {kV doc pm cdv ct : Value} (l : K.lookup f = some ⟨oc, od, .func (PySem.W.fnOf "__init__" "Cond.__init__" (defArgs sInit) (defBody sInit) (defScope sInit) .none kV doc pm an cdv ct), osl⟩) (c : PySem.W.codeIn K cdv "Cond.__init__" = true) (k : PySem.W.keepIn K (.ref f) = true) :
    ∃ fd, Fun K "__init__" "Cond.__init__" sInit f fd := ⟨_, fun_mk l c k⟩
end
theorem all_mk {K : PySem.W.Frag} {mg : Str → Option Value} {h : Heap} {B CB fB C fI fa fl fE fL : Addr} {t1 t2 t3 t4 : Tok} {oc kV doc pm cdv ct : Value} {od an0 : Option Addr} {osl : Array (Option Value)} (X : K.In h) (G : h.Ns mainGlobals mg)
    (mC : PySem.W.nsIn K mainGlobals "Cond" = some (some (.ref C))) (mCB : PySem.W.nsIn K mainGlobals "BadCond" = some (some (.ref CB))) (mB : PySem.W.nsIn K mainGlobals "ContractError" = some (some (.ref B))) (mLet : PySem.W.nsIn K mainGlobals "LETTERS" = some (some (.str lets t1))) (mLong : PySem.W.nsIn K mainGlobals "LONGEST_WORD" = some (some (.int 8 t2))) (mML : PySem.W.nsIn K mainGlobals "MOST_LITERALS" = some (some (.int 2 t3))) (mMC : PySem.W.nsIn K mainGlobals "MOST_CLAUSES" = some (some (.int 4 t4))) (z_isinstance : PySem.W.nsIn K mainGlobals "isinstance" = some none) (z_int : PySem.W.nsIn K mainGlobals "int" = some none) (z_bool : PySem.W.nsIn K mainGlobals "bool" = some none) (z_str : PySem.W.nsIn K mainGlobals "str" = some none) (z_tuple : PySem.W.nsIn K mainGlobals "tuple" = some none) (z_len : PySem.W.nsIn K mainGlobals "len" = some none) (z_all : PySem.W.nsIn K mainGlobals "all" = some none) (z_sorted : PySem.W.nsIn K mainGlobals "sorted" = some none) (z_enumerate : PySem.W.nsIn K mainGlobals "enumerate" = some none) (z_range : PySem.W.nsIn K mainGlobals "range" = some none) (z_list : PySem.W.nsIn K mainGlobals "list" = some none) (z_set : PySem.W.nsIn K mainGlobals "set" = some none) (z_repr : PySem.W.nsIn K mainGlobals "repr" = some none) (c1 : PySem.W.plainGet K C Str.empty = true) (c2 : PySem.W.hasDictIn K C = true) (c3 : PySem.W.plainOver K C = true) (c4 : PySem.W.findIn K (.ref C) "__setattr__" = some (some (.builtin "object.__setattr__"))) (nc : PySem.W.findIn K (.ref C) "clauses" = some none) (nt : PySem.W.findIn K (.ref C) "terms" = some none) (k1 : PySem.W.makesIn K C = true) (k2 : PySem.W.findIn K (.ref C) "__init__" = some (some (.ref fI))) (k3 : PySem.W.isFn K (.ref fI) = true) (k4 : PySem.W.keepIn K (.ref C) = true) (y1 : PySem.W.findIn K (.ref C) "__class__" = some (some (.builtin "object.__class__"))) (y2 : PySem.W.specialIn K (.builtin "object.__class__") "__get__" = some (some (.builtin "getset_descriptor.__get__"))) (y3 : PySem.W.takesIn K (.builtin "object.__class__") = some true) (y4 : PySem.W.mroIn K C (.type "object") = some true) (e1 : PySem.W.findIn K (.ref C) "__eq__" = some (some (.ref fE))) (e2 : PySem.W.isFn K (.ref fE) = true) (ln1 : PySem.W.findIn K (.ref C) "__len__" = some (some (.ref fL))) (ln2 : PySem.W.isFn K (.ref fL) = true) (sS : PySem.W.subIn K (.type "str") (.ref C) = some false) (sT : PySem.W.subIn K (.type "tuple") (.ref C) = some false) (kc : PySem.W.clsIn K C = some xcd) (kt2 : PySem.W.typeIn K (.ref C) = some (.type "type")) (xl : K.lookup C = some (excClassObj xnm xq C xN xbs [.type "object"] xhd xsn xsub xab xcol xdd xk0 xk1 xk2 xk3 xk5 xnew)) (xnl : K.lookup xN = some ⟨xa, xb, .dict xes xep, xsl⟩) (xna : (xes.all fun e => match e.key with | .str _ _ => true | _ => false) = true) (xe : PySem.W.nsIn K xN "__eq__" = some (some (.ref fE))) (xne : PySem.W.nsIn K xN "__ne__" = some none) (xf : K.lookup fE = some xo) (xfc : xo.cls = .type "function") (g3 : PySem.W.isClsIn K B = true) (g4 : PySem.W.typeIn K (.ref B) = some (.type "type")) (g5 : PySem.W.subIn K (.ref B) (.type "BaseException") = some true) (g6 : PySem.W.hasDictIn K B = true)
    (bad : mg "BadCond" = some (.ref CB) → ∃ fd, Bad K mg B CB fB fd) (ini : ∃ fd, Fun K "__init__" "Cond.__init__" sInit fI fd) (eqm : ∃ fd, Fun K "__eq__" "Cond.__eq__" sEqC fE fd ∧ Binds K fd ["self", "other"] []) (lnm : ∃ fd, Fun K "__len__" "Cond.__len__" sLenC fL fd ∧ Binds K fd ["self"] []) (d_int : ∃ f fd, Fs K mg "is_integer" sIsInt ["thing"] f fd) (d_word : ∃ f fd, Fs K mg "is_word" sIsWord ["thing"] f fd) (d_term : ∃ f fd, Fs K mg "is_term" sIsTerm ["thing"] f fd) (d_lit : ∃ f fd, Fs K mg "is_literal" sIsLit ["thing"] f fd) (d_litT : ∃ f fd, Fs K mg "is_literal_over_terms" sLitT ["thing"] f fd) (d_cl : ∃ f fd, Fs K mg "is_clause" sIsCl ["thing", "most"] f fd) (d_stand : ∃ f fd, Fs K mg "_can_stand" sStand ["thing"] f fd) (d_first : ∃ f fd, Fs K mg "_first_wrong" sFirst ["clauses"] f fd) (d_well : ∃ f fd, Fs K mg "_law_well" sWell ["_law_cell"] f fd) (d_draw : ∃ f fd, Fs K mg "_law_draw" sDraw ["_law_well_here", "_law_base"] f fd) (d_one : ∃ f fd, Fs K mg "_law_one" sOne ["_law_well_here", "_law_some"] f fd) (d_lterm : ∃ f fd, Fs K mg "_law_term" sTermD ["_law_well_here"] f fd) (d_lclause : ∃ f fd, Fs K mg "_law_clause" sClD ["_law_well_here"] f fd) (d_odd : ∃ f fd, Fs K mg "_law_odd" sOdd ["_law_well_here", "_law_clause_here"] f fd) (d_isT : ∃ f fd, Fs K mg "_law_is_term" sTermL ["_law_thing"] f fd) (d_isC : ∃ f fd, Fs K mg "_law_is_clause" sClL ["_law_thing"] f fd) (d_due : ∃ f fd, Fs K mg "_law_due" sDueL ["_law_some"] f fd) (d_made : ∃ f fd, Fs K mg "_law_made" sMadeL ["_law_some"] f fd) (d_right : ∃ f fd, Fs K mg "_law_is_right" sRight ["_law_some"] f fd)
    (hfa : mg "law" = some (.ref fa)) (mL : PySem.W.nsIn K mainGlobals "law" = some (some (.ref fl))) (lL : K.lookup fl = some ⟨oc, od, .func (PySem.W.fnOf "law" "law" (defArgs sLaw) (defBody sLaw) (defScope sLaw) .none kV doc pm an0 cdv ct), osl⟩) (cL : PySem.W.codeIn K cdv "law" = true) : Law K mg fa := by
  have e := hfa.symm.trans (PySem.W.mg_of X G mL)
  cases e
  obtain ⟨fdB, bad⟩ := bad (PySem.W.mg_of X G mCB)
  obtain ⟨fdI, ini⟩ := ini
  have kt : PySem.W.kitOne K (.ref C) (.ref C) = some true := by
    unfold PySem.W.kitOne
    rw [if_pos (beq_self_eq_true _)]
  have cl : Cls K C := ⟨c1, c2, c3, c4⟩
  have T : Bx mg := ⟨PySem.W.mg_none_of X G z_isinstance, PySem.W.mg_none_of X G z_int, PySem.W.mg_none_of X G z_bool, PySem.W.mg_none_of X G z_str, PySem.W.mg_none_of X G z_tuple, PySem.W.mg_none_of X G z_len, PySem.W.mg_none_of X G z_all, PySem.W.mg_none_of X G z_sorted, PySem.W.mg_none_of X G z_enumerate, ⟨_, PySem.W.mg_of X G mLet⟩, ⟨_, PySem.W.mg_of X G mLong⟩⟩
  have M : Forms K mg := ⟨T, ⟨_, PySem.W.mg_of X G mML⟩, ⟨_, PySem.W.mg_of X G mMC⟩, d_int, d_word, d_term, d_lit, d_cl, d_stand, d_litT⟩
  have D : Cnd K mg C := ⟨cl, nc, nt, PySem.W.mg_of X G mC, d_first, M⟩
  have A : CondAll K mg B CB fB C fI fdB fdI := ⟨D, bad, ini, ⟨k1, k2, k3, k4⟩, fun H a dx fs e => .base (.ins e cl y1 y2 y3 y4), kt⟩
  have gt : Gt K B := ⟨y2, y3, by unfold PySem.W.isClsIn at g3; exact g3, g4, g5, g6⟩
  obtain ⟨fdE, eq1, eq2⟩ := eqm
  obtain ⟨fdL, le1, le2⟩ := lnm
  have kS : PySem.W.kitOne K (.type "str") (.ref C) = some false := by
    unfold PySem.W.kitOne
    rw [if_neg (by simp)]
    unfold PySem.W.kitCls
    dsimp only
    rw [kc, kt2, sS]
    simp
  have kT : PySem.W.kitOne K (.type "tuple") (.ref C) = some false := by
    unfold PySem.W.kitOne
    rw [if_neg (by simp)]
    unfold PySem.W.kitCls
    dsimp only
    rw [kc, kt2, sT]
    simp
  have xn : PySem.W.nsOkIn K xN = true := by
    unfold PySem.W.nsOkIn
    rw [xnl]
    exact xna
  have EM : EqCls K C fE := ⟨e1, e2, ⟨_, _, _, _, _, _, _, _, _, _, _, _, _, _, _, _, xl, xn, xe, xne⟩, ⟨_, xf, xfc⟩, sS, sT⟩
  have N : RightOf K mg B CB fB C fI fE fL fdB fdI fdE fdL := ⟨A, eq1, eq2, EM, kS, kT, le1, le2, ln1, ln2, gt, PySem.W.mg_of X G mB⟩
  exact ⟨⟨B, CB, fB, C, fI, fE, fL, fdB, fdI, fdE, fdL, N, ⟨⟨PySem.W.mg_none_of X G z_int, PySem.W.mg_none_of X G z_len⟩, d_well, d_draw, d_one⟩, PySem.W.mg_none_of X G z_range, PySem.W.mg_none_of X G z_list, PySem.W.mg_none_of X G z_set, PySem.W.mg_none_of X G z_repr, d_lterm, d_lclause, d_odd, d_isT, d_isC, d_due, d_made, d_right⟩, ⟨oc, kV, doc, pm, cdv, ct, od, an0, osl, lL, cL⟩⟩
end Kx
open PySem PySem.W PyProof.Rows
set_option maxRecDepth 100000 in
set_option maxHeartbeats 0 in
theorem PySem.Challenge.cw_contractheirs_k01_conditions_made_holds : PySem.Challenge.rw_contractheirs_k01_conditions_made.Holds := by
  w_on; o_law; k_head; (case hw => w_witness2)
  k_fill
  refine Kx.walk (l := PySem.Challenge.rw_contractheirs_k01_conditions_made) rfl rfl (fun w h Y => PySem.W.kIn_of Y) ?F
  case F =>
    intro w mg fa h KX G hmg
    refine' Kx.all_mk KX G ?u_mC ?u_mCB ?u_mB ?u_mLet ?u_mLong ?u_mML ?u_mMC ?u_z_isinstance ?u_z_int ?u_z_bool ?u_z_str ?u_z_tuple ?u_z_len ?u_z_all ?u_z_sorted ?u_z_enumerate ?u_z_range ?u_z_list ?u_z_set ?u_z_repr ?u_c1 ?u_c2 ?u_c3 ?u_c4 ?u_nc ?u_nt ?u_k1 ?u_k2 ?u_k3 ?u_k4 ?u_y1 ?u_y2 ?u_y3 ?u_y4 ?u_e1 ?u_e2 ?u_ln1 ?u_ln2 ?u_sS ?u_sT ?u_kc ?u_kt2 ?u_xl ?u_xnl ?u_xna ?u_xe ?u_xne ?u_xf ?u_xfc ?u_g3 ?u_g4 ?u_g5 ?u_g6 (fun gm => Kx.bad_mk (Kx.ct_mk ?ux ?ua ?ub ?uc ?ue ?uf ?ug ?uh) ?ui ?uj ?uk ?ul ?um ?uo gm) (Kx.init_mk ?vii ?vij ?vik) (Kx.eq_mk ?vm0i ?vm0j ?vm0k) (Kx.len_mk ?vm1i ?vm1j ?vm1k) (Kx.def_mk KX G ?uda0 ?udb0 ?udc0 ?udd0 (fun _ _ _ _ _ _ us hl => match us, hl with | [_], _ => rfl)) (Kx.def_mk KX G ?uda1 ?udb1 ?udc1 ?udd1 (fun _ _ _ _ _ _ us hl => match us, hl with | [_], _ => rfl)) (Kx.def_mk KX G ?uda2 ?udb2 ?udc2 ?udd2 (fun _ _ _ _ _ _ us hl => match us, hl with | [_], _ => rfl)) (Kx.def_mk KX G ?uda3 ?udb3 ?udc3 ?udd3 (fun _ _ _ _ _ _ us hl => match us, hl with | [_], _ => rfl)) (Kx.def_mk KX G ?uda4 ?udb4 ?udc4 ?udd4 (fun _ _ _ _ _ _ us hl => match us, hl with | [_], _ => rfl)) (Kx.def_mk KX G ?uda5 ?udb5 ?udc5 ?udd5 (fun _ _ _ _ _ _ us hl => match us, hl with | [_, _], _ => rfl)) (Kx.def_mk KX G ?uda6 ?udb6 ?udc6 ?udd6 (fun _ _ _ _ _ _ us hl => match us, hl with | [_], _ => rfl)) (Kx.def_mk KX G ?uda7 ?udb7 ?udc7 ?udd7 (fun _ _ _ _ _ _ us hl => match us, hl with | [_], _ => rfl)) (Kx.def_mk KX G ?uda8 ?udb8 ?udc8 ?udd8 (fun _ _ _ _ _ _ us hl => match us, hl with | [_], _ => rfl)) (Kx.def_mk KX G ?uda9 ?udb9 ?udc9 ?udd9 (fun _ _ _ _ _ _ us hl => match us, hl with | [_, _], _ => rfl)) (Kx.def_mk KX G ?uda10 ?udb10 ?udc10 ?udd10 (fun _ _ _ _ _ _ us hl => match us, hl with | [_, _], _ => rfl)) (Kx.def_mk KX G ?uda11 ?udb11 ?udc11 ?udd11 (fun _ _ _ _ _ _ us hl => match us, hl with | [_], _ => rfl)) (Kx.def_mk KX G ?uda12 ?udb12 ?udc12 ?udd12 (fun _ _ _ _ _ _ us hl => match us, hl with | [_], _ => rfl)) (Kx.def_mk KX G ?uda13 ?udb13 ?udc13 ?udd13 (fun _ _ _ _ _ _ us hl => match us, hl with | [_, _], _ => rfl)) (Kx.def_mk KX G ?uda14 ?udb14 ?udc14 ?udd14 (fun _ _ _ _ _ _ us hl => match us, hl with | [_], _ => rfl)) (Kx.def_mk KX G ?uda15 ?udb15 ?udc15 ?udd15 (fun _ _ _ _ _ _ us hl => match us, hl with | [_], _ => rfl)) (Kx.def_mk KX G ?uda16 ?udb16 ?udc16 ?udd16 (fun _ _ _ _ _ _ us hl => match us, hl with | [_], _ => rfl)) (Kx.def_mk KX G ?uda17 ?udb17 ?udc17 ?udd17 (fun _ _ _ _ _ _ us hl => match us, hl with | [_], _ => rfl)) (Kx.def_mk KX G ?uda18 ?udb18 ?udc18 ?udd18 (fun _ _ _ _ _ _ us hl => match us, hl with | [_], _ => rfl)) hmg ?umL ?ulL ?ucL
    (case u_mC => k_is)
    (case u_mCB => k_is)
    (case u_mB => k_is)
    (case u_mLet => k_is)
    (case u_mLong => k_is)
    (case u_mML => k_is)
    (case u_mMC => k_is)
    (case u_z_isinstance => k_is)
    (case u_z_int => k_is)
    (case u_z_bool => k_is)
    (case u_z_str => k_is)
    (case u_z_tuple => k_is)
    (case u_z_len => k_is)
    (case u_z_all => k_is)
    (case u_z_sorted => k_is)
    (case u_z_enumerate => k_is)
    (case u_z_range => k_is)
    (case u_z_list => k_is)
    (case u_z_set => k_is)
    (case u_z_repr => k_is)
    (case u_c1 => k_is)
    (case u_c2 => k_is)
    (case u_c3 => k_is)
    (case u_c4 => k_is)
    (case u_nc => k_is)
    (case u_nt => k_is)
    (case u_k1 => k_is)
    (case u_k2 => k_is)
    (case u_k3 => k_is)
    (case u_k4 => k_is)
    (case u_y1 => k_is)
    (case u_y2 => k_is)
    (case u_y3 => k_is)
    (case u_y4 => k_is)
    (case u_e1 => k_is)
    (case u_e2 => k_is)
    (case u_ln1 => k_is)
    (case u_ln2 => k_is)
    (case u_sS => k_is)
    (case u_sT => k_is)
    (case u_kc => k_is)
    (case u_kt2 => k_is)
    (case u_xl => k_is)
    (case u_xnl => k_is)
    (case u_xna => simp)
    (case u_xe => k_is)
    (case u_xne => k_is)
    (case u_xf => k_is)
    (case u_xfc => rfl)
    (case u_g3 => k_is)
    (case u_g4 => k_is)
    (case u_g5 => k_is)
    (case u_g6 => k_is)
    (case ux => k_is)
    (case ua => k_is)
    (case ub => k_is)
    (case uc => k_is)
    (case ue => k_is)
    (case uf => k_is)
    (case ug => k_is)
    (case uh => k_is)
    (case ui => k_is)
    (case uj => k_is)
    (case uk => k_is)
    (case ul => k_is)
    (case um => k_is)
    (case uo => (intro x hx; cases List.mem_singleton.mp hx; k_is))
    (case vii => k_is)
    (case vij => k_is)
    (case vik => k_is)
    (case vm0i => k_is)
    (case vm0j => k_is)
    (case vm0k => k_is)
    (case vm1i => k_is)
    (case vm1j => k_is)
    (case vm1k => k_is)
    (case uda0 => k_is)
    (case udb0 => k_is)
    (case udc0 => k_is)
    (case udd0 => k_is)
    (case uda1 => k_is)
    (case udb1 => k_is)
    (case udc1 => k_is)
    (case udd1 => k_is)
    (case uda2 => k_is)
    (case udb2 => k_is)
    (case udc2 => k_is)
    (case udd2 => k_is)
    (case uda3 => k_is)
    (case udb3 => k_is)
    (case udc3 => k_is)
    (case udd3 => k_is)
    (case uda4 => k_is)
    (case udb4 => k_is)
    (case udc4 => k_is)
    (case udd4 => k_is)
    (case uda5 => k_is)
    (case udb5 => k_is)
    (case udc5 => k_is)
    (case udd5 => k_is)
    (case uda6 => k_is)
    (case udb6 => k_is)
    (case udc6 => k_is)
    (case udd6 => k_is)
    (case uda7 => k_is)
    (case udb7 => k_is)
    (case udc7 => k_is)
    (case udd7 => k_is)
    (case uda8 => k_is)
    (case udb8 => k_is)
    (case udc8 => k_is)
    (case udd8 => k_is)
    (case uda9 => k_is)
    (case udb9 => k_is)
    (case udc9 => k_is)
    (case udd9 => k_is)
    (case uda10 => k_is)
    (case udb10 => k_is)
    (case udc10 => k_is)
    (case udd10 => k_is)
    (case uda11 => k_is)
    (case udb11 => k_is)
    (case udc11 => k_is)
    (case udd11 => k_is)
    (case uda12 => k_is)
    (case udb12 => k_is)
    (case udc12 => k_is)
    (case udd12 => k_is)
    (case uda13 => k_is)
    (case udb13 => k_is)
    (case udc13 => k_is)
    (case udd13 => k_is)
    (case uda14 => k_is)
    (case udb14 => k_is)
    (case udc14 => k_is)
    (case udd14 => k_is)
    (case uda15 => k_is)
    (case udb15 => k_is)
    (case udc15 => k_is)
    (case udd15 => k_is)
    (case uda16 => k_is)
    (case udb16 => k_is)
    (case udc16 => k_is)
    (case udd16 => k_is)
    (case uda17 => k_is)
    (case udb17 => k_is)
    (case udc17 => k_is)
    (case udd17 => k_is)
    (case uda18 => k_is)
    (case udb18 => k_is)
    (case udc18 => k_is)
    (case udd18 => k_is)
    (case umL => k_is)
    (case ulL => k_is)
    (case ucL => k_is)
