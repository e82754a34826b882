import PyProof.Rows.All
import Wide.All
import OpenK.AllK
import Wide.FinOn
import HandS.ForMost
import HandS.SetBool
import HandS.SetTxt0
import HandS.Strs
import KE.GoesMore
import HandS.Iter
import HandS.ForExc
import HandS.Wide
import HandS.IsInst
import HandS.Flow
import HandS.Walk
import HandS.Text
import HandS.Conv
import HandS.Star
import HandS.TupAny
import HandS.ExcInit
import HandS.ExcValue
import HandS.ExcCtx
import HandS.HotCalls
import HandS.ExcIs
import HandS.ExcField
import KE.KExcIs
import OpenK.KMeth
import HandS.Deep
import HandS.OwnEq
import PyProof.InstNe
import OpenK.KOwn
import OpenK.KOps
import HandS.ClsMeth
import HandS.Defaults
import HandS.Lambda
import PyProof.ListStr
import HandS.Style
import HandS.EndTab
import KE.KNest
import PySem.Challenge.RW_contractheirs_k04_between_and_equal
set_option Elab.async false
set_option linter.all false
set_option maxRecDepth 100000
set_option maxHeartbeats 8000000
namespace Kx
open PySem L2 PySem.Spec PyProof.Rows PySem.Froz
/-! sets of texts that can be walked and sorted -/
structure GoodX (P : Program) (w : World) (D : SD) (l : List Str) : Prop where
  tx : TxOk P w D l
  nd : l.Nodup
  ris : Ris D.2.2.place.toList
  led : w.params.followText "set-order" = true ∨ D.2.2.led = true
theorem tailTx_ris {ep : Nat} {es : Array (Int × Value)} {t : SetTable} {b : Bool} (r : Ris t.place.toList) : Ris (tailTx ep es t b).2.2.place.toList := by
  unfold tailTx
  by_cases c : (!b && t.tooFull) = true
  · rw [if_pos c]; exact relayAll_ris _ _ _
  · rw [if_neg c]; exact r
theorem tailTx_led {ep : Nat} {es : Array (Int × Value)} {t : SetTable} {b : Bool} : (tailTx ep es t b).2.2.led = t.led := by
  unfold tailTx
  by_cases c : (!b && t.tooFull) = true
  · rw [if_pos c]; exact relayAll_led _ _ _
  · rw [if_neg c]
theorem off_ris {t : SetTable} (r : Ris t.place.toList) : Ris (if t.plain = true then { t with plain := false } else t).place.toList := by
  by_cases c : t.plain = true
  · rw [if_pos c]; exact r
  · rw [if_neg c]; exact r
theorem off_led {t : SetTable} : (if t.plain = true then { t with plain := false } else t).led = t.led := by
  by_cases c : t.plain = true
  · rw [if_pos c]
  · rw [if_neg c]
theorem addTx_ris {hh : Int} {v : Value} {D : SD} (r : Ris D.2.2.place.toList) : Ris (addTx hh v D).2.2.place.toList := by
  unfold addTx
  exact tailTx_ris (off_ris (layNew_ris _ _ _ _ r))
theorem addTx_led {hh : Int} {v : Value} {D : SD} : (addTx hh v D).2.2.led = D.2.2.led := by
  unfold addTx
  rw [tailTx_led, off_led, layNew_led]
theorem GoodX.add {P : Program} {w : World} {D : SD} {l : List Str} {k : Str} (u : Tok) (G : GoodX P w D l) (hk : k ∉ l) : GoodX P w (addTx (hashStr w k) (.str k u) D) (k :: l) :=
  ⟨add_ok u G.tx, List.nodup_cons.mpr ⟨hk, G.nd⟩, addTx_ris G.ris, G.led.imp id fun z => by rw [addTx_led]; exact z⟩
section
variable {P : Program} {w : World} {A : Around} {E : Value → Shared → Prop} {s : Shared}
theorem add_old {a : Addr} {D : SD} {l : List Str} {k : Str} {u : Tok} {Q : Bool → Shared → Prop} (ho : s.heap.get? a = some (sObj "set" D)) (F : TxOk P w D l) (hk : k ∈ l) (hb : l.length < scanBound)
    (h : Q false s) : wpAny (model P w) A (setAddHashed a (.str k u) (hashStr w k)) Q E s := by
  obtain ⟨es, ep, t⟩ := D
  have hd : (sObj "set" (es, ep, t)).data = .set es ep t := rfl
  have hf : t.fits es.size = true := F.fit
  have he : ElemsOf (strKind P w) es.toList := F.el
  have hz : es.size < scanBound := by rw [show es.size = l.length from F.sz]; exact hb
  unfold setAddHashed setAddHashedIn
  refine wpAny_holding (wpAny_bind (wpAny_setState_of ho hd hf ?_))
  dsimp only
  rw [byScan_of rfl hz he]
  simp only [↓reduceIte]
  unfold setAddByScan
  refine wpAny_bind (wpAny_bind (wpAny_rule (wpAny_bind (wpAny_setScan_of (knd := strKind P w) (k := k) (is_str k u) ho hd hf he ?_))))
  cases hr : List.findIdx? (fun e => (strKind P w).is k e.2) es.toList with
  | some j => exact wpAny_pure (wpAny_pure h)
  | none =>
    obtain ⟨e, hm, q⟩ := (F.mem k).mp hk
    have c := List.findIdx?_eq_none_iff.mp hr e hm
    rw [q] at c
    cases c
end
/-- the set of texts at a: its members, each once -/
def TxAt (P : Program) (w : World) (h : Heap) (a : Addr) (l : List Str) : Prop := ∃ D, h.get? a = some (sObj "set" D) ∧ GoodX P w D l
/-- a text put into a list of texts -/
def put (l : List Str) (k : Str) : List Str := if k ∈ l then l else k :: l
theorem mem_put {l : List Str} {k x : Str} : x ∈ put l k ↔ x ∈ l ∨ x = k := by
  unfold put
  by_cases h : k ∈ l
  · rw [if_pos h]
    exact ⟨.inl, fun z => z.elim id fun e => e ▸ h⟩
  · rw [if_neg h, List.mem_cons]
    exact Or.comm
theorem put_len {l : List Str} {k : Str} : (put l k).length ≤ l.length + 1 := by
  unfold put
  by_cases h : k ∈ l
  · rw [if_pos h]; exact Nat.le_succ _
  · rw [if_neg h]; exact Nat.le_refl _
section
variable {P : Program} {w : World} {A : Around} {E : Value → Shared → Prop} {s : Shared}
theorem txAt_new {h : Heap} : TxAt P w (h.push { cls := .type "set", dict := none, data := .set #[] 0 (.fresh 0 0 (!w.params.followText "set-order")) }) h.objs.size [] :=
  ⟨(#[], 0, .fresh 0 0 (!w.params.followText "set-order")), Heap.get?_push_size _ rfl, TxOk.nil rfl, List.nodup_nil, List.Pairwise.nil, by
    show _ ∨ (!w.params.followText "set-order") = true
    cases w.params.followText "set-order"
    · exact .inr rfl
    · exact .inl rfl⟩
/-- found.add(k) -/
theorem tx_add {a : Addr} {l : List Str} {k : Str} {u : Tok} {Q : Value → Shared → Prop} (R : TxAt P w s.heap a l) (room : l.length + 1 < scanBound)
    (hQ : ∀ h' : Heap, Heap.SameBut a s.heap h' → TxAt P w h' a (put l k) → Q .none { s with heap := h', toks := s.toks + 1 }) :
    wpAny (model P w) A (call (.builtin "set.add") [.ref a, .str k u]) Q E s := by
  obtain ⟨D, ho, G⟩ := R
  have hT : s.TypeIs (.ref a) "set" := ⟨_, ho, rfl⟩
  refine wpAny_call_entry F.slot_set_add hT F.entry_set_add ?_ (F.args_set_add_2 _ _)
  unfold Builtin.«set.add» Builtin.Frozenset.oneOther
  simp only [List.isEmpty_nil, bind_assoc]
  unfold Builtin.Frozenset.addrOf setAdd
  refine wpAny_bind (wpAny_pure ?_)
  try dsimp only
  refine wpAny_bind (wpAny_pure ?_)
  try dsimp only
  refine wpAny_bind (wpAny_holding (wpAny_bind ((strKind P w).pyHash (is_str k u) ?_)))
  by_cases hk : k ∈ l
  · refine add_old (s := { s with toks := s.toks + 1 }) ho G.tx hk (by omega) ?_
    have q := hQ s.heap (Heap.SameBut.refl a s.heap) ⟨D, ho, by unfold put; rw [if_pos hk]; exact G⟩
    show wpAny _ _ (ret Value.none) _ _ _
    exact wpAny_pure ⟨_, rfl, q⟩
  · refine add_x (s := { s with toks := s.toks + 1 }) ho G.tx hk room ?_
    have q := hQ _ (Heap.SameBut.update s.heap a (fun _ => sObj "set" (addTx (hashStr w k) (.str k u) D))) ⟨_, get_upd _ ho rfl, by unfold put; rw [if_neg hk]; exact G.add u hk⟩
    show wpAny _ _ (ret Value.none) _ _ _
    exact wpAny_pure ⟨_, rfl, q⟩
theorem strs_of_kind {l : List Str} {D : SD} (F : TxOk P w D l) : ∀ v ∈ D.1.toList.map (·.2), ∃ x t, v = Value.str x t := fun v hv => by
  obtain ⟨e, he, rfl⟩ := List.mem_map.mp hv
  obtain ⟨⟨k, h1, _⟩, _⟩ := F.el e he
  obtain ⟨t, z⟩ := Value.isStrOf_shape (x := k) (v := e.2) h1
  exact ⟨k, t, z⟩
def txt : Value → Str
  | .str x _ => x
  | _ => ⟨#[]⟩
theorem strsAre_txt : ∀ {vs : List Value}, (∀ v ∈ vs, ∃ x t, v = Value.str x t) → StrsAre vs (vs.map txt)
  | [], _ => .nil
  | v :: vs, h => by
    obtain ⟨x, t, rfl⟩ := h v List.mem_cons_self
    exact .cons x t (strsAre_txt fun u hu => h u (List.mem_cons_of_mem _ hu))
theorem perm_of_sub : ∀ {l m : List Str}, l.Nodup → (∀ x ∈ l, x ∈ m) → m.length = l.length → m.Perm l
  | [], m, _, _, h => by
    rw [List.eq_nil_of_length_eq_zero h]
  | x :: l, m, nd, sub, h => by
    obtain ⟨n1, n2⟩ := List.nodup_cons.mp nd
    have hx : x ∈ m := sub x List.mem_cons_self
    have p := List.perm_cons_erase hx
    have hl : (m.erase x).length = l.length := by
      have q := p.length_eq
      rw [List.length_cons] at q h
      omega
    refine p.trans (List.Perm.cons x (perm_of_sub n2 (fun y hy => ?_) hl))
    have ne : y ≠ x := fun e => n1 (e ▸ hy)
    exact (List.mem_erase_of_ne ne).mpr (sub y (List.mem_cons_of_mem _ hy))
/-- sorted(found), fewer than 64 members -/
theorem tx_sorted {a : Addr} {l : List Str} {Q : Value → Shared → Prop} (R : TxAt P w s.heap a l) (hh : A.handled = none) (h64 : l.length < 64)
    (hQ : ∀ (s' : Shared) (p : Addr) (out : Array Value) (c : Nat) (ys : List Str), (∀ b o, s.heap.get? b = some o → s'.heap.get? b = some o) → s'.gens = s.gens → s'.os = s.os → s.heap.objs.size ≤ p →
      s'.heap.get? p = some (seqObj "list" out c) → StrsAre out.toList ys → sortedS ys = true → ys.Perm l → Q (.ref p) s') :
    wpAny (model P w) A (call (.builtin "sorted") [.ref a]) Q E s := by
  obtain ⟨⟨es, ep, t⟩, ho, G⟩ := R
  have hz : es.size = l.length := G.tx.sz
  have lim : scanBound > 64 := by decide
  refine Calls.call_function_entry kind_sorted plain_sorted entry_sorted (args_sorted1 _) ?_
  unfold Builtin.«sorted»
  refine wpAny_bind (m := checkCount "sorted" 1 1 _) (wpAny_pure ?_)
  refine wpAny_bind (collect_set (A := A.in1) hh ⟨_, ho, rfl, rfl⟩ G.tx.fit (by show es.size < _; omega) G.ris G.led fun s1 vs k1 z1 g1 o1 pm => ?_)
  have pm' : vs.Perm (es.toList.map (·.2)) := pm
  have hvl : vs.length = l.length := by rw [pm'.length_eq, List.length_map, Array.length_toList]; exact hz
  have hstr : ∀ v ∈ vs, ∃ x t, v = Value.str x t := fun v hv => strs_of_kind G.tx v (pm'.mem_iff.mp hv)
  have hS := strsAre_txt hstr
  have hperm : (vs.map txt).Perm l := (pm'.map txt).trans <| perm_of_sub G.nd (fun x hx => by
      obtain ⟨e, he, q⟩ := (G.tx.mem x).mp hx
      obtain ⟨t', z⟩ := Value.isStrOf_shape (x := x) (v := e.2) q
      exact List.mem_map.mpr ⟨e.2, List.mem_map.mpr ⟨e, he, rfl⟩, by rw [z]; rfl⟩) (by rw [List.length_map, List.length_map, Array.length_toList]; exact hz)
  refine wpAny_bind (wpAny_newList ?_ (by rw [hvl, sizeLine_eq]; omega))
  have hoL : (s1.heap.push (seqObj "list" vs.toArray 0)).get? s1.heap.objs.size = some (seqObj "list" vs.toArray 0) := Heap.get?_push_size _ rfl
  refine wpAny_bind (wpAny_holding (wpAny_call_entry slot_list_sort ⟨_, hoL, rfl⟩ entry_list_sort
    (list_sort_treeK strKind_oneLt hoL hS.keysOf (fun v₁ v₂ rest e => keyKind_strs (by rw [← e]; exact hS)) (by rw [hvl]; exact h64) fun st' a1 a2 => ⟨_, rfl, ?_⟩) (args_list_sort _)))
  obtain ⟨ys, b1, b2, b3⟩ := sorted_out_str hS a1 a2
  obtain ⟨c, hc⟩ := sortedHeap_at (vs := vs) (out := (arrOf st').map (·.2)) hoL
  refine wpAny_pure ⟨_, rfl, hQ _ s1.heap.objs.size _ c ys (fun b u e => ?_) g1 o1 z1 hc b1 b3 (b2.trans hperm)⟩
  have q := k1 b u e
  have hlt := Heap.lt_size q
  show (sortedHeap (s1.heap.push (seqObj "list" vs.toArray 0)) s1.heap.objs.size vs _).get? b = some u
  rw [sortedHeap_old (Nat.ne_of_lt hlt) (by rw [size_push']; exact Nat.lt_succ_of_lt hlt)]
  exact Heap.get?_push_of_some _ q
end
/-! ### as tracked things -/
def SetX (P : Program) (w : World) (a : Addr) (l : List Str) : HO := .ext fun h => TxAt P w h a l
theorem setX_new {w : World} {P : Program} {H : Hp} {h : Heap} {a : Addr} {l : List Str} (R : TxAt P w h a l) : ObjOk P w H h a (SetX P w a l) := by
  obtain ⟨D, ho, G⟩ := R
  exact ⟨⟨D, ho, G⟩, ⟨_, ho⟩, fun h1 h2 p k => let ⟨D', ho', G'⟩ := p; ⟨D', k _ ho', G'⟩⟩
section
variable {X : Cx}
theorem setX_get {pins : List (Addr × Obj)} {σ : L2.St} {H : Hp} {s : Shared} {a : Addr} {l : List Str} (I : Inv X pins σ H s) (ha : H a = some (SetX X.prog X.w a l)) : TxAt X.prog X.w s.heap a l := (I.hok a _ ha).1
theorem addX_ok {pins : List (Addr × Obj)} {σ : L2.St} {H : Hp} {s : Shared} {E : Value → Shared → Prop} {D : Addr} {l : List Str} {k : Str} {u : Tok} {Q : Value → Shared → Prop} (I : Inv X pins σ H s) (hD : H D = some (SetX X.prog X.w D l)) (room : l.length + 1 < scanBound)
    (h : ∀ s', Inv X pins σ (upd H D (SetX X.prog X.w D (put l k))) s' → Q .none s') : wpAny (model X.prog X.w) X.A (call (.builtin "set.add") [.ref D, .str k u]) Q E s := by
  refine tx_add (setX_get I hD) room fun h' sb new => ?_
  have he : ∃ u, h'.get? D = some u := let ⟨_, ho, _⟩ := new; ⟨_, ho⟩
  exact h _ (I.write (e := D) (t' := s.toks + 1) (by rw [hD]; trivial) (.inl rfl) (fun b u hb hu => (sb.2 b hb).trans hu) he (setX_new new))
def rSortedX (P : Program) (w : World) : List V → Hp → VK → Prop := fun vs H Q => ∃ (a : Addr) (l : List Str), vs = [V.ref a] ∧ H a = some (SetX P w a l) ∧ l.length < 64 ∧
  ∀ (ys : List Str) (p : Addr), sortedS ys = true → ys.Perm l → H p = none → Q (.ref p) (upd H p (.lst (ys.map V.str)))
theorem cr_sortedX (hc : X.calm = true) : CallR X (.builtin "sorted") (rSortedX X.prog X.w) := by
  intro pins s σ H vs us Q I r h
  obtain ⟨a, l, rfl, ha, h64, q⟩ := h
  rw [Vals.ref1 r]
  refine tx_sorted (setX_get I ha) (I.ok.hd hc) h64 fun s' p out c ys k g o hp hg hi hs hl => ?_
  have hlen : (ys.map V.str).length ≤ sizeLine := by rw [List.length_map, hl.length_eq, sizeLine_eq]; omega
  have hn : H p = none := I.hok.fresh hp
  have J : Inv X pins σ (upd H p (.lst (ys.map V.str))) { s with heap := s'.heap, gens := s'.gens, drawn := s'.drawn, toks := s'.toks } :=
    I.call (ch := []) (Un.laid k hp hn) (I.hok.laid k hp ⟨hlen, out.toList, c, vals_of_strs hi, hg⟩) (by rw [g]; exact I.bare) (fun _ z => nomatch z)
  have e : s' = { s with heap := s'.heap, gens := s'.gens, drawn := s'.drawn, toks := s'.toks } := by
    cases s'; cases s; cases o; rfl
  rw [e]
  exact ⟨.ref p, _, J, rfl, q ys p hs hl hn⟩
end
end Kx
namespace Kx
open PySem L2 PySem.Spec PyProof.Rows PpSet
/-! set comprehensions of texts, with several clauses -/
/-- one turn of a clause, whatever is done with an element that passes -/
def turnOf (tg : Expr) (pos : Pos) (ifs : List Expr) (body : Sem Unit) (c : Expr) (j : Nat) (it acc : Value) (env : Env) : Sem Fin := do
  standAt pos
  match ← pyNext it with
  | none => pure (.done .next)
  | some v =>
    letOwnedTupleGo tg it v
    assign tg env v
    let mut ok := true
    for c in ifs do
      if ok then ok ← isTrue c env (eval c env)
    if ok then body
    again (.compLoop c j it acc env)
abbrev testsOf (ifs : List Expr) (env : Env) : Sem Bool := forIn ifs true fun c r => if r = true then do let ok ← isTrue c env (eval c env); pure (ForInStep.yield ok) else pure (ForInStep.yield r)
section
variable {P : Program} {w : World} {A : Around} {R : Result → Shared → Prop} {s : Shared} {elt tg : Expr} {gs : List Comprehension} {scope : Scope} {cp : Pos} {j : Nat} {ifs : List Expr} {pos : Pos} {it acc : Value} {env : Env} {body : Sem Unit}
abbrev NoE : Value → Shared → Prop := fun _ _ => False
theorem loop_gen (hturn : compTurn (.SetComp elt gs scope cp) j it acc env = turnOf tg pos ifs body (.SetComp elt gs scope cp) j it acc env) (I : Nat → Shared → Prop)
    (turn : ∀ n s, I n s → wpAny (model P w) A (pyNext it) (fun r s1 => match r with
      | none => R (.ok .next) s1
      | some v => wpAny (model P w) A (letOwnedTupleGo tg it v) (fun _ s2 => wpAny (model P w) A (assign tg env v) (fun _ s3 => wpAny (model P w) A (testsOf ifs env) (fun ok s4 =>
          if ok = true then wpAny (model P w) A body (fun _ s5 => ∃ m, m < n ∧ I m s5) NoE s4 else ∃ m, m < n ∧ I m s4) NoE s3) NoE s2) NoE s1) NoE s)
    (n : Nat) (h : I n s) : codeAny (model P w) A (.compLoop (.SetComp elt gs scope cp) j it acc env) R s := by
  refine codeAny_loop rfl I (fun n s hI => ?_) n h
  show wpAny _ A ((compTurn (.SetComp elt gs scope cp) j it acc env).onRaise (fun x => do noteFrame x env; theTreesLotGoes x)) _ _ s
  refine wpAny_noted ?_
  rw [hturn]
  unfold turnOf
  refine wpAny_bind (wpAny_standAt (wpAny_bind (thnF (turn n s hI) fun r s1 h1 => ?_)))
  cases r with
  | none => exact wpAny_pure h1
  | some v =>
    refine wpAny_bind (thnF h1 fun _ s2 h2 => ?_)
    refine wpAny_bind (thnF h2 fun _ s3 h3 => wpAny_bind (thnF h3 fun ok s4 h4 => ?_))
    cases ok with
    | false => exact wpAny_pure ⟨rfl, h4⟩
    | true => exact wpAny_bind (thnF h4 fun _ s5 h5 => wpAny_pure ⟨rfl, h5⟩)
end
abbrev TB := L2.St → Hp → (Hp → Prop) → Prop
/-- what is done with an element, in a block -/
structure PB (Y : Cx) (body : Sem Unit) (vs : List Nat) (tb : TB) : Prop where
  run : ∀ (pins : List (Addr × Obj)) (s : Shared) (σ : L2.St) (H : Hp) (Q : Hp → Prop), Inv Y pins σ H s → tb σ H Q → wpAny (model Y.prog Y.w) Y.A body (fun _ s' => ∃ H', Inv Y pins (wipe σ vs) H' s' ∧ Q H') NoE s
def tElt (P : Program) (w : World) (te : TE) (D : Addr) : TB := fun σ H Q => te σ H fun y H1 => ∃ (l : List Str) (k : Str), y = .str k ∧ H1 D = some (SetX P w D l) ∧ l.length + 1 < scanBound ∧ Q (upd H1 D (SetX P w D (put l k)))
def tNest (wi : TI) (g : TG) (tt : TT) (tb : TB) (vs : List Nat) : TB := fun σ H Q => wi σ H fun J H1 => ∃ W : Nat → Nat → Hp → Prop, (∃ m, W 0 m H1) ∧ ∀ i m H, W i m H →
  (J.stop i H ∧ Q H) ∨ (J.go i H ∧ ∃ Nx : Hp → Prop, (∀ H', Nx H' → ∃ m', m' < m ∧ W (i + 1) m' H') ∧ ∀ x H', J.yld i H x H' → g x (wipe σ vs) H' fun σ2 H2 => wipe σ2 vs = wipe σ vs ∧ tt σ2 H2 fun b H3 => if b = true then tb σ2 H3 Nx else Nx H3)
section
variable {Y : Cx} {elt tg iter ee : Expr} {gs : List Comprehension} {scope : Scope} {cp : Pos} {ifs : List Expr} {te : TE} {D : Addr} {wi : TI} {g : TG} {tt : TT} {tb : TB} {vs vs' : List Nat} {j : Nat} {acc : Value} {body : Sem Unit}
theorem pb_elt (hx : Y.xe = NoE) (he : PE Y elt te) : PB Y (do let v ← eval elt Y.env; standAt elt.pos; let _ ← call (.builtin "set.add") [.ref D, v]) [] (tElt Y.prog Y.w te D) := by
  refine ⟨fun pins s σ H Q I h => ?_⟩
  have z := he.run pins s σ H _ I h
  rw [hx] at z
  refine wpAny_bind (thnF z fun u s1 ⟨y, H1, I1, r, l, k, e, hD, room, q⟩ => wpAny_bind (wpAny_standAt ?_))
  subst e
  obtain ⟨t, rfl⟩ := r
  exact wpAny_bind (addX_ok I1 hD room fun s2 I2 => wpAny_pure ⟨_, I2, q⟩)
/-- a further clause's start -/
def StartOk (c : Expr) (j : Nat) (acc : Value) (env : Env) : Prop := ∀ (P : Program) (w : World) (A : Around) (R : Result → Shared → Prop) (s : Shared) (it : Value), codeAny (model P w) A (.compLoop c j it acc env) R s →
  (∀ E, wpAny (model P w) A (pyIter it) (fun it' s' => codeAny (model P w) A (.compLoop c j it' acc env) R s') E s) → codeAny (model P w) A (.compStart c j it acc env) R s
theorem pb_nest (sub : ∀ i ∈ vs', i ∈ vs) (hc : Y.calm = true) (hx : Y.xe = NoE) (hi : PI Y tg iter wi) (hg : PG Y tg g) (ht : PTs Y ifs tt) (hb : PB Y body vs' tb) (hs : ∀ x, foldedSetIterable iter Y.env x = pure x)
    (hturn : ∀ it, compTurn (.SetComp ee gs scope cp) j (.ref it) acc Y.env = turnOf tg iter.pos ifs body (.SetComp ee gs scope cp) j (.ref it) acc Y.env) (hst : StartOk (.SetComp ee gs scope cp) j acc Y.env) :
    PB Y (do let x ← eval iter Y.env; standAt iter.pos; let x ← foldedSetIterable iter Y.env x; let _ ← runOwn (.compStart (.SetComp ee gs scope cp) j (← holding [x] (pyIter x)) acc Y.env) Y.env) vs (tNest wi g tt tb vs) := by
  refine ⟨fun pins s σ H Q I h => ?_⟩
  have z := hi.run pins s σ H _ I h
  rw [hx] at z
  refine wpAny_bind (thnF z fun xv s1 hv => ?_)
  refine wpAny_bind (wpAny_standAt (wpAny_bind (wpAny_of_eq (hs xv) (wpAny_bind (wpAny_holding (thnF hv fun itv s2 h2 => ?_))))))
  obtain ⟨it, fp, tn, J, H1, e, I1, T, st, fo, W, ⟨m0, w0⟩, turn⟩ := h2
  subst e
  refine wpAny_bind (wpAny_runOwn ?_)
  rw [Around.mark_none]
  have stat : ∀ {H' : Hp}, (∀ b ∈ fp, H' b = none) → ∀ b ∈ fp, FpOk Y pins H' b := fun hn b hb => ⟨hn b hb, (fo b hb).2⟩
  have loop : codeAny (model Y.prog Y.w) Y.A (.compLoop (.SetComp ee gs scope cp) j (.ref it) acc Y.env) (fun r s' => match r with
      | .ok _ => ∃ H', Inv Y pins (wipe σ vs) H' s' ∧ Q H'
      | .error _ => False) s2 := by
    refine loop_gen (hturn it) (fun k s' => ∃ i H', Inv Y pins (wipe σ vs) H' s' ∧ tn i s'.heap ∧ (∀ b ∈ fp, H' b = none) ∧ W i k H') ?_ m0 ⟨0, H1, I1.weak (wipe_length _ _) (fun j v e => (wipe_some e).1), st, fun b hb => (fo b hb).1, w0⟩
    rintro k s3 ⟨i, H3, I3, st3, n3, w3⟩
    rcases turn i k H3 w3 with ⟨stop, q⟩ | ⟨go, Nx, hNx, step⟩
    · refine thnF (T.done Y rfl rfl rfl hc i _ s3 (wipe σ vs) H3 NoE I3 (stat n3) st3 stop) fun r s4 ⟨hr, I4⟩ => ?_
      subst hr
      exact ⟨H3, I4, q⟩
    · refine thnF (T.item Y rfl rfl rfl hc i _ s3 (wipe σ vs) H3 NoE I3 (stat n3) st3 go) fun r s4 ⟨u, hr, h4⟩ => ?_
      subst hr
      refine thnF h4 fun _ s5 ⟨x, H5, I5, r5, y5, st5, n5⟩ => ?_
      have I5' := I5.pinned (stat n5) (T.obj _ _ st5)
      have z6 := hg.run _ s5 (wipe σ vs) H5 x u _ I5' r5 (step x H5 y5)
      rw [hx] at z6
      refine thnF z6 fun _ s6 ⟨σ6, H6, I6, hw, q6⟩ => ?_
      have z7 := ht.run _ s6 σ6 H6 _ I6 q6
      rw [hx] at z7
      refine thnF z7 fun b s7 ⟨H7, I7, q7⟩ => ?_
      have fin : ∀ {vs1 : List Nat} {s' : Shared} {H' : Hp}, (∀ i ∈ vs1, i ∈ vs) → Inv Y (pins ++ pinsAt fp s5.heap) (wipe σ6 vs1) H' s' → Nx H' → ∃ m, m < k ∧ ∃ i H', Inv Y pins (wipe σ vs) H' s' ∧ tn i s'.heap ∧ (∀ b ∈ fp, H' b = none) ∧ W i m H' := fun {vs1 s' H'} hv I' nx => by
        obtain ⟨m', hm, w'⟩ := hNx H' nx
        have pin' : ∀ b ∈ fp, ∀ o, s5.heap.get? b = some o → s'.heap.get? b = some o ∧ H' b = none := fun b hb o e =>
          let z := I'.pin (b, o) (List.mem_append_right _ (List.mem_append_right _ (mem_pinsAt hb e)))
          ⟨z.1, z.2.1⟩
        refine ⟨m', hm, i + 1, H', I'.unpinned.weak (by rw [← hw, wipe_length, wipe_length]) (fun j v e => ?_), T.keep _ _ _ st5 fun b hb o e => (pin' b hb o e).1, fun b hb => ?_, w'⟩
        · rw [← hw] at e
          obtain ⟨e1, e2⟩ := wipe_some e
          rw [wipe_out fun z => e2 (hv j z)]
          exact e1
        · obtain ⟨o, e, _⟩ := T.obj _ _ st5 b hb
          exact (pin' b hb o e).2
      cases b with
      | false =>
        simp only [Bool.false_eq_true, if_false] at q7 ⊢
        exact fin (vs1 := []) (fun i z => nomatch z) I7 q7
      | true =>
        simp only [if_true] at q7 ⊢
        exact thnF (hb.run _ s7 σ6 H7 _ I7 q7) fun _ s8 ⟨H8, I8, q8⟩ => fin sub I8 q8
  refine codeAny_mono (hst _ _ _ _ _ _ loop fun E => T.self Y.A 0 _ _ _ st loop) fun r s' hr => ?_
  cases r with
  | ok f =>
    first
      | exact wpAny_pure hr
      | exact wpAny_bind (wpAny_pure (wpAny_pure hr))
  | error e => exact hr.elim
end
end Kx
namespace Kx
open PySem L2 PySem.Spec PyProof.Rows PpSet
def tScN (P : Program) (w : World) (wi : TI) (g : TG) (tt : TT) (tb : Addr → TB) (vs : List Nat) : TE := fun σ H Q => wi σ H fun J H1 => ∀ D, H1 D = none → ∃ W : Nat → Nat → Hp → Prop, (∃ m, W 0 m (upd H1 D (SetX P w D []))) ∧ ∀ i m H, W i m H →
  (J.stop i H ∧ Q (.ref D) H) ∨ (J.go i H ∧ ∃ Nx : Hp → Prop, (∀ H', Nx H' → ∃ m', m' < m ∧ W (i + 1) m' H') ∧ ∀ x H', J.yld i H x H' → g x (wipe σ vs) H' fun σ2 H2 => wipe σ2 vs = wipe σ vs ∧ tt σ2 H2 fun b H3 => if b = true then tb D σ2 H3 Nx else Nx H3)
section
variable {X : Cx} {elt tg iter : Expr} {ifs : List Expr} {gs : List Comprehension} {scope : Scope} {own : List (PySem.Str × Nat)} {cp : Pos} {wi : TI} {g : TG} {tt : TT} {tb : Addr → TB} {body : Addr → Env → Sem Unit} {vs' : List Nat}
theorem pe_scN (hc : X.calm = true) (hN : X.N.Nodup) (hi : PI X tg iter wi) (ok : BlkOk X.N X.env.scope scope own) (sub : ∀ i ∈ vs', i ∈ own.map (·.2))
    (hg : ∀ (s : Shared) (H : Hp) (C : Addr) (cl : List (PySem.Str × Addr)) (fp : List Addr), PG (X.blk s H scope (compEnvC scope cl C X.env) fp) tg g)
    (ht : ∀ (s : Shared) (H : Hp) (C : Addr) (cl : List (PySem.Str × Addr)) (fp : List Addr), PTs (X.blk s H scope (compEnvC scope cl C X.env) fp) ifs tt)
    (hb : ∀ (s : Shared) (H : Hp) (C : Addr) (cl : List (PySem.Str × Addr)) (fp : List Addr) (D : Addr), PB (X.blk s H scope (compEnvC scope cl C X.env) fp) (body D (compEnvC scope cl C X.env)) vs' (tb D))
    (hturn : ∀ it D env, compTurn (.SetComp elt (⟨tg, iter, ifs, 0⟩ :: gs) scope cp) 0 (.ref it) (.ref D) env = turnOf tg iter.pos ifs (body D env) (.SetComp elt (⟨tg, iter, ifs, 0⟩ :: gs) scope cp) 0 (.ref it) (.ref D) env)
    (hs : ∀ x, foldedSetIterable iter X.env x = pure x := by intro _; rfl) : PE X (.SetComp elt (⟨tg, iter, ifs, 0⟩ :: gs) scope cp) (tScN X.prog X.w wi g tt tb (own.map (·.2))) := by
  refine ⟨fun pins s σ H Q I h => ?_⟩
  rw [eval_SetComp]
  have fr : ∀ y ∈ scope.names, y.2 = .free → ∃ c, X.env.cells.lookup y.1 = some c := fun y hy e => I.ok.has _ (ok.free y hy e)
  refine wpAny_comprehension_free (use := none) rfl hs (closure_ok fr) ok.kind (fun y hy e => by rw [ok.uniq y hy, e]) (thn (hi.run pins s σ H _ I h) fun xv sa hx => thn hx fun itv sb hb' => ?_)
  obtain ⟨it, fp, tn, J, Hb, e, Ib, T, stb, fb, q⟩ := hb'
  subst e
  refine newSet_ok (newEnv_comp ?_)
  obtain ⟨D, hD⟩ : ∃ D, sb.heap.objs.size = D := ⟨_, rfl⟩
  have hDn : Hb D = none := Ib.hok.fresh (Nat.le_of_eq hD)
  obtain ⟨W, ⟨m0, w0⟩, turn⟩ := q D hDn
  obtain ⟨sc, hsc⟩ : ∃ sc : Shared, ({ sb with heap := sb.heap.push { cls := .type "set", dict := none, data := .set #[] 0 (.fresh 0 0 (!X.w.params.followText "set-order")) } } : Shared) = sc := ⟨_, rfl⟩
  have hch : sc.heap = sb.heap.push { cls := .type "set", dict := none, data := .set #[] 0 (.fresh 0 0 (!X.w.params.followText "set-order")) } := by rw [← hsc]
  have Ic : Inv X pins σ (upd Hb D (SetX X.prog X.w D [])) sc := by
    rw [← hsc]
    refine Ib.laid (t' := sb.toks) (fun b o z => Heap.get?_push_of_some _ z) (Nat.le_of_eq hD) ?_
    rw [← hD]
    exact setX_new txAt_new
  have lt : ∀ b ∈ fp, b < sb.heap.objs.size := fun b hb => let ⟨o, z, _⟩ := T.obj _ _ stb b hb; Heap.lt_size z
  have fc : ∀ b ∈ fp, FpOk X pins (upd Hb D (SetX X.prog X.w D [])) b ∧ b < sc.heap.objs.size := fun b hb =>
    ⟨⟨by rw [upd_ne (by rw [← hD]; exact Nat.ne_of_lt (lt b hb))]; exact (fb b hb).1, (fb b hb).2⟩, by rw [hch, Heap.size_push]; exact Nat.lt_succ_of_lt (lt b hb)⟩
  have stc : tn 0 sc.heap := T.keep _ _ _ stb fun b _ o z => by rw [hch]; exact Heap.get?_push_of_some _ z
  have Id0 := block_start Ic ok hN fc
  rw [hD]
  have pg := hg sc (upd Hb D (SetX X.prog X.w D [])) sc.heap.objs.size (cellsFrom (sc.heap.objs.size + 1) scope.names (cloFrom X.env.cells scope.names [])) fp
  have pt := ht sc (upd Hb D (SetX X.prog X.w D [])) sc.heap.objs.size (cellsFrom (sc.heap.objs.size + 1) scope.names (cloFrom X.env.cells scope.names [])) fp
  have pb := hb sc (upd Hb D (SetX X.prog X.w D [])) sc.heap.objs.size (cellsFrom (sc.heap.objs.size + 1) scope.names (cloFrom X.env.cells scope.names [])) fp D
  rw [show ({ sb with heap := sb.heap.push { cls := .type "set", dict := none, data := .set #[] 0 (.fresh 0 0 (!X.w.params.followText "set-order")) } } : Shared) = sc from hsc]
  obtain ⟨ce, hce⟩ : ∃ ce, compEnvC scope (cellsFrom (sc.heap.objs.size + 1) scope.names (cloFrom X.env.cells scope.names [])) sc.heap.objs.size X.env = ce := ⟨_, rfl⟩
  have cL : ce.locals = sc.heap.objs.size := by rw [← hce] <;> rfl
  obtain ⟨Hc, hHc⟩ : ∃ Hc, upd Hb D (SetX X.prog X.w D []) = Hc := ⟨_, rfl⟩
  obtain ⟨sd, hsd⟩ : ∃ sd : Shared, ({ sc with heap := pushCells (sc.heap.push { cls := .type "dict", data := .dict #[] }) scope.names } : Shared) = sd := ⟨_, rfl⟩
  have kd : ∀ b o, sc.heap.get? b = some o → sd.heap.get? b = some o := fun b o z => by rw [← hsd]; exact pushCells_keeps _ _ _ _ (Heap.get?_push_of_some _ z)
  rw [hce] at Id0 pg pt pb
  rw [hHc] at Id0 pg pt pb w0 Ic fc
  rw [hsd] at Id0
  have std : tn 0 sd.heap := T.keep _ _ _ stc fun b _ o z => kd b o z
  have stat : ∀ {σ' : L2.St} {H' : Hp} {s' : Shared}, Inv (X.blk sc Hc scope ce fp) [] σ' H' s' → (∀ b ∈ fp, H' b = none) → ∀ b ∈ fp, FpOk (X.blk sc Hc scope ce fp) [] H' b := fun {σ' H' s'} I' hn b hb =>
    ⟨hn b hb, (I'.ok.exf b hb).1, I'.ok.exfs b hb, .inl hb, fun x c z => (I'.ok.exf b hb).2 x c z, fun p hp => absurd (show p ∈ ([] : List (Addr × Obj)) ++ [] from hp) (by simp)⟩
  have loop : codeAny (model X.prog X.w) X.A (.compLoop (.SetComp elt (⟨tg, iter, ifs, 0⟩ :: gs) scope cp) 0 (.ref it) (.ref D) ce) (compPost (model X.prog X.w) X.A X.xe none (EP X pins σ Q) (.ref D) sc.heap.objs.size) sd := by
    refine loop_gen (hturn it D ce) (fun n s' => ∃ i H', Inv (X.blk sc Hc scope ce fp) [] (wipe σ (own.map (·.2))) H' s' ∧ tn i s'.heap ∧ (∀ b ∈ fp, H' b = none) ∧ W i n H') ?_ m0 ⟨0, Hc, Id0, std, fun b hb => (fc b hb).1.1, w0⟩
    rintro n s5 ⟨i, H5, I5, st5, n5, w5⟩
    rcases turn i n H5 w5 with ⟨stop, qq⟩ | ⟨go, Nx, hNx, step⟩
    · refine thnF (T.done (X.blk sc Hc scope ce fp) rfl rfl rfl hc i [] s5 _ H5 NoE I5 (stat I5 n5) st5 stop) fun r s6 ⟨hr, I6⟩ => ?_
      subst hr
      have I7 : Inv X pins σ H5 s6 := Ic.call' (ch := fp) I6.os I6.base I6.hok I6.bare fun b hb => ⟨(fc b hb).1.2.2.2.1, (fc b hb).1.2.1, (fc b hb).1.2.2.2.2.1, (fc b hb).1.2.2.2.2.2⟩
      have nC : H5 sc.heap.objs.size = none := by
        have z : H5 ce.locals = none := I6.free
        rw [cL] at z
        exact z
      obtain ⟨m, hn, _⟩ := I6.loc
      have hn : s6.heap.Ns ce.locals m := hn
      rw [cL] at hn
      obtain ⟨f0, f1, f2, f3, f4, f5⟩ := Ic.fpOk (Nat.le_refl _) nC
      exact ⟨m, hn, fun h'' sb' => ⟨.ref D, H5, I7.turned (t' := s6.toks) (fun b o hb z => (sb'.2 b hb).trans z) f0 f1 f3 f4 f5, rfl, qq⟩⟩
    · refine thnF (T.item (X.blk sc Hc scope ce fp) rfl rfl rfl hc i [] s5 _ H5 NoE I5 (stat I5 n5) st5 go) fun r s6 ⟨u, hr, h6⟩ => ?_
      subst hr
      refine thnF h6 fun _ s7 ⟨x, H7, I7, r7, y7, st7, n7⟩ => ?_
      have J7 := I7.pinned (stat I7 n7) (T.obj _ _ st7)
      refine thnF (pg.run _ s7 _ H7 x u _ J7 r7 (step x H7 y7)) fun _ s8 ⟨σ8, H8, I8, hw8, q8⟩ => ?_
      refine thnF (pt.run _ s8 σ8 H8 _ I8 q8) fun b s9 ⟨H9, I9, q9⟩ => ?_
      have fin : ∀ {vs1 : List Nat} {s' : Shared} {H' : Hp}, (∀ i ∈ vs1, i ∈ own.map (·.2)) → Inv (X.blk sc Hc scope ce fp) ([] ++ pinsAt fp s7.heap) (wipe σ8 vs1) H' s' → Nx H' → ∃ m, m < n ∧ ∃ i H', Inv (X.blk sc Hc scope ce fp) [] (wipe σ (own.map (·.2))) H' s' ∧ tn i s'.heap ∧ (∀ b ∈ fp, H' b = none) ∧ W i m H' := fun {vs1 s' H'} hv I' nx => by
        obtain ⟨m', hm, w'⟩ := hNx H' nx
        have pin' : ∀ b ∈ fp, ∀ o, s7.heap.get? b = some o → s'.heap.get? b = some o ∧ H' b = none := fun b hb o z =>
          let k := I'.pin (b, o) (List.mem_append_right _ (List.mem_append_right _ (mem_pinsAt hb z)))
          ⟨k.1, k.2.1⟩
        refine ⟨m', hm, i + 1, H', (I'.unpinned (pins := [])).weak (by rw [← hw8, wipe_length, wipe_length]) (fun j v z => ?_), T.keep _ _ _ st7 fun b hb o z => (pin' b hb o z).1, fun b hb => ?_, w'⟩
        · rw [← hw8] at z
          obtain ⟨e1, e2⟩ := wipe_some z
          rw [wipe_out fun k => e2 (hv j k)]
          exact e1
        · obtain ⟨o, z, _⟩ := T.obj _ _ st7 b hb
          exact (pin' b hb o z).2
      cases b with
      | false =>
        simp only [Bool.false_eq_true, if_false] at q9 ⊢
        exact fin (vs1 := []) (fun i z => nomatch z) I9 q9
      | true =>
        simp only [if_true] at q9 ⊢
        exact thnF (pb.run _ s9 σ8 H9 _ I9 q9) fun _ s10 ⟨H10, I10, q10⟩ => fin sub I10 q10
  rw [← hce] at loop
  rw [← hsd] at loop
  exact codeAny_compStart_set loop (T.self X.A 0 _ _ _ (by rw [hsd]; exact std) loop)
end
/-! three clauses -/
section
variable {elt t0 i0 t1 i1 t2 i2 : Expr} {f0 f1 f2 : List Expr} {scope : Scope} {cp : Pos}
theorem start1 (acc : Value) (env : Env) : StartOk (.SetComp elt [⟨t0, i0, f0, 0⟩, ⟨t1, i1, f1, 0⟩, ⟨t2, i2, f2, 0⟩] scope cp) 1 acc env := by
  intro P w A R s it h0 h
  refine codeAny_of_tree ?_
  show wpAny _ _ ((compStart (.SetComp elt [⟨t0, i0, f0, 0⟩, ⟨t1, i1, f1, 0⟩, ⟨t2, i2, f2, 0⟩] scope cp) 1 it acc env).onRaise (fun x => do noteFrame x env; standAt theWindowsPlace)) _ _ s
  refine wpAny_notedAt ?_
  unfold compStart
  show wpAny _ _ (ask >>= _) _ _ s
  refine wpAny_bind (wpAny_askSetting (wpAny_ite ?_))
  split
  · first
      | exact wpAny_bind (wpAny_pure (wpAny_pure (And.intro rfl h0)))
      | exact wpAny_pure (And.intro rfl h0)
  · refine wpAny_bind (wpAny_rule ?_)
    show wpAny _ _ (standAt i1.pos >>= _) _ _ s
    exact wpAny_bind (wpAny_standAt (wpAny_bind (thn (h _) fun it' s' h' => wpAny_pure (And.intro rfl h'))))
theorem start2 (acc : Value) (env : Env) : StartOk (.SetComp elt [⟨t0, i0, f0, 0⟩, ⟨t1, i1, f1, 0⟩, ⟨t2, i2, f2, 0⟩] scope cp) 2 acc env := by
  intro P w A R s it h0 h
  refine codeAny_of_tree ?_
  show wpAny _ _ ((compStart (.SetComp elt [⟨t0, i0, f0, 0⟩, ⟨t1, i1, f1, 0⟩, ⟨t2, i2, f2, 0⟩] scope cp) 2 it acc env).onRaise (fun x => do noteFrame x env; standAt theWindowsPlace)) _ _ s
  refine wpAny_notedAt ?_
  unfold compStart
  show wpAny _ _ (ask >>= _) _ _ s
  refine wpAny_bind (wpAny_askSetting (wpAny_ite ?_))
  split
  · first
      | exact wpAny_bind (wpAny_pure (wpAny_pure (And.intro rfl h0)))
      | exact wpAny_pure (And.intro rfl h0)
  · refine wpAny_bind (wpAny_rule ?_)
    show wpAny _ _ (standAt i2.pos >>= _) _ _ s
    exact wpAny_bind (wpAny_standAt (wpAny_bind (thn (h _) fun it' s' h' => wpAny_pure (And.intro rfl h'))))
abbrev c3 (elt t0 i0 t1 i1 t2 i2 : Expr) (f0 f1 f2 : List Expr) (scope : Scope) (cp : Pos) : Expr := .SetComp elt [⟨t0, i0, f0, 0⟩, ⟨t1, i1, f1, 0⟩, ⟨t2, i2, f2, 0⟩] scope cp
abbrev bElt (elt : Expr) (D : Addr) (env : Env) : Sem Unit := do let v ← eval elt env; standAt elt.pos; let _ ← call (.builtin "set.add") [.ref D, v]
abbrev bNest (c : Expr) (j : Nat) (iter : Expr) (D : Addr) (env : Env) : Sem Unit := do let x ← eval iter env; standAt iter.pos; let x ← foldedSetIterable iter env x; let _ ← runOwn (.compStart c j (← holding [x] (pyIter x)) (.ref D) env) env
theorem turn3_0 (it D : Addr) (env : Env) : compTurn (c3 elt t0 i0 t1 i1 t2 i2 f0 f1 f2 scope cp) 0 (.ref it) (.ref D) env = turnOf t0 i0.pos f0 (bNest (c3 elt t0 i0 t1 i1 t2 i2 f0 f1 f2 scope cp) 1 i1 D env) (c3 elt t0 i0 t1 i1 t2 i2 f0 f1 f2 scope cp) 0 (.ref it) (.ref D) env := by
  have e : compTurn (c3 elt t0 i0 t1 i1 t2 i2 f0 f1 f2 scope cp) 0 (.ref it) (.ref D) env = (do
      standAt i0.pos
      match ← pyNext (.ref it) with
      | none => pure (.done .next)
      | some v =>
        letOwnedTupleGo t0 (.ref it) v
        assign t0 env v
        let mut ok := true
        for c in f0 do
          if ok then ok ← isTrue c env (eval c env)
        if ok then
          let x ← eval i1 env
          standAt i1.pos
          let x ← foldedSetIterable i1 env x
          let _ ← runOwn (.compStart (c3 elt t0 i0 t1 i1 t2 i2 f0 f1 f2 scope cp) 1 (← holding [x] (pyIter x)) (.ref D) env) env
        again (.compLoop (c3 elt t0 i0 t1 i1 t2 i2 f0 f1 f2 scope cp) 0 (.ref it) (.ref D) env)) := by rfl
  rw [e]
  unfold turnOf
  simp only [bind_assoc, pure_bind]
  all_goals rfl
theorem turn3_1 (it D : Addr) (env : Env) : compTurn (c3 elt t0 i0 t1 i1 t2 i2 f0 f1 f2 scope cp) 1 (.ref it) (.ref D) env = turnOf t1 i1.pos f1 (bNest (c3 elt t0 i0 t1 i1 t2 i2 f0 f1 f2 scope cp) 2 i2 D env) (c3 elt t0 i0 t1 i1 t2 i2 f0 f1 f2 scope cp) 1 (.ref it) (.ref D) env := by
  have e : compTurn (c3 elt t0 i0 t1 i1 t2 i2 f0 f1 f2 scope cp) 1 (.ref it) (.ref D) env = (do
      standAt i1.pos
      match ← pyNext (.ref it) with
      | none => pure (.done .next)
      | some v =>
        letOwnedTupleGo t1 (.ref it) v
        assign t1 env v
        let mut ok := true
        for c in f1 do
          if ok then ok ← isTrue c env (eval c env)
        if ok then
          let x ← eval i2 env
          standAt i2.pos
          let x ← foldedSetIterable i2 env x
          let _ ← runOwn (.compStart (c3 elt t0 i0 t1 i1 t2 i2 f0 f1 f2 scope cp) 2 (← holding [x] (pyIter x)) (.ref D) env) env
        again (.compLoop (c3 elt t0 i0 t1 i1 t2 i2 f0 f1 f2 scope cp) 1 (.ref it) (.ref D) env)) := by rfl
  rw [e]
  unfold turnOf
  simp only [bind_assoc, pure_bind]
  all_goals rfl
theorem turn3_2 (it D : Addr) (env : Env) : compTurn (c3 elt t0 i0 t1 i1 t2 i2 f0 f1 f2 scope cp) 2 (.ref it) (.ref D) env = turnOf t2 i2.pos f2 (bElt elt D env) (c3 elt t0 i0 t1 i1 t2 i2 f0 f1 f2 scope cp) 2 (.ref it) (.ref D) env := by rfl
end
section
variable {X : Cx} {elt t0 i0 t1 i1 t2 i2 : Expr} {f0 f1 f2 : List Expr} {scope : Scope} {own : List (PySem.Str × Nat)} {cp : Pos} {w0 w1 w2 : TI} {g0 g1 g2 : TG} {tt0 tt1 tt2 : TT} {te : TE} {vs1 vs2 : List Nat}
theorem pe_sc3 (hc : X.calm = true) (hN : X.N.Nodup) (hi : PI X t0 i0 w0) (ok : BlkOk X.N X.env.scope scope own) (h1 : ∀ i ∈ vs1, i ∈ own.map (·.2)) (h2 : ∀ i ∈ vs2, i ∈ vs1)
    (hg0 : ∀ (s : Shared) (H : Hp) (C : Addr) (cl : List (PySem.Str × Addr)) (fp : List Addr), PG (X.blk s H scope (compEnvC scope cl C X.env) fp) t0 g0)
    (ht0 : ∀ (s : Shared) (H : Hp) (C : Addr) (cl : List (PySem.Str × Addr)) (fp : List Addr), PTs (X.blk s H scope (compEnvC scope cl C X.env) fp) f0 tt0)
    (hi1 : ∀ (s : Shared) (H : Hp) (C : Addr) (cl : List (PySem.Str × Addr)) (fp : List Addr), PI (X.blk s H scope (compEnvC scope cl C X.env) fp) t1 i1 w1)
    (hg1 : ∀ (s : Shared) (H : Hp) (C : Addr) (cl : List (PySem.Str × Addr)) (fp : List Addr), PG (X.blk s H scope (compEnvC scope cl C X.env) fp) t1 g1)
    (ht1 : ∀ (s : Shared) (H : Hp) (C : Addr) (cl : List (PySem.Str × Addr)) (fp : List Addr), PTs (X.blk s H scope (compEnvC scope cl C X.env) fp) f1 tt1)
    (hi2 : ∀ (s : Shared) (H : Hp) (C : Addr) (cl : List (PySem.Str × Addr)) (fp : List Addr), PI (X.blk s H scope (compEnvC scope cl C X.env) fp) t2 i2 w2)
    (hg2 : ∀ (s : Shared) (H : Hp) (C : Addr) (cl : List (PySem.Str × Addr)) (fp : List Addr), PG (X.blk s H scope (compEnvC scope cl C X.env) fp) t2 g2)
    (ht2 : ∀ (s : Shared) (H : Hp) (C : Addr) (cl : List (PySem.Str × Addr)) (fp : List Addr), PTs (X.blk s H scope (compEnvC scope cl C X.env) fp) f2 tt2)
    (he : ∀ (s : Shared) (H : Hp) (C : Addr) (cl : List (PySem.Str × Addr)) (fp : List Addr), PE (X.blk s H scope (compEnvC scope cl C X.env) fp) elt te)
    (hs : ∀ x, foldedSetIterable i0 X.env x = pure x := by intro _; rfl) (hs1 : ∀ env x, foldedSetIterable i1 env x = pure x := by intro _ _; rfl) (hs2 : ∀ env x, foldedSetIterable i2 env x = pure x := by intro _ _; rfl) :
    PE X (c3 elt t0 i0 t1 i1 t2 i2 f0 f1 f2 scope cp) (tScN X.prog X.w w0 g0 tt0 (fun D => tNest w1 g1 tt1 (tNest w2 g2 tt2 (tElt X.prog X.w te D) vs2) vs1) (own.map (·.2))) :=
  pe_scN (gs := [⟨t1, i1, f1, 0⟩, ⟨t2, i2, f2, 0⟩]) (body := fun D env => bNest (c3 elt t0 i0 t1 i1 t2 i2 f0 f1 f2 scope cp) 1 i1 D env) hc hN hi ok h1 hg0 ht0
    (fun s H C cl fp D => pb_nest (ee := elt) (gs := [⟨t0, i0, f0, 0⟩, ⟨t1, i1, f1, 0⟩, ⟨t2, i2, f2, 0⟩]) (scope := scope) (cp := cp) (Y := X.blk s H scope (compEnvC scope cl C X.env) fp) h2 hc rfl (hi1 s H C cl fp) (hg1 s H C cl fp) (ht1 s H C cl fp)
      (pb_nest (ee := elt) (gs := [⟨t0, i0, f0, 0⟩, ⟨t1, i1, f1, 0⟩, ⟨t2, i2, f2, 0⟩]) (scope := scope) (cp := cp) (Y := X.blk s H scope (compEnvC scope cl C X.env) fp) (vs' := []) (fun i z => nomatch z) hc rfl (hi2 s H C cl fp) (hg2 s H C cl fp) (ht2 s H C cl fp)
        (pb_elt (Y := X.blk s H scope (compEnvC scope cl C X.env) fp) rfl (he s H C cl fp)) (hs2 _) (fun it => turn3_2 it D _) (start2 _ _))
      (hs1 _) (fun it => turn3_1 it D _) (start1 _ _))
    (fun it D env => turn3_0 it D env) hs
end
end Kx
/-! enumerate over a tuple -/
namespace PySem
open Sem (wp)
open AutoSeq1 (wpAny_loadPart')
theorem new_enumT (t : Addr) (its : Array Value) (n : Nat) (dd : Option Addr) (sl : Array (Option Value)) : Meets (Builtin.«enumerate.__new__» ⟨[.type "enumerate", .ref t], []⟩)
    (fun _ R s => s.heap.get? t = some { cls := .type "tuple", dict := dd, data := .seq its n, slots := sl } ∧ R (.ok (.ret (.ref (s.heap.push { cls := .type "tuple_iterator", data := .fields #[.ref t, .int 0 0] }).objs.size)))
      { s with heap := (s.heap.push { cls := .type "tuple_iterator", data := .fields #[.ref t, .int 0 0] }).push { cls := .type "enumerate", data := .fields #[.none, .bool false, .ref s.heap.objs.size, rawInt 0, .none, .none] } }) :=
  .of_wp fun P w A R s h => by
    obtain ⟨hp, g, d, k, os⟩ := s
    obtain ⟨ht, h⟩ := h
    have hs := sub_enumerate
    have hT : Heap.IsTuple (Shared.heap ⟨hp, g, d, k, os⟩) t its := ⟨_, ht, rfl, n, rfl⟩
    wp_walk using wpAny_loadPart' ht
    refine wpAny_stack_any fun st => wpAny_pure ?_
    split
    · rename_i c _ _ _ _ _
      cases (c == Value.type "enumerate") <;>
        (wp_walk using wpAny_loadPart' ht, wpAny_pyIter_tuple hT; exact ⟨_, rfl, h⟩)
    · wp_walk using wpAny_loadPart' ht, wpAny_pyIter_tuple hT
      exact ⟨_, rfl, h⟩
section
variable {P : Program} {w : World} {A : Around} {E : Value → Shared → Prop} {s : Shared}
theorem call_enumT {t : Addr} {its : Array Value} {Q : Value → Shared → Prop} (hT : s.heap.IsTuple t its)
    (h : ∀ h' : Heap, IsEnum h' (s.heap.objs.size + 1) s.heap.objs.size 0 .none → h'.IsTupleIter s.heap.objs.size t 0 → h'.objs.size = s.heap.objs.size + 2 → (∀ b o, s.heap.get? b = some o → h'.get? b = some o) → Q (.ref (s.heap.objs.size + 1)) { s with heap := h' }) :
    wpAny (model P w) A (call (.type "enumerate") [.ref t]) Q E s := by
  obtain ⟨⟨c, dd, dt, sl⟩, ht, hc, n, hd⟩ := hT
  have hc' : c = .type "tuple" := hc
  have hd' : dt = .seq its n := hd
  subst hc' hd'
  refine callType_new F.called_enumerate (by decide) (F.typeCall_enumerate_1 _) (F.newCall_enumerate_1 _) (fun obj => F.args_object_init_2 obj _) F.entry_enumerate_new (new_enumT t its n dd sl) ⟨ht, ?_⟩
  obtain ⟨h1, e1⟩ : ∃ h1, s.heap.push { cls := .type "tuple_iterator", data := .fields #[.ref t, .int 0 0] } = h1 := ⟨_, rfl⟩
  have z1 : h1.objs.size = s.heap.objs.size + 1 := by rw [← e1]; exact Heap.size_push ..
  have i1 : h1.get? s.heap.objs.size = some { cls := .type "tuple_iterator", data := .fields #[.ref t, .int 0 0] } := by rw [← e1]; exact Heap.get?_push_size _ rfl
  have k1 : ∀ b o, s.heap.get? b = some o → h1.get? b = some o := fun b o z => by rw [← e1]; exact Heap.get?_push_of_some _ z
  rw [e1]
  have g2 := Heap.get?_push_size h1 (o := { cls := .type "enumerate", data := .fields #[.none, .bool false, .ref s.heap.objs.size, rawInt 0, .none, .none] }) rfl
  rw [z1] at g2
  show _ ∧ _
  rw [z1]
  exact ⟨⟨_, g2, rfl⟩, h _ g2 ⟨_, Heap.get?_push_of_some _ i1, rfl, rfl⟩ (by rw [Heap.size_push, z1]) fun b o z => Heap.get?_push_of_some _ (k1 b o z)⟩
end
end PySem
namespace Kx
open PySem L2 PySem.Spec PyProof.Rows
/-- the tuple at a, each item in a new pair with its number -/
def IteT (K : PySem.W.Frag) (a : Addr) : It :=
  ⟨fun i H => ∃ (xs : List V) (x : V), SqT K H a xs ∧ xs[i]? = some x, fun i H v H' => ∃ T x, v = .ref T ∧ H T = none ∧ H' = upd H T (.tup [.int (i : Nat), x]) ∧ ∀ xs, SqT K H a xs → xs[i]? = some x, fun i H => ∃ xs : List V, SqT K H a xs ∧ xs.length ≤ i⟩
theorem turn_enumT {P : Program} {w : World} {K : PySem.W.Frag} {elts : List Expr} {kk : Nat} {tpos : Pos} (a e it : Addr) :
    Turn P w K (.Tuple elts kk tpos) (IteT K a) [e, it] e (fun i h => (∃ old, IsEnum h e it ((i : Nat) : Int) old) ∧ h.IsTupleIter it a i ∧ e ≠ it ∧ a ≠ it ∧ a ≠ e) where
  mem := by simp
  obj := fun i h st b hb => by
    obtain ⟨⟨old, he⟩, ⟨o, ho, hc, hd⟩, _⟩ := st
    rcases (show b = e ∨ b = it by simpa using hb) with z | z
    · rw [z]; exact ⟨_, he, fun v q => nomatch q⟩
    · rw [z]; exact ⟨o, ho, fun v q => by rw [hd] at q; cases q⟩
  keep := fun i h h' st k => let ⟨⟨old, he⟩, hi, hn⟩ := st; ⟨⟨old, k e (by simp) _ he⟩, hi.at fun o q => k it (by simp) o q, hn⟩
  item := by
    intro X hP hw hK hc i pins s σ H E I hf st hg
    subst hP hw hK
    obtain ⟨⟨old, he⟩, hit, hne, n1, n2⟩ := st
    obtain ⟨xs, x, hq, hx⟩ := hg
    obtain ⟨its, rv, p, hz⟩ := I.tuple hq
    obtain ⟨u, hu, ru⟩ := rv.get hx
    have hT : s.heap.IsTuple a its.toArray := p
    have hu' : its.toArray[i]? = some u := by simpa using hu
    have hlt : i < its.toArray.size := (Array.getElem?_eq_some_iff.mp hu').1
    have hel : e < s.heap.objs.size := Heap.lt_size he
    have hil : it < s.heap.objs.size := by obtain ⟨_, q, _⟩ := hit; exact Heap.lt_size q
    have ni : it ≠ a := fun z => n1 z.symm
    refine wpAny_pyNext_enum_itemD (Draws.tuple (A := X.A.in1) (I.ok.hd hc) it a n1 its.toArray) he ⟨hit, hT⟩ hlt hne (by simp [hne, Ne.symm n2]) fun y h' tk hy ho hit' hTn hsz hk => ?_
    have ey : y = u := Option.some.inj ((show its.toArray[i]? = some y from hy).symm.trans hu')
    subst ey
    refine ⟨_, rfl, wpAny_letOwnedTupleGo_enum (s := { s with heap := h', toks := tk + 1 }) ho fun h2 he2 sb => ?_⟩
    have hT2 : h2.get? s.heap.objs.size = some { cls := .type "tuple", data := .seq #[.int i tk, y] } := (sb.2 _ (Nat.ne_of_gt hel)).trans hTn
    have new : ObjOk X.prog X.w (upd H s.heap.objs.size (.tup [.int (i : Nat), x])) h2 s.heap.objs.size (.tup [.int (i : Nat), x]) :=
      ⟨by show 2 ≤ sizeLine; decide, [.int i tk, y], .cons ⟨_, rfl⟩ (.cons ru .nil), ⟨_, hT2, rfl, _, rfl⟩⟩
    have I1 : Inv X pins σ (upd H s.heap.objs.size (.tup [.int (i : Nat), x])) { s with heap := h2, toks := tk + 1 } :=
      I.turnedNew (ch := [e, it]) (fun b ob hb q => (sb.2 b (fun z => hb (by simp [z]))).trans (hk b ob (fun z => hb (by simp [z])) (fun z => hb (by simp [z])) q)) hf (Nat.le_refl _) new
    have lt2 : ∀ b ∈ [e, it], b < s.heap.objs.size := fun b hb => by
      rcases (show b = e ∨ b = it by simpa using hb) with z | z
      · rw [z]; exact hel
      · rw [z]; exact hil
    refine ⟨.ref s.heap.objs.size, _, I1, rfl, ⟨_, x, rfl, I.hok.fresh (Nat.le_refl _), rfl, fun ys hy' => by rw [I.tuple_inj hy' hq]; exact hx⟩, ⟨⟨y, ?_⟩, hit'.1.at fun o q => (sb.2 it (Ne.symm hne)).trans q, hne, n1, n2⟩, fun b hb => ?_⟩
    · rw [show ((i + 1 : Nat) : Int) = (i : Int) + 1 from by omega]
      exact he2
    · rw [upd_ne (Nat.ne_of_lt (lt2 b hb))]
      exact (hf b hb).1
  done := by
    intro X hP hw hK hc i pins s σ H E I hf st hg
    subst hP hw hK
    obtain ⟨⟨old, he⟩, hit, hne, n1, n2⟩ := st
    obtain ⟨xs, hq, hx⟩ := hg
    obtain ⟨its, rv, p, hz⟩ := I.tuple hq
    obtain ⟨f0, f1, f2, f3, f4, f5⟩ := hf it (by simp)
    have hl := rv.length
    have hT : s.heap.IsTuple a its.toArray := p
    unfold pyNext
    have hTy : s.TypeIs (.ref e) "enumerate" := ⟨_, he, rfl⟩
    refine wpAny_bind (wpAny_attempt (wpAny_callSpecial?_slot (name := Str.ofString "__next__") hTy F.slot_enumerate_next
      (wpAny_call_entry F.slot_enumerate_next hTy F.entry_enumerate_next ?_ (F.args_enumerate_next_1 _))))
    show wpAny _ _ (field (.ref e) 2 >>= fun r => Builtin.SmallTypes.nextOf r >>= _) _ _ _
    refine wpAny_bind (wpAny_field he rfl (x := .ref it) rfl ?_)
    refine wpAny_bind (wpAny_nextOf_tuple_end (I.ok.hd hc) hit hT (Array.getElem?_eq_none (by simp; omega)) fun h' x e1 e2 => ?_)
    obtain ⟨o, ho, hco⟩ := e2
    refine wpAny_bind (wpAny_isInstance (T := "StopIteration") (b := true) ⟨o, ho, hco⟩ isSubtype_stop ?_)
    exact wpAny_pure ⟨rfl, I.turned (t' := s.toks) (fun b o hb q => e1 b o hb q) f0 f1 f3 f4 f5⟩
  self := fun A i s Q E st h => let ⟨⟨_, he⟩, _⟩ := st; wpAny_pyIter_enum he h
def iEnumT (K : PySem.W.Frag) (ta : TA) : TI := fun σ H R => ta σ H fun vs H1 => ∃ a xs, vs = [.ref a] ∧ SqT K H1 a xs ∧ R (IteT K a) H1
theorem pi_enumT {X : Cx} {e : Expr} {ta : TA} {p pos tpos : Pos} {elts : List Expr} {kk : Nat} (hg : Gl X "enumerate") (hm : X.mg "enumerate" = none) (ha : PA X [e] ta) (hs : starEach [e] X.env = [(false, eval e X.env)] := by rfl) :
    PI X (.Tuple elts kk tpos) (.Call (.Name "enumerate" p) [e] [] pos) (iEnumT X.K ta) := by
  refine ⟨fun pins s σ H R I h => ?_⟩
  refine Call_ (ld_blt I hg hm boot_enumerate (PyProof.Rows.callWith_type1 (thn (ha.run pos pins s σ H _ I h) fun us s1 ⟨vs, H1, I1, r1, a, xs, ex, hq, q⟩ => ?_) hs rfl))
  subst ex
  cases r1 with
  | cons r rr =>
    cases rr
    cases r
    obtain ⟨its, rv, p', hz⟩ := I1.tuple hq
    have hT : s1.heap.IsTuple a its.toArray := p'
    have hlt : a < s1.heap.objs.size := by obtain ⟨_, z, _⟩ := hT; exact Heap.lt_size z
    refine call_enumT hT fun h' he hit hsz hk => wpAny_pyIter_enum he ?_
    have I2 : Inv X pins σ H1 { s1 with heap := h' } := I1.kept (t' := s1.toks) hk
    refine ⟨s1.heap.objs.size + 1, [s1.heap.objs.size + 1, s1.heap.objs.size], _, _, H1, rfl, I2, turn_enumT a (s1.heap.objs.size + 1) s1.heap.objs.size, ⟨⟨.none, he⟩, hit, Nat.succ_ne_self _, Nat.ne_of_lt hlt, Nat.ne_of_lt (Nat.lt_succ_of_lt hlt)⟩, fun b hb => ?_, q⟩
    have hle : s1.heap.objs.size ≤ b := by
      rcases (show b = s1.heap.objs.size + 1 ∨ b = s1.heap.objs.size by simpa using hb) with z | z
      · rw [z]; exact Nat.le_add_right _ _
      · rw [z]; exact Nat.le_refl _
    exact I1.fpOk hle (I1.hok.fresh hle)
/-- over a tuple that the body leaves as it is -/
theorem for_enumT {K : PySem.W.Frag} {a : Addr} {xs : List V} {g : TG} {tb : TS} {D : Ends} {σ : L2.St} {H : Hp} (Pv : Nat → L2.St → Hp → Prop) (h0 : Pv 0 σ H) (hl : ∀ i σ H, i ≤ xs.length → Pv i σ H → SqT K H a xs)
    (hs : ∀ i x σ H T, xs[i]? = some x → Pv i σ H → H T = none → g (.ref T) σ (upd H T (.tup [.int (i : Nat), x])) fun σ2 H2 => tb { D with nx := Pv (i + 1), ct := Pv (i + 1), bk := D.nx } σ2 H2) (hd : ∀ σ H, Pv xs.length σ H → D.nx σ H) :
    ∃ W : Nat → Nat → L2.St → Hp → Prop, (∃ m, W 0 m σ H) ∧ ∀ i m σ H, W i m σ H →
      ((IteT K a).stop i H ∧ D.nx σ H) ∨ ((IteT K a).go i H ∧ ∃ N : L2.St → Hp → Prop, (∀ σ' H', N σ' H' → ∃ m', m' < m ∧ W (i + 1) m' σ' H') ∧ ∀ x H', (IteT K a).yld i H x H' → g x σ H' fun σ2 H2 => tb { D with nx := N, ct := N, bk := D.nx } σ2 H2) := by
  refine ⟨fun i m σ H => m = xs.length - i ∧ i ≤ xs.length ∧ Pv i σ H, ⟨xs.length, by simp, Nat.zero_le _, h0⟩, ?_⟩
  rintro i m σ H ⟨rfl, hi, p⟩
  have q := hl i σ H hi p
  rcases Nat.lt_or_eq_of_le hi with hlt | e
  · refine .inr ⟨⟨xs, xs[i], q, by simp [hlt]⟩, Pv (i + 1), fun σ' H' p' => ⟨xs.length - (i + 1), by omega, rfl, hlt, p'⟩, fun v H' ⟨T, x, ev, hT, eH, hx⟩ => ?_⟩
    subst ev eH
    exact hs i x σ H T (hx xs q) p hT
  · subst e
    exact .inl ⟨⟨xs, q, Nat.le_refl _⟩, hd σ H p⟩
end Kx
namespace Kx
open PySem L2 PySem.Spec PyProof.Rows
def top (i : Nat) : Stmt := PySem.Challenge.pw_contractheirs_k04_between_and_equal.main.body.getD i (.Pass ⟨0, 0, 0, 0⟩)
abbrev sIsInt : Stmt := top 8
abbrev sIsWord : Stmt := top 9
abbrev sIsTerm : Stmt := top 10
abbrev sIsLit : Stmt := top 11
abbrev sLitT : Stmt := top 12
abbrev sIsCl : Stmt := top 13
abbrev sStand : Stmt := top 17
abbrev sFirst : Stmt := top 18
/-! words, terms, literals, clauses -/
def lets : Str := "abcdefghijklmnopqrstuvwxyz"
def isWord (t : Str) : Bool := decide (1 ≤ t.length ∧ t.length ≤ 8) && t.cps.toList.all fun c => decide (c ∈ lets.cps.toList)
def isTerm (t : Str) : Bool := decide (t = "") || (decide ((Txt.split t ".").length ≤ 2) && (Txt.split t ".").all isWord)
structure Short (t : Str) : Prop where
  l : t.length ≤ 1000
  n : (Txt.split t ".").length ≤ 1000
  e : ∀ x ∈ Txt.split t ".", x.length ≤ 1000
structure Bx (mg : Str → Option Value) : Prop where
  isi : mg "isinstance" = none
  int : mg "int" = none
  bool : mg "bool" = none
  str : mg "str" = none
  tuple : mg "tuple" = none
  len : mg "len" = none
  all : mg "all" = none
  sorted : mg "sorted" = none
  enum : mg "enumerate" = none
  lets : ∃ t, mg "LETTERS" = some (.str lets t)
  longest : ∃ t, mg "LONGEST_WORD" = some (.int 8 t)
structure Fs (K : PySem.W.Frag) (mg : Str → Option Value) (x : Str) (st : Stmt) (ps : List Str) (f : Addr) (fd : FuncData) : Prop where
  F : Fun K x x st f fd
  b : Binds K fd ps []
  m : mg x = some (.ref f)
theorem yes_of {σ : L2.St} {H : Hp} {A B : Hp → Prop} (h : A H) : tYes σ H fun b H3 => if b = true then A H3 else B H3 := by
  show (if true = true then A H else B H)
  rw [if_pos rfl]
  exact h
theorem new_same {H : Hp} {D : Addr} {o : HO} (hD : H D = none) : Same H (upd H D o) := fun b u e => by
  have hb : b ≠ D := fun z => by
    rw [z, hD] at e
    cases e
  rw [upd_ne hb]
  exact e
/-- what is told at a new address stays told of what was there -/
theorem same_upd {H H2 : Hp} {D : Addr} {o : HO} (hD : H D = none) (s2 : Same H H2) : Same H (upd H2 D o) := fun b u e => by
  have hb : b ≠ D := fun z => by
    rw [z, hD] at e
    cases e
  rw [upd_ne hb]
  exact s2 b u e
theorem tyT {K : PySem.W.Frag} {H : Hp} {a : Addr} {xs : List V} (h : SqT K H a xs) : TyX K H (.ref a) (.type "tuple") := by
  rcases h with (h | ⟨o, h⟩) | ⟨o, its, n, hk, hc, _⟩
  · exact .base (.tup h)
  · exact .fTuple h
  · exact .kTuple hk hc
theorem SqT.same {K : PySem.W.Frag} {H H' : Hp} {a : Addr} {xs : List V} (s : Same H H') (h : SqT K H a xs) : SqT K H' a xs := by
  rcases h with (h | ⟨o, h⟩) | h
  · exact .inl (.inl (s _ _ h))
  · exact .inl (.inr ⟨o, s _ _ h⟩)
  · exact .inr h
def spIsInt : Sp := fun vs H Q _ => ∃ n : Int, vs = [.int n] ∧ Q (.bl true) H
def spIsWord : Sp := fun vs H Q _ => ∃ t : Str, vs = [.str t] ∧ t.length ≤ 1000 ∧ ∀ H', Same H H' → Q (.bl (isWord t)) H'
def spIsTerm : Sp := fun vs H Q _ => ∃ t : Str, vs = [.str t] ∧ Short t ∧ ∀ H', Same H H' → Q (.bl (isTerm t)) H'
abbrev Lit := Str × Str × Int
def IsLit (K : PySem.W.Frag) (H : Hp) (x : V) (l : Lit) : Prop := ∃ a, x = .ref a ∧ SqT K H a [.str l.1, .str l.2.1, .int l.2.2]
def spIsLit (K : PySem.W.Frag) : Sp := fun vs H Q _ => ∃ (x : V) (l : Lit), vs = [x] ∧ IsLit K H x l ∧ Q (.bl true) H
theorem IsLit.same {K : PySem.W.Frag} {H H' : Hp} {x : V} {l : Lit} (s : Same H H') (h : IsLit K H x l) : IsLit K H' x l := let ⟨a, e, q⟩ := h; ⟨a, e, SqT.same s q⟩
section
variable {P : Program} {w : World} {K : PySem.W.Frag} {mg : Str → Option Value} {base : Heap}
theorem scInt : FnScope ["thing"] ["thing"] (defScope sIsInt) := ⟨rfl, rfl, rfl, by decide +kernel, rfl, by decide +kernel, by decide +kernel⟩
theorem ok_isint {f : Addr} {fd : FuncData} (F : Fs K mg "is_integer" sIsInt ["thing"] f fd) (T : Bx mg) : FnOk P w K mg base CX0 1 f fd ["thing"] spIsInt := by
  refine F.F.ok scInt (fun vs H Q E h => ?_) (fun cdv A outer s H vs Q E hr h => ?_)
  · obtain ⟨n, rfl, _⟩ := h
    rfl
  · obtain ⟨n, rfl, q⟩ := h
    refine ⟨_, pss_one (ps_ret (pe_and (pe_callB call_isi (by rfl) T.isi boot_isinstance (pa_cons (pv 0) (pa_cons (pe_bltn (v := .ty "int") (by rfl) T.int (by decide +kernel) rfl) pa_nil)))
      (pe_one (pe_not (pe_callB call_isi (by rfl) T.isi boot_isinstance (pa_cons (pv 0) (pa_cons (pe_bltn (v := .ty "bool") (by rfl) T.bool (by decide +kernel) rfl) pa_nil))))))), ?_⟩
    refine ⟨_, rfl, .int n, .ty "int", _, _, true, rfl, .ty _, .base (.int n), kit_ty (by decide +kernel), true, rfl, iteT ?_⟩
    exact ⟨_, rfl, .int n, .ty "bool", _, _, false, rfl, .ty _, .base (.int n), kit_ty (by decide +kernel), false, rfl, q⟩
theorem scWord : FnScope ["thing", "letter"] ["thing"] (defScope sIsWord) := ⟨rfl, rfl, rfl, by decide +kernel, rfl, by decide +kernel, by decide +kernel⟩
theorem ok_isword {f : Addr} {fd : FuncData} (F : Fs K mg "is_word" sIsWord ["thing"] f fd) (T : Bx mg) : FnOk P w K mg base CX0 1 f fd ["thing"] spIsWord := by
  obtain ⟨tl, hL⟩ := T.lets
  obtain ⟨tw, hW⟩ := T.longest
  refine F.F.ok scWord (fun vs H Q E h => ?_) (fun cdv A outer s H vs Q E hr h => ?_)
  · obtain ⟨t, rfl, _⟩ := h
    rfl
  · obtain ⟨t, rfl, hs, q⟩ := h
    refine ⟨_, pss_cons (ps_if (PW.pt (pw_or (pt_not (pt_val (pe_callB call_isi (by rfl) T.isi boot_isinstance (pa_cons (pv 0) (pa_cons (pe_bltn (v := .ty "str") (by rfl) T.str (by decide +kernel) rfl) pa_nil)))))
        (pw_or1 (pt_not (pt_chain op_le op_le pe_int (pe_callB call_len_str (by rfl) T.len PySem.boot_len (pa_cons (pv 0) pa_nil)) (pe_glob (v := .int 8) (by rfl) hW ⟨_, rfl⟩)))))) (pss_one (ps_ret pe_bl)) pss_nil)
      (pss_one (ps_ret (pe_callB (cr_all rfl) (by rfl) T.all (by decide +kernel) (pa_cons
        (pe_lc (own := [("letter", 1)]) (g := gName 1) (tt := tYes) rfl scWord.nd (pi_str (pv 0)) (blkOk_by (N := ["thing", "letter"]) (sc := defScope sIsWord) (by decide +kernel))
          (fun _ _ _ _ _ => pg_name (i := 1) scWord.nd rfl (Or.inl rfl)) (fun _ _ _ _ _ => pts_nil) (fun _ _ _ _ _ => pe_cmpR op_in_sign (pv 1) (pe_glob (v := .str lets) (by rfl) hL ⟨_, rfl⟩) (by with_unfolding_all rfl))) pa_nil)))), ?_⟩
    have hz : t.length ≤ sizeLine := Nat.le_of_lt (small1000 hs)
    refine ⟨_, rfl, .str t, .ty "str", _, _, true, rfl, .ty _, .base (.str t), kit_ty (by decide +kernel), true, rfl, iteF ?_⟩
    refine ⟨_, rfl, t, rfl, hz, _, _, rfl, rfl, _, rfl, ?_⟩
    by_cases h1 : (1 : Int) ≤ (t.length : Int)
    case neg =>
      rw [decide_eq_false h1]
      have e : isWord t = false := by
        unfold isWord
        rw [decide_eq_false (by omega), Bool.false_and]
      refine iteF ⟨_, rfl, iteT ?_⟩
      have q' := q H fun _ _ z => z
      rw [e] at q'
      exact q'
    case pos =>
    rw [decide_eq_true h1]
    refine iteT ⟨_, _, rfl, rfl, _, rfl, ?_⟩
    by_cases h2 : (t.length : Int) ≤ 8
    case neg =>
      rw [decide_eq_false h2]
      have e : isWord t = false := by
        unfold isWord
        rw [decide_eq_false (by omega), Bool.false_and]
      refine iteT ?_
      have q' := q H fun _ _ z => z
      rw [e] at q'
      exact q'
    case pos =>
    rw [decide_eq_true h2]
    refine iteF ?_
    refine ⟨_, rfl, t, rfl, fun D hD => ?_⟩
    refine lc_it walk_str (fun i H2 => Same H H2 ∧ H2 D = some (.lst ((t.cps.toList.take i).map fun c => .bl (decide (c ∈ lets.cps.toList))))) ⟨new_same hD, upd_same⟩ (fun _ _ _ _ => trivial) ?_ ?_
    · rintro i x H2 H3 hi ⟨s2, g⟩ ⟨rfl, c, hc, rfl⟩
      refine ⟨rfl, yes_of ?_⟩
      have hc' : t.cps.toList[i]? = some c := by rw [Array.getElem?_toList]; exact hc
      refine ⟨_, rfl, c, lets, rfl, rfl, _, g, small1000 (by rw [List.length_map, List.length_take]; have e : t.length = t.cps.toList.length := Array.length_toList.symm; omega), same_upd hD s2, ?_⟩
      · rw [upd_same, List.take_add_one, hc', List.map_append]
        rfl
    · rintro H2 ⟨s2, g⟩
      refine ⟨D, t.cps.toList.map fun c => decide (c ∈ lets.cps.toList), rfl, SqL.of ?_, ?_⟩
      · rw [g, List.take_of_length_le (by rw [Array.length_toList]; exact Nat.le_refl _), List.map_map]
        rfl
      · have e : isWord t = (t.cps.toList.map fun c => decide (c ∈ lets.cps.toList)).all id := by
          unfold isWord
          rw [decide_eq_true (by omega), Bool.true_and, List.all_map]
          rfl
        rw [← e]
        exact q H2 s2
theorem scTerm : FnScope ["thing", "words", "word"] ["thing"] (defScope sIsTerm) := ⟨rfl, rfl, rfl, by decide +kernel, rfl, by decide +kernel, by decide +kernel⟩
theorem ok_isterm {f g : Addr} {fd fdW : FuncData} (F : Fs K mg "is_term" sIsTerm ["thing"] f fd) (W : Fs K mg "is_word" sIsWord ["thing"] g fdW) (T : Bx mg) : FnOk P w K mg base CX0 2 f fd ["thing"] spIsTerm := by
  have GW : FnOk P w K mg base CX0 1 g fdW ["thing"] spIsWord := ok_isword W T
  refine F.F.ok scTerm (fun vs H Q E h => ?_) (fun cdv A outer s H vs Q E hr h => ?_)
  · obtain ⟨t, rfl, _⟩ := h
    rfl
  · obtain ⟨t, rfl, hs, q⟩ := h
    refine ⟨_, pss_cons (ps_if (pt_not (pt_val (pe_callB call_isi (by rfl) T.isi boot_isinstance (pa_cons (pv 0) (pa_cons (pe_bltn (v := .ty "str") (by rfl) T.str (by decide +kernel) rfl) pa_nil))))) (pss_one (ps_ret pe_bl)) pss_nil)
      (pss_cons (ps_if (pt_cmpR op_eq (pv 0) pe_str (nomark _)) (pss_one (ps_ret pe_bl)) pss_nil)
      (pss_cons (ps_set (i := 1) scTerm.nd rfl (Or.inl rfl) (pe_split (pv 0) pe_str))
      (pss_one (ps_ret (pe_and (pe_cmpR op_le (pe_callB call_len_seq (by rfl) T.len PySem.boot_len (pa_cons (pv 1) pa_nil)) pe_int (nomark _))
        (pe_one (pe_callB (cr_all rfl) (by rfl) T.all (by decide +kernel) (pa_cons
          (pe_lc (own := [("word", 2)]) (g := gName 2) (tt := tYes) rfl scTerm.nd (pi_list (pv 1)) (blkOk_by (N := ["thing", "words", "word"]) (sc := defScope sIsTerm) (by decide +kernel))
            (fun _ _ _ _ _ => pg_name (i := 2) scTerm.nd rfl (Or.inl rfl)) (fun _ _ _ _ _ => pts_nil)
            (fun _ _ _ _ _ => pe_call GW hr rfl W.m W.F.kp W.b .nil pass0 (pa_cons (pv 2) pa_nil))) pa_nil)))))))), ?_⟩
    refine ⟨_, rfl, .str t, .ty "str", _, _, true, rfl, .ty _, .base (.str t), kit_ty (by decide +kernel), true, rfl, iteF ?_⟩
    refine ⟨_, rfl, rfl, _, rfl, ?_⟩
    by_cases ht : t = ""
    case pos =>
      have e : decide (V.str t = V.str "") = true := by rw [ht]; exact decide_eq_true rfl
      rw [e]
      refine iteT ?_
      have e : isTerm t = true := by
        unfold isTerm
        rw [decide_eq_true ht, Bool.true_or]
      have q' := q H fun _ _ z => z
      rw [e] at q'
      exact q'
    case neg =>
    have e : decide (V.str t = V.str "") = false := decide_eq_false fun z => ht (V.str.inj z)
    rw [e]
    refine iteF ?_
    have e0 : isTerm t = (decide ((Txt.split t ".").length ≤ 2) && (Txt.split t ".").all isWord) := by
      unfold isTerm
      rw [decide_eq_false ht, Bool.false_or]
    rw [e0] at q
    refine ⟨_, rfl, ⟨t, rfl⟩, t, ".", rfl, rfl, (by decide), (by have := hs.l; rw [sizeLine_eq]; omega), fun p hp => ?_⟩
    have gp : (upd H p (.lst ((Txt.split t ".").map V.str))) p = some (.lst ((Txt.split t ".").map V.str)) := upd_same
    refine ⟨_, rfl, p, _, rfl, .inl (SqL.of gp), _, _, rfl, rfl, _, rfl, ?_⟩
    rw [List.length_map]
    by_cases h2 : ((Txt.split t ".").length : Int) ≤ 2
    case neg =>
      rw [decide_eq_false (by omega), Bool.false_and] at q
      rw [decide_eq_false h2]
      exact iteF (q _ (new_same hp))
    case pos =>
    rw [decide_eq_true (by omega), Bool.true_and] at q
    rw [decide_eq_true h2]
    refine iteT ⟨_, rfl, p, rfl, ⟨_, SqL.of gp⟩, fun D hD => ?_⟩
    have nD : p ≠ D := fun z => by
      rw [← z, gp] at hD
      cases hD
    refine lc_it (walk_list (xs := (Txt.split t ".").map V.str)) (fun i H2 => Same (upd H p (.lst ((Txt.split t ".").map V.str))) H2 ∧ H2 D = some (.lst (((Txt.split t ".").take i).map fun x => .bl (isWord x)))) ⟨new_same hD, upd_same⟩ (fun i H2 _ h => SqL.of (h.1 _ _ gp)) ?_ ?_
    · rintro i x H2 H3 hi ⟨s2, gD⟩ ⟨rfl, hx⟩
      rw [List.getElem?_map] at hx
      obtain ⟨z, hz, rfl⟩ := Option.map_eq_some_iff.mp hx
      refine ⟨rfl, yes_of ⟨_, rfl, z, rfl, hs.e z (List.mem_of_getElem? hz), fun H4 s4 => ⟨_, s4 _ _ gD, small1000 (by rw [List.length_map, List.length_take]; have := hs.n; omega), same_upd hD (fun b u e => s4 _ _ (s2 _ _ e)), ?_⟩⟩⟩
      rw [upd_same, List.take_add_one, hz, List.map_append]
      rfl
    · rintro H2 ⟨s2, gD⟩
      refine ⟨D, (Txt.split t ".").map isWord, rfl, SqL.of ?_, ?_⟩
      · rw [gD, List.take_of_length_le (by rw [List.length_map]; exact Nat.le_refl _), List.map_map]
        rfl
      · have e : (Txt.split t ".").all isWord = ((Txt.split t ".").map isWord).all id := by
          rw [List.all_map]
          rfl
        rw [← e]
        exact q H2 fun b u z => s2 _ _ (new_same hp b u z)
theorem scLit : FnScope ["thing", "left", "right", "number"] ["thing"] (defScope sIsLit) := ⟨rfl, rfl, rfl, by decide +kernel, rfl, by decide +kernel, by decide +kernel⟩
theorem ok_islit {f g : Addr} {fd fdI : FuncData} (F : Fs K mg "is_literal" sIsLit ["thing"] f fd) (W : Fs K mg "is_integer" sIsInt ["thing"] g fdI) (T : Bx mg) : FnOk P w K mg base CX0 2 f fd ["thing"] (spIsLit K) := by
  have GI : FnOk P w K mg base CX0 1 g fdI ["thing"] spIsInt := ok_isint W T
  refine F.F.ok scLit (fun vs H Q E h => ?_) (fun cdv A outer s H vs Q E hr h => ?_)
  · obtain ⟨x, l, rfl, _⟩ := h
    rfl
  · obtain ⟨x, ⟨l1, l2, n⟩, rfl, ⟨a, rfl, ha⟩, q⟩ := h
    refine ⟨_, pss_cons (ps_if (PW.pt (pw_or (pt_not (pt_val (pe_callB call_isi (by rfl) T.isi boot_isinstance (pa_cons (pv 0) (pa_cons (pe_bltn (v := .ty "tuple") (by rfl) T.tuple (by decide +kernel) rfl) pa_nil)))))
        (pw_or1 (pt_cmpR op_ne (pe_callB call_len_seq (by rfl) T.len PySem.boot_len (pa_cons (pv 0) pa_nil)) pe_int (nomark _))))) (pss_one (ps_ret pe_bl)) pss_nil)
      (pss_cons (ps_asg (pv 0) (pg_tup rfl (pgs_cons (pg_name (i := 1) scLit.nd rfl (Or.inl rfl)) (pgs_cons (pg_name (i := 2) scLit.nd rfl (Or.inl rfl)) (pgs_cons (pg_name (i := 3) scLit.nd rfl (Or.inl rfl)) pgs_nil)))))
      (pss_one (ps_ret (pe_and (pe_callB call_isi (by rfl) T.isi boot_isinstance (pa_cons (pv 1) (pa_cons (pe_bltn (v := .ty "str") (by rfl) T.str (by decide +kernel) rfl) pa_nil)))
        (pe_and (pe_callB call_isi (by rfl) T.isi boot_isinstance (pa_cons (pv 2) (pa_cons (pe_bltn (v := .ty "str") (by rfl) T.str (by decide +kernel) rfl) pa_nil)))
        (pe_one (pe_call GI hr rfl W.m W.F.kp W.b .nil pass0 (pa_cons (pv 3) pa_nil)))))))), ?_⟩
    refine ⟨_, rfl, .ref a, .ty "tuple", _, _, true, rfl, .ty _, tyT ha, kit_ty (by decide +kernel), true, rfl, iteF ?_⟩
    refine ⟨_, rfl, a, _, rfl, .inr ha, rfl, _, rfl, ?_⟩
    refine iteF ?_
    refine ⟨_, rfl, a, _, rfl, ha, rfl, _, _, rfl, _, _, rfl, _, _, rfl, rfl, ?_⟩
    refine ⟨_, rfl, .str l1, .ty "str", _, _, true, rfl, .ty _, .base (.str l1), kit_ty (by decide +kernel), true, rfl, iteT ?_⟩
    refine ⟨_, rfl, .str l2, .ty "str", _, _, true, rfl, .ty _, .base (.str l2), kit_ty (by decide +kernel), true, rfl, iteT ?_⟩
    exact ⟨_, rfl, n, rfl, q⟩
def spLitT (K : PySem.W.Frag) : Sp := fun vs H Q _ => ∃ (x : V) (l : Lit), vs = [x] ∧ IsLit K H x l ∧ Short l.1 ∧ Short l.2.1 ∧ ∀ H', Same H H' → Q (.bl (isTerm l.1 && isTerm l.2.1)) H'
theorem scLitT : FnScope ["thing"] ["thing"] (defScope sLitT) := ⟨rfl, rfl, rfl, by decide +kernel, rfl, by decide +kernel, by decide +kernel⟩
theorem ok_litT {f g i t wd : Addr} {fd fdL fdI fdT fdW : FuncData} (F : Fs K mg "is_literal_over_terms" sLitT ["thing"] f fd) (L : Fs K mg "is_literal" sIsLit ["thing"] g fdL) (I : Fs K mg "is_integer" sIsInt ["thing"] i fdI)
    (Tm : Fs K mg "is_term" sIsTerm ["thing"] t fdT) (W : Fs K mg "is_word" sIsWord ["thing"] wd fdW) (T : Bx mg) : FnOk P w K mg base CX0 3 f fd ["thing"] (spLitT K) := by
  have GL : FnOk P w K mg base CX0 2 g fdL ["thing"] (spIsLit K) := ok_islit L I T
  have GT : FnOk P w K mg base CX0 2 t fdT ["thing"] spIsTerm := ok_isterm Tm W T
  refine F.F.ok scLitT (fun vs H Q E h => ?_) (fun cdv A outer s H vs Q E hr h => ?_)
  · obtain ⟨x, l, rfl, _⟩ := h
    rfl
  · obtain ⟨x, ⟨l1, l2, n⟩, rfl, ⟨a, rfl, ha⟩, sh1, sh2, q⟩ := h
    refine ⟨_, pss_one (ps_ret (pe_and (pe_call GL hr (by rfl) L.m L.F.kp L.b .nil pass0 (pa_cons (pv 0) pa_nil))
      (pe_and (pe_call GT hr (by rfl) Tm.m Tm.F.kp Tm.b .nil pass0 (pa_cons (pe_ix ix_tup (pv 0) pe_int (fun _ _ => rfl)) pa_nil))
      (pe_one (pe_call GT hr (by rfl) Tm.m Tm.F.kp Tm.b .nil pass0 (pa_cons (pe_ix ix_tup (pv 0) pe_int (fun _ _ => rfl)) pa_nil)))))), ?_⟩
    refine ⟨_, rfl, .ref a, (l1, l2, n), rfl, ⟨a, rfl, ha⟩, _, rfl, iteT ?_⟩
    refine ⟨_, rfl, a, _, _, .str l1, rfl, rfl, ha, rfl, l1, rfl, sh1, fun H4 s4 => ⟨_, rfl, ?_⟩⟩
    cases h3 : isTerm l1 with
    | false =>
      have q' := q H4 s4
      rw [show isTerm (l1, l2, n).1 = false from h3, Bool.false_and] at q'
      exact iteF q'
    | true =>
      refine iteT ⟨_, rfl, a, _, _, .str l2, rfl, rfl, SqT.same s4 ha, rfl, l2, rfl, sh2, fun H5 s5 => ?_⟩
      have q' := q H5 fun b u z => s5 _ _ (s4 _ _ z)
      rw [show isTerm (l1, l2, n).1 = true from h3, Bool.true_and] at q'
      exact q'
end
end Kx
namespace Kx
open PySem L2 PySem.Spec PyProof.Rows
structure Cl (K : PySem.W.Frag) (H : Hp) (a : Addr) (xs : List V) (c : List Lit) : Prop where
  sq : SqT K H a xs
  p : Paired (IsLit K H) xs c
  l1 : 1 ≤ c.length
  l2 : c.length ≤ 1000
theorem paired_same {K : PySem.W.Frag} {H H' : Hp} (s : Same H H') {xs : List V} {c : List Lit} (h : Paired (IsLit K H) xs c) : Paired (IsLit K H') xs c := L2.Paired.mapP h fun _ _ z => IsLit.same s z
theorem Cl.same {K : PySem.W.Frag} {H H' : Hp} {a : Addr} {xs : List V} {c : List Lit} (s : Same H H') (h : Cl K H a xs c) : Cl K H' a xs c := ⟨SqT.same s h.sq, paired_same s h.p, h.l1, h.l2⟩
theorem Cl.len {K : PySem.W.Frag} {H : Hp} {a : Addr} {xs : List V} {c : List Lit} (h : Cl K H a xs c) : xs.length = c.length := Paired.length h.p
def spIsCl (K : PySem.W.Frag) : Sp := fun vs H Q _ => ∃ (a : Addr) (xs : List V) (c : List Lit) (m : Int), vs = [.ref a, .int m] ∧ Cl K H a xs c ∧ ∀ H', Same H H' → Q (.bl (decide ((c.length : Int) ≤ m))) H'
def stands (c : List Lit) : Bool := decide ((c.length : Int) ≤ 2) && c.all fun l => isTerm l.1 && isTerm l.2.1
def spStand (K : PySem.W.Frag) : Sp := fun vs H Q _ => ∃ (a : Addr) (xs : List V) (c : List Lit), vs = [.ref a] ∧ Cl K H a xs c ∧ (∀ l ∈ c, Short l.1 ∧ Short l.2.1) ∧ ∀ H', Same H H' → Q (.bl (stands c)) H'
section
variable {P : Program} {w : World} {K : PySem.W.Frag} {mg : Str → Option Value} {base : Heap}
theorem scCl : FnScope ["thing", "most", "literal"] ["thing", "most"] (defScope sIsCl) := ⟨rfl, rfl, rfl, by decide +kernel, rfl, by decide +kernel, by decide +kernel⟩
theorem ok_iscl {f g i : Addr} {fd fdL fdI : FuncData} (F : Fs K mg "is_clause" sIsCl ["thing", "most"] f fd) (L : Fs K mg "is_literal" sIsLit ["thing"] g fdL) (I : Fs K mg "is_integer" sIsInt ["thing"] i fdI) (T : Bx mg) :
    FnOk P w K mg base CX0 3 f fd ["thing", "most"] (spIsCl K) := by
  have GL : FnOk P w K mg base CX0 2 g fdL ["thing"] (spIsLit K) := ok_islit L I T
  refine F.F.ok scCl (fun vs H Q E h => ?_) (fun cdv A outer s H vs Q E hr h => ?_)
  · obtain ⟨a, xs, c, m, rfl, _⟩ := h
    rfl
  · obtain ⟨a, xs, c, m, rfl, hc, q⟩ := h
    have hl := hc.len
    have h1 := hc.l1
    refine ⟨_, pss_cons (ps_if (PW.pt (pw_or (pt_not (pt_val (pe_callB call_isi (by rfl) T.isi boot_isinstance (pa_cons (pv 0) (pa_cons (pe_bltn (v := .ty "tuple") (by rfl) T.tuple (by decide +kernel) rfl) pa_nil)))))
        (pw_or1 (pt_not (pt_chain op_le op_le pe_int (pe_callB call_len_seq (by rfl) T.len PySem.boot_len (pa_cons (pv 0) pa_nil)) (pv 1)))))) (pss_one (ps_ret pe_bl)) pss_nil)
      (pss_one (ps_ret (pe_callB (cr_all rfl) (by rfl) T.all (by decide +kernel) (pa_cons
        (pe_lc (own := [("literal", 2)]) (g := gName 2) (tt := tYes) rfl scCl.nd (pi_tup (pv 0)) (blkOk_by (N := ["thing", "most", "literal"]) (sc := defScope sIsCl) (by decide +kernel))
          (fun _ _ _ _ _ => pg_name (i := 2) scCl.nd rfl (Or.inl rfl)) (fun _ _ _ _ _ => pts_nil)
          (fun _ _ _ _ _ => pe_call GL hr rfl L.m L.F.kp L.b .nil pass0 (pa_cons (pv 2) pa_nil))) pa_nil)))), ?_⟩
    refine ⟨_, rfl, .ref a, .ty "tuple", _, _, true, rfl, .ty _, tyT hc.sq, kit_ty (by decide +kernel), true, rfl, iteF ?_⟩
    refine ⟨_, rfl, a, xs, rfl, .inr hc.sq, _, _, rfl, rfl, _, rfl, ?_⟩
    rw [decide_eq_true (by rw [hl]; omega)]
    refine iteT ⟨_, rfl, _, _, rfl, rfl, _, rfl, ?_⟩
    rw [hl]
    by_cases h2 : (c.length : Int) ≤ m
    case neg =>
      rw [decide_eq_false h2] at q ⊢
      exact iteT (q H fun _ _ z => z)
    case pos =>
    rw [decide_eq_true h2] at q ⊢
    refine iteF ⟨_, rfl, a, rfl, ⟨_, hc.sq⟩, fun D hD => ?_⟩
    refine lc_it (walk_tup (xs := xs)) (fun i H2 => Same H H2 ∧ H2 D = some (.lst ((List.replicate i true).map V.bl))) ⟨new_same hD, upd_same⟩ (fun i H2 _ h => SqT.same h.1 hc.sq) ?_ ?_
    · rintro i x H2 H3 hi ⟨s2, gD⟩ ⟨rfl, hx⟩
      obtain ⟨l, hcl, hx'⟩ := paired_get hc.p hx
      refine ⟨rfl, yes_of ⟨_, rfl, x, l, rfl, IsLit.same s2 hx', _, gD, small1000 (by rw [List.length_map, List.length_replicate]; have := hc.l2; omega), same_upd hD s2, ?_⟩⟩
      rw [upd_same, List.replicate_succ', List.map_append]
      rfl
    · rintro H2 ⟨s2, gD⟩
      refine ⟨D, List.replicate xs.length true, rfl, SqL.of gD, ?_⟩
      have e : (List.replicate xs.length true).all id = true := List.all_eq_true.mpr fun b hb => by rw [(List.mem_replicate.mp hb).2]; rfl
      rw [e]
      exact q H2 s2
theorem scStand : FnScope ["thing", "literal"] ["thing"] (defScope sStand) := ⟨rfl, rfl, rfl, by decide +kernel, rfl, by decide +kernel, by decide +kernel⟩
theorem ok_stand {f g i c' t wd lt : Addr} {fd fdL fdI fdC fdT fdW fdLT : FuncData} (F : Fs K mg "_can_stand" sStand ["thing"] f fd) (C : Fs K mg "is_clause" sIsCl ["thing", "most"] c' fdC) (L : Fs K mg "is_literal" sIsLit ["thing"] g fdL) (I : Fs K mg "is_integer" sIsInt ["thing"] i fdI)
    (Tm : Fs K mg "is_term" sIsTerm ["thing"] t fdT) (W : Fs K mg "is_word" sIsWord ["thing"] wd fdW) (LT : Fs K mg "is_literal_over_terms" sLitT ["thing"] lt fdLT) (T : Bx mg) (hM : ∃ k, mg "MOST_LITERALS" = some (.int 2 k)) :
    FnOk P w K mg base CX0 4 f fd ["thing"] (spStand K) := by
  obtain ⟨tk, hM⟩ := hM
  have GC : FnOk P w K mg base CX0 3 c' fdC ["thing", "most"] (spIsCl K) := ok_iscl C L I T
  have GT : FnOk P w K mg base CX0 3 lt fdLT ["thing"] (spLitT K) := ok_litT LT L I Tm W T
  refine F.F.ok scStand (fun vs H Q E h => ?_) (fun cdv A outer s H vs Q E hr h => ?_)
  · obtain ⟨a, xs, c, rfl, _⟩ := h
    rfl
  · obtain ⟨a, xs, c, rfl, hc, hs, q⟩ := h
    have hl := hc.len
    refine ⟨_, pss_one (ps_ret (pe_and (pe_call GC hr (by rfl) C.m C.F.kp C.b .nil pass0 (pa_cons (pv 0) (pa_cons (pe_glob (v := .int 2) (by rfl) hM ⟨_, rfl⟩) pa_nil)))
      (pe_one (pe_callB (cr_all rfl) (by rfl) T.all (by decide +kernel) (pa_cons
        (pe_lc (own := [("literal", 1)]) (g := gName 1) (tt := tYes) rfl scStand.nd (pi_tup (pv 0)) (blkOk_by (N := ["thing", "literal"]) (sc := defScope sStand) (by decide +kernel))
          (fun _ _ _ _ _ => pg_name (i := 1) scStand.nd rfl (Or.inl rfl)) (fun _ _ _ _ _ => pts_nil)
          (fun _ _ _ _ _ => pe_call GT hr (by rfl) LT.m LT.F.kp LT.b .nil pass0 (pa_cons (pv 1) pa_nil))) pa_nil))))), ?_⟩
    refine ⟨_, rfl, a, xs, c, 2, rfl, hc, fun H1 s1 => ⟨_, rfl, ?_⟩⟩
    by_cases h2 : (c.length : Int) ≤ 2
    case neg =>
      rw [decide_eq_false h2]
      have e : stands c = false := by
        unfold stands
        rw [decide_eq_false h2, Bool.false_and]
      rw [e] at q
      exact iteF (q H1 s1)
    case pos =>
    rw [decide_eq_true h2]
    have e : stands c = c.all fun l => isTerm l.1 && isTerm l.2.1 := by
      unfold stands
      rw [decide_eq_true h2, Bool.true_and]
    rw [e] at q
    have hc1 := Cl.same s1 hc
    refine iteT ⟨_, rfl, a, rfl, ⟨_, hc1.sq⟩, fun D hD => ?_⟩
    refine lc_it (walk_tup (xs := xs)) (fun i H2 => Same H1 H2 ∧ H2 D = some (.lst ((c.take i).map fun l => .bl (isTerm l.1 && isTerm l.2.1)))) ⟨new_same hD, upd_same⟩ (fun i H2 _ h => SqT.same h.1 hc1.sq) ?_ ?_
    · rintro i x H2 H3 hi ⟨s2, gD⟩ ⟨rfl, hx⟩
      obtain ⟨l, hcl, hx'⟩ := paired_get hc1.p hx
      obtain ⟨sh1, sh2⟩ := hs l (List.mem_of_getElem? hcl)
      refine ⟨rfl, yes_of ⟨_, rfl, x, l, rfl, IsLit.same s2 hx', sh1, sh2, fun H4 s4 => ?_⟩⟩
      refine ⟨_, s4 _ _ gD, small1000 (by rw [List.length_map, List.length_take]; have := hc.l2; omega), same_upd hD (fun b u z => s4 _ _ (s2 _ _ z)), ?_⟩
      rw [upd_same, List.take_add_one, hcl, List.map_append]
      rfl
    · rintro H2 ⟨s2, gD⟩
      refine ⟨D, c.map fun l => isTerm l.1 && isTerm l.2.1, rfl, SqL.of ?_, ?_⟩
      · rw [gD, hl, List.take_of_length_le (Nat.le_refl _), List.map_map]
        rfl
      · have e : (c.all fun l => isTerm l.1 && isTerm l.2.1) = (c.map fun l => isTerm l.1 && isTerm l.2.1).all id := by
          rw [List.all_map]
          rfl
        rw [← e]
        exact q H2 fun b u z => s2 _ _ (s1 _ _ z)
end
end Kx
namespace Kx
open PySem L2 PySem.Spec PyProof.Rows
def IsC (K : PySem.W.Frag) (H : Hp) (x : V) (c : List Lit) : Prop := ∃ a ys, x = .ref a ∧ Cl K H a ys c
theorem IsC.same {K : PySem.W.Frag} {H H' : Hp} {x : V} {c : List Lit} (s : Same H H') (h : IsC K H x c) : IsC K H' x c := let ⟨a, ys, e, q⟩ := h; ⟨a, ys, e, Cl.same s q⟩
/-- a tuple of clauses -/
structure Cs (K : PySem.W.Frag) (H : Hp) (a : Addr) (xs : List V) (cs : List (List Lit)) : Prop where
  sq : SqT K H a xs
  p : Paired (IsC K H) xs cs
  l : cs.length ≤ 1000
theorem pairedC_same {K : PySem.W.Frag} {H H' : Hp} (s : Same H H') {xs : List V} {cs : List (List Lit)} (h : Paired (IsC K H) xs cs) : Paired (IsC K H') xs cs := L2.Paired.mapP h fun _ _ z => IsC.same s z
theorem Cs.same {K : PySem.W.Frag} {H H' : Hp} {a : Addr} {xs : List V} {cs : List (List Lit)} (s : Same H H') (h : Cs K H a xs cs) : Cs K H' a xs cs := ⟨SqT.same s h.sq, pairedC_same s h.p, h.l⟩
def shortC (cs : List (List Lit)) : Prop := ∀ c ∈ cs, ∀ l ∈ c, Short l.1 ∧ Short l.2.1
/-- where clauses are refused, from the i-th on, d of two literals before -/
def wrongAt : Nat → Nat → List (List Lit) → Option Int
  | _, _, [] => none
  | i, d, c :: r => if stands c = true then if (if c.length = 2 then d + 1 else d) = 2 then some (i : Int) else wrongAt (i + 1) (if c.length = 2 then d + 1 else d) r else some (i : Int)
def firstWrong (cs : List (List Lit)) : Option Int := if 4 < cs.length then some (-1) else wrongAt 0 0 cs
def optV : Option Int → V
  | none => .non
  | some i => .int i
def spFirst (K : PySem.W.Frag) : Sp := fun vs H Q _ => ∃ (a : Addr) (xs : List V) (cs : List (List Lit)), vs = [.ref a] ∧ Cs K H a xs cs ∧ shortC cs ∧ ∀ H', Same H H' → Q (optV (firstWrong cs)) H'
/-- the package's own defs, as they are bound -/
structure Forms (K : PySem.W.Frag) (mg : Str → Option Value) : Prop where
  T : Bx mg
  mL : ∃ k, mg "MOST_LITERALS" = some (.int 2 k)
  mC : ∃ k, mg "MOST_CLAUSES" = some (.int 4 k)
  int : ∃ f fd, Fs K mg "is_integer" sIsInt ["thing"] f fd
  word : ∃ f fd, Fs K mg "is_word" sIsWord ["thing"] f fd
  term : ∃ f fd, Fs K mg "is_term" sIsTerm ["thing"] f fd
  lit : ∃ f fd, Fs K mg "is_literal" sIsLit ["thing"] f fd
  cl : ∃ f fd, Fs K mg "is_clause" sIsCl ["thing", "most"] f fd
  stand : ∃ f fd, Fs K mg "_can_stand" sStand ["thing"] f fd
  litT : ∃ f fd, Fs K mg "is_literal_over_terms" sLitT ["thing"] f fd
section
variable {P : Program} {w : World} {K : PySem.W.Frag} {mg : Str → Option Value} {base : Heap}
theorem scFirst : FnScope ["clauses", "doubles", "at", "clause"] ["clauses"] (defScope sFirst) := ⟨rfl, rfl, rfl, by decide +kernel, rfl, by decide +kernel, by decide +kernel⟩
theorem ok_first {f : Addr} {fd : FuncData} (F : Fs K mg "_first_wrong" sFirst ["clauses"] f fd) (M : Forms K mg) : FnOk P w K mg base CX0 5 f fd ["clauses"] (spFirst K) := by
  obtain ⟨tk, hM⟩ := M.mC
  obtain ⟨_, _, dI⟩ := M.int
  obtain ⟨_, _, dW⟩ := M.word
  obtain ⟨_, _, dT⟩ := M.term
  obtain ⟨_, _, dL⟩ := M.lit
  obtain ⟨_, _, dC⟩ := M.cl
  obtain ⟨_, _, dS⟩ := M.stand
  obtain ⟨_, _, dLT⟩ := M.litT
  have T := M.T
  have GS : FnOk P w K mg base CX0 4 _ _ ["thing"] (spStand K) := ok_stand dS dC dL dI dT dW dLT T M.mL
  refine F.F.ok scFirst (fun vs H Q E h => ?_) (fun cdv A outer s H vs Q E hr h => ?_)
  · obtain ⟨a, xs, cs, rfl, _⟩ := h
    rfl
  · obtain ⟨a, xs, cs, rfl, hc, hs, q⟩ := h
    have hl : xs.length = cs.length := Paired.length hc.p
    refine ⟨_, pss_cons (ps_if (pt_cmpR op_gt (pe_callB call_len_seq (by rfl) T.len PySem.boot_len (pa_cons (pv 0) pa_nil)) (pe_glob (v := .int 4) (by rfl) hM ⟨_, rfl⟩) (nomark _)) (pss_one (ps_ret (pe_un un_neg pe_int))) pss_nil)
      (pss_cons (ps_set (i := 1) scFirst.nd rfl (Or.inl rfl) pe_int)
      (pss_cons (ps_for PassesOwn.never rfl (pi_enumT (by rfl) T.enum (pa_cons (pv 0) pa_nil)) (pg_tup rfl (pgs_cons (pg_name (i := 2) scFirst.nd rfl (Or.inl rfl)) (pgs_cons (pg_name (i := 3) scFirst.nd rfl (Or.inl rfl)) pgs_nil)))
        (pss_cons (ps_if (pt_not (pt_val (pe_call GS hr (by rfl) dS.m dS.F.kp dS.b .nil pass0 (pa_cons (pv 3) pa_nil)))) (pss_one (ps_ret (pv 2))) pss_nil)
        (pss_cons (ps_if (pt_cmpR op_eq (pe_callB call_len_seq (by rfl) T.len PySem.boot_len (pa_cons (pv 3) pa_nil)) pe_int (nomark _)) (pss_one (ps_aug (i := 1) scFirst.nd rfl (Or.inl rfl) pe_int ip_add)) pss_nil)
        (pss_one (ps_if (pt_cmpR op_eq (pv 1) pe_int (nomark _)) (pss_one (ps_ret (pv 2))) pss_nil)))))
      (pss_one (ps_ret pe_non)))), ?_⟩
    refine ⟨_, rfl, a, xs, rfl, .inr hc.sq, _, _, rfl, rfl, _, rfl, ?_⟩
    rw [hl]
    by_cases h4 : (4 : Int) < (cs.length : Int)
    case pos =>
      rw [decide_eq_true h4]
      have e : firstWrong cs = some (-1) := by
        unfold firstWrong
        rw [if_pos (by omega)]
      rw [e] at q
      exact iteT ⟨_, rfl, q H fun _ _ z => z⟩
    case neg =>
    rw [decide_eq_false h4]
    have e : firstWrong cs = wrongAt 0 0 cs := by
      unfold firstWrong
      rw [if_neg (by omega)]
    rw [e] at q
    obtain ⟨R, hR⟩ : ∃ R, wrongAt 0 0 cs = R := ⟨_, rfl⟩
    rw [hR] at q
    refine iteF ?_
    refine ⟨_, rfl, a, xs, rfl, hc.sq, ?_⟩
    refine for_enumT (xs := xs) (fun i σ H2 => Same H H2 ∧ ∃ (d : Nat) (v2 v3 : Option V), σ = [some (.ref a), some (.int d), v2, v3] ∧ d < 2 ∧ wrongAt i d (cs.drop i) = R) ⟨fun _ _ z => z, 0, none, none, rfl, by decide, hR⟩
      (fun i σ H2 _ h => SqT.same h.1 hc.sq) ?_ ?_
    · rintro i x σ H2 t hx ⟨s2, d, v2, v3, rfl, hd, hw⟩ ht
      obtain ⟨c, hcl, y, ys, rfl, hy⟩ := paired_get hc.p hx
      have hdrop : cs.drop i = c :: cs.drop (i + 1) := (List.drop_eq_getElem?_toList_append).trans (by rw [hcl]; rfl)
      rw [hdrop] at hw
      have s3 : Same H (upd H2 t (.tup [.int (i : Nat), .ref y])) := fun b u z => new_same ht b u (s2 b u z)
      have hy3 := Cl.same s3 hy
      refine ⟨t, _, rfl, SqT.of upd_same, rfl, _, _, rfl, _, _, rfl, rfl, ?_⟩
      refine ⟨_, rfl, y, ys, c, rfl, hy3, fun l hm => hs c (List.mem_of_getElem? hcl) l hm, fun H4 s4 => ⟨_, rfl, ?_⟩⟩
      have s14 : Same H H4 := fun b u z => s4 b u (s3 b u z)
      have hy4 := Cl.same s14 hy
      unfold wrongAt at hw
      cases hst : stands c with
      | false =>
        rw [hst, if_neg Bool.false_ne_true] at hw
        rw [← hw] at q
        exact iteT ⟨_, rfl, q H4 s14⟩
      | true =>
        rw [hst, if_pos rfl] at hw
        refine iteF ?_
        refine ⟨_, rfl, y, ys, rfl, .inr hy4.sq, rfl, _, rfl, ?_⟩
        rw [hy4.len]
        by_cases h2 : c.length = 2
        case pos =>
          rw [if_pos h2] at hw
          have e2 : decide (V.int (c.length : Int) = V.int 2) = true := by rw [h2]; exact decide_eq_true rfl
          rw [e2]
          refine iteT ⟨_, rfl, _, _, rfl, rfl, ?_⟩
          refine ⟨_, rfl, rfl, _, rfl, ?_⟩
          by_cases h5 : d + 1 = 2
          case pos =>
            rw [if_pos h5] at hw
            have e5 : decide (V.int ((d : Int) + 1) = V.int 2) = true := by
              have : d = 1 := by omega
              rw [this]
              exact decide_eq_true rfl
            rw [e5]
            rw [← hw] at q
            exact iteT ⟨_, rfl, q H4 s14⟩
          case neg =>
            rw [if_neg h5] at hw
            have e5 : decide (V.int ((d : Int) + 1) = V.int 2) = false := decide_eq_false fun z => h5 (by have := V.int.inj z; omega)
            rw [e5]
            exact iteF ⟨s14, d + 1, _, _, rfl, by omega, hw⟩
        case neg =>
          rw [if_neg h2] at hw
          have e2 : decide (V.int (c.length : Int) = V.int 2) = false := decide_eq_false fun z => h2 (by have := V.int.inj z; omega)
          rw [e2]
          refine iteF ?_
          refine ⟨_, rfl, rfl, _, rfl, ?_⟩
          have h5 : ¬ d = 2 := by omega
          rw [if_neg h5] at hw
          have e5 : decide (V.int (d : Int) = V.int 2) = false := decide_eq_false fun z => h5 (by have := V.int.inj z; omega)
          rw [e5]
          exact iteF ⟨s14, d, _, _, rfl, hd, hw⟩
    · rintro σ H2 ⟨s2, d, v2, v3, rfl, hd, hw⟩
      rw [List.drop_of_length_le (by rw [hl]; exact Nat.le_refl _)] at hw
      rw [← hw] at q
      exact q H2 s2
end
end Kx
namespace Kx
open PySem L2 PySem.Spec PyProof.Rows
/-! the forms, asked of any thing -/
inductive Sh where
  | oth | bl | int (i : Int) | str (s : Str) | tup (l : List Sh)
mutual
inductive Is (K : PySem.W.Frag) (H : Hp) : V → Sh → Prop where
  | non : Is K H .non .oth
  | lst {a : Addr} (h : ∃ xs, SqL K H a xs) : Is K H (.ref a) .oth
  | dic {a : Addr} (h : ∃ kvs, H a = some (.dK kvs)) : Is K H (.ref a) .oth
  | bl (b : Bool) : Is K H (.bl b) .bl
  | int (i : Int) : Is K H (.int i) (.int i)
  | str (s : Str) (h : Short s) : Is K H (.str s) (.str s)
  | tup {a : Addr} {xs : List V} {l : List Sh} (h : SqT K H a xs) (p : IsAll K H xs l) (n : l.length ≤ 1000) : Is K H (.ref a) (.tup l)
inductive IsAll (K : PySem.W.Frag) (H : Hp) : List V → List Sh → Prop where
  | nil : IsAll K H [] []
  | cons {x : V} {d : Sh} {xs : List V} {l : List Sh} (h : Is K H x d) (t : IsAll K H xs l) : IsAll K H (x :: xs) (d :: l)
end
theorem IsAll.length {K : PySem.W.Frag} {H : Hp} : ∀ {xs : List V} {l : List Sh}, IsAll K H xs l → xs.length = l.length
  | _, _, .nil => rfl
  | _, _, .cons _ t => congrArg (· + 1) t.length
theorem IsAll.get {K : PySem.W.Frag} {H : Hp} : ∀ {xs : List V} {l : List Sh} {i : Nat} {x : V}, IsAll K H xs l → xs[i]? = some x → ∃ d, l[i]? = some d ∧ Is K H x d
  | _, _, _, _, .nil, h => by simp at h
  | _, _, 0, _, .cons a _, h => by simp at h; subst h; exact ⟨_, rfl, a⟩
  | _, _, i + 1, _, .cons _ t, h => by
    obtain ⟨d, h1, h2⟩ := IsAll.get (i := i) t (by simpa using h)
    exact ⟨d, by simpa using h1, h2⟩
theorem SqL.same {K : PySem.W.Frag} {H H' : Hp} {a : Addr} {xs : List V} (s : Same H H') (h : SqL K H a xs) : SqL K H' a xs := by
  rcases h with (h | ⟨o, h⟩) | h
  · exact .inl (.inl (s _ _ h))
  · exact .inl (.inr ⟨o, s _ _ h⟩)
  · exact .inr h
mutual
theorem Is.same {K : PySem.W.Frag} {H H' : Hp} (s : Same H H') : ∀ {v : V} {d : Sh}, Is K H v d → Is K H' v d
  | _, _, .non => .non
  | _, _, .lst h => .lst (let ⟨xs, z⟩ := h; ⟨xs, SqL.same s z⟩)
  | _, _, .dic h => .dic (let ⟨kvs, z⟩ := h; ⟨kvs, s _ _ z⟩)
  | _, _, .bl b => .bl b
  | _, _, .int i => .int i
  | _, _, .str x h => .str x h
  | _, _, .tup h p n => .tup (SqT.same s h) (IsAll.same s p) n
theorem IsAll.same {K : PySem.W.Frag} {H H' : Hp} (s : Same H H') : ∀ {xs : List V} {l : List Sh}, IsAll K H xs l → IsAll K H' xs l
  | _, _, .nil => .nil
  | _, _, .cons h t => .cons (Is.same s h) (IsAll.same s t)
end
def isTupS : Sh → Bool | .tup _ => true | _ => false
def isStrS : Sh → Bool | .str _ => true | _ => false
def isBlS : Sh → Bool | .bl => true | _ => false
def isIntS : Sh → Bool | .int _ => true | _ => false
def isTermS : Sh → Bool | .str s => isTerm s | _ => false
def isLitS : Sh → Bool | .tup [a, b, c] => isStrS a && (isStrS b && isIntS c) | _ => false
def isLitTS : Sh → Bool | .tup [a, b, c] => isLitS (.tup [a, b, c]) && (isTermS a && isTermS b) | _ => false
def isClS (m : Int) : Sh → Bool | .tup l => decide (1 ≤ l.length ∧ (l.length : Int) ≤ m) && l.all isLitS | _ => false
def standsS : Sh → Bool | .tup l => isClS 2 (.tup l) && l.all isLitTS | _ => false
theorem tyL {K : PySem.W.Frag} {H : Hp} {a : Addr} {xs : List V} (h : SqL K H a xs) : TyX K H (.ref a) (.type "list") := by
  rcases h with (h | ⟨o, h⟩) | ⟨o, its, n, hk, hc, _⟩
  · exact .base (.lst h)
  · exact .base (.frz h)
  · exact .kList hk hc
theorem Is.ty {K : PySem.W.Frag} {H : Hp} {v : V} {d : Sh} (h : Is K H v d) : ∃ T : String, TyX K H v (.type T) ∧ kitB T "tuple" = some (isTupS d) ∧ kitB T "str" = some (isStrS d) ∧ kitB T "bool" = some (isBlS d) ∧ kitB T "int" = some (isIntS d || isBlS d) := by
  cases h with
  | non => exact ⟨"NoneType", .base .non, by decide +kernel, by decide +kernel, by decide +kernel, by decide +kernel⟩
  | lst h => obtain ⟨xs, h⟩ := h; exact ⟨"list", tyL h, by decide +kernel, by decide +kernel, by decide +kernel, by decide +kernel⟩
  | dic h => obtain ⟨xs, h⟩ := h; exact ⟨"dict", .base (.dK h), by decide +kernel, by decide +kernel, by decide +kernel, by decide +kernel⟩
  | bl b => exact ⟨"bool", .base (.bl b), by decide +kernel, by decide +kernel, by decide +kernel, by decide +kernel⟩
  | int i => exact ⟨"int", .base (.int i), (by show kitB "int" "tuple" = some false; decide +kernel), (by show kitB "int" "str" = some false; decide +kernel), (by show kitB "int" "bool" = some false; decide +kernel), (by show kitB "int" "int" = some true; decide +kernel)⟩
  | str s h => exact ⟨"str", .base (.str s), (by show kitB "str" "tuple" = some false; decide +kernel), (by show kitB "str" "str" = some true; decide +kernel), (by show kitB "str" "bool" = some false; decide +kernel), (by show kitB "str" "int" = some false; decide +kernel)⟩
  | tup h p n => exact ⟨"tuple", tyT h, (by show kitB "tuple" "tuple" = some true; decide +kernel), (by show kitB "tuple" "str" = some false; decide +kernel), (by show kitB "tuple" "bool" = some false; decide +kernel), (by show kitB "tuple" "int" = some false; decide +kernel)⟩
/-- a def that tells a truth of a thing -/
def spG (K : PySem.W.Frag) (f : Sh → Bool) : Sp := fun vs H Q _ => ∃ (v : V) (d : Sh), vs = [v] ∧ Is K H v d ∧ ∀ H', Same H H' → Q (.bl (f d)) H'
section
variable {P : Program} {w : World} {K : PySem.W.Frag} {mg : Str → Option Value} {base : Heap}
theorem spG_len {f : Sh → Bool} {vs : List V} {H : Hp} {Q : VK} {E : XK} (h : spG K f vs H Q E) : vs.length = 1 := by
  obtain ⟨v, d, rfl, _⟩ := h
  rfl
theorem g_isint {f : Addr} {fd : FuncData} (F : Fs K mg "is_integer" sIsInt ["thing"] f fd) (T : Bx mg) : FnOk P w K mg base CX0 1 f fd ["thing"] (spG K isIntS) := by
  refine F.F.ok scInt (fun vs H Q E h => spG_len h) (fun cdv A outer s H vs Q E hr h => ?_)
  obtain ⟨v, d, rfl, hv, q⟩ := h
  obtain ⟨t, ty, t1, t2, t3, t4⟩ := hv.ty
  have q := q H fun _ _ z => z
  refine ⟨_, pss_one (ps_ret (pe_and (pe_callB call_isi (by rfl) T.isi boot_isinstance (pa_cons (pv 0) (pa_cons (pe_bltn (v := .ty "int") (by rfl) T.int (by decide +kernel) rfl) pa_nil)))
    (pe_one (pe_not (pe_callB call_isi (by rfl) T.isi boot_isinstance (pa_cons (pv 0) (pa_cons (pe_bltn (v := .ty "bool") (by rfl) T.bool (by decide +kernel) rfl) pa_nil))))))), ?_⟩
  refine ⟨_, rfl, v, .ty "int", _, _, _, rfl, .ty _, ty, kit_ty t4, _, rfl, ?_⟩
  cases d with
  | int i => exact iteT ⟨_, rfl, v, .ty "bool", _, _, _, rfl, .ty _, ty, kit_ty t3, _, rfl, q⟩
  | bl => exact iteT ⟨_, rfl, v, .ty "bool", _, _, _, rfl, .ty _, ty, kit_ty t3, _, rfl, q⟩
  | oth => exact iteF q
  | str s => exact iteF q
  | tup l => exact iteF q
theorem g_isterm {f g : Addr} {fd fdW : FuncData} (F : Fs K mg "is_term" sIsTerm ["thing"] f fd) (W : Fs K mg "is_word" sIsWord ["thing"] g fdW) (T : Bx mg) : FnOk P w K mg base CX0 2 f fd ["thing"] (spG K isTermS) := by
  have GW : FnOk P w K mg base CX0 1 g fdW ["thing"] spIsWord := ok_isword W T
  refine F.F.ok scTerm (fun vs H Q E h => spG_len h) (fun cdv A outer s H vs Q E hr h => ?_)
  obtain ⟨v, d, rfl, hv, q⟩ := h
  obtain ⟨ty, tyx, t1, t2, t3, t4⟩ := hv.ty
  refine ⟨_, pss_cons (ps_if (pt_not (pt_val (pe_callB call_isi (by rfl) T.isi boot_isinstance (pa_cons (pv 0) (pa_cons (pe_bltn (v := .ty "str") (by rfl) T.str (by decide +kernel) rfl) pa_nil))))) (pss_one (ps_ret pe_bl)) pss_nil)
      (pss_cons (ps_if (pt_cmpR op_eq (pv 0) pe_str (nomark _)) (pss_one (ps_ret pe_bl)) pss_nil)
      (pss_cons (ps_set (i := 1) scTerm.nd rfl (Or.inl rfl) (pe_split (pv 0) pe_str))
      (pss_one (ps_ret (pe_and (pe_cmpR op_le (pe_callB call_len_seq (by rfl) T.len PySem.boot_len (pa_cons (pv 1) pa_nil)) pe_int (nomark _))
        (pe_one (pe_callB (cr_all rfl) (by rfl) T.all (by decide +kernel) (pa_cons
          (pe_lc (own := [("word", 2)]) (g := gName 2) (tt := tYes) rfl scTerm.nd (pi_list (pv 1)) (blkOk_by (N := ["thing", "words", "word"]) (sc := defScope sIsTerm) (by decide +kernel))
            (fun _ _ _ _ _ => pg_name (i := 2) scTerm.nd rfl (Or.inl rfl)) (fun _ _ _ _ _ => pts_nil)
            (fun _ _ _ _ _ => pe_call GW hr rfl W.m W.F.kp W.b .nil pass0 (pa_cons (pv 2) pa_nil))) pa_nil)))))))), ?_⟩
  refine ⟨_, rfl, v, .ty "str", _, _, _, rfl, .ty _, tyx, kit_ty t2, _, rfl, ?_⟩
  have no : isStrS d = false → isTermS d = false := by cases d <;> first | exact fun _ => rfl | exact fun z => nomatch z
  cases hs : isStrS d with
  | false =>
    rw [no hs] at q
    exact iteT (q H fun _ _ z => z)
  | true =>
  refine iteF ?_
  cases hv with
  | str t hsh =>
    have q : ∀ H', Same H H' → Q (.bl (isTerm t)) H' := q
    refine ⟨_, rfl, rfl, _, rfl, ?_⟩
    by_cases ht : t = ""
    case pos =>
      rw [show decide (V.str t = V.str "") = true from by rw [ht]; exact decide_eq_true rfl]
      refine iteT ?_
      have e : isTerm t = true := by
        unfold isTerm
        rw [decide_eq_true ht, Bool.true_or]
      have q' := q H fun _ _ z => z
      rw [e] at q'
      exact q'
    case neg =>
    rw [show decide (V.str t = V.str "") = false from decide_eq_false fun z => ht (V.str.inj z)]
    refine iteF ?_
    have e0 : isTerm t = (decide ((Txt.split t ".").length ≤ 2) && (Txt.split t ".").all isWord) := by
      unfold isTerm
      rw [decide_eq_false ht, Bool.false_or]
    rw [e0] at q
    refine ⟨_, rfl, ⟨t, rfl⟩, t, ".", rfl, rfl, (by decide), (by have := hsh.l; rw [sizeLine_eq]; omega), fun p hp => ?_⟩
    have gp : (upd H p (.lst ((Txt.split t ".").map V.str))) p = some (.lst ((Txt.split t ".").map V.str)) := upd_same
    refine ⟨_, rfl, p, _, rfl, .inl (SqL.of gp), _, _, rfl, rfl, _, rfl, ?_⟩
    rw [List.length_map]
    by_cases h2 : ((Txt.split t ".").length : Int) ≤ 2
    case neg =>
      rw [decide_eq_false (by omega), Bool.false_and] at q
      rw [decide_eq_false h2]
      exact iteF (q _ (new_same hp))
    case pos =>
    rw [decide_eq_true (by omega), Bool.true_and] at q
    rw [decide_eq_true h2]
    refine iteT ⟨_, rfl, p, rfl, ⟨_, SqL.of gp⟩, fun D hD => ?_⟩
    have nD : p ≠ D := fun z => by
      rw [← z, gp] at hD
      cases hD
    refine lc_it (walk_list (xs := (Txt.split t ".").map V.str)) (fun i H2 => Same (upd H p (.lst ((Txt.split t ".").map V.str))) H2 ∧ H2 D = some (.lst (((Txt.split t ".").take i).map fun x => .bl (isWord x)))) ⟨new_same hD, upd_same⟩ (fun i H2 _ h => SqL.of (h.1 _ _ gp)) ?_ ?_
    · rintro i x H2 H3 hi ⟨s2, gD⟩ ⟨rfl, hx⟩
      rw [List.getElem?_map] at hx
      obtain ⟨z, hz, rfl⟩ := Option.map_eq_some_iff.mp hx
      refine ⟨rfl, yes_of ⟨_, rfl, z, rfl, hsh.e z (List.mem_of_getElem? hz), fun H4 s4 => ⟨_, s4 _ _ gD, small1000 (by rw [List.length_map, List.length_take]; have := hsh.n; omega), same_upd hD (fun b u e => s4 _ _ (s2 _ _ e)), ?_⟩⟩⟩
      rw [upd_same, List.take_add_one, hz, List.map_append]
      rfl
    · rintro H2 ⟨s2, gD⟩
      refine ⟨D, (Txt.split t ".").map isWord, rfl, SqL.of ?_, ?_⟩
      · rw [gD, List.take_of_length_le (by rw [List.length_map]; exact Nat.le_refl _), List.map_map]
        rfl
      · have e : (Txt.split t ".").all isWord = ((Txt.split t ".").map isWord).all id := by
          rw [List.all_map]
          rfl
        rw [← e]
        exact q H2 fun b u z => s2 _ _ (new_same hp b u z)
  | non => cases hs
  | lst h => cases hs
  | dic h => cases hs
  | bl b => cases hs
  | int i => cases hs
  | tup h p n => cases hs
theorem g_islit {f g : Addr} {fd fdI : FuncData} (F : Fs K mg "is_literal" sIsLit ["thing"] f fd) (W : Fs K mg "is_integer" sIsInt ["thing"] g fdI) (T : Bx mg) : FnOk P w K mg base CX0 2 f fd ["thing"] (spG K isLitS) := by
  have GI : FnOk P w K mg base CX0 1 g fdI ["thing"] (spG K isIntS) := g_isint W T
  refine F.F.ok scLit (fun vs H Q E h => spG_len h) (fun cdv A outer s H vs Q E hr h => ?_)
  obtain ⟨v, d, rfl, hv, q⟩ := h
  obtain ⟨ty, tyx, t1, t2, t3, t4⟩ := hv.ty
  have q0 := q H fun _ _ z => z
  refine ⟨_, pss_cons (ps_if (PW.pt (pw_or (pt_not (pt_val (pe_callB call_isi (by rfl) T.isi boot_isinstance (pa_cons (pv 0) (pa_cons (pe_bltn (v := .ty "tuple") (by rfl) T.tuple (by decide +kernel) rfl) pa_nil)))))
        (pw_or1 (pt_cmpR op_ne (pe_callB call_len_seq (by rfl) T.len PySem.boot_len (pa_cons (pv 0) pa_nil)) pe_int (nomark _))))) (pss_one (ps_ret pe_bl)) pss_nil)
      (pss_cons (ps_asg (pv 0) (pg_tup rfl (pgs_cons (pg_name (i := 1) scLit.nd rfl (Or.inl rfl)) (pgs_cons (pg_name (i := 2) scLit.nd rfl (Or.inl rfl)) (pgs_cons (pg_name (i := 3) scLit.nd rfl (Or.inl rfl)) pgs_nil)))))
      (pss_one (ps_ret (pe_and (pe_callB call_isi (by rfl) T.isi boot_isinstance (pa_cons (pv 1) (pa_cons (pe_bltn (v := .ty "str") (by rfl) T.str (by decide +kernel) rfl) pa_nil)))
        (pe_and (pe_callB call_isi (by rfl) T.isi boot_isinstance (pa_cons (pv 2) (pa_cons (pe_bltn (v := .ty "str") (by rfl) T.str (by decide +kernel) rfl) pa_nil)))
        (pe_one (pe_call GI hr rfl W.m W.F.kp W.b .nil pass0 (pa_cons (pv 3) pa_nil)))))))), ?_⟩
  refine ⟨_, rfl, v, .ty "tuple", _, _, _, rfl, .ty _, tyx, kit_ty t1, _, rfl, ?_⟩
  have no : isTupS d = false → isLitS d = false := by cases d <;> first | exact fun _ => rfl | exact fun z => nomatch z
  cases hs : isTupS d with
  | false =>
    rw [no hs] at q0
    exact iteT (iteT q0)
  | true =>
  refine iteF ?_
  cases hv with
  | tup ha p n =>
    rename_i a xs l
    have hl := p.length
    refine ⟨_, rfl, a, _, rfl, .inr ha, rfl, _, rfl, ?_⟩
    by_cases h3 : xs.length = 3
    case neg =>
      rw [show (!decide (V.int (xs.length : Int) = V.int 3)) = true from by rw [decide_eq_false fun z => h3 (by have := V.int.inj z; omega)]; rfl]
      have e : isLitS (.tup l) = false := by
        rw [hl] at h3
        match l, h3 with
        | [], _ => rfl
        | [_], _ => rfl
        | [_, _], _ => rfl
        | [_, _, _], h => exact absurd rfl h
        | _ :: _ :: _ :: _ :: _, _ => rfl
      rw [e] at q0
      exact iteT q0
    case pos =>
    rw [show (!decide (V.int (xs.length : Int) = V.int 3)) = false from by rw [h3]; rfl]
    refine iteF ?_
    cases p with
    | nil => cases h3
    | cons p1 p =>
    cases p with
    | nil => cases h3
    | cons p2 p =>
    cases p with
    | nil => cases h3
    | cons p3 p =>
    cases p with
    | cons _ _ => exact absurd h3 (by simp)
    | nil =>
    rename_i x1 d1 x2 d2 x3 d3
    obtain ⟨ta, tax, _, ta2, _, _⟩ := p1.ty
    obtain ⟨tb, tbx, _, tb2, _, _⟩ := p2.ty
    refine ⟨_, rfl, a, _, rfl, ha, rfl, _, _, rfl, _, _, rfl, _, _, rfl, rfl, ?_⟩
    refine ⟨_, rfl, x1, .ty "str", _, _, _, rfl, .ty _, tax, kit_ty ta2, _, rfl, ?_⟩
    have q : ∀ H', Same H H' → Q (.bl (isStrS d1 && (isStrS d2 && isIntS d3))) H' := q
    cases e1 : isStrS d1 with
    | false =>
      rw [e1] at q
      exact iteF (q H fun _ _ z => z)
    | true =>
    rw [e1] at q
    refine iteT ⟨_, rfl, x2, .ty "str", _, _, _, rfl, .ty _, tbx, kit_ty tb2, _, rfl, ?_⟩
    cases e2 : isStrS d2 with
    | false =>
      rw [e2] at q
      exact iteF (q H fun _ _ z => z)
    | true =>
    rw [e2] at q
    exact iteT ⟨_, rfl, x3, d3, rfl, p3, q⟩
  | non => cases hs
  | lst h => cases hs
  | dic h => cases hs
  | bl b => cases hs
  | int i => cases hs
  | str x h => cases hs
theorem lit3 {d : Sh} (h : isLitS d = true) : ∃ x y i, d = .tup [.str x, .str y, .int i] := by
  match d, h with
  | .tup [a, b, c], h =>
    have h : (isStrS a && (isStrS b && isIntS c)) = true := h
    rw [Bool.and_eq_true, Bool.and_eq_true] at h
    obtain ⟨h1, h2, h3⟩ := h
    cases a <;> first | (cases h1; done) | skip
    cases b <;> first | (cases h2; done) | skip
    cases c <;> first | (cases h3; done) | skip
    exact ⟨_, _, _, rfl⟩
theorem litT_false {d : Sh} (h : isLitS d = false) : isLitTS d = false := by
  match d, h with
  | .tup [a, b, c], h => show (isLitS (.tup [a, b, c]) && _) = false; rw [h]; rfl
  | .oth, _ => rfl
  | .bl, _ => rfl
  | .int _, _ => rfl
  | .str _, _ => rfl
  | .tup [], _ => rfl
  | .tup [_], _ => rfl
  | .tup [_, _], _ => rfl
  | .tup (_ :: _ :: _ :: _ :: _), _ => rfl
theorem g_litT {f g i t wd : Addr} {fd fdL fdI fdT fdW : FuncData} (F : Fs K mg "is_literal_over_terms" sLitT ["thing"] f fd) (L : Fs K mg "is_literal" sIsLit ["thing"] g fdL) (I : Fs K mg "is_integer" sIsInt ["thing"] i fdI)
    (Tm : Fs K mg "is_term" sIsTerm ["thing"] t fdT) (W : Fs K mg "is_word" sIsWord ["thing"] wd fdW) (T : Bx mg) : FnOk P w K mg base CX0 3 f fd ["thing"] (spG K isLitTS) := by
  have GL : FnOk P w K mg base CX0 2 g fdL ["thing"] (spG K isLitS) := g_islit L I T
  have GT : FnOk P w K mg base CX0 2 t fdT ["thing"] (spG K isTermS) := g_isterm Tm W T
  refine F.F.ok scLitT (fun vs H Q E h => spG_len h) (fun cdv A outer s H vs Q E hr h => ?_)
  obtain ⟨v, d, rfl, hv, q⟩ := h
  refine ⟨_, pss_one (ps_ret (pe_and (pe_call GL hr (by rfl) L.m L.F.kp L.b .nil pass0 (pa_cons (pv 0) pa_nil))
      (pe_and (pe_call GT hr (by rfl) Tm.m Tm.F.kp Tm.b .nil pass0 (pa_cons (pe_ix ix_tup (pv 0) pe_int (fun _ _ => rfl)) pa_nil))
      (pe_one (pe_call GT hr (by rfl) Tm.m Tm.F.kp Tm.b .nil pass0 (pa_cons (pe_ix ix_tup (pv 0) pe_int (fun _ _ => rfl)) pa_nil)))))), ?_⟩
  refine ⟨_, rfl, v, d, rfl, hv, fun H1 s1 => ⟨_, rfl, ?_⟩⟩
  cases hd : isLitS d with
  | false =>
    rw [litT_false hd] at q
    exact iteF (q H1 s1)
  | true =>
  obtain ⟨x, y, i, rfl⟩ := lit3 hd
  have q : ∀ H', Same H H' → Q (.bl (isTerm x && isTerm y)) H' := q
  cases hv with
  | tup ha p n =>
  rename_i a xs
  have hl := p.length
  cases p with
  | cons p1 p =>
  cases p with
  | cons p2 p =>
  cases p with
  | cons p3 p =>
  cases p with
  | nil =>
  refine iteT ⟨_, rfl, a, _, _, _, rfl, rfl, SqT.same s1 ha, rfl, _, .str x, rfl, Is.same s1 p1, fun H4 s4 => ⟨_, rfl, ?_⟩⟩
  have s14 : Same H H4 := fun b u z => s4 _ _ (s1 _ _ z)
  show if isTerm x = true then _ else _
  cases h3 : isTerm x with
  | false =>
    rw [h3] at q
    exact iteF (q H4 s14)
  | true =>
    rw [h3] at q
    refine iteT ⟨_, rfl, a, _, _, _, rfl, rfl, SqT.same s14 ha, rfl, _, .str y, rfl, Is.same s14 p2, fun H5 s5 => ?_⟩
    exact q H5 fun b u z => s5 _ _ (s14 _ _ z)
end
end Kx
namespace Kx
open PySem L2 PySem.Spec PyProof.Rows
/-! the terms of clauses, gathered -/
abbrev noE (t : Str) : Bool := !decide (t = "")
def termsL (l : Lit) : List Str := [l.1, l.2.1].filter noE
def termsC (c : List Lit) : List Str := c.flatMap termsL
def termsOf (cs : List (List Lit)) : List Str := cs.flatMap termsC
structure Col (l ts : List Str) (n : Nat) : Prop where
  nd : l.Nodup
  mem : ∀ t, t ∈ l ↔ t ∈ ts
  len : l.length ≤ n
theorem Col.nil : Col [] [] 0 := ⟨List.nodup_nil, fun _ => Iff.rfl, Nat.le_refl _⟩
theorem put_nodup {l : List Str} {k : Str} (h : l.Nodup) : (put l k).Nodup := by
  unfold put
  by_cases hk : k ∈ l
  · rw [if_pos hk]; exact h
  · rw [if_neg hk]; exact List.nodup_cons.mpr ⟨hk, h⟩
theorem Col.put {l ts : List Str} {n : Nat} {k : Str} (C : Col l ts n) : Col (Kx.put l k) (ts ++ [k]) (n + 1) :=
  ⟨put_nodup C.nd, fun t => by rw [mem_put, List.mem_append, C.mem t, List.mem_singleton], Nat.le_trans put_len (Nat.succ_le_succ C.len)⟩
theorem Col.more {l ts : List Str} {n m : Nat} (C : Col l ts n) (h : n ≤ m) : Col l ts m := ⟨C.nd, C.mem, Nat.le_trans C.len h⟩
theorem walk_it {J : It} {n : Nat} {G : Hp → Prop} {Y : Nat → Hp → V → Hp → Prop} (w : Walk J n G Y) {g : TG} {tt : TT} {tb : TB} {vs : List Nat} {σ : L2.St} {H0 : Hp} {Qd : Hp → Prop} (Pv : Nat → Hp → Prop) (h0 : Pv 0 H0) (hG : ∀ i H, i ≤ n → Pv i H → G H)
    (hs : ∀ i x H H', i < n → Pv i H → Y i H x H' → g x (wipe σ vs) H' fun σ2 H2 => wipe σ2 vs = wipe σ vs ∧ tt σ2 H2 fun b H3 => if b = true then tb σ2 H3 (Pv (i + 1)) else Pv (i + 1) H3) (hd : ∀ H, Pv n H → Qd H) :
    ∃ W : Nat → Nat → Hp → Prop, (∃ m, W 0 m H0) ∧ ∀ i m H, W i m H → (J.stop i H ∧ Qd H) ∨ (J.go i H ∧ ∃ Nx : Hp → Prop, (∀ H', Nx H' → ∃ m', m' < m ∧ W (i + 1) m' H') ∧
      ∀ x H', J.yld i H x H' → g x (wipe σ vs) H' fun σ2 H2 => wipe σ2 vs = wipe σ vs ∧ tt σ2 H2 fun b H3 => if b = true then tb σ2 H3 Nx else Nx H3) := by
  refine ⟨fun i m H => m = n - i ∧ i ≤ n ∧ Pv i H, ⟨n, (Nat.sub_zero n).symm, Nat.zero_le _, h0⟩, ?_⟩
  rintro i m H ⟨rfl, hi, p⟩
  have q := hG i H hi p
  rcases Nat.lt_or_eq_of_le hi with hlt | e
  · exact .inr ⟨w.goes i H hlt q, Pv (i + 1), fun H' p' => ⟨n - (i + 1), by omega, rfl, hlt, p'⟩, fun x H' y => hs i x H H' hlt p (w.yields i H x H' hlt q y)⟩
  · subst e
    exact .inl ⟨w.stops H q, hd H p⟩
theorem SqT.ins {K : PySem.W.Frag} {H : Hp} {a b C dx : Addr} {fs : List (Str × V)} {u : HO} {xs : List V} (ha : H a = some (.ins C dx fs)) (h : SqT K H b xs) : SqT K (upd H a u) b xs := by
  rcases h with (h | ⟨o, h⟩) | h
  · exact .inl (.inl (by rw [upd_ne (fun e => by rw [e, ha] at h; cases h)]; exact h))
  · exact .inl (.inr ⟨o, by rw [upd_ne (fun e => by rw [e, ha] at h; cases h)]; exact h⟩)
  · exact .inr h
theorem Cl.ins {K : PySem.W.Frag} {H : Hp} {a b C dx : Addr} {fs : List (Str × V)} {u : HO} {xs : List V} {c : List Lit} (ha : H a = some (.ins C dx fs)) (h : Cl K H b xs c) : Cl K (upd H a u) b xs c :=
  ⟨SqT.ins ha h.sq, L2.Paired.mapP h.p fun _ _ ⟨e, z, q⟩ => ⟨e, z, SqT.ins ha q⟩, h.l1, h.l2⟩
theorem Cs.ins {K : PySem.W.Frag} {H : Hp} {a b C dx : Addr} {fs : List (Str × V)} {u : HO} {xs : List V} {cs : List (List Lit)} (ha : H a = some (.ins C dx fs)) (h : Cs K H b xs cs) : Cs K (upd H a u) b xs cs :=
  ⟨SqT.ins ha h.sq, L2.Paired.mapP h.p fun _ _ ⟨e, ys, z, q⟩ => ⟨e, ys, z, Cl.ins ha q⟩, h.l⟩
theorem stands_len {c : List Lit} (h : stands c = true) : c.length ≤ 2 := by
  unfold stands at h
  rw [Bool.and_eq_true, decide_eq_true_eq] at h
  omega
theorem wrong_none : ∀ {cs : List (List Lit)} {i d : Nat}, wrongAt i d cs = none → ∀ c ∈ cs, stands c = true
  | [], _, _, _, c, hc => nomatch hc
  | c0 :: r, i, d, h, c, hc => by
    unfold wrongAt at h
    by_cases hs : stands c0 = true
    · rw [if_pos hs] at h
      generalize hd : (if c0.length = 2 then d + 1 else d) = d2 at h
      by_cases h2 : d2 = 2
      · rw [if_pos h2] at h
        cases h
      · rw [if_neg h2] at h
        rcases List.mem_cons.mp hc with e | e
        · rw [e]; exact hs
        · exact wrong_none h c e
    · rw [if_neg hs] at h
      cases h
theorem first_none {cs : List (List Lit)} (h : firstWrong cs = none) : cs.length ≤ 4 ∧ ∀ c ∈ cs, stands c = true := by
  unfold firstWrong at h
  by_cases h4 : 4 < cs.length
  · rw [if_pos h4] at h
    cases h
  · rw [if_neg h4] at h
    exact ⟨by omega, wrong_none h⟩
theorem Col.same {l ts ts' : List Str} {n : Nat} (C : Col l ts n) (e : ts = ts') : Col l ts' n := e ▸ C
theorem filt (r : List Str) (t : Str) : (r ++ [t]).filter noE = r.filter noE ++ (if t = "" then [] else [t]) := by
  rw [List.filter_append]
  by_cases h : t = ""
  · rw [if_pos h, List.filter_cons_of_neg (by simp [h])]
    rfl
  · rw [if_neg h, List.filter_cons_of_pos (by simp [h])]
    rfl
abbrev mth (i : Nat) : Stmt := inClass (top 23) i
abbrev sInit : Stmt := mth 0
abbrev nI : List Str := ["self", "clauses", "wrong", "clause", "one", "term"]
structure Cnd (K : PySem.W.Frag) (mg : Str → Option Value) (C : Addr) : Prop where
  cls : Cls K C
  nc : NoAttr K C "clauses"
  nt : NoAttr K C "terms"
  gC : mg "Cond" = some (.ref C)
  first : ∃ f fd, Fs K mg "_first_wrong" sFirst ["clauses"] f fd
  M : Forms K mg
/-- what Cond's own attributes tell -/
structure CondF (K : PySem.W.Frag) (H : Hp) (a C dx p q : Addr) (cs : List (List Lit)) (ys : List Str) : Prop where
  ins : H a = some (.ins C dx (putF "terms" (.ref q) (putF "clauses" (.ref p) [])))
  cl : ∃ xs, Cs K H p xs cs
  tm : SqT K H q (ys.map V.str)
  so : sortedS ys = true
  nd : ys.Nodup
  mem : ∀ t, t ∈ ys ↔ t ∈ termsOf cs
def raiseI : Stmt := match defBody sInit with
  | _ :: .If _ [r] _ _ :: _ => r
  | _ => .Pass ⟨0, 0, 0, 0⟩
def spInitB (K : PySem.W.Frag) (C : Addr) (F : Hp → Int → Prop) : Sp := fun vs H Q _ => ∃ (a dx p : Addr) (xs : List V) (cs : List (List Lit)), vs = [.ref a, .ref p] ∧ H a = some (.ins C dx []) ∧ Cs K H p xs cs ∧ shortC cs ∧
  (firstWrong cs = none → ∀ H' q ys, CondF K H' a C dx p q cs ys → (∀ b u, b ≠ a → H b = some u → H' b = some u) → Q .non H') ∧ ∀ i, firstWrong cs = some i → ∀ H1, Same H H1 → F H1 i
section
variable {P : Program} {w : World} {K : PySem.W.Frag} {mg : Str → Option Value} {base : Heap}
theorem scI : FnScope nI (([("self" : PySem.Str)] : List PySem.Str) ++ [("clauses" : PySem.Str)]) (defScope sInit) := ⟨rfl, rfl, rfl, by decide +kernel, rfl, by decide +kernel, by decide +kernel⟩
theorem body_init {f C : Addr} (D : Cnd K mg C) {CX : CXT} (cdv : Value) (A : Around) (outer : List Env) (s : Shared) (H : Hp) (vs : List V) (Q : VK) (E : XK) (F : Hp → Int → Prop) (hr : Room 5 (A.deeper (envOfC "Cond.__init__" (defScope sInit) s.heap.objs.size f cdv))) {tR : TS}
    (hR : PS (cxOf CX P w K mg base nI "Cond.__init__" (defScope sInit) f cdv A outer s H E) raiseI tR) (hF : ∀ (D' : Ends) v0 v1 i v3 v4 v5 H1, Same H H1 → F H1 i → tR D' [v0, v1, some (.int i), v3, v4, v5] H1) (h : spInitB K C F vs H Q E) :
    ∃ t, PSs (cxOf CX P w K mg base nI "Cond.__init__" (defScope sInit) f cdv A outer s H E) (defBody sInit) t ∧ t { nx := fun _ H' => Q .non H', rt := Q } (start nI vs) H := by
  obtain ⟨_, _, dF⟩ := D.first
  have GF : FnOk P w K mg base CX0 5 _ _ ["clauses"] (spFirst K) := ok_first dF D.M
  have T := D.M.T
  obtain ⟨a, dx, p, xs, cs, rfl, ha, hc, hsh, qn, qf⟩ := h
  refine ⟨_, pss_cons (ps_set (i := 2) scI.nd rfl (Or.inl rfl) (pe_call GF hr (by rfl) dF.m dF.F.kp dF.b .nil pass0 (pa_cons (pv 1) pa_nil)))
    (pss_cons (ps_if (pt_cmpR op_notN (pv 2) pe_non (nomark _)) (pss_one hR) pss_nil)
    (pss_cons (ps_fld (pv 0) (pv 1) (by rfl))
    (pss_one (ps_fld (pv 0) (pe_tupleOf (by rfl) T.tuple (pe_callB (cr_sortedX rfl) (by rfl) T.sorted (by decide +kernel) (pa_cons
      (pe_sc3 (own := [("clause", 3), ("one", 4), ("term", 5)]) (vs1 := [4, 5]) (vs2 := [5]) (g0 := gName 3) (g1 := gName 4) (g2 := gName 5) (tt0 := tYes) (tt1 := tYes) (w1 := iTup K (tVar 3)) (w2 := iTup K (tSl (rSlA K) (tVar 4) tNoPart (tPart (tC (.int 2))))) (tt2 := tTest (tOp rNe (tVar 5) (tC (.str "")))) (te := tVar 5) rfl scI.nd (pi_tup (pv 1)) (blkOk_by (N := nI) (sc := defScope sInit) (by decide +kernel)) (by decide) (by decide)
        (fun _ _ _ _ _ => pg_name (i := 3) scI.nd rfl (Or.inl rfl)) (fun _ _ _ _ _ => pts_nil)
        (fun _ _ _ _ _ => pi_tup (pv 3)) (fun _ _ _ _ _ => pg_name (i := 4) scI.nd rfl (Or.inl rfl)) (fun _ _ _ _ _ => pts_nil)
        (fun _ _ _ _ _ => pi_tup (pe_slice sl_tupA (pv 4) po_none (po_some pe_int))) (fun _ _ _ _ _ => pg_name (i := 5) scI.nd rfl (Or.inl rfl)) (fun _ _ _ _ _ => pts_one (pt_cmpR op_ne (pv 5) pe_str (nomark _)))
        (fun _ _ _ _ _ => pv 5)) pa_nil))) (by rfl))))), ?_⟩
  have bound : (64 : Nat) < scanBound := by decide
  have hl : xs.length = cs.length := Paired.length hc.p
  refine ⟨_, rfl, p, xs, cs, rfl, hc, hsh, fun H1 s1 => ?_⟩
  cases hw : firstWrong cs with
  | some i => exact ⟨_, rfl, rfl, _, rfl, iteT (hF _ _ _ _ _ _ _ _ s1 (qf i hw H1 s1))⟩
  | none =>
  have q := qn hw
  obtain ⟨n4, hst⟩ := first_none hw
  refine ⟨_, rfl, rfl, _, rfl, iteF ?_⟩
  refine ⟨_, rfl, _, rfl, a, C, dx, [], rfl, s1 _ _ ha, D.cls, D.nc, by decide, ?_⟩
  obtain ⟨H2, e2⟩ : ∃ H2, upd H1 a (.ins C dx (putF "clauses" (.ref p) [])) = H2 := ⟨_, rfl⟩
  have ha2 : H2 a = some (.ins C dx (putF "clauses" (.ref p) [])) := by rw [← e2]; exact upd_same
  have hc2 : Cs K H2 p xs cs := by rw [← e2]; exact Cs.ins (s1 _ _ ha) (Cs.same s1 hc)
  have k2 : ∀ b u, b ≠ a → H b = some u → H2 b = some u := fun b u nb z => by rw [← e2, upd_ne nb]; exact s1 _ _ z
  rw [e2]
  refine ⟨_, rfl, p, rfl, ⟨_, hc2.sq⟩, fun Ds hD => ?_⟩
  refine walk_it (walk_tup (xs := xs)) (fun i H3 => Same H2 H3 ∧ ∃ l, H3 Ds = some (SetX P w Ds l) ∧ Col l (termsOf (cs.take i)) (4 * i)) ⟨new_same hD, [], upd_same, Col.nil⟩ (fun i H3 _ h => SqT.same h.1 hc2.sq) ?_ ?_
  · rintro i x H3 H4 hi ⟨s3, l, gD, hC⟩ ⟨rfl, hx⟩
    obtain ⟨c, hcl, b, ys, rfl, hb⟩ := paired_get hc2.p hx
    have hcm : c ∈ cs := List.mem_of_getElem? hcl
    have c2 := stands_len (hst c hcm)
    have hi4 : i < 4 := by omega
    have hyl : ys.length = c.length := hb.len
    refine ⟨rfl, yes_of ⟨_, rfl, b, rfl, ⟨_, SqT.same s3 hb.sq⟩, ?_⟩⟩
    refine walk_it (walk_tup (xs := ys)) (fun j H5 => Same H2 H5 ∧ ∃ l, H5 Ds = some (SetX P w Ds l) ∧ Col l (termsOf (cs.take i) ++ termsC (c.take j)) (4 * i + 2 * j)) ⟨s3, l, gD, hC.same (List.append_nil _).symm⟩ (fun j H5 _ h => SqT.same h.1 hb.sq) ?_ ?_
    · rintro j x H5 H6 hj ⟨s5, l5, g5, hC5⟩ ⟨rfl, hx5⟩
      obtain ⟨lt, hlt, e, rfl, he⟩ := paired_get hb.p hx5
      obtain ⟨t1, t2, n⟩ := lt
      have he5 := SqT.same s5 he
      refine ⟨rfl, yes_of ?_⟩
      refine ⟨_, rfl, _, rfl, e, _, rfl, he5, fun z => absurd z.2 (by show ¬ HT.sIx 3 3 (some 2) = 3; decide), fun _ q5 hq5 => ?_⟩
      have s6 := same_upd hq5 (fun b u z => z : Same H6 H6) (o := .tup [.str t1, .str t2])
      have nq : q5 ≠ Ds := fun z => by
        rw [z, g5] at hq5
        cases hq5
      refine ⟨q5, rfl, ⟨_, SqT.of upd_same⟩, ?_⟩
      refine walk_it (walk_tup (xs := [V.str t1, V.str t2])) (fun k H7 => Same H2 H7 ∧ H7 q5 = some (.tup [.str t1, .str t2]) ∧ ∃ l, H7 Ds = some (SetX P w Ds l) ∧ Col l (termsOf (cs.take i) ++ termsC (c.take j) ++ ([t1, t2].take k).filter noE) (4 * i + 2 * j + k))
        ⟨fun b u z => s6 _ _ (s5 _ _ z), upd_same, l5, (by rw [upd_ne (Ne.symm nq)]; exact g5), hC5.same (List.append_nil _).symm⟩ (fun k H7 _ h => SqT.of h.2.1) ?_ ?_
      · rintro k x H7 H8 hk ⟨s7, g7, l7, gD7, hC7⟩ ⟨rfl, hx7⟩
        obtain ⟨t, ht, rfl⟩ : ∃ t, [t1, t2][k]? = some t ∧ x = .str t := by
          have e : [V.str t1, V.str t2] = [t1, t2].map V.str := rfl
          rw [e, List.getElem?_map] at hx7
          obtain ⟨t, h1, h2⟩ := Option.map_eq_some_iff.mp hx7
          exact ⟨t, h1, h2.symm⟩
        have hk2 : k < 2 := hk
        have et : ([t1, t2].take (k + 1)).filter noE = ([t1, t2].take k).filter noE ++ (if t = "" then [] else [t]) := by
          rw [List.take_add_one, ht]
          exact filt _ t
        refine ⟨rfl, _, rfl, rfl, _, rfl, ?_⟩
        by_cases hz : t = ""
        · have e : (!decide (V.str t = V.str "")) = false := by rw [hz]; decide
          rw [e, et, if_pos hz]
          exact iteF ⟨s7, g7, l7, gD7, (hC7.same (by rw [List.append_nil])).more (Nat.le_succ _)⟩
        · have e : (!decide (V.str t = V.str "")) = true := by
            rw [decide_eq_false fun z => hz (V.str.inj z)]
            rfl
          rw [e, et, if_neg hz]
          refine iteT ⟨_, rfl, l7, t, rfl, gD7, by have := hC7.len; omega, same_upd hD s7, by rw [upd_ne nq]; exact g7, _, upd_same, ?_⟩
          exact (hC7.put (k := t)).same (List.append_assoc _ _ _)
      · rintro H7 ⟨s7, g7, l7, gD7, hC7⟩
        refine ⟨s7, l7, gD7, (hC7.same ?_).more (by show 4 * i + 2 * j + 2 ≤ _; omega)⟩
        rw [List.take_add_one, hlt]
        unfold termsC
        rw [List.flatMap_append, List.append_assoc]
        simp [termsL]
    · rintro H5 ⟨s5, l5, g5, hC5⟩
      refine ⟨s5, l5, g5, (hC5.same ?_).more (by omega)⟩
      rw [hyl, List.take_of_length_le (Nat.le_refl _), List.take_add_one, hcl]
      unfold termsOf
      rw [List.flatMap_append]
      simp
  · rintro H3 ⟨s3, l, gD, hC⟩
    rw [hl, List.take_of_length_le (Nat.le_refl _)] at hC
    refine ⟨Ds, l, rfl, gD, by have := hC.len; omega, fun zs p3 hso hpm hp3 => .inl ⟨p3, _, rfl, SqL.of upd_same, fun q4 hq4 => ?_⟩⟩
    have s5 : Same H2 (upd (upd H3 p3 (.lst (zs.map V.str))) q4 (.tup (zs.map V.str))) := fun b u z => new_same hq4 _ _ (new_same hp3 _ _ (s3 _ _ z))
    have ha5 := s5 _ _ ha2
    have hc5 := Cs.same s5 hc2
    refine ⟨_, rfl, a, C, dx, _, rfl, ha5, D.cls, D.nt, (by show 1 < 1000; decide), ?_⟩
    refine q _ q4 zs ⟨upd_same, ⟨xs, Cs.ins ha5 hc5⟩, SqT.ins ha5 (SqT.of upd_same), hso, hpm.nodup_iff.mpr hC.nd, fun t => hpm.mem_iff.trans (hC.mem t)⟩ fun b u nb z => ?_
    rw [upd_ne nb]
    exact s5 _ _ (k2 b u nb z)
end
end Kx
namespace Kx
open PySem L2 PySem.Spec PyProof.Rows
def shL (l : Lit) : Sh := .tup [.str l.1, .str l.2.1, .int l.2.2]
def shC (c : List Lit) : Sh := .tup (c.map shL)
def lenS : Sh → Nat | .tup l => l.length | _ => 0
def wrongAtS : Nat → Nat → List Sh → Option Int
  | _, _, [] => none
  | i, d, c :: r => if standsS c = true then if (if lenS c = 2 then d + 1 else d) = 2 then some (i : Int) else wrongAtS (i + 1) (if lenS c = 2 then d + 1 else d) r else some (i : Int)
def firstWrongS (ds : List Sh) : Option Int := if 4 < ds.length then some (-1) else wrongAtS 0 0 ds
theorem litT_sh {d : Sh} (h : isLitTS d = true) : ∃ l : Lit, d = shL l ∧ isTerm l.1 = true ∧ isTerm l.2.1 = true := by
  have h1 : isLitS d = true := by
    cases e : isLitS d with
    | true => rfl
    | false => rw [litT_false e] at h; cases h
  obtain ⟨x, y, i, rfl⟩ := lit3 h1
  have h : (isTerm x && isTerm y) = true := h
  rw [Bool.and_eq_true] at h
  exact ⟨(x, y, i), rfl, h.1, h.2⟩
theorem lits_sh : ∀ {l : List Sh}, l.all isLitTS = true → ∃ c : List Lit, l = c.map shL ∧ (c.all fun l => isTerm l.1 && isTerm l.2.1) = true
  | [], _ => ⟨[], rfl, rfl⟩
  | d :: r, h => by
    rw [List.all_cons, Bool.and_eq_true] at h
    obtain ⟨l, rfl, a, b⟩ := litT_sh h.1
    obtain ⟨c, rfl, e⟩ := lits_sh h.2
    exact ⟨l :: c, rfl, by rw [List.all_cons, a, b, e]; rfl⟩
theorem stands_sh {d : Sh} (h : standsS d = true) : ∃ c : List Lit, d = shC c ∧ stands c = true ∧ 1 ≤ c.length := by
  cases d with
  | tup l =>
    have h : (isClS 2 (.tup l) && l.all isLitTS) = true := h
    rw [Bool.and_eq_true] at h
    obtain ⟨h1, h2⟩ := h
    have h1 : (decide (1 ≤ l.length ∧ (l.length : Int) ≤ 2) && l.all isLitS) = true := h1
    rw [Bool.and_eq_true, decide_eq_true_eq] at h1
    obtain ⟨c, rfl, e⟩ := lits_sh h2
    rw [List.length_map] at h1
    refine ⟨c, rfl, ?_, h1.1.1⟩
    unfold stands
    rw [decide_eq_true h1.1.2, e]
    rfl
  | _ => cases h
theorem wrong_sh : ∀ {ds : List Sh} {i d : Nat}, wrongAtS i d ds = none → ∃ cs : List (List Lit), ds = cs.map shC ∧ wrongAt i d cs = none
  | [], _, _, _ => ⟨[], rfl, rfl⟩
  | c :: r, i, d, h => by
    unfold wrongAtS at h
    by_cases hs : standsS c = true
    · rw [if_pos hs] at h
      obtain ⟨c', rfl, h1, h2⟩ := stands_sh hs
      have el : lenS (shC c') = c'.length := by show (c'.map shL).length = _; rw [List.length_map]
      rw [el] at h
      by_cases h3 : (if c'.length = 2 then d + 1 else d) = 2
      · rw [if_pos h3] at h; cases h
      · rw [if_neg h3] at h
        obtain ⟨cs, rfl, e⟩ := wrong_sh h
        refine ⟨c' :: cs, rfl, ?_⟩
        unfold wrongAt
        rw [if_pos h1, if_neg h3]
        exact e
    · rw [if_neg hs] at h; cases h
theorem first_sh {ds : List Sh} (h : firstWrongS ds = none) : ∃ cs : List (List Lit), ds = cs.map shC ∧ firstWrong cs = none := by
  unfold firstWrongS at h
  by_cases h4 : 4 < ds.length
  · rw [if_pos h4] at h; cases h
  · rw [if_neg h4] at h
    obtain ⟨cs, rfl, e⟩ := wrong_sh h
    refine ⟨cs, rfl, ?_⟩
    unfold firstWrong
    rw [List.length_map] at h4
    rw [if_neg h4]
    exact e
section
variable {K : PySem.W.Frag} {H : Hp}
theorem isLit_of {v : V} {l : Lit} (h : Is K H v (shL l)) : IsLit K H v l := by
  cases h with
  | tup ha p n =>
  cases p with
  | cons p1 p =>
  cases p with
  | cons p2 p =>
  cases p with
  | cons p3 p =>
  cases p with
  | nil =>
  cases p1
  cases p2
  cases p3
  exact ⟨_, rfl, ha⟩
theorem isLits_of : ∀ {xs : List V} {c : List Lit}, IsAll K H xs (c.map shL) → Paired (IsLit K H) xs c
  | [], [], _ => .nil
  | _ :: _, [], h => nomatch h
  | [], _ :: _, h => nomatch h
  | _ :: _, _ :: _, .cons a t => .cons (isLit_of a) (isLits_of t)
theorem isC_of {v : V} {c : List Lit} (h : Is K H v (shC c)) (h1 : 1 ≤ c.length) : IsC K H v c := by
  cases h with
  | tup ha p n => exact ⟨_, _, rfl, ha, isLits_of p, h1, by rw [List.length_map] at n; exact n⟩
end
theorem firstSh_pos : ∀ {cs : List (List Lit)} {i d : Nat}, wrongAtS i d (cs.map shC) = none → ∀ c ∈ cs, 1 ≤ c.length
  | [], _, _, _, c, hc => nomatch hc
  | c0 :: r, i, d, h, c, hc => by
    rw [List.map_cons] at h
    unfold wrongAtS at h
    by_cases hs : standsS (shC c0) = true
    · rw [if_pos hs] at h
      by_cases h3 : (if lenS (shC c0) = 2 then d + 1 else d) = 2
      · rw [if_pos h3] at h; cases h
      · rw [if_neg h3] at h
        rcases List.mem_cons.mp hc with e | e
        · have h : (isClS 2 (shC c0) && (c0.map shL).all isLitTS) = true := hs
          rw [Bool.and_eq_true] at h
          have h1 : (decide (1 ≤ (c0.map shL).length ∧ ((c0.map shL).length : Int) ≤ 2) && (c0.map shL).all isLitS) = true := h.1
          rw [Bool.and_eq_true, decide_eq_true_eq, List.length_map] at h1
          rw [e]
          exact h1.1.1
        · exact firstSh_pos h c e
    · rw [if_neg hs] at h; cases h
theorem first_pos {cs : List (List Lit)} (h : firstWrongS (cs.map shC) = none) : ∀ c ∈ cs, 1 ≤ c.length := by
  unfold firstWrongS at h
  by_cases h4 : 4 < (cs.map shC).length
  · rw [if_pos h4] at h; cases h
  · rw [if_neg h4] at h
    exact firstSh_pos h
theorem isC_all' {K : PySem.W.Frag} {H : Hp} : ∀ {xs : List V} {cs : List (List Lit)}, IsAll K H xs (cs.map shC) → (∀ c ∈ cs, 1 ≤ c.length) → Paired (IsC K H) xs cs
  | [], [], _, _ => .nil
  | _ :: _, [], h, _ => nomatch h
  | [], _ :: _, h, _ => nomatch h
  | _ :: _, _ :: _, .cons a t, h => .cons (isC_of a (h _ List.mem_cons_self)) (isC_all' t fun c hc => h c (List.mem_cons_of_mem _ hc))
section
variable {P : Program} {w : World} {K : PySem.W.Frag} {mg : Str → Option Value} {base : Heap}
def spIsClG (K : PySem.W.Frag) : Sp := fun vs H Q _ => ∃ (v : V) (d : Sh) (m : Int), vs = [v, .int m] ∧ Is K H v d ∧ ∀ H', Same H H' → Q (.bl (isClS m d)) H'
theorem g_iscl {f g i : Addr} {fd fdL fdI : FuncData} (F : Fs K mg "is_clause" sIsCl ["thing", "most"] f fd) (L : Fs K mg "is_literal" sIsLit ["thing"] g fdL) (I : Fs K mg "is_integer" sIsInt ["thing"] i fdI) (T : Bx mg) :
    FnOk P w K mg base CX0 3 f fd ["thing", "most"] (spIsClG K) := by
  have GL : FnOk P w K mg base CX0 2 g fdL ["thing"] (spG K isLitS) := g_islit L I T
  refine F.F.ok scCl (fun vs H Q E h => ?_) (fun cdv A outer s H vs Q E hr h => ?_)
  · obtain ⟨v, d, m, rfl, _⟩ := h
    rfl
  · obtain ⟨v, d, m, rfl, hv, q⟩ := h
    obtain ⟨ty, tyx, t1, t2, t3, t4⟩ := hv.ty
    refine ⟨_, pss_cons (ps_if (PW.pt (pw_or (pt_not (pt_val (pe_callB call_isi (by rfl) T.isi boot_isinstance (pa_cons (pv 0) (pa_cons (pe_bltn (v := .ty "tuple") (by rfl) T.tuple (by decide +kernel) rfl) pa_nil)))))
        (pw_or1 (pt_not (pt_chain op_le op_le pe_int (pe_callB call_len_seq (by rfl) T.len PySem.boot_len (pa_cons (pv 0) pa_nil)) (pv 1)))))) (pss_one (ps_ret pe_bl)) pss_nil)
      (pss_one (ps_ret (pe_callB (cr_all rfl) (by rfl) T.all (by decide +kernel) (pa_cons
        (pe_lc (own := [("literal", 2)]) (g := gName 2) (tt := tYes) rfl scCl.nd (pi_tup (pv 0)) (blkOk_by (N := ["thing", "most", "literal"]) (sc := defScope sIsCl) (by decide +kernel))
          (fun _ _ _ _ _ => pg_name (i := 2) scCl.nd rfl (Or.inl rfl)) (fun _ _ _ _ _ => pts_nil)
          (fun _ _ _ _ _ => pe_call GL hr rfl L.m L.F.kp L.b .nil pass0 (pa_cons (pv 2) pa_nil))) pa_nil)))), ?_⟩
    refine ⟨_, rfl, v, .ty "tuple", _, _, _, rfl, .ty _, tyx, kit_ty t1, _, rfl, ?_⟩
    have no : isTupS d = false → isClS m d = false := by cases d <;> first | exact fun _ => rfl | exact fun z => nomatch z
    have q0 := q H fun _ _ z => z
    cases hs : isTupS d with
    | false =>
      rw [no hs] at q0
      exact iteT (iteT q0)
    | true =>
    refine iteF ?_
    cases hv with
    | tup ha p n =>
      rename_i a xs l
      have hl := p.length
      have ecl : isClS m (.tup l) = (decide (1 ≤ l.length ∧ (l.length : Int) ≤ m) && l.all isLitS) := rfl
      rw [ecl] at q q0
      refine ⟨_, rfl, a, xs, rfl, .inr ha, _, _, rfl, rfl, _, rfl, ?_⟩
      rw [hl]
      by_cases h1 : (1 : Int) ≤ (l.length : Int)
      case neg =>
        rw [decide_eq_false h1]
        rw [decide_eq_false (by omega), Bool.false_and] at q0
        exact iteF ⟨_, rfl, iteT q0⟩
      case pos =>
      rw [decide_eq_true h1]
      refine iteT ⟨_, rfl, _, _, rfl, rfl, _, rfl, ?_⟩
      by_cases h2 : (l.length : Int) ≤ m
      case neg =>
        rw [decide_eq_false h2]
        rw [decide_eq_false (by omega), Bool.false_and] at q0
        exact iteT q0
      case pos =>
      rw [decide_eq_true h2]
      rw [decide_eq_true (by omega), Bool.true_and] at q
      refine iteF ⟨_, rfl, a, rfl, ⟨_, ha⟩, fun D hD => ?_⟩
      refine lc_it (walk_tup (xs := xs)) (fun i H2 => Same H H2 ∧ H2 D = some (.lst ((l.take i).map fun d => .bl (isLitS d)))) ⟨new_same hD, upd_same⟩ (fun i H2 _ h => SqT.same h.1 ha) ?_ ?_
      · rintro i x H2 H3 hi ⟨s2, gD⟩ ⟨rfl, hx⟩
        obtain ⟨d', hcl, hx'⟩ := IsAll.get p hx
        refine ⟨rfl, yes_of ⟨_, rfl, x, d', rfl, Is.same s2 hx', fun H4 s4 => ⟨_, s4 _ _ gD, small1000 (by rw [List.length_map, List.length_take]; omega), same_upd hD (fun b u e => s4 _ _ (s2 _ _ e)), ?_⟩⟩⟩
        rw [upd_same, List.take_add_one, hcl, List.map_append]
        rfl
      · rintro H2 ⟨s2, gD⟩
        refine ⟨D, l.map isLitS, rfl, SqL.of ?_, ?_⟩
        · rw [gD, hl, List.take_of_length_le (Nat.le_refl _), List.map_map]
          rfl
        · have e : l.all isLitS = (l.map isLitS).all id := by
            rw [List.all_map]
            rfl
          rw [← e]
          exact q H2 s2
    | non => cases hs
    | lst h => cases hs
    | dic h => cases hs
    | bl b => cases hs
    | int i => cases hs
    | str x h => cases hs
theorem g_stand {f g i c' t wd lt : Addr} {fd fdL fdI fdC fdT fdW fdLT : FuncData} (F : Fs K mg "_can_stand" sStand ["thing"] f fd) (C : Fs K mg "is_clause" sIsCl ["thing", "most"] c' fdC) (L : Fs K mg "is_literal" sIsLit ["thing"] g fdL) (I : Fs K mg "is_integer" sIsInt ["thing"] i fdI)
    (Tm : Fs K mg "is_term" sIsTerm ["thing"] t fdT) (W : Fs K mg "is_word" sIsWord ["thing"] wd fdW) (LT : Fs K mg "is_literal_over_terms" sLitT ["thing"] lt fdLT) (T : Bx mg) (hM : ∃ k, mg "MOST_LITERALS" = some (.int 2 k)) :
    FnOk P w K mg base CX0 4 f fd ["thing"] (spG K standsS) := by
  obtain ⟨tk, hM⟩ := hM
  have GC : FnOk P w K mg base CX0 3 c' fdC ["thing", "most"] (spIsClG K) := g_iscl C L I T
  have GT : FnOk P w K mg base CX0 3 lt fdLT ["thing"] (spG K isLitTS) := g_litT LT L I Tm W T
  refine F.F.ok scStand (fun vs H Q E h => spG_len h) (fun cdv A outer s H vs Q E hr h => ?_)
  obtain ⟨v, d, rfl, hv, q⟩ := h
  refine ⟨_, pss_one (ps_ret (pe_and (pe_call GC hr (by rfl) C.m C.F.kp C.b .nil pass0 (pa_cons (pv 0) (pa_cons (pe_glob (v := .int 2) (by rfl) hM ⟨_, rfl⟩) pa_nil)))
      (pe_one (pe_callB (cr_all rfl) (by rfl) T.all (by decide +kernel) (pa_cons
        (pe_lc (own := [("literal", 1)]) (g := gName 1) (tt := tYes) rfl scStand.nd (pi_tup (pv 0)) (blkOk_by (N := ["thing", "literal"]) (sc := defScope sStand) (by decide +kernel))
          (fun _ _ _ _ _ => pg_name (i := 1) scStand.nd rfl (Or.inl rfl)) (fun _ _ _ _ _ => pts_nil)
          (fun _ _ _ _ _ => pe_call GT hr (by rfl) LT.m LT.F.kp LT.b .nil pass0 (pa_cons (pv 1) pa_nil))) pa_nil))))), ?_⟩
  refine ⟨_, rfl, v, d, 2, rfl, hv, fun H1 s1 => ⟨_, rfl, ?_⟩⟩
  have no : isClS 2 d = false → standsS d = false := by
    cases d with
    | tup l => intro e; show (isClS 2 (.tup l) && _) = false; rw [e]; rfl
    | _ => exact fun _ => rfl
  cases hs : isClS 2 d with
  | false =>
    rw [no hs] at q
    exact iteF (q H1 s1)
  | true =>
  have hv1 := Is.same s1 hv
  cases hv1 with
  | tup ha p n =>
    rename_i a xs l
    have hl := p.length
    have es : standsS (.tup l) = l.all isLitTS := by show (isClS 2 (.tup l) && _) = _; rw [hs, Bool.true_and]
    rw [es] at q
    refine iteT ⟨_, rfl, a, rfl, ⟨_, ha⟩, fun D hD => ?_⟩
    refine lc_it (walk_tup (xs := xs)) (fun i H2 => Same H1 H2 ∧ H2 D = some (.lst ((l.take i).map fun d => .bl (isLitTS d)))) ⟨new_same hD, upd_same⟩ (fun i H2 _ h => SqT.same h.1 ha) ?_ ?_
    · rintro i x H2 H3 hi ⟨s2, gD⟩ ⟨rfl, hx⟩
      obtain ⟨d', hcl, hx'⟩ := IsAll.get p hx
      refine ⟨rfl, yes_of ⟨_, rfl, x, d', rfl, Is.same s2 hx', fun H4 s4 => ⟨_, s4 _ _ gD, small1000 (by rw [List.length_map, List.length_take]; omega), same_upd hD (fun b u e => s4 _ _ (s2 _ _ e)), ?_⟩⟩⟩
      rw [upd_same, List.take_add_one, hcl, List.map_append]
      rfl
    · rintro H2 ⟨s2, gD⟩
      refine ⟨D, l.map isLitTS, rfl, SqL.of ?_, ?_⟩
      · rw [gD, hl, List.take_of_length_le (Nat.le_refl _), List.map_map]
        rfl
      · have e : l.all isLitTS = (l.map isLitTS).all id := by
          rw [List.all_map]
          rfl
        rw [← e]
        exact q H2 fun b u z => s2 _ _ (s1 _ _ z)
  | non => cases hs
  | lst h => cases hs
  | dic h => cases hs
  | bl b => cases hs
  | int i => cases hs
  | str x h => cases hs
def spFirstG (K : PySem.W.Frag) : Sp := fun vs H Q _ => ∃ (a : Addr) (xs : List V) (ds : List Sh), vs = [.ref a] ∧ SqT K H a xs ∧ IsAll K H xs ds ∧ ds.length ≤ 1000 ∧ ∀ H', Same H H' → Q (optV (firstWrongS ds)) H'
theorem g_first {f : Addr} {fd : FuncData} (F : Fs K mg "_first_wrong" sFirst ["clauses"] f fd) (M : Forms K mg) : FnOk P w K mg base CX0 5 f fd ["clauses"] (spFirstG K) := by
  obtain ⟨tk, hM⟩ := M.mC
  obtain ⟨_, _, dI⟩ := M.int
  obtain ⟨_, _, dW⟩ := M.word
  obtain ⟨_, _, dT⟩ := M.term
  obtain ⟨_, _, dL⟩ := M.lit
  obtain ⟨_, _, dC⟩ := M.cl
  obtain ⟨_, _, dS⟩ := M.stand
  obtain ⟨_, _, dLT⟩ := M.litT
  have T := M.T
  have GS : FnOk P w K mg base CX0 4 _ _ ["thing"] (spG K standsS) := g_stand dS dC dL dI dT dW dLT T M.mL
  refine F.F.ok scFirst (fun vs H Q E h => ?_) (fun cdv A outer s H vs Q E hr h => ?_)
  · obtain ⟨a, xs, cs, rfl, _⟩ := h
    rfl
  · obtain ⟨a, xs, cs, rfl, hsq, hall, hdl, q⟩ := h
    have hl : xs.length = cs.length := hall.length
    refine ⟨_, pss_cons (ps_if (pt_cmpR op_gt (pe_callB call_len_seq (by rfl) T.len PySem.boot_len (pa_cons (pv 0) pa_nil)) (pe_glob (v := .int 4) (by rfl) hM ⟨_, rfl⟩) (nomark _)) (pss_one (ps_ret (pe_un un_neg pe_int))) pss_nil)
      (pss_cons (ps_set (i := 1) scFirst.nd rfl (Or.inl rfl) pe_int)
      (pss_cons (ps_for PassesOwn.never rfl (pi_enumT (by rfl) T.enum (pa_cons (pv 0) pa_nil)) (pg_tup rfl (pgs_cons (pg_name (i := 2) scFirst.nd rfl (Or.inl rfl)) (pgs_cons (pg_name (i := 3) scFirst.nd rfl (Or.inl rfl)) pgs_nil)))
        (pss_cons (ps_if (pt_not (pt_val (pe_call GS hr (by rfl) dS.m dS.F.kp dS.b .nil pass0 (pa_cons (pv 3) pa_nil)))) (pss_one (ps_ret (pv 2))) pss_nil)
        (pss_cons (ps_if (pt_cmpR op_eq (pe_callB call_len_seq (by rfl) T.len PySem.boot_len (pa_cons (pv 3) pa_nil)) pe_int (nomark _)) (pss_one (ps_aug (i := 1) scFirst.nd rfl (Or.inl rfl) pe_int ip_add)) pss_nil)
        (pss_one (ps_if (pt_cmpR op_eq (pv 1) pe_int (nomark _)) (pss_one (ps_ret (pv 2))) pss_nil)))))
      (pss_one (ps_ret pe_non)))), ?_⟩
    refine ⟨_, rfl, a, xs, rfl, .inr hsq, _, _, rfl, rfl, _, rfl, ?_⟩
    rw [hl]
    by_cases h4 : (4 : Int) < (cs.length : Int)
    case pos =>
      rw [decide_eq_true h4]
      have e : firstWrongS cs = some (-1) := by
        unfold firstWrongS
        rw [if_pos (by omega)]
      rw [e] at q
      exact iteT ⟨_, rfl, q H fun _ _ z => z⟩
    case neg =>
    rw [decide_eq_false h4]
    have e : firstWrongS cs = wrongAtS 0 0 cs := by
      unfold firstWrongS
      rw [if_neg (by omega)]
    rw [e] at q
    obtain ⟨R, hR⟩ : ∃ R, wrongAtS 0 0 cs = R := ⟨_, rfl⟩
    rw [hR] at q
    refine iteF ?_
    refine ⟨_, rfl, a, xs, rfl, hsq, ?_⟩
    refine for_enumT (xs := xs) (fun i σ H2 => Same H H2 ∧ ∃ (d : Nat) (v2 v3 : Option V), σ = [some (.ref a), some (.int d), v2, v3] ∧ d < 2 ∧ wrongAtS i d (cs.drop i) = R) ⟨fun _ _ z => z, 0, none, none, rfl, by decide, hR⟩
      (fun i σ H2 _ h => SqT.same h.1 hsq) ?_ ?_
    · rintro i x σ H2 t hx ⟨s2, d, v2, v3, rfl, hd, hw⟩ ht
      obtain ⟨c, hcl, hy⟩ := IsAll.get hall hx
      have hdrop : cs.drop i = c :: cs.drop (i + 1) := (List.drop_eq_getElem?_toList_append).trans (by rw [hcl]; rfl)
      rw [hdrop] at hw
      have s3 : Same H (upd H2 t (.tup [.int (i : Nat), x])) := fun b u z => new_same ht b u (s2 b u z)
      refine ⟨t, _, rfl, SqT.of upd_same, rfl, _, _, rfl, _, _, rfl, rfl, ?_⟩
      refine ⟨_, rfl, x, c, rfl, Is.same s3 hy, fun H4 s4 => ⟨_, rfl, ?_⟩⟩
      have s14 : Same H H4 := fun b u z => s4 b u (s3 b u z)
      have hy4 := Is.same s14 hy
      unfold wrongAtS at hw
      cases hst : standsS c with
      | false =>
        rw [hst, if_neg Bool.false_ne_true] at hw
        rw [← hw] at q
        exact iteT ⟨_, rfl, q H4 s14⟩
      | true =>
        rw [hst, if_pos rfl] at hw
        refine iteF ?_
        cases hy4 with
        | tup hb p n =>
        rename_i b ys l
        have hyl := p.length
        have ell : lenS (.tup l) = l.length := rfl
        rw [ell] at hw
        refine ⟨_, rfl, b, ys, rfl, .inr hb, rfl, _, rfl, ?_⟩
        rw [hyl]
        by_cases h2 : l.length = 2
        case pos =>
          rw [if_pos h2] at hw
          have e2 : decide (V.int (l.length : Int) = V.int 2) = true := by rw [h2]; exact decide_eq_true rfl
          rw [e2]
          refine iteT ⟨_, rfl, _, _, rfl, rfl, ?_⟩
          refine ⟨_, rfl, rfl, _, rfl, ?_⟩
          by_cases h5 : d + 1 = 2
          case pos =>
            rw [if_pos h5] at hw
            have e5 : decide (V.int ((d : Int) + 1) = V.int 2) = true := by
              have : d = 1 := by omega
              rw [this]
              exact decide_eq_true rfl
            rw [e5]
            rw [← hw] at q
            exact iteT ⟨_, rfl, q H4 s14⟩
          case neg =>
            rw [if_neg h5] at hw
            have e5 : decide (V.int ((d : Int) + 1) = V.int 2) = false := decide_eq_false fun z => h5 (by have := V.int.inj z; omega)
            rw [e5]
            exact iteF ⟨s14, d + 1, _, _, rfl, by omega, hw⟩
        case neg =>
          rw [if_neg h2] at hw
          have e2 : decide (V.int (l.length : Int) = V.int 2) = false := decide_eq_false fun z => h2 (by have := V.int.inj z; omega)
          rw [e2]
          refine iteF ?_
          refine ⟨_, rfl, rfl, _, rfl, ?_⟩
          have h5 : ¬ d = 2 := by omega
          rw [if_neg h5] at hw
          have e5 : decide (V.int (d : Int) = V.int 2) = false := decide_eq_false fun z => h5 (by have := V.int.inj z; omega)
          rw [e5]
          exact iteF ⟨s14, d, _, _, rfl, hd, hw⟩
        | non => cases hst
        | lst h => cases hst
        | dic h => cases hst
        | bl b => cases hst
        | int i => cases hst
        | str x h => cases hst
    · rintro σ H2 ⟨s2, d, v2, v3, rfl, hd, hw⟩
      rw [List.drop_of_length_le (by rw [hl]; exact Nat.le_refl _)] at hw
      rw [← hw] at q
      exact q H2 s2
def spInitBG (K : PySem.W.Frag) (C : Addr) (F : Hp → Int → Prop) : Sp := fun vs H Q _ => ∃ (a dx p : Addr) (xs : List V) (ds : List Sh), vs = [.ref a, .ref p] ∧ H a = some (.ins C dx []) ∧ SqT K H p xs ∧ IsAll K H xs ds ∧ ds.length ≤ 1000 ∧
  (∀ cs, ds = cs.map shC → firstWrongS ds = none → firstWrong cs = none → ∀ H' q ys, CondF K H' a C dx p q cs ys → (∀ b u, b ≠ a → H b = some u → H' b = some u) → Q .non H') ∧ ∀ i, firstWrongS ds = some i → ∀ H1, Same H H1 → F H1 i
theorem body_initG {f C : Addr} (D : Cnd K mg C) {CX : CXT} (cdv : Value) (A : Around) (outer : List Env) (s : Shared) (H : Hp) (vs : List V) (Q : VK) (E : XK) (F : Hp → Int → Prop) (hr : Room 5 (A.deeper (envOfC "Cond.__init__" (defScope sInit) s.heap.objs.size f cdv))) {tR : TS}
    (hR : PS (cxOf CX P w K mg base nI "Cond.__init__" (defScope sInit) f cdv A outer s H E) raiseI tR) (hF : ∀ (D' : Ends) v0 v1 i v3 v4 v5 H1, Same H H1 → F H1 i → tR D' [v0, v1, some (.int i), v3, v4, v5] H1) (h : spInitBG K C F vs H Q E) :
    ∃ t, PSs (cxOf CX P w K mg base nI "Cond.__init__" (defScope sInit) f cdv A outer s H E) (defBody sInit) t ∧ t { nx := fun _ H' => Q .non H', rt := Q } (start nI vs) H := by
  obtain ⟨_, _, dF⟩ := D.first
  have GF : FnOk P w K mg base CX0 5 _ _ ["clauses"] (spFirstG K) := g_first dF D.M
  have T := D.M.T
  obtain ⟨a, dx, p, xs, ds, rfl, ha, hsq, hall, hdl, qn, qf⟩ := h
  refine ⟨_, pss_cons (ps_set (i := 2) scI.nd rfl (Or.inl rfl) (pe_call GF hr (by rfl) dF.m dF.F.kp dF.b .nil pass0 (pa_cons (pv 1) pa_nil)))
    (pss_cons (ps_if (pt_cmpR op_notN (pv 2) pe_non (nomark _)) (pss_one hR) pss_nil)
    (pss_cons (ps_fld (pv 0) (pv 1) (by rfl))
    (pss_one (ps_fld (pv 0) (pe_tupleOf (by rfl) T.tuple (pe_callB (cr_sortedX rfl) (by rfl) T.sorted (by decide +kernel) (pa_cons
      (pe_sc3 (own := [("clause", 3), ("one", 4), ("term", 5)]) (vs1 := [4, 5]) (vs2 := [5]) (g0 := gName 3) (g1 := gName 4) (g2 := gName 5) (tt0 := tYes) (tt1 := tYes) (w1 := iTup K (tVar 3)) (w2 := iTup K (tSl (rSlA K) (tVar 4) tNoPart (tPart (tC (.int 2))))) (tt2 := tTest (tOp rNe (tVar 5) (tC (.str "")))) (te := tVar 5) rfl scI.nd (pi_tup (pv 1)) (blkOk_by (N := nI) (sc := defScope sInit) (by decide +kernel)) (by decide) (by decide)
        (fun _ _ _ _ _ => pg_name (i := 3) scI.nd rfl (Or.inl rfl)) (fun _ _ _ _ _ => pts_nil)
        (fun _ _ _ _ _ => pi_tup (pv 3)) (fun _ _ _ _ _ => pg_name (i := 4) scI.nd rfl (Or.inl rfl)) (fun _ _ _ _ _ => pts_nil)
        (fun _ _ _ _ _ => pi_tup (pe_slice sl_tupA (pv 4) po_none (po_some pe_int))) (fun _ _ _ _ _ => pg_name (i := 5) scI.nd rfl (Or.inl rfl)) (fun _ _ _ _ _ => pts_one (pt_cmpR op_ne (pv 5) pe_str (nomark _)))
        (fun _ _ _ _ _ => pv 5)) pa_nil))) (by rfl))))), ?_⟩
  have bound : (64 : Nat) < scanBound := by decide
  refine ⟨_, rfl, p, xs, ds, rfl, hsq, hall, hdl, fun H1 s1 => ?_⟩
  cases hwS : firstWrongS ds with
  | some i => exact ⟨_, rfl, rfl, _, rfl, iteT (hF _ _ _ _ _ _ _ _ s1 (qf i hwS H1 s1))⟩
  | none =>
  obtain ⟨cs, rfl, hw⟩ := first_sh hwS
  have hc : Cs K H p xs cs := ⟨hsq, isC_all' hall (first_pos hwS), by rw [List.length_map] at hdl; exact hdl⟩
  have hl : xs.length = cs.length := Paired.length hc.p
  have q := qn cs rfl hwS hw
  obtain ⟨n4, hst⟩ := first_none hw
  refine ⟨_, rfl, rfl, _, rfl, iteF ?_⟩
  refine ⟨_, rfl, _, rfl, a, C, dx, [], rfl, s1 _ _ ha, D.cls, D.nc, by decide, ?_⟩
  obtain ⟨H2, e2⟩ : ∃ H2, upd H1 a (.ins C dx (putF "clauses" (.ref p) [])) = H2 := ⟨_, rfl⟩
  have ha2 : H2 a = some (.ins C dx (putF "clauses" (.ref p) [])) := by rw [← e2]; exact upd_same
  have hc2 : Cs K H2 p xs cs := by rw [← e2]; exact Cs.ins (s1 _ _ ha) (Cs.same s1 hc)
  have k2 : ∀ b u, b ≠ a → H b = some u → H2 b = some u := fun b u nb z => by rw [← e2, upd_ne nb]; exact s1 _ _ z
  rw [e2]
  refine ⟨_, rfl, p, rfl, ⟨_, hc2.sq⟩, fun Ds hD => ?_⟩
  refine walk_it (walk_tup (xs := xs)) (fun i H3 => Same H2 H3 ∧ ∃ l, H3 Ds = some (SetX P w Ds l) ∧ Col l (termsOf (cs.take i)) (4 * i)) ⟨new_same hD, [], upd_same, Col.nil⟩ (fun i H3 _ h => SqT.same h.1 hc2.sq) ?_ ?_
  · rintro i x H3 H4 hi ⟨s3, l, gD, hC⟩ ⟨rfl, hx⟩
    obtain ⟨c, hcl, b, ys, rfl, hb⟩ := paired_get hc2.p hx
    have hcm : c ∈ cs := List.mem_of_getElem? hcl
    have c2 := stands_len (hst c hcm)
    have hi4 : i < 4 := by omega
    have hyl : ys.length = c.length := hb.len
    refine ⟨rfl, yes_of ⟨_, rfl, b, rfl, ⟨_, SqT.same s3 hb.sq⟩, ?_⟩⟩
    refine walk_it (walk_tup (xs := ys)) (fun j H5 => Same H2 H5 ∧ ∃ l, H5 Ds = some (SetX P w Ds l) ∧ Col l (termsOf (cs.take i) ++ termsC (c.take j)) (4 * i + 2 * j)) ⟨s3, l, gD, hC.same (List.append_nil _).symm⟩ (fun j H5 _ h => SqT.same h.1 hb.sq) ?_ ?_
    · rintro j x H5 H6 hj ⟨s5, l5, g5, hC5⟩ ⟨rfl, hx5⟩
      obtain ⟨lt, hlt, e, rfl, he⟩ := paired_get hb.p hx5
      obtain ⟨t1, t2, n⟩ := lt
      have he5 := SqT.same s5 he
      refine ⟨rfl, yes_of ?_⟩
      refine ⟨_, rfl, _, rfl, e, _, rfl, he5, fun z => absurd z.2 (by show ¬ HT.sIx 3 3 (some 2) = 3; decide), fun _ q5 hq5 => ?_⟩
      have s6 := same_upd hq5 (fun b u z => z : Same H6 H6) (o := .tup [.str t1, .str t2])
      have nq : q5 ≠ Ds := fun z => by
        rw [z, g5] at hq5
        cases hq5
      refine ⟨q5, rfl, ⟨_, SqT.of upd_same⟩, ?_⟩
      refine walk_it (walk_tup (xs := [V.str t1, V.str t2])) (fun k H7 => Same H2 H7 ∧ H7 q5 = some (.tup [.str t1, .str t2]) ∧ ∃ l, H7 Ds = some (SetX P w Ds l) ∧ Col l (termsOf (cs.take i) ++ termsC (c.take j) ++ ([t1, t2].take k).filter noE) (4 * i + 2 * j + k))
        ⟨fun b u z => s6 _ _ (s5 _ _ z), upd_same, l5, (by rw [upd_ne (Ne.symm nq)]; exact g5), hC5.same (List.append_nil _).symm⟩ (fun k H7 _ h => SqT.of h.2.1) ?_ ?_
      · rintro k x H7 H8 hk ⟨s7, g7, l7, gD7, hC7⟩ ⟨rfl, hx7⟩
        obtain ⟨t, ht, rfl⟩ : ∃ t, [t1, t2][k]? = some t ∧ x = .str t := by
          have e : [V.str t1, V.str t2] = [t1, t2].map V.str := rfl
          rw [e, List.getElem?_map] at hx7
          obtain ⟨t, h1, h2⟩ := Option.map_eq_some_iff.mp hx7
          exact ⟨t, h1, h2.symm⟩
        have hk2 : k < 2 := hk
        have et : ([t1, t2].take (k + 1)).filter noE = ([t1, t2].take k).filter noE ++ (if t = "" then [] else [t]) := by
          rw [List.take_add_one, ht]
          exact filt _ t
        refine ⟨rfl, _, rfl, rfl, _, rfl, ?_⟩
        by_cases hz : t = ""
        · have e : (!decide (V.str t = V.str "")) = false := by rw [hz]; decide
          rw [e, et, if_pos hz]
          exact iteF ⟨s7, g7, l7, gD7, (hC7.same (by rw [List.append_nil])).more (Nat.le_succ _)⟩
        · have e : (!decide (V.str t = V.str "")) = true := by
            rw [decide_eq_false fun z => hz (V.str.inj z)]
            rfl
          rw [e, et, if_neg hz]
          refine iteT ⟨_, rfl, l7, t, rfl, gD7, by have := hC7.len; omega, same_upd hD s7, by rw [upd_ne nq]; exact g7, _, upd_same, ?_⟩
          exact (hC7.put (k := t)).same (List.append_assoc _ _ _)
      · rintro H7 ⟨s7, g7, l7, gD7, hC7⟩
        refine ⟨s7, l7, gD7, (hC7.same ?_).more (by show 4 * i + 2 * j + 2 ≤ _; omega)⟩
        rw [List.take_add_one, hlt]
        unfold termsC
        rw [List.flatMap_append, List.append_assoc]
        simp [termsL]
    · rintro H5 ⟨s5, l5, g5, hC5⟩
      refine ⟨s5, l5, g5, (hC5.same ?_).more (by omega)⟩
      rw [hyl, List.take_of_length_le (Nat.le_refl _), List.take_add_one, hcl]
      unfold termsOf
      rw [List.flatMap_append]
      simp
  · rintro H3 ⟨s3, l, gD, hC⟩
    rw [hl, List.take_of_length_le (Nat.le_refl _)] at hC
    refine ⟨Ds, l, rfl, gD, by have := hC.len; omega, fun zs p3 hso hpm hp3 => .inl ⟨p3, _, rfl, SqL.of upd_same, fun q4 hq4 => ?_⟩⟩
    have s5 : Same H2 (upd (upd H3 p3 (.lst (zs.map V.str))) q4 (.tup (zs.map V.str))) := fun b u z => new_same hq4 _ _ (new_same hp3 _ _ (s3 _ _ z))
    have ha5 := s5 _ _ ha2
    have hc5 := Cs.same s5 hc2
    refine ⟨_, rfl, a, C, dx, _, rfl, ha5, D.cls, D.nt, (by show 1 < 1000; decide), ?_⟩
    refine q _ q4 zs ⟨upd_same, ⟨xs, Cs.ins ha5 hc5⟩, SqT.ins ha5 (SqT.of upd_same), hso, hpm.nodup_iff.mpr hC.nd, fun t => hpm.mem_iff.trans (hC.mem t)⟩ fun b u nb z => ?_
    rw [upd_ne nb]
    exact s5 _ _ (k2 b u nb z)
end
end Kx
namespace Kx
open PySem L2 PySem.Spec PyProof.Rows

/-! the classes of errors: what the walk asks of each -/
abbrev veL : List Value := [.type "ValueError", .type "Exception", .type "BaseException", .type "object"]
theorem ve_ok (B : Addr) : PySem.HandSPX.refsVE (.ref B :: veL) = true := by
  show PySem.HandSPX.refsVE veL = true
  decide +kernel
structure Ct (K : PySem.W.Frag) (B C : Addr) : Prop where
  cls : ∃ nm q N bs sn sub ab col dd k0 k1 k2 k3 k5, K.lookup C = some (excClassObj nm q C N bs (.ref B :: veL) true sn sub ab col dd k0 k1 k2 k3 k5 "ValueError.__new__")
  sa : PySem.W.findIn K (.ref C) "__setattr__" = some (some (.builtin "object.__setattr__"))
  ga : PySem.W.findIn K (.ref C) "__getattribute__" = some (some (.builtin "BaseException.__getattribute__"))
  gg : PySem.W.findIn K (.ref C) "__getattr__" = some none
  tyC : PySem.W.typeIn K (.ref C) = some (.type "type")
  kC : PySem.W.keepIn K (.ref C) = true
  hdC : PySem.W.hasDictIn K C = true
  ha : PySem.W.findIn K (.ref C) "__class__" = some (some (.builtin "object.__class__"))
structure Gt (K : PySem.W.Frag) (B : Addr) : Prop where
  hn : PySem.W.specialIn K (.builtin "object.__class__") "__get__" = some (some (.builtin "getset_descriptor.__get__"))
  ht : PySem.W.takesIn K (.builtin "object.__class__") = some true
  isB : (PySem.W.clsIn K B).isSome = true
  tyB : PySem.W.typeIn K (.ref B) = some (.type "type")
  bsB : PySem.W.subIn K (.ref B) (.type "BaseException") = some true
  hdB : PySem.W.hasDictIn K B = true
section
variable {K : PySem.W.Frag} {B C D : Addr}
theorem Ct.cd (T : Ct K B C) : ∃ cd, PySem.W.clsIn K C = some cd ∧ cd.mro = .ref C :: .ref B :: veL := by
  obtain ⟨nm, q, N, bs, sn, sub, ab, col, dd, k0, k1, k2, k3, k5, h⟩ := T.cls
  exact ⟨_, by unfold PySem.W.clsIn; rw [h] <;> rfl, rfl⟩
theorem Ct.mro (T : Ct K B C) (v : Value) : PySem.W.mroIn K C v = some ((.ref C :: .ref B :: veL : List Value).contains v) := by
  obtain ⟨cd, h, e⟩ := T.cd
  unfold PySem.W.mroIn
  rw [h, Option.bind_some, e] <;> rfl
theorem Ct.base (T : Ct K B C) : PySem.W.subIn K (.ref C) (.type "BaseException") = some true := by
  show PySem.W.mroIn K C _ = _
  rw [T.mro]
  rfl
theorem Ct.isC (T : Ct K B C) : (PySem.W.clsIn K C).isSome = true := by
  obtain ⟨cd, h, _⟩ := T.cd
  rw [h]; rfl
theorem Ct.oex (T : Ct K B C) : OexC K C := by
  obtain ⟨nm, q, N, bs, sn, sub, ab, col, dd, k0, k1, k2, k3, k5, h⟩ := T.cls
  exact ⟨⟨nm, q, N, bs, _, sn, sub, ab, col, dd, k0, k1, k2, k3, k5, h, ve_ok B⟩, T.sa, T.base, T.tyC, T.kC⟩
theorem Ct.xf (T : Ct K B C) : XfC K C := ⟨T.ga, T.gg, T.base, T.hdC⟩
theorem kit_ref (T : Ct K B C) {b : Bool} (hD : (PySem.W.clsIn K D).isSome = true) (tD : PySem.W.typeIn K (.ref D) = some (.type "type")) (hb : (.ref C :: .ref B :: veL : List Value).contains (.ref D) = b) : PySem.W.kitOne K (.ref C) (.ref D) = some b := by
  unfold PySem.W.kitOne
  by_cases h : ((Value.ref C == Value.ref D) = true)
  · rw [if_pos h]
    have e : Value.ref C = Value.ref D := beq_iff_eq.mp h
    rw [← hb, ← e]
    simp
  · rw [if_neg h]
    show (if ((PySem.W.clsIn K D).isSome && PySem.W.typeIn K (.ref D) == some (.type "type")) = true then PySem.W.subIn K (.ref C) (.ref D) else none) = _
    rw [hD, tD, if_pos (by rfl)]
    show PySem.W.mroIn K C _ = _
    rw [T.mro, hb]
theorem kit_yes (T : Ct K B C) : PySem.W.kitOne K (.ref C) (.ref C) = some true := kit_ref T T.isC T.tyC (by simp)
theorem kit_no (T : Ct K B C) (S : Ct K B D) (h1 : D ≠ C) (h2 : D ≠ B) : PySem.W.kitOne K (.ref C) (.ref D) = some false := kit_ref T S.isC S.tyC (by simp [h1, h2])
theorem kit_b (T : Ct K B C) (G : Gt K B) : PySem.W.kitOne K (.ref C) (.ref B) = some true := kit_ref T G.isB G.tyB (by simp)
theorem kit_ve (T : Ct K B C) : PySem.W.kitOne K (.ref C) (.type "ValueError") = some true := by
  unfold PySem.W.kitOne
  rw [if_neg (by simp)]
  show (if PySem.W.kitMeta "ValueError" = true then PySem.W.subIn K (.ref C) (.type "ValueError") else none) = _
  rw [if_pos (by decide +kernel)]
  show PySem.W.mroIn K C _ = _
  rw [T.mro]
  rfl
end

/-! an error of a class as it stands: with its fields, or without any -/
def HasF (H : Hp) (a C : Addr) (fs : List (Str × V)) : Prop := ∃ d, d ≠ a ∧ H a = some (exo a C (some d)) ∧ H d = some (exd d fs)
def Bare (H : Hp) (a C : Addr) : Prop := H a = some (ExO (.ref C) a)
def ErrAt (H : Hp) (a C : Addr) : Prop := (∃ fs, HasF H a C fs) ∨ Bare H a C

section
variable {X : Cx} {pins : List (Addr × Obj)} {σ : L2.St} {H : Hp} {s : Shared} {a B C : Addr}
theorem err_inst (I : Inv X pins σ H s) (h : ErrAt H a C) : ∃ ox od, PySem.W.InstAt s.heap a ox C od := by
  rcases h with ⟨fs, d, _, h1, h2⟩ | h
  · obtain ⟨t1, e1⟩ := exo_at I.hok h1
    obtain ⟨mA, hn, _⟩ := exd_at I.hok h2
    obtain ⟨od, e2, _⟩ := lookIn_ns hn
    exact ⟨_, some od, ⟨e1, rfl, rfl, e2⟩⟩
  · obtain ⟨⟨oe, vs, e1, hz, hd, _⟩, _, _⟩ := I.hok a _ h
    obtain ⟨oc, odd, oda, osl⟩ := oe
    obtain ⟨z1, z2⟩ := hz
    dsimp only at z1 z2 hd
    subst z1 z2 hd
    exact ⟨_, none, ⟨e1, rfl, rfl, trivial⟩⟩
/-- isinstance(e, c), e an error that stands -/
def rIsErr (K : PySem.W.Frag) (B : Addr) : List V → Hp → VK → Prop := fun xs H Q => ∃ (a C : Addr) (c : V) (u : Value) (b : Bool), xs = [.ref a, c] ∧ ErrAt H a C ∧ Ct K B C ∧ ClsV c u ∧ PySem.W.kitOne K (.ref C) u = some b ∧ Q (.bl b) H
theorem call_isErr (G : Gt X.K B) : CallR X (.builtin "isinstance") (rIsErr X.K B) := by
  intro pins s σ H xs us Q I r h
  obtain ⟨a, C, c, u, b, rfl, he, T, k, e, q⟩ := h
  obtain ⟨u1, u2, rfl, r1, r2⟩ := vals2 r
  have z1 : u1 = Value.ref a := r1
  subst z1
  have e2 := k.eq r2
  subst e2
  obtain ⟨ox, od, J⟩ := err_inst I he
  exact PySem.W.kia_one (PySem.W.kitx_exc T.isC T.ga T.gg T.base T.ha G.hn G.ht (by rw [T.mro]; rfl)) I.kIn J e (fun z => nomatch z) fun tk => ⟨.bl b, H, I.tok tk, rfl, q⟩
/-- e.f, e an error that stands -/
theorem pe_errF {e : Expr} {te : TE} {pos : Pos} {n : Str} (he : PE X e te) (hb : attributeBase e n X.env (eval e X.env) = eval e X.env := by rfl) :
    PE X (.Attribute e n pos) (fun σ H Q => te σ H fun x H1 => ∃ (a B C : Addr) (fs : List (Str × V)) (v : V), x = .ref a ∧ Ct X.K B C ∧ PySem.W.findIn X.K (.ref C) n = some none ∧ HasF H1 a C fs ∧ fs.lookup n = some v ∧ Q v H1) := by
  refine ⟨fun pins s σ H Q I h => ?_⟩
  refine attr_of hb (thn (he.run pins s σ H _ I h) fun u s1 hh => ?_)
  obtain ⟨x, H1, I1, rx, a, B, C, fs, v, ex, T, hno, ⟨d, _, h1, h2⟩, l, q⟩ := hh
  subst ex
  obtain rfl : u = Value.ref a := rx
  obtain ⟨t1, e1⟩ := exo_at I1.hok h1
  obtain ⟨mA, hns, hr⟩ := exd_at I1.hok h2
  obtain ⟨od, ho, hl⟩ := lookIn_ns hns
  obtain ⟨u, hu, ru⟩ := RelO.some_of (v := v) (o := mA n) (by rw [← l]; exact hr n)
  have J : PySem.W.InstAt s1.heap a _ C (some od) := ⟨e1, rfl, rfl, ho⟩
  exact HandSPX.exc_get I1.kIn J T.ga T.gg T.base (PySem.W.findObj_own T.hdC hno rfl (by rw [hl, hu])) (handed_of ru) ⟨v, H1, I1.tok _, ru, q⟩
end

/-! how an error is made: its __init__ stores each argument under its own name -/
def spI (K : PySem.W.Frag) (ns : List Str) : Sp := fun vs H Q _ => ∃ (a B C : Addr) (ws : List V), vs = .ref a :: ws ∧ ws.length = ns.length ∧ Ct K B C ∧ (∀ f ∈ ns, PySem.W.findIn K (.ref C) f = some none) ∧ H a = some (exo a C none) ∧
  ∀ dx H', H dx = none → dx ≠ a → H' a = some (exo a C (some dx)) → H' dx = some (exd dx (ns.zip ws).reverse) → (∀ b, b ≠ a → b ≠ dx → H' b = H b) → Q .non H'
section
variable {X : Cx} {e : Expr} {es : List Expr} {ta : TA} {p pos : Pos}
/-- C(e, ..) as a value: a new error with its fields -/
theorem pe_err {CX : CXT} {x : Str} {B C fI : Addr} {k : Nat} {fd : FuncData} {ps : List Str} {ns : List Str} (T : Ct X.K B C) (hno : ∀ f ∈ ns, PySem.W.findIn X.K (.ref C) f = some none) (iC : PySem.W.findIn X.K (.ref C) "__init__" = some (some (.ref fI))) (tI : PySem.W.typeIn X.K (.ref fI) = some (.type "function"))
    (F1 : FnOk X.prog X.w X.K X.mg X.base CX k fI fd ps (spI X.K ns)) (hr : Room (k + 1) X.A) (hb : Binds X.K fd ps []) (hx : Passes CX X (fun _ _ _ => False)) (hm : X.mg x = some (.ref C)) (ha : PA X (e :: es) ta) (hg : Gl X x := by rfl)
    (hdb : (x == ("__debug__" : Str)) = false := by decide) (he : starEach (e :: es) X.env = (false, eval e X.env) :: starEach es X.env := by rfl) (hpl : (backTo pos (starEach es X.env)).any (·.1) = false := by rfl) :
    PE X (.Call (.Name x p) (e :: es) [] pos) (fun σ H Q => ta σ H fun vs H1 => vs.length = ns.length ∧ ns.length ≤ 100 ∧ ∀ a H2, H1 a = none → HasF H2 a C (ns.zip vs).reverse → Same H1 H2 → Q (.ref a) H2) := by
  refine ⟨fun pins s σ H Q I h => ?_⟩
  obtain ⟨nm, q, N, bs, sn, sub, ab, col, dd, k0, k1, k2, k3, k5, hC⟩ := T.cls
  refine wpAny_Call_Name_kw (ld_glob I hg hm ?_ hdb)
  refine PySem.W.callWith_K (h₀ := X.base) I.ok.mod.kin T.kC (thn (ha.run pos pins s σ H _ I h) fun us s1 ⟨vs, H1, I1, r1, hz, hz2, q1⟩ => ⟨I1.kIn, ?_⟩) he hpl
  show wpAny _ _ (call (.ref C) us) _ _ _
  obtain ⟨hp, g, dr, tk, os⟩ := s1
  have hsz : hp.objs.size ≤ hp.objs.size + 1 := Nat.le_succ _
  have hn : H1 (hp.objs.size + 1) = none := I1.hok.fresh hsz
  have kk : ∀ b o, hp.get? b = some o → ((hp.push (PySem.W.kdv_tup us)).push (PySem.HandSPX.excO C hp.objs.size)).get? b = some o := fun b o z => Heap.get?_push_of_some _ (Heap.get?_push_of_some _ z)
  have hget : ((hp.push (PySem.W.kdv_tup us)).push (PySem.HandSPX.excO C hp.objs.size)).get? (hp.objs.size + 1) = some (PySem.HandSPX.excO C hp.objs.size) := by heap_get
  have I2 := I1.laid (t' := tk) (a := hp.objs.size + 1) (o := exo (hp.objs.size + 1) C none) (h' := (hp.push (PySem.W.kdv_tup us)).push (PySem.HandSPX.excO C hp.objs.size)) kk hsz (exo_ok hget)
  have r2 : Vals (V.ref (hp.objs.size + 1) :: vs) (Value.ref (hp.objs.size + 1) :: us) := .cons rfl r1
  have hq : spI X.K ns (V.ref (hp.objs.size + 1) :: vs) (upd H1 (hp.objs.size + 1) (exo (hp.objs.size + 1) C none)) (fun v H2 => v = .non ∧ Q (.ref (hp.objs.size + 1)) H2) (fun _ _ _ => False) := by
    refine ⟨_, B, C, vs, rfl, hz, T, hno, upd_same, fun dx H' n1 n2 e1 e2 e3 => ⟨rfl, q1 _ H' hn ⟨dx, n2, e1, e2⟩ fun b o z => ?_⟩⟩
    have nb : b ≠ hp.objs.size + 1 := ne_of_none z hn
    have n3 : H1 dx = none := by rw [← upd_ne (H := H1) (o := exo (hp.objs.size + 1) C none) n2]; exact n1
    rw [e3 b nb (ne_of_none z n3), upd_ne nb]
    exact z
  have hl : (Value.ref (hp.objs.size + 1) :: us).length = ps.length := by
    have z := r2.length
    rw [F1.len _ _ _ _ hq] at z
    exact z.symm
  have hus : us.length ≤ sizeLine := by
    rw [← Paired.length r1, sizeLine_eq]
    omega
  have hbs := hb ⟨(hp.push (PySem.W.kdv_tup us)).push (PySem.HandSPX.excO C hp.objs.size), g, dr, tk, os⟩ (Value.ref (hp.objs.size + 1) :: us) I2.kIn (by rw [List.append_nil]; exact hl)
  rw [List.append_nil] at hbs
  refine wpAny_call (PySem.HandSPX.call_own F.excBase_ValueError (fun Y => PySem.HandSPX.refsVE_contains Y _ (ve_ok B)) (I1.kIn _ _ hC) (PySem.W.looks_findIn I1.kIn iC) (fun self => PySem.W.bind_fn I1.kIn self tI) hus
    (codeAny_mono (F1.run _ X.stack _ _ ⟨Value.ref (hp.objs.size + 1) :: us, []⟩ (Value.ref (hp.objs.size + 1) :: us) _ _ (fun _ _ _ => False) (hr.make C us []) (I2.env0.make C us []) hbs r2 hq) fun r s' hq' => ?_))
  cases r with
  | error er => exact hx pins σ _ _ er s' I2 hq'
  | ok fl =>
    cases fl with
    | ret u =>
      obtain ⟨v, H2, os2, bare2, un2, hok2, rv, ev, q2⟩ := hq'
      subst ev
      exact ⟨rv, .ref (hp.objs.size + 1), H2, I2.call' (ch := []) os2 un2 hok2 bare2 (fun b z => absurd z (by simp)), rfl, q2⟩
    | next => exact False.elim hq'
    | brk => exact False.elim hq'
    | cont => exact False.elim hq'
end
end Kx
namespace Kx
open PySem L2 PySem.Spec PyProof.Rows
open StX (fn_star cxUp_none bind_star1 pe_makeR tMakeR run_makeR star_any pa_star CXUp)
theorem takesN0 {X : Cx} : L2N.Takes X (fun _ _ _ _ => False) := fun _ _ x => by
  obtain ⟨_, _, _, _, _, _, _, _, _, _, _, _, _, _, _, _, z⟩ := x
  exact z.elim
section
variable {X : Cx} {e : Expr} {te : TE}
theorem pmkN_err {K : PySem.W.Frag} {H0 : Hp} (hK : X.K = K) (hH : X.H_0 = H0) (hx : X.ex = []) (he : PE X e te) : L2N.PMk X e (fun σ H Q => te σ H fun x H1 => ∃ a B C d : Addr, x = .ref a ∧ Ct K B C ∧ H1 a = some (exo a C (some d)) ∧ Fr0 H0 a ∧ Q (.ref C) (some d) (delH H1 a)) := by
  subst hK hH
  intro pins s σ H Q I h
  refine thn (he.run pins s σ H _ I h) fun u s1 ⟨v, H1, I1, r1, a, B, C, d, ev, T, ha, h0, q⟩ => ?_
  subst ev
  obtain rfl : u = Value.ref a := r1
  obtain ⟨t1, ho⟩ := exo_at I1.hok ha
  obtain ⟨G, gs, ga, J⟩ := I1.untrack (show H1 a = some (.ext _) from ha) h0 hx
  exact ⟨a, _, _, { s1 with heap := G }, delH H1 a, .ref C, some d, rfl, J, gs, ga, ho, ⟨rfl, rfl, fun vs z => by cases z; rfl⟩, rfl, rfl, delH_same, rfl, I1.bare, raises_own T.base T.tyC, q⟩
end
section
variable {P : Program} {w : World} {K : PySem.W.Frag} {mg : Str → Option Value} {base : Heap}
theorem sc_BadCond : FnScope ["self", "clause"] ["self", "clause"] (defScope (inClass (top 3) 0)) := ⟨rfl, rfl, rfl, by decide +kernel, rfl, by decide +kernel, by decide +kernel⟩
theorem ok_BadCond {f : Addr} {fd : FuncData} (F : Fun K "__init__" "BadCond.__init__" (inClass (top 3) 0) f fd) : FnOk P w K mg base CX0 1 f fd ["self", "clause"] (spI K ["clause"]) := by
  refine F.ok sc_BadCond (fun vs H Q E h => ?_) (fun cdv A outer s H vs Q E hr h => ?_)
  · obtain ⟨a, B, C, ws, rfl, hl, _⟩ := h
    show ws.length + 1 = 2
    rw [hl] <;> rfl
  · obtain ⟨a, B, C, ws, rfl, hl, T, hno, ha, k⟩ := h
    obtain ⟨v0, rfl⟩ : ∃ v0, ws = [v0] := match ws, hl with | [v0], _ => ⟨v0, rfl⟩
    refine ⟨_, pss_one (ps_ost (pv 0) (pv 1)), ?_⟩
    refine ⟨_, rfl, _, rfl, a, C, rfl, T.oex, hno _ (by simp), .inl ⟨ha, fun dx n1 n2 => ?_⟩⟩
    exact k dx _ n1 n2 upd_same (by rw [upd_ne n2, upd_same]; rfl) (fun b h1 h2 => by rw [upd_ne h1, upd_ne h2])
end
theorem del_keep {H H1 : Hp} {a : Addr} (s : Same H H1) (n : H a = none) : Same H (delH H1 a) := fun b o e => by
  rw [delH_ne (ne_of_none e n)]
  exact s b o e
theorem cxUpN {P : Program} {w : World} : CXUp (L2N.CX P w) := by
  rintro outer s H s2 H2 E e s' un kp ho ⟨a, B, H', cls, d, ea, fl, hok, ub, na, os, ag, he⟩
  refine ⟨a, B, H', cls, d, ea, fl, hok, ⟨fun b o q n hb => ub.keep b o (kp b o q) (un.free b o q n (by simp)) hb, fun b o q hb => ub.slot b o (kp b o q) hb, fun b o q n => ub.free b o (kp b o q) (un.free b o q n (by simp)), fun b o q hb => ub.there b o (kp b o q) hb,
    fun b xs q => ub.tups b xs (un.tups b xs q), fun b o xs q => ub.frzs b o xs (un.frzs b o xs q), fun b ps q => ?_⟩, na, os.trans ho, ag, he⟩
  obtain ⟨m1, z1⟩ := un.tbls b ps q
  obtain ⟨m2, z2⟩ := ub.tbls b _ z1
  exact ⟨m1 ++ m2, by rw [z2, Array.append_assoc]⟩
/-- what is told of a refusal: its class and where -/
def refusal (CB : Addr) (E : XK) : Hp → Int → Prop := fun H1 i => ∀ d H', Same H1 H' → H' d = some (exd d [("clause", .int i)]) → E (.ref CB) (some d) H'
def spInit (K : PySem.W.Frag) (C : Addr) (F : XK → Hp → Int → Prop) : Sp := fun vs H Q E => ∃ ws rest, vs = ws ++ rest ∧ ws.length = ([("self" : PySem.Str)] : List PySem.Str).length ∧ rest.length ≤ sizeLine ∧ ∀ p, H p = Option.none → spInitB K C (F E) (ws ++ [V.ref p]) (upd H p (.tup rest)) Q E
structure Bad (K : PySem.W.Frag) (mg : Str → Option Value) (B CB fB : Addr) (fdB : FuncData) : Prop where
  T : Ct K B CB
  no : ∀ x ∈ ([("clause" : PySem.Str)] : List PySem.Str), PySem.W.findIn K (.ref CB) x = some none
  iC : PySem.W.findIn K (.ref CB) "__init__" = some (some (.ref fB))
  tI : PySem.W.typeIn K (.ref fB) = some (.type "function")
  F : Fun K "__init__" "BadCond.__init__" (inClass (top 3) 0) fB fdB
  b : Binds K fdB ["self", "clause"] []
  gm : mg "BadCond" = some (.ref CB)
section
variable {P : Program} {w : World} {K : PySem.W.Frag} {mg : Str → Option Value} {base : Heap}
theorem fnR_init0 {f C : Addr} {fd : FuncData} (F : Fun K "__init__" "Cond.__init__" sInit f fd) (D : Cnd K mg C) : FnR P w K mg base CX0 6 f (spInit K C fun _ _ _ => False) := by
  obtain ⟨oc, od, kV, doc, pm, an, cdv, ct, osl, rfl, lk, hcd⟩ := F.ex
  refine fn_star (sp := fun vs H Q E => spInitB K C (fun _ _ => False) vs H Q E) lk hcd scI cxUp_none (bind_star1 (B := fun xs => bindArgs (PySem.W.fnOf "__init__" "Cond.__init__" (defArgs sInit) (defBody sInit) (defScope sInit) .none kV doc pm an cdv ct) ⟨xs, []⟩) (p1 := "self") (pv := "clauses") (fun a => by rfl) (fun a r rs => by rfl)) (fun A outer s H vs Q E hr h => ?_)
  exact body_init (f := f) (tR := tNever) D cdv A outer s H vs Q E _ hr ps_never (fun _ _ _ _ _ _ _ _ _ z => z) h
theorem fnR_init {f C B CB fB : Addr} {fd fdB : FuncData} (F : Fun K "__init__" "Cond.__init__" sInit f fd) (D : Cnd K mg C) (W : Bad K mg B CB fB fdB) : FnR P w K mg base (L2N.CX P w) 6 f (spInit K C (refusal CB)) := by
  obtain ⟨oc, od, kV, doc, pm, an, cdv, ct, osl, rfl, lk, hcd⟩ := F.ex
  refine fn_star (sp := fun vs H Q E => spInitB K C (refusal CB E) vs H Q E) lk hcd scI cxUpN (bind_star1 (B := fun xs => bindArgs (PySem.W.fnOf "__init__" "Cond.__init__" (defArgs sInit) (defBody sInit) (defScope sInit) .none kV doc pm an cdv ct) ⟨xs, []⟩) (p1 := "self") (pv := "clauses") (fun a => by rfl) (fun a r rs => by rfl)) (fun A outer s H vs Q E hr h => ?_)
  have tk : L2N.Takes (cxOf (L2N.CX P w) P w K mg base nI "Cond.__init__" (defScope sInit) f cdv A outer s H E) (fun cls d _ H => E cls d H) := L2N.takes_of rfl rfl rfl rfl
  refine body_init (f := f) D cdv A outer s H vs Q E _ hr (L2N.ps_raise rfl tk (by exact (pmkN_err (X := cxOf (L2N.CX P w) P w K mg base nI "Cond.__init__" (defScope sInit) f cdv A outer s H E) (K := K) (H0 := H) rfl rfl rfl
    (pe_err (ns := ["clause"]) (X := cxOf (L2N.CX P w) P w K mg base nI "Cond.__init__" (defScope sInit) f cdv A outer s H E) W.T W.no W.iC W.tI (ok_BadCond W.F) (hr.mono (by decide)) W.b pass0 W.gm (pa_cons (pv 2) pa_nil))))) (fun D' v0 v1 i v3 v4 v5 H1 s1 z => ?_) h
  refine ⟨_, rfl, rfl, (by show 1 ≤ 100; decide), fun e H2 n2 h2 s2 => ?_⟩
  obtain ⟨d, hne, h2a, h2d⟩ := h2
  exact ⟨e, B, CB, d, rfl, W.T, h2a, fr0_none (s1.free n2), z d _ (del_keep s2 n2) ((delH_ne hne).trans h2d)⟩
end
end Kx
namespace Kx
open PySem L2 PySem.Spec PyProof.Rows
open StX (fn_star cxUp_none bind_star1 pe_makeR tMakeR run_makeR star_any pa_star CXUp)
section
variable {X : Cx} {CX : CXT} {k : Nat} {f C : Addr} {sp : Sp} {E : XK} {x : Str} {e : Expr} {te : TE} {p pos sp_ : Pos}
/-- C(*y) -/
theorem pe_makeS (M : Mk X.K C f) (F : FnR X.prog X.w X.K X.mg X.base CX k f sp) (hr : Room (k + 1) X.A) (hg : Gl X x) (hm : X.mg x = some (.ref C)) (hx : Passes CX X E) (he : PE X e te) (hd : (x == ("__debug__" : Str)) = false := by decide)
    (hst : starEach [.Starred e sp_] X.env = [(true, eval e X.env)] := by rfl) :
    PE X (.Call (.Name x p) [.Starred e sp_] [] pos) (fun σ H Q => te σ H fun y H1 => ∃ a xs, y = V.ref a ∧ (SqT X.K H1 a xs ∨ SqL X.K H1 a xs) ∧ ∀ x dx, H1 x = none → H1 dx = none → dx ≠ x →
      sp (V.ref x :: xs) (upd (upd H1 dx (.own x)) x (.ins C dx [])) (fun v H2 => v = .non ∧ Q (.ref x) H2) E) := by
  refine ⟨fun pins s σ H Q I h => ?_⟩
  refine wpAny_Call_Name_kw (ld_glob I hg hm ?_ hd)
  refine PySem.W.callWith_S (h₀ := X.base) I.ok.mod.kin M.kp (thn (he.run pins s σ H _ I h) fun v s1 ⟨y, H1, I1, ry, a, xs, ey, hxs, q⟩ => ?_) hst
  subst ey
  obtain rfl : v = Value.ref a := ry
  exact star_any I1 hxs fun us s2 I2 rv => ⟨I2.kIn, run_makeR M F hr hx I2 rv q⟩
/-- C() -/
theorem pe_makeZ (M : Mk X.K C f) (F : FnR X.prog X.w X.K X.mg X.base CX k f sp) (hr : Room (k + 1) X.A) (hg : Gl X x) (hm : X.mg x = some (.ref C)) (hx : Passes CX X E) (hd : (x == ("__debug__" : Str)) = false := by decide) :
    PE X (.Call (.Name x p) [] [] pos) (tMakeR C sp E tNil) := by
  refine ⟨fun pins s σ H Q I h => ?_⟩
  refine wpAny_Call_Name_kw (ld_glob I hg hm ?_ hd)
  exact PySem.W.callWith_K0 I.kIn M.kp (run_makeR (us := []) (vs := []) M F hr hx I .nil h)
/-- one op other, both of the class C, by its own method -/
def rOwn (C : Addr) (sp : Sp) (E : XK) : R2 := fun x y H Q => ∃ (a b dx dy : Addr) (fs gs : List (Str × V)), x = .ref a ∧ y = .ref b ∧ H a = some (.ins C dx fs) ∧ H b = some (.ins C dy gs) ∧ sp [.ref a, .ref b] H Q E
theorem op_own {op : Operator} {fd : FuncData} {ps : List Str} (hc : PySem.W.selfFirst X.K C = true) (hs : PySem.W.findIn X.K (.ref C) (PySem.dunder op.info.2) = some (some (.ref f))) (hf : PySem.W.isFn X.K (.ref f) = true)
    (F : FnOk X.prog X.w X.K X.mg X.base CX k f fd ps sp) (hr : Room k X.A) (hb : Binds X.K fd ps []) (hx : Passes CX X E) : OpR X (binaryOp op) (rOwn C sp E) := by
  intro pins s σ H x y v u Q I rx ry h
  obtain ⟨a, b, dx, dy, fs, gs, rfl, rfl, ha, hb', q⟩ := h
  obtain rfl : v = Value.ref a := rx
  obtain rfl : u = Value.ref b := ry
  obtain ⟨m, fr⟩ := I.fr
  obtain ⟨_, O1, _⟩ := ins_get I.hok ha
  obtain ⟨o1, J1, _⟩ := O1.look
  obtain ⟨_, O2, _⟩ := ins_get I.hok hb'
  obtain ⟨o2, J2, _⟩ := O2.look
  refine PySem.W.binop_K fr I.ok.mod.kin J1 J2.type hc hs hf ?_
  refine thn (run_fn (us := [.ref a, .ref b]) (vs := [.ref a, .ref b]) F hr hb .nil hx I (.cons rfl (.cons rfl .nil)) q) fun z s' ⟨zv, H', I', rz, q'⟩ => ?_
  cases z <;> first | exact ⟨zv, H', I', rz, q'⟩ | (cases zv <;> first | (obtain ⟨_, z⟩ := rz; cases z) | cases rz)
end
end Kx
namespace Kx
open PySem L2 PySem.Spec PyProof.Rows
/-! clauses as data -/
def litD (l : Lit) : PyData := .tuple [.str l.1, .str l.2.1, .int l.2.2]
def clD (c : List Lit) : PyData := .tuple (c.map litD)
theorem dp_lit {K : PySem.W.Frag} {H : Hp} {x : V} {l : Lit} (h : IsLit K H x l) : Dp K H x (litD l) := by
  obtain ⟨a, rfl, q⟩ := h
  exact .tup q (.cons (.str _) (.cons (.str _) (.cons (.int _) .nil)))
theorem dp_all {K : PySem.W.Frag} {H : Hp} {α : Type} {R : V → α → Prop} {f : α → PyData} (hf : ∀ x y, R x y → Dp K H x (f y)) : ∀ {xs : List V} {ys : List α}, Paired R xs ys → DpAll K H xs (ys.map f)
  | _, _, .nil => .nil
  | _, _, .cons h t => .cons (hf _ _ h) (dp_all hf t)
theorem dp_cl {K : PySem.W.Frag} {H : Hp} {x : V} {c : List Lit} (h : IsC K H x c) : Dp K H x (clD c) := by
  obtain ⟨a, ys, rfl, q⟩ := h
  exact .tup q.sq (dp_all (fun _ _ z => dp_lit z) q.p)
theorem eqv_lit (l m : Lit) : PyData.eqv (litD l) (litD m) = decide (l = m) := by
  obtain ⟨a, b, c⟩ := l
  obtain ⟨a', b', c'⟩ := m
  simp only [litD, PyData.eqv, PyData.eqvAll, Bool.and_true]
  rw [Bool.eq_iff_iff]
  simp [Prod.ext_iff]
theorem eqv_lits : ∀ (c d : List Lit), PyData.eqvAll (c.map litD) (d.map litD) = decide (c = d)
  | [], [] => by simp [PyData.eqvAll]
  | [], _ :: _ => by simp [PyData.eqvAll]
  | _ :: _, [] => by simp [PyData.eqvAll]
  | l :: c, m :: d => by
    simp only [List.map_cons, PyData.eqvAll]
    rw [eqv_lit, eqv_lits c d]
    rw [Bool.eq_iff_iff]
    simp
theorem eqv_cl (c d : List Lit) : PyData.eqv (clD c) (clD d) = decide (c = d) := by
  show PyData.eqvAll _ _ = _
  exact eqv_lits c d
def okC (cs : List (List Lit)) : Prop := ∀ c ∈ cs, ∀ l ∈ c, PyData.strOk l.1 = true ∧ PyData.strOk l.2.1 = true
theorem lay_lits : ∀ {c : List Lit}, (∀ l ∈ c, PyData.strOk l.1 = true ∧ PyData.strOk l.2.1 = true) → PyData.canLayAll0 (c.map litD) = true ∧ PyData.depthAll (c.map litD) ≤ 1
  | [], _ => ⟨rfl, Nat.zero_le _⟩
  | l :: c, h => by
    obtain ⟨h1, h2⟩ := h l List.mem_cons_self
    obtain ⟨r1, r2⟩ := lay_lits (c := c) fun m hm => h m (List.mem_cons_of_mem _ hm)
    refine ⟨?_, ?_⟩
    · simp only [List.map_cons, PyData.canLayAll0, litD, PyData.canLay0, h1, h2, r1, Bool.and_self]
    · simp only [List.map_cons, PyData.depthAll, litD, PyData.depth]
      omega
theorem lay_cls : ∀ {cs : List (List Lit)}, okC cs → PyData.canLayAll0 (cs.map clD) = true ∧ PyData.depthAll (cs.map clD) ≤ 2
  | [], _ => ⟨rfl, Nat.zero_le _⟩
  | c :: cs, h => by
    obtain ⟨h1, h2⟩ := lay_lits (h c List.mem_cons_self)
    obtain ⟨r1, r2⟩ := lay_cls (cs := cs) fun m hm => h m (List.mem_cons_of_mem _ hm)
    refine ⟨?_, ?_⟩
    · simp only [List.map_cons, PyData.canLayAll0, clD, PyData.canLay0, h1, r1, Bool.and_self]
    · simp only [List.map_cons, PyData.depthAll, clD, PyData.depth]
      omega
theorem shaped_list {cs : List (List Lit)} (h : okC cs) : SeqAt.shaped (.list (cs.map clD)) = true := by
  obtain ⟨h1, h2⟩ := lay_cls h
  unfold SeqAt.shaped
  rw [Bool.and_eq_true, decide_eq_true_eq]
  exact ⟨h1, by show PyData.depthAll _ + 1 ≤ 64; omega⟩
theorem shaped_tup {cs : List (List Lit)} (h : okC cs) : SeqAt.shaped (.tuple (cs.map clD)) = true := shaped_list h
theorem shaped_cl {c : List Lit} (h : ∀ l ∈ c, PyData.strOk l.1 = true ∧ PyData.strOk l.2.1 = true) : SeqAt.shaped (clD c) = true := by
  obtain ⟨h1, h2⟩ := lay_lits h
  unfold SeqAt.shaped
  rw [Bool.and_eq_true, decide_eq_true_eq]
  exact ⟨h1, by show PyData.depthAll _ + 1 ≤ 64; omega⟩
theorem eqv_cls : ∀ (c d : List (List Lit)), PyData.eqvAll (c.map clD) (d.map clD) = decide (c = d)
  | [], [] => by simp [PyData.eqvAll]
  | [], _ :: _ => by simp [PyData.eqvAll]
  | _ :: _, [] => by simp [PyData.eqvAll]
  | l :: c, m :: d => by
    simp only [List.map_cons, PyData.eqvAll]
    rw [eqv_cl, eqv_cls c d]
    rw [Bool.eq_iff_iff]
    simp
theorem any_cl (cs : List (List Lit)) (c : List Lit) : ((cs.map clD).any fun z => PyData.eqv z (clD c)) = decide (c ∈ cs) := by
  rw [List.any_map, Bool.eq_iff_iff, List.any_eq_true, decide_eq_true_eq]
  constructor
  · rintro ⟨d, hd, e⟩
    have e' : PyData.eqv (clD d) (clD c) = true := e
    rw [eqv_cl, decide_eq_true_eq] at e'
    exact e' ▸ hd
  · intro h
    exact ⟨c, h, by show PyData.eqv (clD c) (clD c) = true; rw [eqv_cl]; exact decide_eq_true rfl⟩
/-- clauses put together, each once -/
def merge : List (List Lit) → List (List Lit) → List (List Lit)
  | m, [] => m
  | m, c :: r => merge (if c ∈ m then m else m ++ [c]) r
end Kx
namespace Kx
open PySem L2 PySem.Spec PyProof.Rows
open StX (fn_star cxUp_none bind_star1 pe_makeR tMakeR run_makeR star_any pa_star CXUp)
theorem ns_some_of {K : PySem.W.Frag} {h : Heap} {N : Addr} {mg : Str → Option Value} {n : Str} {v : Value} (X : K.In h) (G : h.Ns N mg) (e : PySem.W.nsIn K N n = some (some v)) : mg n = some v := by
  obtain ⟨o, es, ep, ho, hd, _, hf⟩ := G
  unfold PySem.W.nsIn at e
  split at e
  · rename_i c d es' n' sl q
    have := X _ _ q
    rw [ho] at this
    cases this
    cases hd
    split at e
    · rename_i en he
      cases e
      rw [← hf]
      unfold nsFind findBy
      rw [← Array.find?_toList, he]
      rfl
    · split at e <;> cases e
  · cases e
/-- what a class without bases has of its own ==, and no != of its own -/
structure EqCls (K : PySem.W.Frag) (C f : Addr) : Prop where
  eqf : PySem.W.findIn K (.ref C) "__eq__" = some (some (.ref f))
  isf : PySem.W.isFn K (.ref f) = true
  cls : ∃ nm q N bs hd sn sub ab col dd k0 k1 k2 k3 k5 newId, K.lookup C = some (excClassObj nm q C N bs [.type "object"] hd sn sub ab col dd k0 k1 k2 k3 k5 newId) ∧ PySem.W.nsOkIn K N = true ∧ PySem.W.nsIn K N "__eq__" = some (some (.ref f)) ∧ PySem.W.nsIn K N "__ne__" = some none
  fo : ∃ o, K.lookup f = some o ∧ o.cls = .type "function"
  sS : PySem.W.subIn K (.type "str") (.ref C) = some false
  sT : PySem.W.subIn K (.type "tuple") (.ref C) = some false
inductive Oth (K : PySem.W.Frag) (H : Hp) (C : Addr) : V → Prop where
  | ins {b dy : Addr} {gs : List (Str × V)} (h : H b = some (.ins C dy gs)) : Oth K H C (.ref b)
  | str (s : Str) : Oth K H C (.str s)
  | tup {b : Addr} {xs : List V} (h : SqT K H b xs) : Oth K H C (.ref b)
/-- x == y by the own == of x -/
def rOwnEq (K : PySem.W.Frag) (C : Addr) (sp : Sp) (E : XK) : R2 := fun x y H Q => ∃ (a dx : Addr) (fs : List (Str × V)), x = .ref a ∧ H a = some (.ins C dx fs) ∧ Oth K H C y ∧ sp [x, y] H (fun v H' => ∃ b, v = .bl b ∧ Q (.bl b) H') E
/-- x != y, of one class, by the own == of x -/
def rOwnNe (C : Addr) (sp : Sp) (E : XK) : R2 := fun x y H Q => ∃ (a b dx dy : Addr) (fs gs : List (Str × V)), x = .ref a ∧ y = .ref b ∧ H a = some (.ins C dx fs) ∧ H b = some (.ins C dy gs) ∧ sp [x, y] H (fun v H' => ∃ k, v = .bl k ∧ Q (.bl (!k)) H') E
section
variable {X : Cx} {CX : CXT} {k : Nat} {f C : Addr} {fd : FuncData} {ps : List Str} {sp : Sp} {E : XK}
theorem run_own (F : FnOk X.prog X.w X.K X.mg X.base CX k f fd ps sp) (hb : L2.Binds X.K fd ps []) (hx : Passes CX X E) {A : Around} (hr : Room k A) (hf : A.frames = X.A.frames) {pins : List (Addr × Obj)} {s : Shared} {σ : L2.St} {H : Hp} {us : List Value} {vs : List V} {Q : VK}
    (I : L2.Inv X pins σ H s) (r2 : Vals vs us) (hsp : sp vs H Q E) : wpAny (model X.prog X.w) A (call (.ref f) us) (fun u s' => ∃ v H', L2.Inv X pins σ H' s' ∧ L2.RelV v u ∧ Q v H') X.xe s := by
  have e0 : Env0 X.prog X.w X.K X.mg X.base A X.stack s H := by
    have e := I.env0
    exact ⟨by rw [hf]; exact e.frames, e.mod, e.bs, e.bsz, e.funs, e.frf, e.hok, e.bare⟩
  have hl := F.len _ _ _ _ hsp
  refine wpAny_call (codeAny_mono (F.run A X.stack s H ⟨us, []⟩ us vs _ E hr e0 (by
    have := hb s us I.kIn (by rw [List.append_nil, ← r2.length]; exact hl)
    simpa using this) r2 hsp) fun r s' hq => ?_)
  cases r with
  | error e => exact hx pins σ H s e s' I hq
  | ok fl =>
    cases fl with
    | ret w =>
      obtain ⟨z, H', I', rz, q⟩ := I.after hq
      exact ⟨z, H', I', rz, q⟩
    | next => exact False.elim hq
    | brk => exact False.elim hq
    | cont => exact False.elim hq
theorem op_ownEq (M : EqCls X.K C f) (F : FnOk X.prog X.w X.K X.mg X.base CX k f fd ps sp) (hr : Room k X.A) (hb : L2.Binds X.K fd ps []) (hx : Passes CX X E) : OpR X (compareOp .Eq) (rOwnEq X.K C sp E) := by
  intro pins s σ H x y v u Q I rx ry h
  obtain ⟨a, dx, fs, rfl, ha, ho, q⟩ := h
  obtain rfl : v = Value.ref a := rx
  obtain ⟨_, O1, _⟩ := ins_get I.hok ha
  obtain ⟨o1, J1, _⟩ := O1.look
  obtain ⟨m, hF⟩ := I.fr
  have fin : wpAny (model X.prog X.w) X.A (call (.ref f) [.ref a, u]) (PySem.W.CmpBack (EP X pins σ Q)) X.xe s := by
    refine wpAny_mono (run_own (vs := [.ref a, y]) (us := [.ref a, u]) F hb hx hr rfl I (.cons rfl (.cons ry .nil)) q) (fun z s' hz => ?_) fun _ _ e => e
    obtain ⟨zv, H', I', rz, b, rfl, q'⟩ := hz
    obtain rfl : z = Value.bool b := rz
    exact ⟨.bl b, H', I', rfl, q'⟩
  show wpAny (model X.prog X.w) X.A (richCompare .Eq (.ref a) u) (EP X pins σ Q) X.xe s
  have go : ∀ tb, PySem.W.Looks (model X.prog X.w) s.heap (typeOf u) tb → PySem.W.notFirst X.K C tb = true → wpAny (model X.prog X.w) X.A (richCompare .Eq (.ref a) u) (EP X pins σ Q) X.xe s := fun tb L hn =>
    PySem.W.cmp_K (op := .Eq) (tb := tb) hr.units0 hF I.ok.mod.kin J1 L hn M.eqf M.isf fin
  cases ho with
  | ins h =>
    rename_i b dy gs
    obtain rfl : u = Value.ref b := ry
    obtain ⟨_, O2, _⟩ := ins_get I.hok h
    obtain ⟨o2, J2, _⟩ := O2.look
    exact go (.ref C) J2.type (by simp [PySem.W.notFirst])
  | str z =>
    obtain ⟨t, rfl⟩ := (show ∃ t, u = Value.str z t from ry)
    exact go (.type "str") (PySem.W.Looks.of_pure rfl) (by unfold PySem.W.notFirst; rw [M.sS]; simp)
  | tup h =>
    rename_i b xs
    obtain rfl : u = Value.ref b := ry
    obtain ⟨its, r, ht, hz⟩ := I.tuple h
    obtain ⟨o, ho, hc⟩ := ht.typeIs
    refine go (.type "tuple") ?_ (by unfold PySem.W.notFirst; rw [M.sT]; simp)
    exact hc ▸ (PySem.W.Looks.ld ho).andThen .now
theorem op_ownNe (M : EqCls X.K C f) (F : FnOk X.prog X.w X.K X.mg X.base CX k f fd ps sp) (hr : Room (k + 1) X.A) (hb : L2.Binds X.K fd ps []) (hx : Passes CX X E) : OpR X (compareOp .NotEq) (rOwnNe C sp E) := by
  intro pins s σ H x y v u Q I rx ry h
  obtain ⟨a, b, dx, dy, fs, gs, rfl, rfl, ha, hb', q⟩ := h
  obtain rfl : v = Value.ref a := rx
  obtain rfl : u = Value.ref b := ry
  obtain ⟨_, O1, _⟩ := ins_get I.hok ha
  obtain ⟨o1, J1, _⟩ := O1.look
  obtain ⟨_, O2, _⟩ := ins_get I.hok hb'
  obtain ⟨o2, J2, _⟩ := O2.look
  obtain ⟨nm, qn, N, bs, hd, sn, sub, ab, col, dd, k0, k1, k2, k3, k5, newId, lk, hok, n1, n2⟩ := M.cls
  obtain ⟨fo, lf, fc⟩ := M.fo
  have G : s.heap.Ns N (s.heap.nsMap N) := .of_isNs (PySem.W.isNs_of_in I.kIn hok)
  have OX : s.heap.OwnEqNoNe a C f "object" [.type "object"] := ⟨_, fo, nm, qn, N, bs, hd, sn, sub, ab, col, dd, k0, k1, k2, k3, k5, newId, _, _, J1.at_, J1.cls, I.kIn _ _ lk, G, ns_some_of I.kIn G n1, I.kIn _ _ lf, fc, PySem.F.cmp_object.mro, PySem.F.cmp_object.eq.lookup, PySem.W.ns_none_of I.kIn G n2⟩
  refine compareOp_ne_ownEq PySem.F.cmp_object OX J2.at_ J2.cls (by have := hr.un; omega) ?_
  refine wpAny_mono (run_own (vs := [.ref a, .ref b]) (us := [.ref a, .ref b]) F hb hx hr.in1 rfl I (.cons rfl (.cons rfl .nil)) q) (fun z s' hz => ?_) fun _ _ e => e
  obtain ⟨zv, H', I', rz, b', rfl, q'⟩ := hz
  obtain rfl : z = Value.bool b' := rz
  exact ⟨b', rfl, .bl (!b'), H', I', rfl, q'⟩
/-- len(x) by its own __len__ -/
def rOwnLen (C : Addr) (sp : Sp) (E : XK) : List V → Hp → VK → Prop := fun xs H Q => ∃ (a dx : Addr) (fs : List (Str × V)), xs = [.ref a] ∧ H a = some (.ins C dx fs) ∧ sp xs H (fun v H' => ∃ i : Int, v = .int i ∧ 0 ≤ i ∧ i < 2 ^ 63 ∧ Q (.int i) H') E
theorem call_ownLen (hs : PySem.W.findIn X.K (.ref C) "__len__" = some (some (.ref f))) (hf : PySem.W.isFn X.K (.ref f) = true) (F : FnOk X.prog X.w X.K X.mg X.base CX k f fd ps sp) (hr : Room (k + 1) X.A) (hb : L2.Binds X.K fd ps []) (hx : Passes CX X E) : CallR X (.builtin "len") (rOwnLen C sp E) := by
  intro pins s σ H xs us Q I r h
  obtain ⟨a, dx, fs, rfl, ha, q⟩ := h
  obtain ⟨u, rfl, ru⟩ := vals1 r
  obtain rfl : u = Value.ref a := ru
  obtain ⟨_, O1, _⟩ := ins_get I.hok ha
  obtain ⟨o1, J1, _⟩ := O1.look
  obtain ⟨m, hF⟩ := I.fr
  refine PySem.W.len_K hF I.ok.mod.kin J1 hs hf ?_
  refine wpAny_mono (run_own (vs := [.ref a]) (us := [.ref a]) F hb hx hr.in1 rfl I (.cons rfl .nil) q) (fun z s' hz => ?_) fun _ _ e => e
  obtain ⟨zv, H', I', rz, i, rfl, i0, i1, q'⟩ := hz
  obtain ⟨t, rfl⟩ := (show ∃ t, z = Value.int i t from rz)
  exact ⟨⟨i0, i1⟩, .int i, H', I'.tok _, ⟨_, rfl⟩, q'⟩
/-- a list compared with an empty one -/
def rEqNil (K : PySem.W.Frag) : R2 := fun x y H Q => ∃ (a b : Addr) (xs : List V), x = .ref a ∧ y = .ref b ∧ SqL K H a xs ∧ SqL K H b [] ∧ Q (.bl xs.isEmpty) H
theorem op_eqNil (hu : X.A.units + 64 < cLine) : OpR X (compareOp .Eq) (rEqNil X.K) := by
  intro pins s σ H x y v u Q I rx ry h
  obtain ⟨a, b, xs, rfl, rfl, ha, hb, q⟩ := h
  obtain rfl : v = Value.ref a := rx
  obtain rfl : u = Value.ref b := ry
  obtain ⟨us, r1, p1, _⟩ := I.list ha
  obtain ⟨ws, r2, p2, _⟩ := I.list hb
  cases r2
  cases r1 with
  | nil =>
    refine SeqAt.eq_listAt (e := fun _ => true) p1.isList p2.isList rfl (by omega) (fun j h1 _ => absurd h1 (Nat.not_lt_zero _)) ?_
    exact ⟨.bl true, H, I, rfl, q⟩
  | cons r1 t =>
    refine SeqAt.eq_list_lengthsAt p1.isList p2.isList (by simp) (by omega) ?_
    exact ⟨.bl false, H, I, rfl, q⟩
end
/-! a Cond made of any things -/
def spInitG (K : PySem.W.Frag) (C : Addr) (F : XK → Hp → Int → Prop) : Sp := fun vs H Q E => ∃ ws rest, vs = ws ++ rest ∧ ws.length = ([("self" : PySem.Str)] : List PySem.Str).length ∧ rest.length ≤ sizeLine ∧ ∀ p, H p = Option.none → spInitBG K C (F E) (ws ++ [V.ref p]) (upd H p (.tup rest)) Q E
section
variable {P : Program} {w : World} {K : PySem.W.Frag} {mg : Str → Option Value} {base : Heap}
theorem fnR_initG {f C B CB fB : Addr} {fd fdB : FuncData} (F : Fun K "__init__" "Cond.__init__" sInit f fd) (D : Cnd K mg C) (W : Bad K mg B CB fB fdB) : FnR P w K mg base (L2N.CX P w) 6 f (spInitG K C (refusal CB)) := by
  obtain ⟨oc, od, kV, doc, pm, an, cdv, ct, osl, rfl, lk, hcd⟩ := F.ex
  refine fn_star (sp := fun vs H Q E => spInitBG K C (refusal CB E) vs H Q E) lk hcd scI cxUpN (bind_star1 (B := fun xs => bindArgs (PySem.W.fnOf "__init__" "Cond.__init__" (defArgs sInit) (defBody sInit) (defScope sInit) .none kV doc pm an cdv ct) ⟨xs, []⟩) (p1 := "self") (pv := "clauses") (fun a => by rfl) (fun a r rs => by rfl)) (fun A outer s H vs Q E hr h => ?_)
  have tk : L2N.Takes (cxOf (L2N.CX P w) P w K mg base nI "Cond.__init__" (defScope sInit) f cdv A outer s H E) (fun cls d _ H => E cls d H) := L2N.takes_of rfl rfl rfl rfl
  refine body_initG (f := f) D cdv A outer s H vs Q E _ hr (L2N.ps_raise rfl tk (by exact (pmkN_err (X := cxOf (L2N.CX P w) P w K mg base nI "Cond.__init__" (defScope sInit) f cdv A outer s H E) (K := K) (H0 := H) rfl rfl rfl
    (pe_err (ns := ["clause"]) (X := cxOf (L2N.CX P w) P w K mg base nI "Cond.__init__" (defScope sInit) f cdv A outer s H E) W.T W.no W.iC W.tI (ok_BadCond W.F) (hr.mono (by decide)) W.b pass0 W.gm (pa_cons (pv 2) pa_nil))))) (fun D' v0 v1 i v3 v4 v5 H1 s1 z => ?_) h
  refine ⟨_, rfl, rfl, (by show 1 ≤ 100; decide), fun e H2 n2 h2 s2 => ?_⟩
  obtain ⟨d, hne, h2a, h2d⟩ := h2
  exact ⟨e, B, CB, d, rfl, W.T, h2a, fr0_none (s1.free n2), z d _ (del_keep s2 n2) ((delH_ne hne).trans h2d)⟩
theorem initG_ok {H H1 : Hp} {C CB : Addr} {vs : List V} {ds : List Sh} {Q : VK} {E : XK} (s1 : Same H H1) (hp : IsAll K H1 vs ds) (hl : ds.length ≤ 1000)
    (k : ∀ cs, ds = cs.map shC → firstWrongS ds = none → firstWrong cs = none → ∀ r dz p q ys H', CondF K H' r C dz p q cs ys → Same H H' → H r = none → Q (.ref r) H') (kf : ∀ i, firstWrongS ds = some i → refusal CB E H i) : ∀ x dx, H1 x = none → H1 dx = none → dx ≠ x →
      spInitG K C (refusal CB) (V.ref x :: vs) (upd (upd H1 dx (.own x)) x (.ins C dx [])) (fun v H2 => v = .non ∧ Q (.ref x) H2) E := by
  intro r dz hr0 hdz hne
  have hml : vs.length = ds.length := hp.length
  refine ⟨[.ref r], vs, rfl, rfl, Nat.le_of_lt (small1000 (by omega)), fun p2 hp2 => ?_⟩
  have s5 : Same H1 (upd (upd H1 dz (.own r)) r (.ins C dz [])) := same_upd hr0 (new_same hdz)
  have s6 : Same H1 (upd (upd (upd H1 dz (.own r)) r (.ins C dz [])) p2 (.tup vs)) := fun b u z => new_same hp2 _ _ (s5 _ _ z)
  have hrp : r ≠ p2 := fun z => by
    rw [← z, upd_same] at hp2
    cases hp2
  refine ⟨r, dz, p2, vs, ds, rfl, (by rw [upd_ne hrp]; exact upd_same), SqT.of upd_same, IsAll.same s6 hp, hl, fun cs e hwS hw H' q2 zs hF hk => ⟨rfl, ?_⟩, fun i hi H2 s7 => ?_⟩
  · refine k cs e hwS hw r dz p2 q2 zs H' hF (fun b u z => hk b u (fun e => ?_) (s6 _ _ (s1 _ _ z))) (Same.free s1 hr0)
    rw [e, Same.free s1 hr0] at z
    cases z
  · exact fun d H' s8 z => kf i hi d H' (fun b u y => s8 _ _ (s7 _ _ (s6 _ _ (s1 _ _ y)))) z
end
end Kx
namespace Kx
open PySem L2 PySem.Spec PyProof.Rows
abbrev sAnd : Stmt := mth 2
abbrev nA : List Str := ["self", "other", "merged", "clause"]
structure CondAll (K : PySem.W.Frag) (mg : Str → Option Value) (B CB fB C fI : Addr) (fdB fdI : FuncData) : Prop where
  D : Cnd K mg C
  W : Bad K mg B CB fB fdB
  I : Fun K "__init__" "Cond.__init__" sInit fI fdI
  mkI : Mk K C fI
  ty : ∀ H a dx fs, H a = some (.ins C dx fs) → TyX K H (.ref a) (.ref C)
  kit : PySem.W.kitOne K (.ref C) (.ref C) = some true
def spAnd (K : PySem.W.Frag) (C CB : Addr) : Sp := fun vs H Q E => ∃ (a b dx dy p q p' q' : Addr) (cs cs' : List (List Lit)) (ys ys' : List Str), vs = [.ref a, .ref b] ∧ CondF K H a C dx p q cs ys ∧ CondF K H b C dy p' q' cs' ys' ∧ shortC (cs ++ cs') ∧ okC (cs ++ cs') ∧ (cs ++ cs').length ≤ 1000 ∧
  (firstWrong (merge [] (cs ++ cs')) = none → ∀ r dz p2 q2 zs H', CondF K H' r C dz p2 q2 (merge [] (cs ++ cs')) zs → Same H H' → H r = none → Q (.ref r) H') ∧ ∀ i, firstWrong (merge [] (cs ++ cs')) = some i → refusal CB E H i
theorem catA_of {K : PySem.W.Frag} {H : Hp} {a b : Addr} {xs ys : List V} {Q : VK} (h1 : SqT K H a xs) (h2 : SqT K H b ys) (hz : xs.length + ys.length ≤ sizeLine) (go : ∀ t H2, Same H H2 → SqT K H2 t (xs ++ ys) → Q (.ref t) H2) : rCatA K (.ref a) (.ref b) H Q := by
  refine ⟨a, b, xs, ys, rfl, rfl, h1, h2, hz, fun e => ?_, fun _ e => ?_, fun _ _ p hp => ?_⟩
  · exact go b H (fun _ _ z => z) (by rw [e]; exact h2)
  · exact go a H (fun _ _ z => z) (by rw [e, List.append_nil]; exact h1)
  · exact go p _ (new_same hp) (SqT.of upd_same)
theorem SqT.lst {K : PySem.W.Frag} {H : Hp} {a b : Addr} {ms : List V} {u : HO} {xs : List V} (ha : H a = some (.lst ms)) (h : SqT K H b xs) : SqT K (upd H a u) b xs := by
  rcases h with (h | ⟨o, h⟩) | h
  · exact .inl (.inl (by rw [upd_ne (fun e => by rw [e, ha] at h; cases h)]; exact h))
  · exact .inl (.inr ⟨o, by rw [upd_ne (fun e => by rw [e, ha] at h; cases h)]; exact h⟩)
  · exact .inr h
theorem IsC.lst {K : PySem.W.Frag} {H : Hp} {a : Addr} {ms : List V} {u : HO} {x : V} {c : List Lit} (ha : H a = some (.lst ms)) (h : IsC K H x c) : IsC K (upd H a u) x c := by
  obtain ⟨b, ys, e, q⟩ := h
  exact ⟨b, ys, e, SqT.lst ha q.sq, L2.Paired.mapP q.p fun _ _ ⟨d, z, r⟩ => ⟨d, z, SqT.lst ha r⟩, q.l1, q.l2⟩
theorem merge_snoc (c : List Lit) : ∀ (l m : List (List Lit)), merge m (l ++ [c]) = if c ∈ merge m l then merge m l else merge m l ++ [c]
  | [], m => rfl
  | d :: l, m => by
    show merge (if d ∈ m then m else m ++ [d]) (l ++ [c]) = _
    rw [merge_snoc c l]
    rfl
theorem merge_sub : ∀ (l m : List (List Lit)) (c : List Lit), c ∈ merge m l → c ∈ m ∨ c ∈ l
  | [], m, c, h => .inl h
  | d :: l, m, c, h => by
    have h' : c ∈ merge (if d ∈ m then m else m ++ [d]) l := h
    rcases merge_sub l _ c h' with z | z
    · by_cases hd : d ∈ m
      · rw [if_pos hd] at z
        exact .inl z
      · rw [if_neg hd] at z
        rcases List.mem_append.mp z with z | z
        · exact .inl z
        · exact .inr (by rw [List.mem_singleton.mp z]; exact List.mem_cons_self)
    · exact .inr (List.mem_cons_of_mem _ z)
theorem merge_len : ∀ (l m : List (List Lit)), (merge m l).length ≤ m.length + l.length
  | [], m => Nat.le_refl _
  | d :: l, m => by
    have h := merge_len l (if d ∈ m then m else m ++ [d])
    have e : (if d ∈ m then m else m ++ [d]).length ≤ m.length + 1 := by
      by_cases hd : d ∈ m
      · rw [if_pos hd]; exact Nat.le_succ _
      · rw [if_neg hd, List.length_append]; exact Nat.le_refl _
    show (merge (if d ∈ m then m else m ++ [d]) l).length ≤ m.length + (l.length + 1)
    omega
theorem paired_app {α β : Type} {R : α → β → Prop} : ∀ {xs : List α} {ys : List β} {xs' : List α} {ys' : List β}, Paired R xs ys → Paired R xs' ys' → Paired R (xs ++ xs') (ys ++ ys')
  | _, _, _, _, .nil, h => h
  | _, _, _, _, .cons a t, h => .cons a (paired_app t h)
section
variable {P : Program} {w : World} {K : PySem.W.Frag} {mg : Str → Option Value} {base : Heap} {B CB fB C fI : Addr} {fdB fdI : FuncData}
theorem scAnd : FnScope nA ["self", "other"] (defScope sAnd) := ⟨rfl, rfl, rfl, by decide +kernel, rfl, by decide +kernel, by decide +kernel⟩
theorem ok_and {f : Addr} {fd : FuncData} (F : Fun K "__and__" "Cond.__and__" sAnd f fd) (M : CondAll K mg B CB fB C fI fdB fdI) : FnOk P w K mg base (L2N.CX P w) 8 f fd ["self", "other"] (spAnd K C CB) := by
  obtain ⟨oc, od, kV, doc, pm, an, cdv, ct, osl, rfl, lk, hcd⟩ := F.ex
  have D := M.D
  have T := D.M.T
  have GI : FnR P w K mg base (L2N.CX P w) 6 fI (spInit K C (refusal CB)) := fnR_init M.I D M.W
  refine fn_of lk hcd scAnd (fun vs H Q E h => ?_) fun A outer s H vs Q E hr h => ?_
  · obtain ⟨a, b, dx, dy, p, q, p', q', cs, cs', ys, ys', rfl, _⟩ := h
    rfl
  · obtain ⟨a, b, dx, dy, p, q, p', q', cs, cs', ys, ys', rfl, ha, hb, hsh, hok, hlen, qn, qf⟩ := h
    have tk : L2N.Takes (cxOf (L2N.CX P w) P w K mg base nA "Cond.__and__" (defScope sAnd) f cdv A outer s H E) (fun cls d _ H => E cls d H) := L2N.takes_of rfl rfl rfl rfl
    have hx : Passes (L2N.CX P w) (cxOf (L2N.CX P w) P w K mg base nA "Cond.__and__" (defScope sAnd) f cdv A outer s H E) E := L2N.passes_call tk (fun _ _ _ _ z => z)
    have hu : (cxOf (L2N.CX P w) P w K mg base nA "Cond.__and__" (defScope sAnd) f cdv A outer s H E).A.units + 65 < cLine := by
      have := hr.un
      show (A.deeper (envOfC "Cond.__and__" (defScope sAnd) s.heap.objs.size f cdv)).units + 65 < cLine
      omega
    refine ⟨_, pss_cons (ps_if (pt_not (pt_val (pe_callB call_isi (by rfl) T.isi boot_isinstance (pa_cons (pv 1) (pa_cons (pe_glob (v := .ref C) (by rfl) D.gC rfl) pa_nil))))) (pss_one ps_never) pss_nil)
      (pss_cons (ps_set (i := 2) scAnd.nd rfl (Or.inl rfl) (pe_lst pa_nil))
      (pss_cons (ps_for (passes_of rfl) rfl (pi_tup (pe_op op_catA (pe_fld (pv 0) (by rfl)) (pe_fld (pv 1) (by rfl)))) (pg_name (i := 3) scAnd.nd rfl (Or.inl rfl))
        (pss_one (ps_if (pt_cmpR (op_notInD hu) (pv 3) (pv 2) (by with_unfolding_all rfl)) (pss_one (ps_expr (pe_bm PySem.F.plainAttrs_list PySem.F.slot_list_append PySem.F.type_list_append mt_append (pv 2) (pa_cons (pv 3) pa_nil)))) pss_nil)))
      (pss_one (ps_ret (pe_makeS (k := 6) M.mkI GI hr (by rfl) D.gC hx (pv 2)))))), ?_⟩
    obtain ⟨xs, hc⟩ := ha.cl
    obtain ⟨xs', hc'⟩ := hb.cl
    have hp := paired_app hc.p hc'.p
    have hpl : (xs ++ xs').length = (cs ++ cs').length := Paired.length hp
    refine ⟨_, rfl, .ref b, .ref C, _, _, true, rfl, .own C, M.ty _ b dy _ hb.ins, M.kit, true, rfl, iteF ?_⟩
    refine ⟨by show 0 ≤ sizeLine; decide, fun m hm => ?_⟩
    have s1 : Same H (upd H m (.lst [])) := new_same hm
    refine ⟨_, rfl, a, C, dx, _, .ref p, rfl, s1 _ _ ha.ins, D.cls, D.nc, rfl, _, rfl, b, C, dy, _, .ref p', rfl, s1 _ _ hb.ins, D.cls, D.nc, rfl, ?_⟩
    refine catA_of (SqT.same s1 hc.sq) (SqT.same s1 hc'.sq) (by rw [← List.length_append, hpl]; exact Nat.le_of_lt (small1000 hlen)) fun t H2 s2 ht => ?_
    refine ⟨t, rfl, ⟨_, ht⟩, ?_⟩
    refine for_tup (xs := xs ++ xs') (fun i σ H3 => (∃ v3, σ = [some (.ref a), some (.ref b), some (.ref m), v3]) ∧ Same H H3 ∧ SqT K H3 t (xs ++ xs') ∧ ∃ ms, H3 m = some (.lst ms) ∧ Paired (IsC K H3) ms (merge [] ((cs ++ cs').take i)))
      ⟨⟨none, rfl⟩, fun b u z => s2 _ _ (s1 _ _ z), ht, [], s2 _ _ upd_same, .nil⟩ (fun i σ H3 _ h => h.2.2.1) ?_ ?_
    · rintro i x σ H3 hx ⟨⟨v3, rfl⟩, s3, ht3, ms, gm, hms⟩
      obtain ⟨c, hcl, hxc⟩ := paired_get hp hx
      have hcm : c ∈ cs ++ cs' := List.mem_of_getElem? hcl
      have hx3 := IsC.same s3 hxc
      have hlm : ms.length ≤ 1000 := by
        have e1 : ms.length = (merge [] ((cs ++ cs').take i)).length := Paired.length hms
        have e2 := merge_len ((cs ++ cs').take i) []
        rw [List.length_take] at e2
        have e3 : ([] : List (List Lit)).length = 0 := rfl
        omega
      have okm : okC (merge [] ((cs ++ cs').take i)) := fun d hd => by
        rcases merge_sub _ _ _ hd with z | z
        · cases z
        · exact hok d (List.mem_of_mem_take z)
      have em : merge [] ((cs ++ cs').take (i + 1)) = if c ∈ merge [] ((cs ++ cs').take i) then merge [] ((cs ++ cs').take i) else merge [] ((cs ++ cs').take i) ++ [c] := by
        rw [List.take_add_one, hcl]
        exact merge_snoc c _ _
      refine ⟨_, rfl, _, rfl, clD c, _, dp_cl hx3, .lst (SqL.of gm) (dp_all (fun _ _ z => dp_cl z) hms), shaped_cl (hok c hcm), shaped_list okm, _, rfl, ?_⟩
      rw [any_cl]
      by_cases hin : c ∈ merge [] ((cs ++ cs').take i)
      case pos =>
        rw [decide_eq_true hin]
        rw [if_pos hin] at em
        exact iteF ⟨⟨_, rfl⟩, s3, ht3, ms, gm, by rw [em]; exact hms⟩
      case neg =>
        rw [decide_eq_false hin]
        rw [if_neg hin] at em
        refine iteT ?_
        refine ⟨_, rfl, .inl ⟨rfl, ms, SqL.of gm⟩, _, rfl, m, ms, x, rfl, rfl, gm, small1000 hlm, ?_⟩
        refine ⟨⟨_, rfl⟩, same_upd hm s3, SqT.lst gm ht3, _, upd_same, ?_⟩
        rw [em]
        exact paired_app (L2.Paired.mapP hms fun _ _ z => IsC.lst gm z) (.cons (IsC.lst gm hx3) .nil)
    · rintro σ H3 ⟨⟨v3, rfl⟩, s3, ht3, ms, gm, hms⟩
      rw [hpl, List.take_of_length_le (Nat.le_refl _)] at hms
      have hl : (merge [] (cs ++ cs')).length ≤ 1000 := Nat.le_trans (merge_len _ _) (by show 0 + (cs ++ cs').length ≤ 1000; omega)
      have hml : ms.length = (merge [] (cs ++ cs')).length := Paired.length hms
      refine ⟨_, rfl, m, ms, rfl, .inr (SqL.of gm), fun r dz hr0 hdz hne => ⟨[.ref r], ms, rfl, rfl, Nat.le_of_lt (small1000 (by omega)), fun p2 hp2 => ?_⟩⟩
      have s5 : Same H3 (upd (upd H3 dz (.own r)) r (.ins C dz [])) := same_upd hr0 (new_same hdz)
      have s6 : Same H3 (upd (upd (upd H3 dz (.own r)) r (.ins C dz [])) p2 (.tup ms)) := fun b u z => new_same hp2 _ _ (s5 _ _ z)
      have hrp : r ≠ p2 := fun z => by
        rw [← z, upd_same] at hp2
        cases hp2
      refine ⟨r, dz, p2, ms, merge [] (cs ++ cs'), rfl, (by rw [upd_ne hrp]; exact upd_same), ⟨SqT.of upd_same, pairedC_same s6 hms, hl⟩, fun c hcm l hlm => ?_, fun hw H' q2 zs hF hk => ⟨rfl, ?_⟩, fun i hw H1 s7 => ?_⟩
      · rcases merge_sub _ _ _ hcm with z | z
        · cases z
        · exact hsh c z l hlm
      · refine qn hw r dz p2 q2 zs H' hF (fun b u z => hk b u (fun e => ?_) (s6 _ _ (s3 _ _ z))) (Same.free s3 hr0)
        rw [e, Same.free s3 hr0] at z
        cases z
      · exact fun d H' s8 z => qf i hw d H' (fun b u y => s8 _ _ (s7 _ _ (s6 _ _ (s3 _ _ y)))) z
end
end Kx
namespace Kx
open PySem L2 PySem.Spec PyProof.Rows
abbrev sWorth : Stmt := top 20
abbrev sHolds : Stmt := top 21
/-- what the dict tells of a term, "" being 0 -/
def Worth (kvs : List (Key × V)) (f : Str → Int) (t : Str) : Prop := (t = "" ∧ f t = 0) ∨ (t ≠ "" ∧ valV kvs (.inr t) = some (.int (f t)))
def spWorth : Sp := fun vs H Q _ => ∃ (t : Str) (d : Addr) (kvs : List (Key × V)) (f : Str → Int), vs = [.str t, .ref d] ∧ H d = some (.dK kvs) ∧ Worth kvs f t ∧ Q (.int (f t)) H
def holds (f : Str → Int) (c : List Lit) : Bool := c.any fun l => decide (f l.1 ≤ f l.2.1 + l.2.2)
def spHolds (K : PySem.W.Frag) : Sp := fun vs H Q _ => ∃ (a d : Addr) (xs : List V) (c : List Lit) (kvs : List (Key × V)) (f : Str → Int), vs = [.ref a, .ref d] ∧ Cl K H a xs c ∧ H d = some (.dK kvs) ∧ (∀ l ∈ c, Worth kvs f l.1 ∧ Worth kvs f l.2.1) ∧ ∀ H', Same H H' → Q (.bl (holds f c)) H'
section
variable {P : Program} {w : World} {K : PySem.W.Frag} {mg : Str → Option Value} {base : Heap}
theorem scWorth : FnScope ["term", "values"] ["term", "values"] (defScope sWorth) := ⟨rfl, rfl, rfl, by decide +kernel, rfl, by decide +kernel, by decide +kernel⟩
theorem ok_worth {f : Addr} {fd : FuncData} (F : Fun K "_worth" "_worth" sWorth f fd) : FnOk P w K mg base CX0 1 f fd ["term", "values"] spWorth := by
  refine F.ok scWorth (fun vs H Q E h => ?_) (fun cdv A outer s H vs Q E hr h => ?_)
  · obtain ⟨t, d, kvs, f, rfl, _⟩ := h
    rfl
  · obtain ⟨t, d, kvs, f, rfl, hd, hw, q⟩ := h
    have hu := hu_of hr
    refine ⟨_, pss_one (ps_ret (pe_ifExp (pt_cmpR op_eq (pv 0) pe_str (nomark _)) pe_int (pe_dget hu (pv 1) (pv 0) (fun _ _ => rfl)))), ?_⟩
    refine ⟨_, rfl, rfl, _, rfl, ?_⟩
    rcases hw with ⟨e, e0⟩ | ⟨e, e1⟩
    · rw [e0] at q
      rw [show decide (V.str t = V.str "") = true from by rw [e]; exact decide_eq_true rfl]
      exact iteT q
    · rw [show decide (V.str t = V.str "") = false from decide_eq_false fun z => e (V.str.inj z)]
      refine iteF ⟨_, rfl, _, rfl, d, .int (f t), rfl, ?_, q⟩
      have g := DGet.k (k := .inr t) hd
      rw [e1] at g
      exact g
theorem scHolds : FnScope ["clause", "values", "left", "right", "number"] ["clause", "values"] (defScope sHolds) := ⟨rfl, rfl, rfl, by decide +kernel, rfl, by decide +kernel, by decide +kernel⟩
theorem ok_holds {f g : Addr} {fd fdW : FuncData} (F : Fun K "_holds" "_holds" sHolds f fd) (W : Fs K mg "_worth" sWorth ["term", "values"] g fdW) (hany : mg "any" = none) : FnOk P w K mg base CX0 2 f fd ["clause", "values"] (spHolds K) := by
  have GW : FnOk P w K mg base CX0 1 g fdW ["term", "values"] spWorth := ok_worth W.F
  refine F.ok scHolds (fun vs H Q E h => ?_) (fun cdv A outer s H vs Q E hr h => ?_)
  · obtain ⟨a, d, xs, c, kvs, f, rfl, _⟩ := h
    rfl
  · obtain ⟨a, d, xs, c, kvs, f, rfl, hc, hd, hw, q⟩ := h
    refine ⟨_, pss_one (ps_ret (pe_callB (cr_any rfl) (by rfl) hany (by decide +kernel) (pa_cons
      (pe_lc (own := [("left", 2), ("right", 3), ("number", 4)]) (g := gTup K 3 (gCons (gName 2) (gCons (gName 3) (gCons (gName 4) gNil)))) (tt := tYes) rfl scHolds.nd (pi_tup (pv 0)) (blkOk_by (N := ["clause", "values", "left", "right", "number"]) (sc := defScope sHolds) (by decide +kernel))
        (fun _ _ _ _ _ => pg_tup rfl (pgs_cons (pg_name (i := 2) scHolds.nd rfl (Or.inl rfl)) (pgs_cons (pg_name (i := 3) scHolds.nd rfl (Or.inl rfl)) (pgs_cons (pg_name (i := 4) scHolds.nd rfl (Or.inl rfl)) pgs_nil)))) (fun _ _ _ _ _ => pts_nil)
        (fun _ _ _ _ _ => pe_cmpR op_le (pe_call GW hr (by rfl) W.m W.F.kp W.b .nil pass0 (pa_cons (pv 2) (pa_cons (pv 1) pa_nil))) (pe_op op_add (pe_call GW hr (by rfl) W.m W.F.kp W.b .nil pass0 (pa_cons (pv 3) (pa_cons (pv 1) pa_nil))) (pv 4)) (nomark _))) pa_nil))), ?_⟩
    have hl := hc.len
    refine ⟨_, rfl, a, rfl, ⟨_, hc.sq⟩, fun D hD => ?_⟩
    refine lc_it (walk_tup (xs := xs)) (fun i H2 => Same H H2 ∧ H2 D = some (.lst ((c.take i).map fun l => .bl (decide (f l.1 ≤ f l.2.1 + l.2.2))))) ⟨new_same hD, upd_same⟩ (fun i H2 _ h => SqT.same h.1 hc.sq) ?_ ?_
    · rintro i x H2 H3 hi ⟨s2, gD⟩ ⟨rfl, hx⟩
      obtain ⟨l, hcl, hx'⟩ := paired_get hc.p hx
      obtain ⟨b, rfl, hb⟩ := IsLit.same s2 hx'
      obtain ⟨w1, w2⟩ := hw l (List.mem_of_getElem? hcl)
      refine ⟨b, _, rfl, hb, rfl, _, _, rfl, _, _, rfl, _, _, rfl, rfl, ?_⟩
      refine ⟨rfl, yes_of ?_⟩
      refine ⟨_, rfl, _, rfl, l.1, d, kvs, f, rfl, s2 _ _ hd, w1, _, rfl, _, rfl, l.2.1, d, kvs, f, rfl, s2 _ _ hd, w2, _, rfl, _, _, rfl, rfl, _, _, rfl, rfl, ?_⟩
      refine ⟨_, gD, small1000 (by rw [List.length_map, List.length_take]; have := hc.l2; omega), same_upd hD s2, ?_⟩
      rw [upd_same, List.take_add_one, hcl, List.map_append]
      rfl
    · rintro H2 ⟨s2, gD⟩
      refine ⟨D, c.map fun l => decide (f l.1 ≤ f l.2.1 + l.2.2), rfl, SqL.of ?_, ?_⟩
      · rw [gD, hl, List.take_of_length_le (Nat.le_refl _), List.map_map]
        rfl
      · have e : holds f c = (c.map fun l => decide (f l.1 ≤ f l.2.1 + l.2.2)).any id := by
          unfold holds
          rw [List.any_map]
          rfl
        rw [← e]
        exact q H2 s2
end
end Kx
namespace Kx
open PySem L2 PySem.Spec PyProof.Rows
abbrev sBroken : Stmt := top 22
/-- the index of the first clause that does not hold -/
def broken (f : Str → Int) : Nat → List (List Lit) → Option Nat
  | _, [] => none
  | i, c :: cs => if holds f c = true then broken f (i + 1) cs else some i
def vOpt : Option Nat → V
  | none => .non
  | some i => .int (i : Nat)
theorem broken_all {f : Str → Int} {cs : List (List Lit)} {i : Nat} : (broken f i cs).isNone = cs.all (holds f) := by
  induction cs generalizing i with
  | nil => rfl
  | cons c cs ih =>
    unfold broken
    cases hc : holds f c with
    | true => rw [if_pos rfl, ih, List.all_cons, hc, Bool.true_and]
    | false => rw [if_neg (by simp), List.all_cons, hc, Bool.false_and]; rfl
def spBroken (K : PySem.W.Frag) : Sp := fun vs H Q _ => ∃ (p d : Addr) (xs : List V) (cs : List (List Lit)) (kvs : List (Key × V)) (f : Str → Int), vs = [.ref p, .ref d] ∧ Cs K H p xs cs ∧ H d = some (.dK kvs) ∧ (∀ c ∈ cs, ∀ l ∈ c, Worth kvs f l.1 ∧ Worth kvs f l.2.1) ∧ ∀ H', Same H H' → Q (vOpt (broken f 0 cs)) H'
section
variable {P : Program} {w : World} {K : PySem.W.Frag} {mg : Str → Option Value} {base : Heap}
abbrev nBk : List Str := ["clauses", "values", "at", "clause"]
theorem scBroken : FnScope nBk ["clauses", "values"] (defScope sBroken) := ⟨rfl, rfl, rfl, by decide +kernel, rfl, by decide +kernel, by decide +kernel⟩
theorem ok_broken {f g g2 : Addr} {fd fdH fdW : FuncData} (F : Fs K mg "first_broken" sBroken ["clauses", "values"] f fd) (Hd : Fs K mg "_holds" sHolds ["clause", "values"] g fdH) (Wd : Fs K mg "_worth" sWorth ["term", "values"] g2 fdW) (hany : mg "any" = none) (henum : mg "enumerate" = none) : FnOk P w K mg base CX0 3 f fd ["clauses", "values"] (spBroken K) := by
  have GH : FnOk P w K mg base CX0 2 g fdH ["clause", "values"] (spHolds K) := ok_holds Hd.F Wd hany
  refine F.F.ok scBroken (fun vs H Q E h => ?_) (fun cdv A outer s H vs Q E hr h => ?_)
  · obtain ⟨p, d, xs, cs, kvs, f, rfl, _⟩ := h
    rfl
  · obtain ⟨p, d, xs, cs, kvs, f, rfl, hc, hd, hw, q⟩ := h
    have hl : xs.length = cs.length := Paired.length hc.p
    obtain ⟨R, hR⟩ : ∃ R, broken f 0 cs = R := ⟨_, rfl⟩
    rw [hR] at q
    refine ⟨_, pss_cons (ps_for PassesOwn.never rfl (pi_enumT (by rfl) henum (pa_cons (pv 0) pa_nil)) (pg_tup rfl (pgs_cons (pg_name (i := 2) scBroken.nd rfl (Or.inl rfl)) (pgs_cons (pg_name (i := 3) scBroken.nd rfl (Or.inl rfl)) pgs_nil)))
        (pss_one (ps_if (pt_not (pt_val (pe_call GH hr (by rfl) Hd.m Hd.F.kp Hd.b .nil pass0 (pa_cons (pv 3) (pa_cons (pv 1) pa_nil))))) (pss_one (ps_ret (pv 2))) pss_nil)))
      (pss_one (ps_ret pe_non)), ?_⟩
    refine ⟨_, rfl, p, xs, rfl, hc.sq, ?_⟩
    refine for_enumT (xs := xs) (fun i σ H2 => Same H H2 ∧ ∃ (v2 v3 : Option V), σ = [some (.ref p), some (.ref d), v2, v3] ∧ broken f i (cs.drop i) = R) ⟨fun _ _ z => z, none, none, rfl, hR⟩
      (fun i σ H2 _ h => SqT.same h.1 hc.sq) ?_ ?_
    · rintro i x σ H2 t hx ⟨s2, v2, v3, rfl, hb⟩ ht
      obtain ⟨c, hcl, y, ys, rfl, hy⟩ := paired_get hc.p hx
      have hdrop : cs.drop i = c :: cs.drop (i + 1) := (List.drop_eq_getElem?_toList_append).trans (by rw [hcl]; rfl)
      rw [hdrop] at hb
      have s3 : Same H (upd H2 t (.tup [.int (i : Nat), .ref y])) := fun b u z => new_same ht b u (s2 b u z)
      have hy3 := Cl.same s3 hy
      refine ⟨t, _, rfl, SqT.of upd_same, rfl, _, _, rfl, _, _, rfl, rfl, ?_⟩
      refine ⟨_, rfl, _, rfl, y, d, ys, c, kvs, f, rfl, hy3, s3 _ _ hd, fun l hm => hw c (List.mem_of_getElem? hcl) l hm, fun H4 s4 => ⟨_, rfl, ?_⟩⟩
      have s14 : Same H H4 := fun b u z => s4 b u (s3 b u z)
      unfold broken at hb
      cases hst : holds f c with
      | false =>
        rw [hst, if_neg Bool.false_ne_true] at hb
        rw [← hb] at q
        exact iteT ⟨_, rfl, q H4 s14⟩
      | true =>
        rw [hst, if_pos rfl] at hb
        exact iteF ⟨s14, _, _, rfl, hb⟩
    · rintro σ H2 ⟨s2, v2, v3, rfl, hb⟩
      rw [List.drop_of_length_le (by rw [hl]; exact Nat.le_refl _)] at hb
      rw [← hb] at q
      exact q H2 s2
end
end Kx
namespace Kx
open PySem L2 PySem.Spec PyProof.Rows
abbrev sCall : Stmt := mth 1
abbrev nCl : List Str := ["self", "values", "clause", "left", "right", "_", "term"]
section
variable {P : Program} {w : World} {K : PySem.W.Frag} {mg : Str → Option Value} {base : Heap}
theorem sc_NoValue : FnScope ["self", "term"] ["self", "term"] (defScope (inClass (top 4) 0)) := ⟨rfl, rfl, rfl, by decide +kernel, rfl, by decide +kernel, by decide +kernel⟩
theorem ok_NoValue {f : Addr} {fd : FuncData} (F : Fun K "__init__" "NoValue.__init__" (inClass (top 4) 0) f fd) : FnOk P w K mg base CX0 1 f fd ["self", "term"] (spI K ["term"]) := by
  refine F.ok sc_NoValue (fun vs H Q E h => ?_) (fun cdv A outer s H vs Q E hr h => ?_)
  · obtain ⟨a, B, C, ws, rfl, hl, _⟩ := h
    show ws.length + 1 = 2
    rw [hl] <;> rfl
  · obtain ⟨a, B, C, ws, rfl, hl, T, hno, ha, k⟩ := h
    obtain ⟨v0, rfl⟩ : ∃ v0, ws = [v0] := match ws, hl with | [v0], _ => ⟨v0, rfl⟩
    refine ⟨_, pss_one (ps_ost (pv 0) (pv 1)), ?_⟩
    refine ⟨_, rfl, _, rfl, a, C, rfl, T.oex, hno _ (by simp), .inl ⟨ha, fun dx n1 n2 => ?_⟩⟩
    exact k dx _ n1 n2 upd_same (by rw [upd_ne n2, upd_same]; rfl) (fun b h1 h2 => by rw [upd_ne h1, upd_ne h2])
end
structure NoV (K : PySem.W.Frag) (mg : Str → Option Value) (B CN f : Addr) (fd : FuncData) : Prop where
  T : Ct K B CN
  no : ∀ x ∈ ([("term" : Str)] : List Str), PySem.W.findIn K (.ref CN) x = some none
  iC : PySem.W.findIn K (.ref CN) "__init__" = some (some (.ref f))
  tI : PySem.W.typeIn K (.ref f) = some (.type "function")
  F : Fun K "__init__" "NoValue.__init__" (inClass (top 4) 0) f fd
  b : Binds K fd ["self", "term"] []
  gm : mg "NoValue" = some (.ref CN)
/-- the terms in the order in which they are asked -/
def asked (cs : List (List Lit)) : List Str := cs.flatMap fun c => c.flatMap fun l => [l.1, l.2.1]
def okT (kvs : List (Key × V)) (t : Str) : Prop := t = "" ∨ (valV kvs (.inr t)).isSome = true
def missing (CN : Addr) (E : XK) : Hp → Str → Prop := fun H1 t => ∀ d H', Same H1 H' → H' d = some (exd d [("term", .str t)]) → E (.ref CN) (some d) H'
def spCall (K : PySem.W.Frag) (C CN : Addr) : Sp := fun vs H Q E => ∃ (a d dx p q : Addr) (cs : List (List Lit)) (ys : List Str) (kvs : List (Key × V)) (f : Str → Int), vs = [.ref a, .ref d] ∧ CondF K H a C dx p q cs ys ∧ H d = some (.dK kvs) ∧ (∀ t ∈ asked cs, okT kvs t → Worth kvs f t) ∧
  ((∀ t ∈ asked cs, okT kvs t) → ∀ H', Same H H' → Q (.bl (cs.all (holds f))) H') ∧ ∀ pre t rest, asked cs = pre ++ t :: rest → (∀ x ∈ pre, okT kvs x) → ¬ okT kvs t → missing CN E H t
abbrev asC (c : List Lit) : List Str := c.flatMap fun l => [l.1, l.2.1]
theorem split_at {α : Type} {l : List α} {i : Nat} {x : α} (h : l[i]? = some x) : l = l.take i ++ x :: l.drop (i + 1) := by
  obtain ⟨hi, e⟩ := List.getElem?_eq_some_iff.mp h
  rw [← e, List.getElem_cons_drop, List.take_append_drop]
theorem asked_split {cs : List (List Lit)} {c : List Lit} {l : Lit} {t : Str} {i j k : Nat} (h1 : cs[i]? = some c) (h2 : c[j]? = some l) (h3 : [l.1, l.2.1][k]? = some t) : ∃ rest, asked cs = (asked (cs.take i) ++ asC (c.take j) ++ [l.1, l.2.1].take k) ++ t :: rest := by
  refine ⟨[l.1, l.2.1].drop (k + 1) ++ asC (c.drop (j + 1)) ++ asked (cs.drop (i + 1)), ?_⟩
  have e3 := split_at h3
  have e2 : asC c = asC (c.take j) ++ ([l.1, l.2.1] ++ asC (c.drop (j + 1))) := by
    have z := congrArg asC (split_at h2)
    rw [show asC (c.take j ++ l :: c.drop (j + 1)) = asC (c.take j) ++ ([l.1, l.2.1] ++ asC (c.drop (j + 1))) from List.flatMap_append] at z
    exact z
  have e1 : asked cs = asked (cs.take i) ++ (asC c ++ asked (cs.drop (i + 1))) := by
    have z := congrArg asked (split_at h1)
    rw [show asked (cs.take i ++ c :: cs.drop (i + 1)) = asked (cs.take i) ++ (asC c ++ asked (cs.drop (i + 1))) from List.flatMap_append] at z
    exact z
  rw [e1, e2]
  simp only [List.append_assoc]
  congr 2
  rw [← List.append_assoc, ← List.append_assoc]
  conv => lhs; rw [e3]
  simp only [List.append_assoc, List.cons_append]
theorem asked_app (a b : List (List Lit)) : asked (a ++ b) = asked a ++ asked b := List.flatMap_append
section
variable {P : Program} {w : World} {K : PySem.W.Frag} {mg : Str → Option Value} {base : Heap} {B CN fN C : Addr} {fdN : FuncData}
theorem scCall : FnScope nCl ["self", "values"] (defScope sCall) := ⟨rfl, rfl, rfl, by decide +kernel, rfl, by decide +kernel, by decide +kernel⟩
theorem ok_call {f g g2 g3 : Addr} {fd fdH fdW fdB : FuncData} (F : Fun K "__call__" "Cond.__call__" sCall f fd) (hcl : Cls K C) (hnc : NoAttr K C "clauses") (N : NoV K mg B CN fN fdN) (Hd : Fs K mg "_holds" sHolds ["clause", "values"] g fdH) (Wd : Fs K mg "_worth" sWorth ["term", "values"] g2 fdW) (Bd : Fs K mg "first_broken" sBroken ["clauses", "values"] g3 fdB) (hany : mg "any" = none) (henum : mg "enumerate" = none) :
    FnOk P w K mg base (L2N.CX P w) 4 f fd ["self", "values"] (spCall K C CN) := by
  obtain ⟨oc, od, kV, doc, pm, an, cdv, ct, osl, rfl, lk, hcd⟩ := F.ex
  have GB : FnOk P w K mg base CX0 3 g3 fdB ["clauses", "values"] (spBroken K) := ok_broken Bd Hd Wd hany henum
  refine fn_of lk hcd scCall (fun vs H Q E h => ?_) fun A outer s H vs Q E hr h => ?_
  · obtain ⟨a, d, dx, p, q, cs, ys, kvs, f, rfl, _⟩ := h
    rfl
  · obtain ⟨a, d, dx, p, q, cs, ys, kvs, f0, rfl, ha, hd, hwo, qn, qf⟩ := h
    have tk : L2N.Takes (cxOf (L2N.CX P w) P w K mg base nCl "Cond.__call__" (defScope sCall) f cdv A outer s H E) (fun cls d _ H => E cls d H) := L2N.takes_of rfl rfl rfl rfl
    have hu : (cxOf (L2N.CX P w) P w K mg base nCl "Cond.__call__" (defScope sCall) f cdv A outer s H E).A.units + 1 < cLine := hu_of hr
    refine ⟨_, pss_cons (ps_for (passes_of rfl) rfl (pi_tup (pe_fld (pv 0) (by rfl))) (pg_name (i := 2) scCall.nd rfl (Or.inl rfl))
        (pss_one (ps_for (passes_of rfl) rfl (pi_tup (pv 2)) (pg_tup rfl (pgs_cons (pg_name (i := 3) scCall.nd rfl (Or.inl rfl)) (pgs_cons (pg_name (i := 4) scCall.nd rfl (Or.inl rfl)) (pgs_cons (pg_name (i := 5) scCall.nd rfl (Or.inl rfl)) pgs_nil))))
          (pss_one (ps_for (passes_of rfl) rfl (pi_tup (pe_tup (pa_cons (pv 3) (pa_cons (pv 4) pa_nil)))) (pg_name (i := 6) scCall.nd rfl (Or.inl rfl))
            (pss_one (ps_if (PW.pt (pw_and (pt_cmpR op_ne (pv 6) pe_str (nomark _)) (pw_and1 (pt_cmp (pc_dnotin hu (pv 6) (pv 1)) (by with_unfolding_all rfl)))))
              (pss_one (L2N.ps_raise rfl tk (by exact (pmkN_err (X := cxOf (L2N.CX P w) P w K mg base nCl "Cond.__call__" (defScope sCall) f cdv A outer s H E) (K := K) (H0 := H) rfl rfl rfl
                (pe_err (ns := ["term"]) (X := cxOf (L2N.CX P w) P w K mg base nCl "Cond.__call__" (defScope sCall) f cdv A outer s H E) N.T N.no N.iC N.tI (ok_NoValue N.F) (hr.mono (by decide)) N.b pass0 N.gm (pa_cons (pv 6) pa_nil)))))) pss_nil)))))))
      (pss_one (ps_ret (pe_cmpR op_isN (pe_call GB hr (by rfl) Bd.m Bd.F.kp Bd.b .nil pass0 (pa_cons (pe_fld (pv 0) (by rfl)) (pa_cons (pv 1) pa_nil))) pe_non (nomark _)))), ?_⟩
    obtain ⟨xs, hc⟩ := ha.cl
    have hl : xs.length = cs.length := Paired.length hc.p
    refine ⟨_, rfl, a, C, dx, _, .ref p, rfl, ha.ins, hcl, hnc, rfl, p, rfl, ⟨_, hc.sq⟩, ?_⟩
    refine for_tup (xs := xs) (fun i σ H3 => (∃ o2 o3 o4 o5 o6, σ = [some (.ref a), some (.ref d), o2, o3, o4, o5, o6]) ∧ Same H H3 ∧ ∀ t ∈ asked (cs.take i), okT kvs t) ⟨⟨_, _, _, _, _, rfl⟩, fun _ _ z => z, fun t ht => nomatch ht⟩ (fun i σ H3 _ h => SqT.same h.2.1 hc.sq) ?_ ?_
    · rintro i x σ H3 hx ⟨⟨o2, o3, o4, o5, o6, rfl⟩, s3, hok⟩
      obtain ⟨c, hci, b, zs, rfl, hb⟩ := paired_get hc.p hx
      have hzl : zs.length = c.length := hb.len
      refine ⟨_, rfl, b, rfl, ⟨_, SqT.same s3 hb.sq⟩, ?_⟩
      refine for_tup (xs := zs) (fun j σ H4 => (∃ o3 o4 o5 o6, σ = [some (.ref a), some (.ref d), some (.ref b), o3, o4, o5, o6]) ∧ Same H H4 ∧ ∀ t ∈ asked (cs.take i) ++ asC (c.take j), okT kvs t) ⟨⟨_, _, _, _, rfl⟩, s3, fun t ht => hok t (by rw [show asC (c.take 0) = [] from rfl, List.append_nil] at ht; exact ht)⟩ (fun j σ H4 _ h => SqT.same h.2.1 hb.sq) ?_ ?_
      · rintro j x σ H4 hx4 ⟨⟨o3, o4, o5, o6, rfl⟩, s4, hok4⟩
        obtain ⟨l, hlj, e, rfl, he⟩ := paired_get hb.p hx4
        refine ⟨e, _, rfl, SqT.same s4 he, rfl, _, _, rfl, _, _, rfl, _, _, rfl, rfl, ?_⟩
        refine ⟨_, rfl, _, rfl, by show 2 ≤ sizeLine; decide, fun q5 h5 => ⟨q5, rfl, ⟨_, SqT.of upd_same⟩, ?_⟩⟩
        refine for_tup (xs := [V.str l.1, V.str l.2.1]) (fun k σ H6 => (∃ o6, σ = [some (.ref a), some (.ref d), some (.ref b), some (.str l.1), some (.str l.2.1), some (.int l.2.2), o6]) ∧ Same H H6 ∧ H6 q5 = some (.tup [.str l.1, .str l.2.1]) ∧ ∀ t ∈ asked (cs.take i) ++ asC (c.take j) ++ [l.1, l.2.1].take k, okT kvs t)
          ⟨⟨_, rfl⟩, fun b u z => new_same h5 _ _ (s4 _ _ z), upd_same, fun t ht => hok4 t (by rw [show [l.1, l.2.1].take 0 = ([] : List Str) from rfl, List.append_nil] at ht; exact ht)⟩ (fun k σ H6 _ h => SqT.of h.2.2.1) ?_ ?_
        · rintro k x σ H6 hx6 ⟨⟨o6, rfl⟩, s6, g6, hok6⟩
          obtain ⟨t, ht, rfl⟩ : ∃ t, [l.1, l.2.1][k]? = some t ∧ x = .str t := by
            have e : [V.str l.1, V.str l.2.1] = [l.1, l.2.1].map V.str := rfl
            rw [e, List.getElem?_map] at hx6
            obtain ⟨t, h1, h2⟩ := Option.map_eq_some_iff.mp hx6
            exact ⟨t, h1, h2.symm⟩
          have more : okT kvs t → ∀ x ∈ asked (cs.take i) ++ asC (c.take j) ++ [l.1, l.2.1].take (k + 1), okT kvs x := fun h x hx => by
            rw [List.take_add_one, ht, ← List.append_assoc] at hx
            rcases List.mem_append.mp hx with z | z
            · exact hok6 x z
            · rw [List.mem_singleton.mp (show x ∈ [t] from z)]
              exact h
          refine ⟨_, rfl, rfl, _, rfl, ?_⟩
          by_cases hz : t = ""
          · rw [show (!decide (V.str t = V.str "")) = false from by rw [hz]; decide]
            exact iteF (iteF ⟨⟨_, rfl⟩, s6, g6, more (.inl hz)⟩)
          rw [show (!decide (V.str t = V.str "")) = true from by rw [decide_eq_false fun z => hz (V.str.inj z)]; rfl]
          refine iteT ⟨_, rfl, _, rfl, d, valV kvs (.inr t), rfl, DGet.k (k := .inr t) (s6 _ _ hd), _, rfl, ?_⟩
          by_cases hs : (valV kvs (.inr t)).isSome = true
          · rw [hs]
            exact iteF ⟨⟨_, rfl⟩, s6, g6, more (.inr hs)⟩
          · rw [Bool.not_eq_true] at hs
            rw [hs]
            refine iteT ⟨_, rfl, rfl, (by show 1 ≤ 100; decide), fun e' H7 n7 h7 s7 => ?_⟩
            obtain ⟨d', hne, h7a, h7d⟩ := h7
            obtain ⟨rest, hr'⟩ := asked_split hci hlj ht
            refine ⟨e', B, CN, d', rfl, N.T, h7a, fr0_none (Same.free s6 n7), qf _ t rest hr' hok6 (fun z => z.elim hz fun y => by rw [hs] at y; cases y) d' _ (fun b u z => del_keep s7 n7 _ _ (s6 _ _ z)) ((delH_ne hne).trans h7d)⟩
        · rintro σ H6 ⟨⟨o6, rfl⟩, s6, g6, hok6⟩
          refine ⟨⟨_, _, _, _, rfl⟩, s6, fun t ht => hok6 t ?_⟩
          rw [List.take_add_one, hlj] at ht
          have e : asC (c.take j ++ (some l).toList) = asC (c.take j) ++ [l.1, l.2.1] := List.flatMap_append
          rw [e, ← List.append_assoc] at ht
          exact ht
      · rintro σ H4 ⟨⟨o3, o4, o5, o6, rfl⟩, s4, hok4⟩
        refine ⟨⟨_, _, _, _, _, rfl⟩, s4, fun t ht => hok4 t ?_⟩
        rw [hzl, List.take_of_length_le (Nat.le_refl _)]
        rw [List.take_add_one, hci] at ht
        have e : asked (cs.take i ++ (some c).toList) = asked (cs.take i) ++ (asC c ++ []) := List.flatMap_append
        rw [e, List.append_nil] at ht
        exact ht
    · rintro σ H3 ⟨⟨o2, o3, o4, o5, o6, rfl⟩, s3, hok⟩
      rw [hl, List.take_of_length_le (Nat.le_refl _)] at hok
      have hin : ∀ c ∈ cs, ∀ l ∈ c, l.1 ∈ asked cs ∧ l.2.1 ∈ asked cs := fun c hcm l hl => ⟨List.mem_flatMap.mpr ⟨c, hcm, List.mem_flatMap.mpr ⟨l, hl, by simp⟩⟩, List.mem_flatMap.mpr ⟨c, hcm, List.mem_flatMap.mpr ⟨l, hl, by simp⟩⟩⟩
      refine ⟨_, rfl, a, C, dx, _, .ref p, rfl, s3 _ _ ha.ins, hcl, hnc, rfl, _, rfl, p, d, xs, cs, kvs, f0, rfl, Cs.same s3 hc, s3 _ _ hd, fun c hc l hl => ⟨hwo _ (hin c hc l hl).1 (hok _ (hin c hc l hl).1), hwo _ (hin c hc l hl).2 (hok _ (hin c hc l hl).2)⟩, fun H4 s4 => ?_⟩
      have e : decide (vOpt (broken f0 0 cs) = V.non) = cs.all (holds f0) := by
        rw [← broken_all (i := 0)]
        cases broken f0 0 cs with
        | none => rfl
        | some i => rfl
      refine ⟨rfl, ?_⟩
      show Q (V.bl (decide (vOpt (broken f0 0 cs) = V.non))) H4
      rw [e]
      exact qn hok H4 fun b u z => s4 _ _ (s3 _ _ z)
end
end Kx
namespace Kx
open PySem L2 PySem.Spec PyProof.Rows
/-! a static method called through its class -/
structure SMet (K : PySem.W.Frag) (C : Addr) (mc : Value) (m : Str) (p g : Addr) : Prop where
  seen : PySem.W.findCls K (.ref C) mc m = some (.get (.builtin "staticmethod.__get__") (.ref p) .none (.ref C))
  kept : ∃ rest, PySem.W.recIn K p "staticmethod" = some (.ref g :: rest)
  fn : PySem.W.keepIn K (.ref g) = true
section
variable {X : Cx} {CX : CXT} {k : Nat} {C p g : Addr} {mc : Value} {fd : FuncData} {ps ks : List Str} {sp : Sp} {E : XK} {o e : Expr} {es : List Expr} {m : Str} {pos apos : Pos} {ta : TE} {t tk : TA} {pl : Sem Bool} {ds : List Value} {dvs : List V} {kws : List Keyword}
theorem smet_ok {A : Around} {pins : List (Addr × Obj)} {σ : L2.St} {H : Hp} {s : Shared} {E : Value → Shared → Prop} {Q : Value × List Value → Shared → Prop} (I : L2.Inv X pins σ H s) (r : ClX.CRead X.K C mc) (c : SMet X.K C mc m p g)
    (h : ∀ s', L2.Inv X pins σ H s' → Q (.ref g, []) s') : wpAny (model X.prog X.w) A (getMethod (.ref C) m pl) Q E s := by
  obtain ⟨rest, hp⟩ := c.kept
  refine PySem.W.method_cls I.kIn r.ga (PySem.W.cls_bind I.kIn r.rd c.seen ?_)
  exact wpAny_call (PySem.W.sm_get (s := { s with toks := s.toks + 1 }) I.kIn hp (PySem.W.handed_on rfl (h _ (I.tok _))))
def tSM (C : Addr) (sp : Sp) (dvs : List V) (E : XK) (ta : TE) (t : TA) : TE := fun σ H Q => ta σ H fun x H1 => x = .ref C ∧ t σ H1 fun vs H2 => sp (vs ++ dvs) H2 Q E
def tSMK (C : Addr) (sp : Sp) (gV : List V → List V → List V) (E : XK) (ta : TE) (t tk : TA) : TE := fun σ H Q => ta σ H fun x H1 => x = .ref C ∧ t σ H1 fun vs H2 => tk σ H2 fun zs H3 => sp (gV vs zs) H3 Q E
theorem pe_smeth (he : PE X o ta) (r : ClX.CRead X.K C mc) (c : SMet X.K C mc m p g) (F : FnOk X.prog X.w X.K X.mg X.base CX k g fd ps sp) (hr : Room k X.A) (hb : L2.Binds X.K fd ps ds) (hd : Vals dvs ds) (hx : Passes CX X E) (ha : PA X (e :: es) t)
    (ht : eval (.Call (.Attribute o m apos) (e :: es) [] pos) X.env = (do let ov ← eval o X.env; standAt apos.atName; let (f, first) ← holding [ov] (getMethod ov m pl); callWith pos f first (backTo pos (starEach (e :: es) X.env)) (backToKw pos (keywordEach [] X.env))) := by rfl)
    (hst : starEach (e :: es) X.env = (false, eval e X.env) :: starEach es X.env := by rfl) (hpl : (backTo pos (starEach es X.env)).any (·.1) = false := by rfl) :
    PE X (.Call (.Attribute o m apos) (e :: es) [] pos) (tSM C sp dvs E ta t) := by
  refine ⟨fun pins s σ H Q I h => ?_⟩
  refine PySem.W.methodCall_KW (pl := pl) (thn (he.run pins s σ H _ I h) fun u s1 hq => ?_) ht
  obtain ⟨x, H1, I1, rx, ex, q⟩ := hq
  subst ex
  obtain rfl : u = Value.ref C := rx
  refine smet_ok I1 r c fun s2 I2 => ?_
  refine PySem.W.callWith_K (first := []) (h₀ := X.base) I.ok.mod.kin c.fn (thn (ha.run pos pins s2 σ H1 _ I2 q) fun us s3 hq => ?_) hst hpl
  obtain ⟨vs, H2, I3, rv, q2⟩ := hq
  exact ⟨I3.kIn, run_fn F hr hb hd hx I3 rv q2⟩
end
end Kx
namespace Kx
open PySem L2 PySem.Spec PyProof.Rows
section
variable {X : Cx} {CX : CXT} {k n : Nat} {C p g : Addr} {mc : Value} {fd : FuncData} {ps ks : List Str} {sp : Sp} {E : XK} {o e : Expr} {es : List Expr} {m : Str} {pos apos : Pos} {ta : TE} {t tk : TA} {pl : Sem Bool} {kws : List Keyword} {gB : List Value → List Value → List Value} {gV : List V → List V → List V}
def tSMN (C : Addr) (n m : Nat) (sp : Sp) (gV : List V → List V → List V) (E : XK) (ta : TE) (t tk : TA) : TE := fun σ H Q => ta σ H fun x H1 => x = .ref C ∧ t σ H1 fun vs H2 => tk σ H2 fun zs H3 => vs.length = n ∧ zs.length = m ∧ sp (gV vs zs) H3 Q E
theorem pe_smethK (he : PE X o ta) (r : ClX.CRead X.K C mc) (c : SMet X.K C mc m p g) (F : FnOk X.prog X.w X.K X.mg X.base CX k g fd ps sp) (hr : Room k X.A) (hb : KBn X.K fd ps n ks gB gV) (hx : Passes CX X E) (ha : PA X (e :: es) t) (hkw : PK X kws tk)
    (ht : eval (.Call (.Attribute o m apos) (e :: es) kws pos) X.env = (do let ov ← eval o X.env; standAt apos.atName; let (f, first) ← holding [ov] (getMethod ov m pl); callWith pos f first (backTo pos (starEach (e :: es) X.env)) (backToKw pos (keywordEach kws X.env))) := by rfl)
    (hall : (backToKw pos (keywordEach kws X.env)).all (·.1.isSome) = true := by rfl) (hks : (backToKw pos (keywordEach kws X.env)).filterMap (·.1) = ks := by rfl) (hst : starEach (e :: es) X.env = (false, eval e X.env) :: starEach es X.env := by rfl)
    (hpl : ((backTo pos (starEach (e :: es) X.env)).any (·.1) || (backToKw pos (keywordEach kws X.env)).any (·.1.isNone)) = false := by rfl) : PE X (.Call (.Attribute o m apos) (e :: es) kws pos) (tSMN C n ks.length sp gV E ta t tk) := by
  refine ⟨fun pins s σ H Q I h => ?_⟩
  refine PySem.W.methodCall_KW (pl := pl) (thn (he.run pins s σ H _ I h) fun u s1 hq => ?_) ht
  obtain ⟨x, H1, I1, rx, ex, q⟩ := hq
  subst ex
  obtain rfl : u = Value.ref C := rx
  refine smet_ok I1 r c fun s2 I2 => ?_
  refine PySem.W.callWith_KW (first := []) (h₀ := X.base) I.ok.mod.kin c.fn hall (thn (ha.run pos pins s2 σ H1 _ I2 q) fun us s3 hq => ?_) hpl hst
  obtain ⟨vs, H2, I3, rv, q2⟩ := hq
  refine thn (hkw.run pos pins s3 σ H2 _ I3 q2) fun ws s4 hq => ?_
  obtain ⟨zs, H3, I4, rz, l1, l2, q3⟩ := hq
  refine ⟨I4.kIn, ?_⟩
  rw [hks]
  exact run_fnN F hr hb hx I4 rv rz l1 l2 q3
end
/-! a Cond made of two clauses: what they are made of -/
abbrev sMinus : Stmt := top 19
abbrev sBetw : Stmt := mth 5
abbrev sEqual : Stmt := mth 6
/-- minus a number, and what is none as it is -/
def mV : V → V | .int i => .int (-i) | v => v
def mSh : Sh → Sh | .int i => .int (-i) | d => d
theorem Is.minus {K : PySem.W.Frag} {H : Hp} {v : V} {d : Sh} (h : Is K H v d) : Is K H (mV v) (mSh d) := by
  cases h with
  | non => exact .non
  | lst h => exact .lst h
  | dic h => exact .dic h
  | bl b => exact .bl b
  | int i => exact .int (-i)
  | str s h => exact .str s h
  | tup h p n => exact .tup h p n
def spMinus (K : PySem.W.Frag) : Sp := fun vs H Q _ => ∃ (v : V) (d : Sh), vs = [v] ∧ Is K H v d ∧ ∀ H', Same H H' → Q (mV v) H'
section
variable {P : Program} {w : World} {K : PySem.W.Frag} {mg : Str → Option Value} {base : Heap} {B CB fB C fI : Addr} {fdB fdI : FuncData}
theorem scMinus : FnScope ["number"] ["number"] (defScope sMinus) := ⟨rfl, rfl, rfl, by decide +kernel, rfl, by decide +kernel, by decide +kernel⟩
theorem ok_minus {f g : Addr} {fd fdI : FuncData} (F : Fs K mg "_minus" sMinus ["number"] f fd) (W : Fs K mg "is_integer" sIsInt ["thing"] g fdI) (T : Bx mg) : FnOk P w K mg base CX0 2 f fd ["number"] (spMinus K) := by
  have GI : FnOk P w K mg base CX0 1 g fdI ["thing"] (spG K isIntS) := g_isint W T
  refine F.F.ok scMinus (fun vs H Q E h => ?_) (fun cdv A outer s H vs Q E hr h => ?_)
  · obtain ⟨v, d, rfl, _⟩ := h
    rfl
  · obtain ⟨v, d, rfl, hv, q⟩ := h
    refine ⟨_, pss_one (ps_ret (pe_ifExp (pt_val (pe_call GI hr (by rfl) W.m W.F.kp W.b .nil pass0 (pa_cons (pv 0) pa_nil))) (pe_un un_neg (pv 0)) (pv 0))), ?_⟩
    refine ⟨_, rfl, v, d, rfl, hv, fun H1 s1 => ⟨_, rfl, ?_⟩⟩
    have q1 := q H1 s1
    cases hv with
    | int i => exact iteT ⟨_, rfl, _, rfl, q1⟩
    | non => exact iteF ⟨_, rfl, q1⟩
    | lst h => exact iteF ⟨_, rfl, q1⟩
    | dic h => exact iteF ⟨_, rfl, q1⟩
    | bl b => exact iteF ⟨_, rfl, q1⟩
    | str s h => exact iteF ⟨_, rfl, q1⟩
    | tup h p n => exact iteF ⟨_, rfl, q1⟩
end
end Kx
namespace Kx
open PySem L2 PySem.Spec PyProof.Rows
open StX (pe_makeR tMakeR)
/-- a Cond of these things, or its refusal -/
def Made (K : PySem.W.Frag) (C CB : Addr) (ds : List Sh) (H : Hp) (Q : VK) (E : XK) : Prop :=
  (∀ cs, ds = cs.map shC → firstWrongS ds = none → firstWrong cs = none → ∀ r dz p q ys H', CondF K H' r C dz p q cs ys → Same H H' → H r = none → Q (.ref r) H') ∧ ∀ i, firstWrongS ds = some i → refusal CB E H i
def shT (a b c : Sh) : Sh := .tup [.tup [a, b, c]]
def spBetw (K : PySem.W.Frag) (C CB : Addr) : Sp := fun vs H Q E => ∃ (t lo hi : V) (dt dl dh : Sh), vs = [t, lo, hi] ∧ Is K H t dt ∧ Is K H lo dl ∧ Is K H hi dh ∧ Made K C CB [shT (.str "") dt (mSh dl), shT dt (.str "") dh] H Q E
def spEqual (K : PySem.W.Frag) (C CB : Addr) : Sp := fun vs H Q E => ∃ (a b n : V) (da db dn : Sh), vs = [a, b, n] ∧ Is K H a da ∧ Is K H b db ∧ Is K H n dn ∧ Made K C CB [shT da db dn, shT db da (mSh dn)] H Q E
theorem isT3 {K : PySem.W.Frag} {H : Hp} {a b c : V} {da db dc : Sh} {t u : Addr} (ha : Is K H a da) (hb : Is K H b db) (hc : Is K H c dc) (ht : H t = none) (hu : (upd H t (.tup [a, b, c])) u = none) :
    Is K (upd (upd H t (.tup [a, b, c])) u (.tup [.ref t])) (.ref u) (shT da db dc) := by
  have s1 := new_same (o := .tup [a, b, c]) ht
  have s2 := new_same (o := .tup [V.ref t]) hu
  have i1 : Is K (upd H t (.tup [a, b, c])) (.ref t) (.tup [da, db, dc]) := .tup (SqT.of upd_same) (.cons (ha.same s1) (.cons (hb.same s1) (.cons (hc.same s1) .nil))) (by show 3 ≤ 1000; decide)
  exact .tup (SqT.of upd_same) (.cons (i1.same s2) .nil) (by show 1 ≤ 1000; decide)
theorem sh1 {z : Str} (h : z.length ≤ 1000) (k : (Txt.split z ".").length ≤ 1000) (e : ∀ x ∈ Txt.split z ".", x.length ≤ 1000) : Short z := ⟨h, k, e⟩
theorem shE : Short "" := ⟨by decide +kernel, by decide +kernel, by decide +kernel⟩
section
variable {P : Program} {w : World} {K : PySem.W.Frag} {mg : Str → Option Value} {base : Heap} {B CB fB C fI : Addr} {fdB fdI : FuncData}
theorem scBetw : FnScope ["term", "low", "high"] ["term", "low", "high"] (defScope sBetw) := ⟨rfl, rfl, rfl, by decide +kernel, rfl, by decide +kernel, by decide +kernel⟩
theorem scEqual : FnScope ["left", "right", "plus"] ["left", "right", "plus"] (defScope sEqual) := ⟨rfl, rfl, rfl, by decide +kernel, rfl, by decide +kernel, by decide +kernel⟩
theorem ok_betw {f g i : Addr} {fd fdM fdN : FuncData} (F : Fun K "between" "Cond.between" sBetw f fd) (dM : Fs K mg "_minus" sMinus ["number"] g fdM) (W : Fs K mg "is_integer" sIsInt ["thing"] i fdN) (M : CondAll K mg B CB fB C fI fdB fdI) : FnOk P w K mg base (L2N.CX P w) 8 f fd ["term", "low", "high"] (spBetw K C CB) := by
  obtain ⟨oc, od, kV, doc, pm, an, cdv, ct, osl, rfl, lk, hcd⟩ := F.ex
  have D := M.D
  have T := D.M.T
  have GI : FnR P w K mg base (L2N.CX P w) 6 fI (spInitG K C (refusal CB)) := fnR_initG M.I D M.W
  have GM : FnOk P w K mg base CX0 2 g fdM ["number"] (spMinus K) := ok_minus dM W T
  refine fn_of lk hcd scBetw (fun vs H Q E h => ?_) fun A outer s H vs Q E hr h => ?_
  · obtain ⟨t, lo, hi, dt, dl, dh, rfl, _⟩ := h
    rfl
  · obtain ⟨t, lo, hi, dt, dl, dh, rfl, ht, hlo, hhi, qn, qf⟩ := h
    have tk : L2N.Takes (cxOf (L2N.CX P w) P w K mg base ["term", "low", "high"] "Cond.between" (defScope sBetw) f cdv A outer s H E) (fun cls d _ H => E cls d H) := L2N.takes_of rfl rfl rfl rfl
    have hx : Passes (L2N.CX P w) (cxOf (L2N.CX P w) P w K mg base ["term", "low", "high"] "Cond.between" (defScope sBetw) f cdv A outer s H E) E := L2N.passes_call tk (fun _ _ _ _ z => z)
    have hr2 : Room 2 (A.deeper (envOfC "Cond.between" (defScope sBetw) s.heap.objs.size f cdv)) := hr.mono (by decide)
    refine ⟨_, pss_one (ps_ret (pe_makeR (k := 6) M.mkI GI hr (by rfl) D.gC hx (pa_cons (pe_tup (pa_cons (pe_tup (pa_cons pe_str (pa_cons (pv 0) (pa_cons (pe_call GM hr2 (by rfl) dM.m dM.F.kp dM.b .nil pass0 (pa_cons (pv 1) pa_nil)) pa_nil)))) pa_nil)) (pa_cons (pe_tup (pa_cons (pe_tup (pa_cons (pv 0) (pa_cons pe_str (pa_cons (pv 2) pa_nil)))) pa_nil)) pa_nil)))), ?_⟩
    refine ⟨_, rfl, _, rfl, lo, dl, rfl, hlo, fun H1 s1 => ⟨by show 3 ≤ sizeLine; decide, fun t1 h1 => ⟨by show 1 ≤ sizeLine; decide, fun t2 h2 => ⟨_, rfl, _, rfl, by show 3 ≤ sizeLine; decide, fun t3 h3 => ⟨by show 1 ≤ sizeLine; decide, fun t4 h4 => ?_⟩⟩⟩⟩⟩
    have i1 := isT3 (.str "" shE) (ht.same s1) (hlo.same s1).minus h1 h2
    have s2 : Same H1 (upd (upd H1 t1 (.tup [.str "", t, mV lo])) t2 (.tup [.ref t1])) := fun b u z => new_same h2 _ _ (new_same h1 _ _ z)
    generalize upd (upd H1 t1 (.tup [.str "", t, mV lo])) t2 (.tup [.ref t1]) = H2 at i1 s2 h3 h4 ⊢
    have i2 := isT3 ((ht.same s1).same s2) (.str "" shE) ((hhi.same s1).same s2) h3 h4
    have s3 : Same H2 (upd (upd H2 t3 (.tup [t, .str "", hi])) t4 (.tup [.ref t3])) := fun b u z => new_same h4 _ _ (new_same h3 _ _ z)
    have s03 : Same H (upd (upd H2 t3 (.tup [t, .str "", hi])) t4 (.tup [.ref t3])) := fun b u z => s3 _ _ (s2 _ _ (s1 _ _ z))
    exact initG_ok s03 (.cons (i1.same s3) (.cons i2 .nil)) (by show 2 ≤ 1000; decide) qn qf
theorem ok_equal {f g i : Addr} {fd fdM fdN : FuncData} (F : Fun K "equal" "Cond.equal" sEqual f fd) (dM : Fs K mg "_minus" sMinus ["number"] g fdM) (W : Fs K mg "is_integer" sIsInt ["thing"] i fdN) (M : CondAll K mg B CB fB C fI fdB fdI) : FnOk P w K mg base (L2N.CX P w) 8 f fd ["left", "right", "plus"] (spEqual K C CB) := by
  obtain ⟨oc, od, kV, doc, pm, an, cdv, ct, osl, rfl, lk, hcd⟩ := F.ex
  have D := M.D
  have T := D.M.T
  have GI : FnR P w K mg base (L2N.CX P w) 6 fI (spInitG K C (refusal CB)) := fnR_initG M.I D M.W
  have GM : FnOk P w K mg base CX0 2 g fdM ["number"] (spMinus K) := ok_minus dM W T
  refine fn_of lk hcd scEqual (fun vs H Q E h => ?_) fun A outer s H vs Q E hr h => ?_
  · obtain ⟨a, b, n, da, db, dn, rfl, _⟩ := h
    rfl
  · obtain ⟨a, b, n, da, db, dn, rfl, ha, hb, hn, qn, qf⟩ := h
    have tk : L2N.Takes (cxOf (L2N.CX P w) P w K mg base ["left", "right", "plus"] "Cond.equal" (defScope sEqual) f cdv A outer s H E) (fun cls d _ H => E cls d H) := L2N.takes_of rfl rfl rfl rfl
    have hx : Passes (L2N.CX P w) (cxOf (L2N.CX P w) P w K mg base ["left", "right", "plus"] "Cond.equal" (defScope sEqual) f cdv A outer s H E) E := L2N.passes_call tk (fun _ _ _ _ z => z)
    have hr2 : Room 2 (A.deeper (envOfC "Cond.equal" (defScope sEqual) s.heap.objs.size f cdv)) := hr.mono (by decide)
    refine ⟨_, pss_one (ps_ret (pe_makeR (k := 6) M.mkI GI hr (by rfl) D.gC hx (pa_cons (pe_tup (pa_cons (pe_tup (pa_cons (pv 0) (pa_cons (pv 1) (pa_cons (pv 2) pa_nil)))) pa_nil)) (pa_cons (pe_tup (pa_cons (pe_tup (pa_cons (pv 1) (pa_cons (pv 0) (pa_cons (pe_call GM hr2 (by rfl) dM.m dM.F.kp dM.b .nil pass0 (pa_cons (pv 2) pa_nil)) pa_nil)))) pa_nil)) pa_nil)))), ?_⟩
    refine ⟨_, rfl, _, rfl, _, rfl, by show 3 ≤ sizeLine; decide, fun t1 h1 => ⟨by show 1 ≤ sizeLine; decide, fun t2 h2 => ?_⟩⟩
    have i1 := isT3 ha hb hn h1 h2
    have s2 : Same H (upd (upd H t1 (.tup [a, b, n])) t2 (.tup [.ref t1])) := fun b u z => new_same h2 _ _ (new_same h1 _ _ z)
    generalize upd (upd H t1 (.tup [a, b, n])) t2 (.tup [.ref t1]) = H2 at i1 s2 ⊢
    refine ⟨_, rfl, _, rfl, _, rfl, n, dn, rfl, hn.same s2, fun H3 s3 => ⟨by show 3 ≤ sizeLine; decide, fun t3 h3 => ⟨by show 1 ≤ sizeLine; decide, fun t4 h4 => ?_⟩⟩⟩
    have s23 : Same H H3 := fun b u z => s3 _ _ (s2 _ _ z)
    have i2 := isT3 (hb.same s23) (ha.same s23) (hn.same s23).minus h3 h4
    have s4 : Same H3 (upd (upd H3 t3 (.tup [b, a, mV n])) t4 (.tup [.ref t3])) := fun b u z => new_same h4 _ _ (new_same h3 _ _ z)
    exact initG_ok (fun b u z => s4 _ _ (s23 _ _ z)) (.cons ((i1.same s3).same s4) (.cons i2 .nil)) (by show 2 ≤ 1000; decide) qn qf
end
end Kx
namespace Kx
open PySem L2
abbrev sWell : Stmt := top 25
abbrev sDraw : Stmt := top 26
abbrev sOne : Stmt := top 27

/-- a source of draws as it stands: three whole numbers, the last one small -/
def WellAt (H : Hp) (p : Addr) (n : Int) : Prop := ∃ a b c : Int, H p = some (.lst [.int a, .int b, .int c]) ∧ 0 ≤ b ∧ b < 4294967296 ∧ 0 ≤ c ∧ c ≤ n
def spWell : Sp := fun vs H Q _ => ∃ c : Int, vs = [.int c] ∧ ∀ p H', H p = none → Same H H' → WellAt H' p 0 → Q (.ref p) H'
def spDraw : Sp := fun vs H Q _ => ∃ (p : Addr) (m n : Int), vs = [.ref p, .int m] ∧ WellAt H p n ∧ n ≤ 1000000 ∧ 0 < m ∧ m < 1000000 ∧
  ∀ (r : Int) (xs : List V), 0 ≤ r → r < m → WellAt (upd H p (.lst xs)) p (n + 1) → Q (.int r) (upd H p (.lst xs))
def spOne (K : PySem.W.Frag) : Sp := fun vs H Q _ => ∃ (p q : Addr) (n : Int) (ys : List V), vs = [.ref p, .ref q] ∧ WellAt H p n ∧ n ≤ 1000000 ∧ p ≠ q ∧ SqL K H q ys ∧ 0 < ys.length ∧ ys.length < 1000000 ∧
  ∀ (r : Nat) (v : V) (xs : List V), ys[r]? = some v → WellAt (upd H p (.lst xs)) p (n + 1) → Q v (upd H p (.lst xs))

structure Bl (mg : Str → Option Value) : Prop where
  int : mg "int" = none
  len : mg "len" = none

section
variable {P : Program} {w : World} {K : PySem.W.Frag} {mg : Str → Option Value} {base : Heap}
theorem scW : FnScope ["_law_cell"] ["_law_cell"] (defScope sWell) := ⟨rfl, rfl, rfl, by decide +kernel, rfl, by decide +kernel, by decide +kernel⟩
theorem ok_well {f : Addr} {fd : FuncData} (F : Fun K "_law_well" "_law_well" sWell f fd) (T : Bl mg) : FnOk P w K mg base CX0 1 f fd ["_law_cell"] spWell := by
  refine F.ok scW (fun vs H Q E h => ?_) (fun cdv A outer s H vs Q E hr h => ?_)
  · obtain ⟨c, rfl, _⟩ := h
    rfl
  · obtain ⟨c, rfl, k⟩ := h
    have hu := hu_of hr
    refine ⟨_, pss_one (ps_ret (pe_lst (pa_cons (pe_op op_mul (pv 0) (pe_callTy call_int1 (by rfl) T.int (by decide +kernel) (pa_cons (pe_cmpR op_ge (pv 0) (pe_op op_pow pe_int pe_int) (nomark _)) pa_nil)))
      (pa_cons (pe_op op_mod (pe_callTy call_int1 (by rfl) T.int (by decide +kernel) (pa_cons (pv 0) pa_nil)) pe_int) (pa_cons pe_int pa_nil))))), ?_⟩
    refine ⟨_, rfl, _, rfl, _, _, rfl, rfl, ⟨by decide, by decide, by decide⟩, _, _, rfl, rfl, .inr ⟨_, rfl, _, _, rfl, rfl, .inr ?_, _, rfl, .inl ⟨_, rfl, _, _, rfl, rfl, (by show (0 : Int) < 2147483629; decide), (by show 3 ≤ sizeLine; decide), fun p hp => ?_⟩⟩⟩
    · split <;> omega
    · refine k p _ hp (fun b o e => ?_) ⟨_, _, 0, upd_same, Int.emod_nonneg _ (by decide), ?_, Int.le_refl _, Int.le_refl _⟩
      · rw [upd_ne (ne_of_none e hp)]
        exact e
      · have := Int.emod_lt_of_pos c (show (0 : Int) < 2147483629 by decide)
        omega
theorem ml (x : Int) : -(2 ^ 64) < x % 2147483647 ∧ x % 2147483647 < 2 ^ 64 := by omega
theorem scD : FnScope ["_law_well_here", "_law_base", "_law_digit", "_law_number_here"] ["_law_well_here", "_law_base"] (defScope sDraw) := ⟨rfl, rfl, rfl, by decide +kernel, rfl, by decide +kernel, by decide +kernel⟩
theorem ok_draw {f : Addr} {fd : FuncData} (F : Fun K "_law_draw" "_law_draw" sDraw f fd) (T : Bl mg) : FnOk P w K mg base CX0 1 f fd ["_law_well_here", "_law_base"] spDraw := by
  refine F.ok scD (fun vs H Q E h => ?_) (fun cdv A outer s H vs Q E hr h => ?_)
  · obtain ⟨p, m, n, rfl, _⟩ := h
    rfl
  · obtain ⟨p, m, n, rfl, ⟨a, b, c, hp, hb0, hb1, hc0, hcn⟩, hn, hm0, hm1, k⟩ := h
    have hu := hu_of hr
    refine ⟨_, pss_cons (ps_if (pt_cmpR op_gt (pe_ix ix_list (pv 0) pe_int (fun _ _ => rfl)) pe_int (nomark _))
        (pss_cons (ps_set (i := 2) scD.nd rfl (Or.inl rfl) (pe_op op_mod (pe_callTy call_int1 (by rfl) T.int (by decide +kernel) (pa_cons (pe_ix ix_list (pv 0) pe_int (fun _ _ => rfl)) pa_nil)) (pv 1)))
        (pss_cons (ps_asg (pe_op op_fdivW (pe_ix ix_list (pv 0) pe_int (fun _ _ => rfl)) (pv 1)) (pg_sub (pv 0) pe_int set_list))
        (pss_one (ps_ret (pv 2))))) pss_nil)
      (pss_cons (ps_asg (pe_op op_add (pe_ix ix_list (pv 0) pe_int (fun _ _ => rfl)) pe_int) (pg_sub (pv 0) pe_int set_list))
      (pss_cons (ps_set (i := 3) scD.nd rfl (Or.inl rfl) (pe_op op_mod (pe_callTy call_int1 (by rfl) T.int (by decide +kernel) (pa_cons (pe_op op_mul (pe_callTy call_int1 (by rfl) T.int (by decide +kernel) (pa_cons
          (pe_op op_add (pe_op op_add (pe_ix ix_list (pv 0) pe_int (fun _ _ => rfl)) (pe_op op_mul pe_int (pe_ix ix_list (pv 0) pe_int (fun _ _ => rfl)))) pe_int) pa_nil)) pe_int) pa_nil)) pe_int))
      (pss_cons (ps_set (i := 3) scD.nd rfl (Or.inl rfl) (pe_op op_mod (pe_callTy call_int1 (by rfl) T.int (by decide +kernel) (pa_cons (pe_op op_mul (pv 3) (pe_op op_add (pe_op op_fdiv (pv 3) pe_int) pe_int)) pa_nil)) pe_int))
      (pss_one (ps_ret (pe_op op_mod (pe_callTy call_int1 (by rfl) T.int (by decide +kernel) (pa_cons (pe_op op_mod (pe_callTy call_int1 (by rfl) T.int (by decide +kernel) (pa_cons (pe_op op_mul (pv 3) (pe_op op_add (pe_op op_fdiv (pv 3) pe_int) pe_int)) pa_nil)) pe_int) pa_nil)) (pv 1))))))), ?_⟩
    have g0 : ∀ (x y z : V), atI [x, y, z] 0 = some x := fun _ _ _ => rfl
    have g1 : ∀ (x y z : V), atI [x, y, z] 1 = some y := fun _ _ _ => rfl
    have g2 : ∀ (x y z : V), atI [x, y, z] 2 = some z := fun _ _ _ => rfl
    have hc1 : c + 1 ≤ n + 1 := by omega
    refine ⟨_, rfl, p, _, _, _, rfl, rfl, SqL.of hp, g0 _ _ _, _, _, rfl, rfl, _, rfl, ?_⟩
    refine ite2 (fun _ => ?_) (fun _ => ?_)
    · refine ⟨_, rfl, p, _, _, _, rfl, rfl, SqL.of hp, g0 _ _ _, .inl ⟨_, rfl, _, rfl, _, _, rfl, rfl, hm0, ?_⟩⟩
      refine ⟨_, rfl, p, _, _, _, rfl, rfl, SqL.of hp, g0 _ _ _, _, rfl, _, _, rfl, rfl, wide_div (b := 20) hm0 (by omega) (by decide) (by decide), _, rfl, p, _, _, 0, rfl, rfl, hp, rfl, _, rfl, ?_⟩
      exact k _ _ (Int.emod_nonneg _ (by omega)) (Int.emod_lt_of_pos _ hm0) ⟨_, b, c, upd_same, hb0, hb1, hc0, by omega⟩
    · refine ⟨_, rfl, p, _, _, _, rfl, rfl, SqL.of hp, g2 _ _ _, _, _, rfl, rfl, _, rfl, p, _, _, 2, rfl, rfl, hp, rfl, ?_⟩
      have e2 : (upd H p (.lst [.int a, .int b, .int (c + 1)])) p = some (.lst [.int a, .int b, .int (c + 1)]) := upd_same
      refine ⟨_, rfl, p, _, _, _, rfl, rfl, SqL.of e2, g1 _ _ _, _, rfl, p, _, _, _, rfl, rfl, SqL.of e2, g2 _ _ _, _, _, rfl, rfl, .inl ⟨by decide, by decide⟩, _, _, rfl, rfl, _, _, rfl, rfl,
        .inl ⟨_, rfl, _, _, rfl, rfl, .inr ⟨by decide, by decide⟩, .inl ⟨_, rfl, _, _, rfl, rfl, (by show (0 : Int) < 2147483647; decide), ?_⟩⟩⟩
      refine ⟨_, rfl, _, rfl, _, _, rfl, rfl, ⟨by decide, by decide⟩, _, _, rfl, rfl, _, _, rfl, rfl, .inl (ml _), .inl ⟨_, rfl, _, _, rfl, rfl, (by show (0 : Int) < 2147483647; decide), ?_⟩⟩
      refine ⟨_, rfl, _, rfl, _, _, rfl, rfl, ⟨by decide, by decide⟩, _, _, rfl, rfl, _, _, rfl, rfl, .inl (ml _), .inl ⟨_, rfl, _, _, rfl, rfl, (by show (0 : Int) < 2147483399; decide), .inl ⟨_, rfl, _, rfl, _, _, rfl, rfl, hm0, ?_⟩⟩⟩
      exact k _ _ (Int.emod_nonneg _ (by omega)) (Int.emod_lt_of_pos _ hm0) ⟨a, b, c + 1, upd_same, hb0, hb1, by omega, by omega⟩
theorem scO : FnScope ["_law_well_here", "_law_some"] ["_law_well_here", "_law_some"] (defScope sOne) := ⟨rfl, rfl, rfl, by decide +kernel, rfl, by decide +kernel, by decide +kernel⟩
theorem ok_one {f g : Addr} {fd fdD : FuncData} (F : Fun K "_law_one" "_law_one" sOne f fd) (T : Bl mg) (FD : Fun K "_law_draw" "_law_draw" sDraw g fdD) (bD : Binds K fdD ["_law_well_here", "_law_base"] []) (mD : mg "_law_draw" = some (.ref g)) : FnOk P w K mg base CX0 2 f fd ["_law_well_here", "_law_some"] (spOne K) := by
  have GD : FnOk P w K mg base CX0 1 g fdD ["_law_well_here", "_law_base"] spDraw := ok_draw FD T
  refine F.ok scO (fun vs H Q E h => ?_) (fun cdv A outer s H vs Q E hr h => ?_)
  · obtain ⟨p, q, n, ys, rfl, _⟩ := h
    rfl
  · obtain ⟨p, q, n, ys, rfl, hW, hn, hne, hq, h0, h1, k⟩ := h
    refine ⟨_, pss_one (ps_ret (pe_ix ix_list (pv 1) (pe_call GD hr rfl mD FD.kp bD .nil pass0 (pa_cons (pv 0) (pa_cons (pe_callB call_len_seq (by rfl) T.len PySem.boot_len (pa_cons (pv 1) pa_nil)) pa_nil))) (fun _ _ => rfl))), ?_⟩
    refine ⟨_, rfl, _, rfl, _, rfl, q, ys, rfl, .inl hq, p, _, n, rfl, hW, hn, by omega, by omega, fun r xs r0 r1 hW' => ?_⟩
    have hr2 : r.toNat < ys.length := by omega
    have e1 : ys[r.toNat]? = some ys[r.toNat] := by simp [hr2]
    refine ⟨q, ys, r, _, rfl, rfl, ?_, at_of (j := r.toNat) (by omega) e1, k r.toNat _ xs e1 hW'⟩
    rcases hq with (z | ⟨o, z⟩) | z
    · exact .inl (.inl (by rw [upd_ne (fun e => hne e.symm)]; exact z))
    · exact .inl (.inr ⟨o, by rw [upd_ne (fun e => hne e.symm)]; exact z⟩)
    · exact .inr z
end
end Kx
namespace Kx
open PySem L2 PySem.Spec PyProof.Rows
section
variable {X : Cx}
theorem pe_ownX {W : WX} {op : Operator} {k : Nat} {f C : Addr} {fd : FuncData} {ps : List PySem.Str} {sp : Sp} {e1 e2 : Expr} {ta tb : TE} {pos : Pos} (tk : L2N.Takes X W) (hc : PySem.W.selfFirst X.K C = true) (hs : PySem.W.findIn X.K (.ref C) (PySem.dunder op.info.2) = some (some (.ref f))) (hf : PySem.W.isFn X.K (.ref f) = true)
    (F : FnOk X.prog X.w X.K X.mg X.base (L2N.CX X.prog X.w) k f fd ps sp) (hr : Room k X.A) (hb : Binds X.K fd ps []) (h1 : PE X e1 ta) (h2 : PE X e2 tb) :
    PE X (.BinOp e1 op e2 pos) (fun σ H Q => ta σ H fun x H1 => tb σ H1 fun y H2 => rOwn C sp (WE W σ) x y H2 Q) := by
  refine ⟨fun pins s σ H Q I h => ?_⟩
  refine wpAny_BinOp (binT h1 h2 I h fun v u s2 x y H2 I2 rx ry q => ?_)
  obtain ⟨a, b, dx, dy, fs, gs, rfl, rfl, ha, hb', q⟩ := q
  obtain rfl : v = Value.ref a := rx
  obtain rfl : u = Value.ref b := ry
  obtain ⟨m, fr⟩ := I2.fr
  obtain ⟨_, O1, _⟩ := ins_get I2.hok ha
  obtain ⟨o1, J1, _⟩ := O1.look
  obtain ⟨_, O2, _⟩ := ins_get I2.hok hb'
  obtain ⟨o2, J2, _⟩ := O2.look
  refine PySem.W.binop_K fr I2.ok.mod.kin J1 J2.type hc hs hf ?_
  refine thn (run_fnS (E := WE W) (us := [.ref a, .ref b]) (vs := [.ref a, .ref b]) F hr hb (L2N.passAt tk σ) I2 (.cons rfl (.cons rfl .nil)) q) fun z s' ⟨zv, H', I', rz, q'⟩ => ?_
  cases z <;> first | exact ⟨zv, H', I', rz, q'⟩ | (cases zv <;> first | (obtain ⟨_, z⟩ := rz; cases z) | cases rz)
theorem pe_xfE {a C : Addr} {oe : Obj} {cls : Value} {d : Option Addr} {pn : List (Addr × Obj)} {e : Expr} {te : TE} {pos : Pos} {n : PySem.Str} (T : XfC X.K C) (hno : PySem.W.findIn X.K (.ref C) n = some none) (hz : Zc cls d oe) (hf : ∃ vs, oe.data = .fields vs)
    (he : PE (X.suite a ((a, oe) :: pn)) e te) (hb : attributeBase e n X.env (eval e X.env) = eval e X.env := by rfl) : PE (X.suite a ((a, oe) :: pn)) (.Attribute e n pos)
      (fun σ H Q => te σ H fun x H1 => x = .ref a ∧ cls = .ref C ∧ ∃ (dd : Addr) (fs : List (PySem.Str × V)) (v : V), d = some dd ∧ H1 dd = some (exd dd fs) ∧ fs.lookup n = some v ∧ Q v H1) := by
  refine ⟨fun pins s σ H Q I h => attr_of hb (thn (he.run pins s σ H _ I h) fun u s1 hh => ?_)⟩
  obtain ⟨x, H1, I1, rx, rfl, rfl, dd, fs, v, rfl, ea, l, q⟩ := hh
  obtain rfl : u = Value.ref a := rx
  obtain ⟨ha, _⟩ := I1.pin (a, oe) (List.mem_append_left _ List.mem_cons_self)
  obtain ⟨vs, hd⟩ := hf
  obtain ⟨mA, hns, hr⟩ := exd_at I1.hok ea
  obtain ⟨od, ho, hl⟩ := lookIn_ns hns
  obtain ⟨u, hu, ru⟩ := RelO.some_of (v := v) (o := mA n) (by rw [← l]; exact hr n)
  have J : PySem.W.InstAt s1.heap a oe C (some od) := ⟨ha, hz.1, by unfold PySem.W.notCls; rw [hd] <;> rfl, by rw [hz.2]; exact ho⟩
  exact HandSPX.exc_get I1.kIn J T.ga T.gg T.exC (PySem.W.findObj_own T.hdC hno rfl (by rw [hl, hu])) (handed_of ru) ⟨v, H1, I1.tok _, ru, q⟩
end
end Kx
namespace Kx
open PySem L2 PySem.Spec PyProof.Rows
def PinIs (p : Addr × Obj) (C : Addr) (H : Hp) : Prop := ∃ vs d, p.2.data = .fields vs ∧ Zc (.ref C) d p.2 ∧ (d = none ∨ ∃ dd fs, d = some dd ∧ H dd = some (exd dd fs))
theorem PinIs.same {p : Addr × Obj} {C : Addr} {H H' : Hp} (h : PinIs p C H) (s : Same H H') : PinIs p C H' := by
  obtain ⟨vs, d, h1, h2, h3⟩ := h
  exact ⟨vs, d, h1, h2, h3.imp id fun ⟨dd, fs, e, z⟩ => ⟨dd, fs, e, s _ _ z⟩⟩
section
variable {X : Cx} {B : Addr}
def rIsPin (K : PySem.W.Frag) (p : Addr × Obj) (B : Addr) : List V → Hp → VK → Prop := fun xs H Q => ∃ (C : Addr) (c : V) (u : Value) (b : Bool), xs = [.ref p.1, c] ∧ PinIs p C H ∧ Ct K B C ∧ ClsV c u ∧ PySem.W.kitOne K (.ref C) u = some b ∧ Q (.bl b) H
theorem call_isPin {p : Addr × Obj} (G : Gt X.K B) (hp : p ∈ X.pn) : CallR X (.builtin "isinstance") (rIsPin X.K p B) := by
  intro pins s σ H xs us Q I r h
  obtain ⟨C, c, u, b, rfl, ⟨vs, d, hd, hz, hdd⟩, T, k, e, q⟩ := h
  obtain ⟨u1, u2, rfl, r1, r2⟩ := vals2 r
  have z1 : u1 = Value.ref p.1 := r1
  subst z1
  have e2 := k.eq r2
  subst e2
  obtain ⟨a, oc, odd, oda, osl⟩ := p
  obtain ⟨g, _⟩ := I.pin _ (List.mem_append_left pins hp)
  obtain ⟨y1, y2⟩ := hz
  dsimp only at g hd y1 y2
  subst y1 y2 hd
  have J : ∃ od, PySem.W.InstAt s.heap a ⟨.ref C, odd, .fields vs, osl⟩ C od := by
    rcases hdd with rfl | ⟨dd, fs, rfl, hx⟩
    · exact ⟨none, g, rfl, rfl, trivial⟩
    · obtain ⟨mA, hn, _⟩ := exd_at I.hok hx
      obtain ⟨od, e2, _⟩ := lookIn_ns hn
      exact ⟨some od, g, rfl, rfl, e2⟩
  obtain ⟨od, J⟩ := J
  exact PySem.W.kia_one (PySem.W.kitx_exc T.isC T.ga T.gg T.base T.ha G.hn G.ht (by rw [T.mro]; rfl)) I.kIn J e (fun z => nomatch z) fun tk => ⟨.bl b, H, I.tok tk, rfl, q⟩
/-- isinstance(e, c) in the suite, told by the class and the dict of e alone -/
def rIsCls (K : PySem.W.Frag) (B a : Addr) (cls : Value) (d : Option Addr) : List V → Hp → VK → Prop := fun xs H Q => ∃ (C : Addr) (c : V) (u : Value) (b : Bool), xs = [.ref a, c] ∧ cls = .ref C ∧ (d = none ∨ ∃ dd fs, d = some dd ∧ H dd = some (exd dd fs)) ∧ Ct K B C ∧ ClsV c u ∧ PySem.W.kitOne K (.ref C) u = some b ∧ Q (.bl b) H
theorem call_isCls {a : Addr} {oe : Obj} {cls : Value} {d : Option Addr} {pn : List (Addr × Obj)} (G : Gt X.K B) (hz : Zc cls d oe) (hf : ∃ vs, oe.data = .fields vs) : CallR (X.suite a ((a, oe) :: pn)) (.builtin "isinstance") (rIsCls X.K B a cls d) := by
  intro pins s σ H xs us Q I r h
  obtain ⟨C, c, u, b, rfl, rfl, hd, T, k, e, q⟩ := h
  obtain ⟨vs, hv⟩ := hf
  exact call_isPin (X := X.suite a ((a, oe) :: pn)) (p := (a, oe)) G List.mem_cons_self pins s σ H _ us Q I r ⟨C, c, u, b, rfl, ⟨vs, d, hv, hz, hd⟩, T, k, e, q⟩
end
end Kx
namespace Kx
open PySem L2 PySem.Spec PyProof.Rows
/-! what is raised in a lambda that is handed on -/
theorem cx_n {P : Program} {w : World} {outer : List Env} {H : Hp} {s s' : Shared} {E : XK} {u : Value} (c : L2N.CX P w outer H s E u s') : L2.CX P w outer H s E u s' := by
  obtain ⟨a, B, H', cls, d, e, ⟨f1, f2, f3, oe, vs, T, oT, ts, g1, g2, g3⟩, r⟩ := c
  exact ⟨a, B, H', cls, d, e, ⟨f1, f2, f3, oe, vs, T, oT, ts, g1, g2.zc, g3⟩, r⟩
theorem lam_pass {X : Cx} {A : Around} {outer : List Env} {s : Shared} {H : Hp} {E : XK} {scope : Scope} {f c' : Addr} : Passes (L2N.CX X.prog X.w) (LamX.lamCx X A outer s H E scope f c') E := fun pins σ H1 s1 e s2 I h =>
  L2.passes_call (X := LamX.lamCx X A outer s H E scope f c') (W := fun cls d _ H => E cls d H) (L2.takes_of rfl rfl rfl rfl) (fun _ _ _ _ z => z) pins σ H1 s1 e s2 I (cx_n h)
theorem pe_len {X : Cx} {e : Expr} {t : TE} (h : PE X e t) : PE X e (fun σ H Q => σ.length = X.N.length → t σ H Q) := ⟨fun pins s σ H Q I q => h.run pins s σ H Q I (q I.len)⟩
abbrev sRef : Stmt := top 29
abbrev nRf : List PySem.Str := ["_law_ask", "e"]
theorem scRf : FnScope nRf ["_law_ask"] (defScope sRef) := ⟨rfl, rfl, rfl, by decide +kernel, rfl, by decide +kernel, by decide +kernel⟩
/-- refused: where, or None -/
def TRef (CB : Addr) : (XK → Hp → VK → Prop) → Hp → VK → Prop := fun tl H Q =>
  tl (fun cls d H' => cls = .ref CB ∧ ∃ (dd : Addr) (i : Int), d = some dd ∧ H' dd = some (exd dd [("clause", .int i)]) ∧ Q (.int i) H') H (fun _ H' => Q .non H')
theorem refused_gives {X : Cx} {q : Str} {g B CB fB : Addr} {fdB : FuncData} {cdg : Value} (W0 : Bad X.K X.mg B CB fB fdB) (G : Gt X.K CB) (hm : X.mg "BadCond" = some (.ref CB)) : LamX.GivesTo X nRf "_law_refused" (defScope sRef) g cdg (defBody sRef) "_law_ask" q (TRef CB) := by
  intro f c' s H Q tl act hc h
  refine ⟨_, pss_one (L2.ps_try_as (X := (cxOf C8.CX0 X.prog X.w X.K X.mg X.base nRf "_law_refused" (defScope sRef) g cdg X.A X.stack s H C8.E0).nox) (i := 1) (c := .ref CB) (Wout := fun _ _ _ _ => False)
      (tb := fun W D σ H1 => ∃ E1 : XK, (∀ cls d σ' H', E1 cls d H' → W cls d σ' H') ∧ σ[0]? = some (some (.ref f)) ∧ H1 c' = some (LamX.CodeO c' q) ∧ tl E1 H1 (fun _ H2 => D.rt .non H2))
      (ts := fun a cls d => tRet (fun σ H Q => σ.length = 2 → tVar 1 σ H fun x H1 => x = .ref a ∧ cls = .ref CB ∧ ∃ (dd : Addr) (fs : List (PySem.Str × V)) (v : V), d = some dd ∧ H1 dd = some (exd dd fs) ∧ fs.lookup ("clause" : PySem.Str) = some v ∧ Q v H1))
      rfl rfl scRf.nd rfl rfl ⟨by rfl, by decide, .inl hm⟩ LamX.takes0 (fun W pn xe tk _ => ?_)
      (fun a oe cls d pn hz hf => pss_one (ps_ret (pe_len (pe_xfE (X := (cxOf C8.CX0 X.prog X.w X.K X.mg X.base nRf "_law_refused" (defScope sRef) g cdg X.A X.stack s H C8.E0).nox) (n := "clause") (C := CB) W0.T.xf (W0.no _ (by simp)) hz hf (pv 1)))))), ?_⟩
  · refine ⟨fun pins s' σ H' D I h' => ?_⟩
    obtain ⟨E1, hW, h1, h2, h3⟩ := h'
    exact (pss_cons (ps_expr (act W pn xe E1 _ _ tk hW)) (pss_one (ps_ret pe_non))).run pins s' σ H' D I ⟨h1, h2, h3⟩
  · refine ⟨_, fun cls d σ' H' z => ?_, rfl, hc, h⟩
    obtain ⟨rfl, dd, i, rfl, g2, q2⟩ := z
    refine ⟨true, PySem.W.exm_ref G.bsB G.hdB G.tyB (by show PySem.W.mroIn X.K CB _ = _; rw [W0.T.mro]; simp), fun _ a na => ?_, fun z => nomatch z⟩
    intro hl
    have h1 : (σ'.set 1 (some (V.ref a)))[1]? = some (some (V.ref a)) := by
      rw [List.length_set] at hl
      rw [List.getElem?_set_self (by omega)]
    exact ⟨_, h1, rfl, rfl, dd, _, .int i, rfl, g2, by simp [List.lookup], q2⟩
end Kx
namespace Kx
open PySem L2 PySem.Spec PyProof.Rows
/-- all stands but what is at p -/
def KeepB (p : Addr) (H H' : Hp) : Prop := ∀ b u, b ≠ p → H b = some u → H' b = some u
theorem KeepB.trans {p : Addr} {H1 H2 H3 : Hp} (a : KeepB p H1 H2) (b : KeepB p H2 H3) : KeepB p H1 H3 := fun x u n z => b x u n (a x u n z)
theorem KeepB.of {p : Addr} {H1 H2 : Hp} (a : Same H1 H2) : KeepB p H1 H2 := fun x u _ z => a x u z
theorem KeepB.at {p : Addr} {H : Hp} {o : HO} : KeepB p H (upd H p o) := fun x u n z => by rw [upd_ne n]; exact z
theorem WellAt.mono {H : Hp} {p : Addr} {n m : Int} (h : WellAt H p n) (l : n ≤ m) : WellAt H p m := let ⟨a, b, c, e, h0, h1, h2, h3⟩ := h; ⟨a, b, c, e, h0, h1, h2, by omega⟩
theorem WellAt.same {H H' : Hp} {p : Addr} {n : Int} (h : WellAt H p n) (s : Same H H') : WellAt H' p n := let ⟨a, b, c, e, r⟩ := h; ⟨a, b, c, s _ _ e, r⟩
theorem WellAt.lst {H : Hp} {p : Addr} {n : Int} (h : WellAt H p n) : ∃ ms, H p = some (.lst ms) := let ⟨_, _, _, e, _⟩ := h; ⟨_, e⟩
theorem WellAt.ne {H : Hp} {p q : Addr} {n : Int} (h : WellAt H p n) (e : H q = none) : q ≠ p := fun z => by
  obtain ⟨_, g⟩ := h.lst
  rw [z, g] at e
  cases e
theorem le_sz {n : Nat} (h : n ≤ 100) : n ≤ sizeLine := by rw [sizeLine_eq]; omega
theorem one_go {K : PySem.W.Frag} {B : V → Prop} {H : Hp} {p q : Addr} {n : Int} {ys : List V} {Q : VK} {E : XK}
    (W : WellAt H p n) (hn : n ≤ 1000000) (hq : H q = none) (hy : ∀ y ∈ ys, B y) (h0 : 0 < ys.length) (h1 : ys.length < 1000000) (k : ∀ v H', B v → KeepB p (upd H q (.lst ys)) H' → KeepB p H H' → WellAt H' p (n + 1) → Q v H') : spOne K [.ref p, .ref q] (upd H q (.lst ys)) Q E := by
  refine ⟨p, q, n, ys, rfl, W.same (new_same hq), hn, (W.ne hq).symm, SqL.of upd_same, h0, h1, fun r v xs hv W2 => ?_⟩
  exact k v _ (hy v (List.mem_of_getElem? hv)) KeepB.at ((KeepB.of (new_same hq)).trans KeepB.at) W2
structure Drw (K : PySem.W.Frag) (mg : PySem.Str → Option Value) : Prop where
  T : Bl mg
  well : ∃ f fd, Fs K mg "_law_well" sWell ["_law_cell"] f fd
  draw : ∃ f fd, Fs K mg "_law_draw" sDraw ["_law_well_here", "_law_base"] f fd
  one : ∃ f fd, Fs K mg "_law_one" sOne ["_law_well_here", "_law_some"] f fd
abbrev sNum : Stmt := top 28
def isInt (v : V) : Prop := ∃ i, v = V.int i
theorem ii {i : Int} : isInt (.int i) := ⟨i, rfl⟩
theorem all_nil {B : V → Prop} : ∀ y ∈ ([] : List V), B y := fun _ z => nomatch z
theorem all_cons {B : V → Prop} {x : V} {xs : List V} (h : B x) (t : ∀ y ∈ xs, B y) : ∀ y ∈ x :: xs, B y := fun y hy => by
  rcases List.mem_cons.mp hy with rfl | z
  · exact h
  · exact t y z
def spNum : Sp := fun vs H Q _ => ∃ (p : Addr) (n : Int), vs = [.ref p] ∧ WellAt H p n ∧ n + 10 ≤ 1000000 ∧ ∀ r H', KeepB p H H' → WellAt H' p (n + 10) → Q (.int r) H'
section
variable {P : Program} {w : World} {K : PySem.W.Frag} {mg : PySem.Str → Option Value} {base : Heap}
theorem scNum : FnScope ["_law_well_here"] ["_law_well_here"] (defScope sNum) := ⟨rfl, rfl, rfl, by decide +kernel, rfl, by decide +kernel, by decide +kernel⟩
theorem ok_num {f : Addr} {fd : FuncData} (F : Fs K mg "_law_number" sNum ["_law_well_here"] f fd) (D : Drw K mg) : FnOk P w K mg base CX0 3 f fd ["_law_well_here"] spNum := by
  obtain ⟨_, _, dD⟩ := D.draw
  obtain ⟨_, _, dO⟩ := D.one
  have GD : FnOk P w K mg base CX0 1 _ _ ["_law_well_here", "_law_base"] spDraw := ok_draw dD.F D.T
  have GO : FnOk P w K mg base CX0 2 _ _ ["_law_well_here", "_law_some"] (spOne K) := ok_one dO.F D.T dD.F dD.b dD.m
  refine F.F.ok scNum (fun vs H Q E h => ?_) (fun cdv A outer s H vs Q E hr h => ?_)
  · obtain ⟨p, n, rfl, _⟩ := h
    rfl
  · obtain ⟨p, n, rfl, hW, hn, k⟩ := h
    have hr1 : Room 1 (A.deeper (envOfC "_law_number" (defScope sNum) s.heap.objs.size f cdv)) := hr.mono (by decide)
    refine ⟨_, pss_one (ps_ret (pe_call GO hr (by rfl) dO.m dO.F.kp dO.b .nil pass0 (pa_cons (pv 0) (pa_cons (pe_lst (pa_cons (pe_op op_sub (pe_call GD hr1 (by rfl) dD.m dD.F.kp dD.b .nil pass0 (pa_cons (pv 0) (pa_cons pe_int pa_nil))) pe_int) (pa_cons (pe_op op_sub (pe_call GD hr1 (by rfl) dD.m dD.F.kp dD.b .nil pass0 (pa_cons (pv 0) (pa_cons pe_int pa_nil))) pe_int) (pa_cons (pe_op op_pow pe_int pe_int) (pa_cons (pe_op op_sub (pe_un un_neg (pe_op op_pow pe_int pe_int)) (pe_call GD hr1 (by rfl) dD.m dD.F.kp dD.b .nil pass0 (pa_cons (pv 0) (pa_cons pe_int pa_nil)))) pa_nil))))) pa_nil)))), ?_⟩
    refine ⟨_, rfl, _, rfl, p, 9, n, rfl, hW, by omega, by decide, by decide, fun r1 xs1 a1 b1 W1 => ⟨_, _, rfl, rfl, _, rfl, p, 9, n + 1, rfl, W1, by omega, by decide, by decide, fun r2 xs2 a2 b2 W2 => ⟨_, _, rfl, rfl, _, _, rfl, rfl, ⟨by decide, by decide, by decide⟩, _, _, rfl, rfl, ⟨by decide, by decide, by decide⟩, _, rfl, _, rfl, p, 9, n + 1 + 1, rfl, W2, by omega, by decide, by decide, fun r3 xs3 a3 b3 W3 => ⟨_, _, rfl, rfl, le_sz (Nat.le_of_ble_eq_true rfl), fun q hq => ?_⟩⟩⟩⟩
    have k3 := ((KeepB.at (p := p) (H := H) (o := .lst xs1)).trans (KeepB.at (o := .lst xs2))).trans (KeepB.at (o := .lst xs3))
    refine one_go (E := E0) (B := isInt) W3 (by omega) hq (all_cons ii (all_cons ii (all_cons ii (all_cons ii all_nil)))) (Nat.le_of_ble_eq_true rfl) (Nat.le_of_ble_eq_true rfl) fun v H' hv _ k4 W4 => ?_
    obtain ⟨i, rfl⟩ := hv
    exact k i H' (k3.trans k4) (W4.mono (by omega))
end
/-! tables, and what stands beside them -/
theorem SqT.ext {K : PySem.W.Frag} {H H' : Hp} {b : Addr} {xs : List V} (e : LamX.ExtN H H') (h : SqT K H b xs) : SqT K H' b xs := by
  rcases h with (h | ⟨o, h⟩) | h
  · exact .inl (.inl (e _ _ h fun _ z => nomatch z))
  · exact .inl (.inr ⟨o, e _ _ h fun _ z => nomatch z⟩)
  · exact .inr h
theorem WellAt.ext {H H' : Hp} {p : Addr} {n : Int} (h : WellAt H p n) (e : LamX.ExtN H H') : WellAt H' p n := let ⟨a, b, c, g, r⟩ := h; ⟨a, b, c, e _ _ g (fun _ z => nomatch z), r⟩
theorem Tabs.same {T : List (Addr × Str)} {H H' : Hp} (t : LamX.Tabs T H) (s : Same H H') : LamX.Tabs T H' := t.ext s
theorem Tabs.keep {T : List (Addr × Str)} {H H' : Hp} {p : Addr} {ms : List V} (hp : H p = some (.lst ms)) (t : LamX.Tabs T H) (k : KeepB p H H') : LamX.Tabs T H' := fun x hx => by
  obtain ⟨ps, h1, h2, h3⟩ := t x hx
  refine ⟨ps, k _ _ (fun z => by rw [z, hp] at h1; cases h1) h1, h2, fun pos cv hc => ?_⟩
  obtain ⟨c, e, g⟩ := h3 pos cv hc
  exact ⟨c, e, k _ _ (fun z => by rw [z, hp] at g; cases g) g⟩
end Kx
namespace Kx
open PySem L2 PySem.Spec PyProof.Rows
theorem term_str {d : Sh} (h : isTermS d = true) : isStrS d = true := by cases d <;> first | rfl | cases h
theorem litTS_eq (a b c : Sh) : isLitTS (.tup [a, b, c]) = (isTermS a && (isTermS b && isIntS c)) := by
  show ((isStrS a && (isStrS b && isIntS c)) && (isTermS a && isTermS b)) = _
  cases ha : isTermS a with
  | false => simp
  | true =>
    rw [term_str ha]
    cases hb : isTermS b with
    | false => simp
    | true => rw [term_str hb]; simp
theorem litTS_lit {d : Sh} (h : isLitTS d = true) : isLitS d = true := by
  cases e : isLitS d with
  | true => rfl
  | false => rw [litT_false e] at h; exact h
theorem stands_eq (l : List Sh) : standsS (.tup l) = (decide (l.length = 1 ∨ l.length = 2) && l.all isLitTS) := by
  show ((decide (1 ≤ l.length ∧ (l.length : Int) ≤ 2) && l.all isLitS) && l.all isLitTS) = _
  have e : decide (1 ≤ l.length ∧ (l.length : Int) ≤ 2) = decide (l.length = 1 ∨ l.length = 2) := by
    rw [decide_eq_decide]
    omega
  rw [e]
  cases h : l.all isLitTS with
  | false => simp
  | true =>
    rw [show l.all isLitS = true from List.all_eq_true.mpr fun x hx => litTS_lit (List.all_eq_true.mp h x hx)]
    simp
theorem stands_shC {c : List Lit} (h : stands c = true) (h1 : 1 ≤ c.length) : standsS (shC c) = true := by
  have h : (decide ((c.length : Int) ≤ 2) && c.all fun l => isTerm l.1 && isTerm l.2.1) = true := h
  rw [Bool.and_eq_true, decide_eq_true_eq] at h
  show standsS (.tup (c.map shL)) = true
  rw [stands_eq, Bool.and_eq_true, decide_eq_true_eq, List.length_map]
  refine ⟨by omega, ?_⟩
  rw [List.all_map, List.all_eq_true]
  intro l hl
  have e := List.all_eq_true.mp h.2 l hl
  show isLitTS (.tup [.str l.1, .str l.2.1, .int l.2.2]) = true
  rw [litTS_eq]
  show (isTerm l.1 && (isTerm l.2.1 && true)) = true
  rw [Bool.and_true]
  exact e
theorem lenS_shC (c : List Lit) : lenS (shC c) = c.length := List.length_map ..
theorem wrongS_none : ∀ (l : List (List Lit)) (i d : Nat), wrongAt i d l = none → (∀ c ∈ l, 1 ≤ c.length) → wrongAtS i d (l.map shC) = none
  | [], _, _, _, _ => rfl
  | c :: r, i, d, h, h1 => by
    rw [List.map_cons]
    unfold wrongAt at h
    unfold wrongAtS
    by_cases hs : stands c = true
    case neg => rw [if_neg hs] at h; cases h
    case pos =>
    rw [if_pos hs] at h
    rw [if_pos (stands_shC hs (h1 c List.mem_cons_self)), lenS_shC]
    by_cases h3 : (if c.length = 2 then d + 1 else d) = 2
    · rw [if_pos h3] at h; cases h
    · rw [if_neg h3] at h
      rw [if_neg h3]
      exact wrongS_none r _ _ h fun x hx => h1 x (List.mem_cons_of_mem _ hx)
theorem firstS_none {cs : List (List Lit)} (h : firstWrong cs = none) (h1 : ∀ c ∈ cs, 1 ≤ c.length) : firstWrongS (cs.map shC) = none := by
  unfold firstWrong at h
  unfold firstWrongS
  rw [List.length_map]
  by_cases h4 : 4 < cs.length
  · rw [if_pos h4] at h; cases h
  · rw [if_neg h4] at h
    rw [if_neg h4]
    exact wrongS_none _ _ _ h h1
theorem shL_inj {a b : Lit} (h : shL a = shL b) : a = b := by
  obtain ⟨a1, a2, a3⟩ := a
  obtain ⟨b1, b2, b3⟩ := b
  unfold shL at h
  injection h with h
  injection h with h1 h
  injection h with h2 h
  injection h with h3 h
  injection h1 with h1
  injection h2 with h2
  injection h3 with h3
  dsimp only at h1 h2 h3
  subst h1 h2 h3
  rfl
theorem map_inj {α β : Type} {f : α → β} (hf : ∀ {a b}, f a = f b → a = b) : ∀ {l m : List α}, l.map f = m.map f → l = m
  | [], [], _ => rfl
  | [], _ :: _, h => by cases h
  | _ :: _, [], h => by cases h
  | a :: l, b :: m, h => by
    rw [List.map_cons, List.map_cons] at h
    injection h with h1 h2
    rw [hf h1, map_inj hf h2]
theorem shC_inj {a b : List Lit} (h : shC a = shC b) : a = b := by
  unfold shC at h
  injection h with h
  exact map_inj shL_inj h
theorem shCs_inj {a b : List (List Lit)} (h : a.map shC = b.map shC) : a = b := map_inj shC_inj h
theorem SqT.keep {K : PySem.W.Frag} {H H' : Hp} {p b : Addr} {ms xs : List V} (hp : H p = some (.lst ms)) (k : KeepB p H H') (h : SqT K H b xs) : SqT K H' b xs := by
  rcases h with (h | ⟨o, h⟩) | h
  · exact .inl (.inl (k _ _ (fun e => by rw [e, hp] at h; cases h) h))
  · exact .inl (.inr ⟨o, k _ _ (fun e => by rw [e, hp] at h; cases h) h⟩)
  · exact .inr h
theorem SqL.keepX {K : PySem.W.Frag} {H H' : Hp} {p b : Addr} {ms' xs : List V} (hp' : H' p = some (.lst ms')) (k : KeepB p H H') (h : SqL K H b xs) : ∃ xs, SqL K H' b xs := by
  by_cases e : b = p
  · rw [e]
    exact ⟨_, SqL.of hp'⟩
  · rcases h with (h | ⟨o, h⟩) | h
    · exact ⟨xs, .inl (.inl (k _ _ e h))⟩
    · exact ⟨xs, .inl (.inr ⟨o, k _ _ e h⟩)⟩
    · exact ⟨xs, .inr h⟩
mutual
theorem Is.keep {K : PySem.W.Frag} {H H' : Hp} {p : Addr} {ms ms' : List V} (hp : H p = some (.lst ms)) (hp' : H' p = some (.lst ms')) (k : KeepB p H H') : ∀ {v : V} {d : Sh}, Is K H v d → Is K H' v d
  | _, _, .non => .non
  | _, _, .lst h => .lst (let ⟨_, z⟩ := h; SqL.keepX hp' k z)
  | _, _, .dic h => .dic (let ⟨kvs, z⟩ := h; ⟨kvs, k _ _ (fun e => by rw [e, hp] at z; cases z) z⟩)
  | _, _, .bl b => .bl b
  | _, _, .int i => .int i
  | _, _, .str x h => .str x h
  | _, _, .tup h q n => .tup (SqT.keep hp k h) (IsAll.keep hp hp' k q) n
theorem IsAll.keep {K : PySem.W.Frag} {H H' : Hp} {p : Addr} {ms ms' : List V} (hp : H p = some (.lst ms)) (hp' : H' p = some (.lst ms')) (k : KeepB p H H') : ∀ {xs : List V} {l : List Sh}, IsAll K H xs l → IsAll K H' xs l
  | _, _, .nil => .nil
  | _, _, .cons h t => .cons (Is.keep hp hp' k h) (IsAll.keep hp hp' k t)
end
theorem SqL.ext {K : PySem.W.Frag} {H H' : Hp} {b : Addr} {xs : List V} (e : LamX.ExtN H H') (h : SqL K H b xs) : SqL K H' b xs := by
  rcases h with (h | ⟨o, h⟩) | h
  · exact .inl (.inl (e _ _ h fun _ z => nomatch z))
  · exact .inl (.inr ⟨o, e _ _ h fun _ z => nomatch z⟩)
  · exact .inr h
mutual
theorem Is.ext {K : PySem.W.Frag} {H H' : Hp} (e : LamX.ExtN H H') : ∀ {v : V} {d : Sh}, Is K H v d → Is K H' v d
  | _, _, .non => .non
  | _, _, .lst h => .lst (let ⟨xs, z⟩ := h; ⟨xs, SqL.ext e z⟩)
  | _, _, .dic h => .dic (let ⟨kvs, z⟩ := h; ⟨kvs, e _ _ z fun _ z => nomatch z⟩)
  | _, _, .bl b => .bl b
  | _, _, .int i => .int i
  | _, _, .str x h => .str x h
  | _, _, .tup h p n => .tup (SqT.ext e h) (IsAll.ext e p) n
theorem IsAll.ext {K : PySem.W.Frag} {H H' : Hp} (e : LamX.ExtN H H') : ∀ {xs : List V} {l : List Sh}, IsAll K H xs l → IsAll K H' xs l
  | _, _, .nil => .nil
  | _, _, .cons h t => .cons (Is.ext e h) (IsAll.ext e t)
end
theorem first2 {l m : Lit} (h1 : isTerm l.1 = true) (h2 : isTerm l.2.1 = true) (h3 : isTerm m.1 = true) (h4 : isTerm m.2.1 = true) : firstWrong [[l], [m]] = none := by
  have s : ∀ x : Lit, isTerm x.1 = true → isTerm x.2.1 = true → stands [x] = true := fun x a b => by
    show (decide (((1 : Nat) : Int) ≤ 2) && ((isTerm x.1 && isTerm x.2.1) && true)) = true
    rw [a, b]
    rfl
  show (if 4 < 2 then some (-1) else wrongAt 0 0 [[l], [m]]) = none
  rw [if_neg (by decide)]
  unfold wrongAt
  rw [if_pos (s l h1 h2), if_neg (by simp)]
  unfold wrongAt
  rw [if_pos (s m h3 h4), if_neg (by simp)]
  rfl
theorem made2 {K : PySem.W.Frag} {C CB : Addr} {H : Hp} {l m : Lit} {Q : VK} (h1 : isTerm l.1 = true) (h2 : isTerm l.2.1 = true) (h3 : isTerm m.1 = true) (h4 : isTerm m.2.1 = true)
    (k : ∀ r dz p q ys H', CondF K H' r C dz p q [[l], [m]] ys → Same H H' → Q (.ref r) H') : Made K C CB [shC [l], shC [m]] H Q E0 := by
  have hw := first2 h1 h2 h3 h4
  refine ⟨fun cs e _ _ r dz p q ys H' hF s _ => ?_, fun i hi => ?_⟩
  · have e2 : [[l], [m]] = cs := shCs_inj e
    subst e2
    exact k r dz p q ys H' hF s
  · have z : firstWrongS ([[l], [m]].map shC) = none := firstS_none hw fun c hc => by
      simp only [List.mem_cons, List.not_mem_nil, or_false] at hc
      rcases hc with rfl | rfl <;> exact Nat.le_refl _
    rw [show firstWrongS [shC [l], shC [m]] = none from z] at hi
    cases hi
theorem bad2 {K : PySem.W.Frag} {C CB : Addr} {H : Hp} {a b c : Sh} {r : Sh} {Q : VK} {E : XK} (h : isTermS a = false ∨ isTermS b = false) (k : refusal CB E H 0) : Made K C CB [shT a b c, r] H Q E := by
  have e : standsS (shT a b c) = false := by
    show standsS (.tup [.tup [a, b, c]]) = false
    rw [stands_eq]
    show (_ && (isLitTS (.tup [a, b, c]) && true)) = false
    rw [litTS_eq]
    rcases h with h | h <;> rw [h] <;> simp
  have f0 : firstWrongS [shT a b c, r] = some 0 := by
    show (if 4 < 2 then some (-1) else wrongAtS 0 0 [shT a b c, r]) = some 0
    rw [if_neg (by decide)]
    unfold wrongAtS
    rw [e, if_neg (by decide)]
    rfl
  refine ⟨fun cs _ z _ => ?_, fun i hi => ?_⟩
  · rw [f0] at z
    cases z
  · rw [f0] at hi
    cases hi
    exact k
end Kx
namespace Kx
open PySem L2 PySem.Spec PyProof.Rows
open StX (CallO InsC insC_at callO_with)
section
variable {X : Cx}
/-- f(e, ..), f an instance of C, within a try -/
theorem pe_callOX {W : WX} {k : Nat} {g C : Addr} {fd : FuncData} {ps : List PySem.Str} {sp : Sp} {fe e : Expr} {es : List Expr} {tf : TE} {t : TA} {pos : Pos} (tk : L2N.Takes X W) (hf : PE X fe tf) (c : CallO X.K C g)
    (F : FnOk X.prog X.w X.K X.mg X.base (L2N.CX X.prog X.w) k g fd ps sp) (hr : Room k X.A) (hb : Binds X.K fd ps []) (ha : PA X (e :: es) t)
    (ht : eval (.Call fe (e :: es) [] pos) X.env = (do callWith pos (← eval fe X.env) [] (backTo pos (starEach (e :: es) X.env)) (backToKw pos (keywordEach [] X.env))) := by rfl)
    (he : starEach (e :: es) X.env = (false, eval e X.env) :: starEach es X.env := by rfl) (hpl : (backTo pos (starEach es X.env)).any (·.1) = false := by rfl) :
    PE X (.Call fe (e :: es) [] pos) (fun σ H Q => tf σ H fun y H1 => ∃ a, y = V.ref a ∧ t σ H1 fun vs H2 => InsC X H2 a C ∧ sp (V.ref a :: vs) H2 Q (WE W σ)) := by
  refine ⟨fun pins s σ H Q I h => ?_⟩
  refine Call_ (thn (hf.run pins s σ H _ I h) fun u s1 ⟨y, H1, I1, ry, a, ey, q⟩ => ?_) ht
  subst ey
  obtain rfl : u = Value.ref a := ry
  refine callO_with (thn (ha.run pos pins s1 σ H1 _ I1 q) fun us s2 ⟨vs, H2, I2, r, hi, q2⟩ => ?_) he hpl
  obtain ⟨ox, od, J, hd⟩ := insC_at I2 hi
  refine ⟨⟨C, ox, od, J, hd⟩, ?_⟩
  have r2 : Vals (V.ref a :: vs) (Value.ref a :: us) := .cons rfl r
  have hl : (Value.ref a :: us).length = ps.length := by rw [← r2.length]; exact F.len _ _ _ _ q2
  have b := hb s2 (.ref a :: us) I2.kIn (by rw [List.append_nil]; exact hl)
  rw [List.append_nil] at b
  refine wpAny_call (PySem.W.kco_code I2.kIn J hd c.at_ c.fn c.fi (codeAny_mono (F.run X.A X.stack s2 H2 ⟨.ref a :: us, []⟩ (.ref a :: us) (V.ref a :: vs) Q (WE W σ) hr I2.env0 b r2 q2) fun rr s' hq => ?_))
  cases rr with
  | error e => exact L2N.passAt tk σ pins H2 s2 e s' I2 hq
  | ok fl =>
    cases fl with
    | ret u => exact I2.after hq
    | next => exact False.elim hq
    | brk => exact False.elim hq
    | cont => exact False.elim hq
end
end Kx
namespace Kx
open PySem L2 PySem.Spec PyProof.Rows
abbrev sEqC : Stmt := mth 3
abbrev sLenC : Stmt := mth 4
/-- what a Cond is not -/
inductive NotCond (K : PySem.W.Frag) (H : Hp) : V → Prop where
  | str (s : Str) : NotCond K H (.str s)
  | tup {b : Addr} {xs : List V} (h : SqT K H b xs) : NotCond K H (.ref b)
def spEqC (K : PySem.W.Frag) (C : Addr) : Sp := fun vs H Q _ => ∃ (a dx p q : Addr) (cs : List (List Lit)) (ys : List Str) (y : V), vs = [.ref a, y] ∧ CondF K H a C dx p q cs ys ∧ okC cs ∧
  ((∃ (b dy p' q' : Addr) (cs' : List (List Lit)) (ys' : List Str), y = .ref b ∧ CondF K H b C dy p' q' cs' ys' ∧ okC cs' ∧ Q (.bl (decide (cs = cs'))) H) ∨ (NotCond K H y ∧ Q (.bl false) H))
def spLenC (K : PySem.W.Frag) (C : Addr) : Sp := fun vs H Q _ => ∃ (a dx p q : Addr) (cs : List (List Lit)) (ys : List Str), vs = [.ref a] ∧ CondF K H a C dx p q cs ys ∧ Q (.int cs.length) H
section
variable {P : Program} {w : World} {K : PySem.W.Frag} {mg : Str → Option Value} {base : Heap} {B CB fB C fI : Addr} {fdB fdI : FuncData}
theorem scEqC : FnScope ["self", "other"] ["self", "other"] (defScope sEqC) := ⟨rfl, rfl, rfl, by decide +kernel, rfl, by decide +kernel, by decide +kernel⟩
theorem ok_eqC {f : Addr} {fd : FuncData} (F : Fun K "__eq__" "Cond.__eq__" sEqC f fd) (M : CondAll K mg B CB fB C fI fdB fdI) (kS : PySem.W.kitOne K (.type "str") (.ref C) = some false) (kT : PySem.W.kitOne K (.type "tuple") (.ref C) = some false) :
    FnOk P w K mg base CX0 1 f fd ["self", "other"] (spEqC K C) := by
  have D := M.D
  have T := D.M.T
  refine F.ok scEqC (fun vs H Q E h => ?_) (fun cdv A outer s H vs Q E hr h => ?_)
  · obtain ⟨a, dx, p, q, cs, ys, y, rfl, _⟩ := h
    rfl
  · obtain ⟨a, dx, p, q, cs, ys, y, rfl, ha, hok, h⟩ := h
    have hu : (cxOf CX0 P w K mg base ["self", "other"] "Cond.__eq__" (defScope sEqC) f cdv A outer s H E).nox.A.units + 64 < cLine := hr.units
    refine ⟨_, pss_one (ps_ret (pe_and (pe_callB call_isi (by rfl) T.isi boot_isinstance (pa_cons (pv 1) (pa_cons (pe_glob (v := .ref C) (by rfl) D.gC rfl) pa_nil)))
      (pe_one (pe_cmpR (op_eqD hu) (pe_fld (pv 0) (by rfl)) (pe_fld (pv 1) (by rfl)) (nomark _))))), ?_⟩
    rcases h with ⟨b, dy, p', q', cs', ys', rfl, hb, hok', h⟩ | ⟨hn, h⟩
    · obtain ⟨xs, hc⟩ := ha.cl
      obtain ⟨xs', hc'⟩ := hb.cl
      refine ⟨_, rfl, .ref b, .ref C, _, _, true, rfl, .own C, M.ty _ b dy _ hb.ins, M.kit, true, rfl, iteT ?_⟩
      refine ⟨_, rfl, a, C, dx, _, .ref p, rfl, ha.ins, D.cls, D.nc, rfl, _, rfl, b, C, dy, _, .ref p', rfl, hb.ins, D.cls, D.nc, rfl, ?_⟩
      refine ⟨.tuple (cs.map clD), .tuple (cs'.map clD), .tup hc.sq (dp_all (fun _ _ z => dp_cl z) hc.p), .tup hc'.sq (dp_all (fun _ _ z => dp_cl z) hc'.p), shaped_tup hok, shaped_tup hok', ?_⟩
      have e : PyData.eqv (.tuple (cs.map clD)) (.tuple (cs'.map clD)) = decide (cs = cs') := eqv_cls cs cs'
      rw [e]
      exact h
    · cases hn with
      | str z => exact ⟨_, rfl, .str z, .ref C, _, _, false, rfl, .own C, .base (.str z), kS, false, rfl, iteF h⟩
      | tup ht =>
        rename_i b xs
        exact ⟨_, rfl, .ref b, .ref C, _, _, false, rfl, .own C, tyT ht, kT, false, rfl, iteF h⟩
theorem scLenC : FnScope ["self"] ["self"] (defScope sLenC) := ⟨rfl, rfl, rfl, by decide +kernel, rfl, by decide +kernel, by decide +kernel⟩
theorem ok_lenC {f : Addr} {fd : FuncData} (F : Fun K "__len__" "Cond.__len__" sLenC f fd) (D : Cnd K mg C) : FnOk P w K mg base CX0 1 f fd ["self"] (spLenC K C) := by
  have T := D.M.T
  refine F.ok scLenC (fun vs H Q E h => ?_) (fun cdv A outer s H vs Q E hr h => ?_)
  · obtain ⟨a, dx, p, q, cs, ys, rfl, _⟩ := h
    rfl
  · obtain ⟨a, dx, p, q, cs, ys, rfl, ha, h⟩ := h
    obtain ⟨xs, hc⟩ := ha.cl
    refine ⟨_, pss_one (ps_ret (pe_callB call_len_seq (by rfl) T.len PySem.boot_len (pa_cons (pe_fld (pv 0) (by rfl)) pa_nil))), ?_⟩
    refine ⟨_, rfl, a, C, dx, _, .ref p, rfl, ha.ins, D.cls, D.nc, rfl, p, xs, rfl, .inr hc.sq, ?_⟩
    rw [Paired.length hc.p]
    exact h
end
theorem paired_get_of {α β : Type} {R : α → β → Prop} : ∀ {xs : List α} {ys : List β}, xs.length = ys.length → (∀ (i : Nat) x y, xs[i]? = some x → ys[i]? = some y → R x y) → Paired R xs ys
  | [], [], _, _ => .nil
  | [], _ :: _, h, _ => by cases h
  | _ :: _, [], h, _ => by cases h
  | x :: xs, y :: ys, h, k => .cons (k 0 x y rfl rfl) (paired_get_of (Nat.succ.inj h) fun i a b h1 h2 => k (i + 1) a b (by simpa using h1) (by simpa using h2))
/-- list(a text): its signs -/
def rListStr : List V → Hp → VK → Prop := fun xs H Q => ∃ z : Str, xs = [.str z] ∧ z.length ≤ 1000 ∧ ∀ l, H l = none → Q (.ref l) (upd H l (.lst (z.cps.toList.map fun c => .str ⟨#[c]⟩)))
section
variable {X : Cx}
theorem call_listStr (hc : X.calm = true) : CallR X (.type "list") rListStr := by
  intro pins s σ H xs us Q I r h
  obtain ⟨z, rfl, hz, q⟩ := h
  obtain ⟨u, rfl, ru⟩ := vals1 r
  obtain ⟨t, rfl⟩ := (show ∃ t, u = Value.str z t from ru)
  refine call_list_str (I.ok.hd hc) z t (fun h' tk acc' c' hk hS hi => ?_) (Nat.le_of_lt (small1000 hz))
  refine ⟨.ref s.heap.objs.size, _, I.laid (t' := tk) (o := .lst (z.cps.toList.map fun c => .str ⟨#[c]⟩)) hk (Nat.le_refl _) ?_, rfl, q _ (I.hok.fresh (Nat.le_refl _))⟩
  refine ⟨by rw [List.length_map, Array.length_toList]; exact Nat.le_of_lt (small1000 hz), acc'.toList, c', ?_, by rw [Array.toArray_toList]; exact hS⟩
  refine paired_get_of (by rw [List.length_map, Array.length_toList, Array.length_toList]; exact hi.1.symm) fun i x y h1 h2 => ?_
  rw [List.getElem?_map] at h1
  obtain ⟨c, hc1, rfl⟩ := Option.map_eq_some_iff.mp h1
  rw [Array.getElem?_toList] at hc1 h2
  obtain ⟨c2, u, e, rfl⟩ := hi.2 i y h2
  rw [hc1] at e
  cases e
  exact ⟨u, rfl⟩
end
end Kx
namespace Kx
open PySem L2 PySem.Spec PyProof.Rows
theorem CondF.same {K : PySem.W.Frag} {H H' : Hp} {a C dx p q : Addr} {cs : List (List Lit)} {ys : List PySem.Str} (s : Same H H') (h : CondF K H a C dx p q cs ys) : CondF K H' a C dx p q cs ys :=
  ⟨s _ _ h.ins, Exists.imp (fun _ z => Cs.same s z) h.cl, SqT.same s h.tm, h.so, h.nd, h.mem⟩
theorem ne_go {K : PySem.W.Frag} {C r r2 dz dz2 p p2 q q2 : Addr} {H : Hp} {cs cs2 : List (List Lit)} {ys ys2 : List Str} {Q : VK} (h1 : CondF K H r C dz p q cs ys) (h2 : CondF K H r2 C dz2 p2 q2 cs2 ys2) (o1 : okC cs) (o2 : okC cs2) (k : Q (.bl (!decide (cs = cs2))) H) : rOwnNe C (spEqC K C) E0 (.ref r) (.ref r2) H Q :=
  ⟨r, r2, dz, dz2, _, _, rfl, rfl, h1.ins, h2.ins, r, dz, p, q, cs, ys, _, rfl, h1, o1, .inl ⟨r2, dz2, p2, q2, cs2, ys2, rfl, h2, o2, _, rfl, k⟩⟩
/-- a drawn term -/
def TermV (v : V) : Prop := ∃ t : Str, v = V.str t ∧ isTerm t = true ∧ t ≠ "" ∧ Short t ∧ PyData.strOk t = true
theorem isE : isTerm "" = true := by decide +kernel
theorem okE : PyData.strOk "" = true := by decide +kernel
section
variable {K : PySem.W.Frag} {C CB CN : Addr} {H : Hp} {Q : VK}
theorem betw_go {t : Str} {lo hi : Int} (h1 : isTerm t = true) (h2 : Short t) (k : ∀ r dz p q ys H', CondF K H' r C dz p q [[("", t, -lo)], [(t, "", hi)]] ys → Same H H' → Q (.ref r) H') : spBetw K C CB [.str t, .int lo, .int hi] H Q E0 :=
  ⟨_, _, _, _, _, _, rfl, .str t h2, .int lo, .int hi, made2 (l := ("", t, -lo)) (m := (t, "", hi)) isE h1 h1 isE k⟩
theorem equal_go {a b : Str} {n : Int} (h1 : isTerm a = true) (h2 : Short a) (h3 : isTerm b = true) (h4 : Short b) (k : ∀ r dz p q ys H', CondF K H' r C dz p q [[(a, b, n)], [(b, a, -n)]] ys → Same H H' → Q (.ref r) H') : spEqual K C CB [.str a, .str b, .int n] H Q E0 :=
  ⟨_, _, _, _, _, _, rfl, .str a h2, .str b h4, .int n, made2 (l := (a, b, n)) (m := (b, a, -n)) h1 h3 h3 h1 k⟩
theorem ok2 {l m : Lit} (h1 : PyData.strOk l.1 = true) (h2 : PyData.strOk l.2.1 = true) (h3 : PyData.strOk m.1 = true) (h4 : PyData.strOk m.2.1 = true) : okC [[l], [m]] := fun c hc x hx => by
  simp only [List.mem_cons, List.not_mem_nil, or_false] at hc
  rcases hc with rfl | rfl <;> (rw [List.mem_singleton.mp hx]; first | exact ⟨h1, h2⟩ | exact ⟨h3, h4⟩)
/-- clauses compared with the two that are written -/
theorem cl2_go {p u a b r dz q : Addr} {l m : Lit} {ys : List Str} (hF : CondF K H r C dz p q [[l], [m]] ys) (h1 : Is K H (.ref a) (shC [l])) (h2 : Is K H (.ref b) (shC [m])) (hu : SqT K H u [.ref a, .ref b]) (o : okC [[l], [m]]) (k : Q (.bl false) H) : rNeD K (.ref p) (.ref u) H Q := by
  obtain ⟨xs, hc⟩ := hF.cl
  refine ⟨.tuple ([[l], [m]].map clD), .tuple ([[l], [m]].map clD), .tup hc.sq (dp_all (fun _ _ z => dp_cl z) hc.p), .tup hu (.cons (dp_cl (isC_of h1 (Nat.le_refl _))) (.cons (dp_cl (isC_of h2 (Nat.le_refl _))) .nil)), shaped_tup o, shaped_tup o, ?_⟩
  have e : PyData.eqv (.tuple ([[l], [m]].map clD)) (.tuple ([[l], [m]].map clD)) = decide ([[l], [m]] = [[l], [m]]) := eqv_cls _ _
  rw [e, decide_eq_true rfl]
  exact k
theorem call_go {r d dz p q : Addr} {cs : List (List Lit)} {ys : List Str} {kvs : List (Key × V)} {f : Str → Int} {E : XK} (hF : CondF K H r C dz p q cs ys) (hd : H d = some (.dK kvs)) (hw : ∀ t ∈ asked cs, Worth kvs f t)
    (k : ∀ H', Same H H' → Q (.bl (cs.all (holds f))) H') : spCall K C CN [.ref r, .ref d] H Q E := by
  have ok : ∀ t ∈ asked cs, okT kvs t := fun t ht => by
    rcases hw t ht with h | h
    · exact .inl h.1
    · exact .inr (by rw [h.2]; rfl)
  refine ⟨r, d, dz, p, q, cs, ys, kvs, f, rfl, hF, hd, fun t ht _ => hw t ht, fun _ => k, fun pre t rest he _ hn => absurd (ok t ?_) hn⟩
  rw [he]
  simp
end
theorem asked2 {l m : Lit} {t : Str} (h : t ∈ asked [[l], [m]]) : t = l.1 ∨ t = l.2.1 ∨ t = m.1 ∨ t = m.2.1 := by
  simpa [asked] using h
def f1 (n : Int) (s : Str) : Int := if s = "" then 0 else n
def kv1 (t : Str) (n : Int) : List (Key × V) := mergeK [] [(.inr t, .int n)]
theorem kv1_e (t : Str) (n : Int) : kv1 t n = [(.inr t, .int n)] := by simp [kv1, mergeK, putK]
theorem worth1 {t s : Str} {n : Int} (ht : t ≠ "") (h : s = "" ∨ s = t) : Worth (kv1 t n) (f1 n) s := by
  rw [kv1_e]
  rcases h with rfl | rfl
  · exact .inl ⟨rfl, rfl⟩
  · exact .inr ⟨ht, by rw [valV_pos rfl]; simp [f1, ht]⟩
theorem worth0 {n : Int} {s : Str} (h : s = "") : Worth [] (f1 n) s := .inl ⟨h, by rw [h]; rfl⟩
theorem betw_t {t : Str} {lo hi n : Int} (ht : t ≠ "") : ([[("", t, -lo)], [(t, "", hi)]] : List (List Lit)).all (holds (f1 n)) = (decide (lo ≤ n) && decide (n ≤ hi)) := by
  simp only [List.all_cons, List.all_nil, holds, List.any_cons, List.any_nil, f1, Bool.or_false, Bool.and_true]
  rw [if_pos trivial, if_neg ht]
  rw [Bool.eq_iff_iff]
  simp only [Bool.and_eq_true, decide_eq_true_eq]
  omega
theorem betw_0 {lo hi n : Int} : ([[("", "", -lo)], [("", "", hi)]] : List (List Lit)).all (holds (f1 n)) = (decide (lo ≤ 0) && decide (0 ≤ hi)) := by
  simp only [List.all_cons, List.all_nil, holds, List.any_cons, List.any_nil, f1, Bool.or_false, Bool.and_true]
  rw [if_pos trivial]
  rw [Bool.eq_iff_iff]
  simp only [Bool.and_eq_true, decide_eq_true_eq]
  omega
theorem eqz_t {t : Str} {far : Int} (ht : t ≠ "") : ([[("", t, far)], [(t, "", -far)]] : List (List Lit)).all (holds (f1 (-far))) = true := by
  simp only [List.all_cons, List.all_nil, holds, List.any_cons, List.any_nil, f1, Bool.or_false, Bool.and_true]
  rw [if_pos trivial, if_neg ht]
  simp only [Bool.and_eq_true, decide_eq_true_eq]
  omega
def f2 (t : Str) (n : Int) (s : Str) : Int := if s = "" then 0 else if s = t then 7 + n else 7
def kv2 (o t : Str) (n : Int) : List (Key × V) := mergeK [] [(.inr o, .int 7), (.inr t, .int (7 + n))]
theorem kv2_e (o t : Str) (n : Int) : kv2 o t n = if o = t then [(.inr t, .int (7 + n))] else [(.inr o, .int 7), (.inr t, .int (7 + n))] := by
  by_cases h : o = t
  · subst h
    simp [kv2, mergeK, putK]
  · rw [if_neg h]
    simp [kv2, mergeK, putK, h]
theorem worth2 {o t s : Str} {n : Int} (ho : o ≠ "") (ht : t ≠ "") (h : s = o ∨ s = t) : Worth (kv2 o t n) (f2 t n) s := by
  rw [kv2_e]
  by_cases e : o = t
  · subst e
    rw [if_pos rfl]
    have hs : s = o := h.elim id id
    subst hs
    exact .inr ⟨ho, by rw [valV_pos rfl]; simp [f2, ho]⟩
  · rw [if_neg e]
    rcases h with rfl | rfl
    · exact .inr ⟨ho, by rw [valV_pos rfl]; simp [f2, ho, e]⟩
    · refine .inr ⟨ht, ?_⟩
      rw [valV_neg (by simpa using e), valV_pos rfl]
      simp [f2, ht]
theorem equal_t {o t : Str} {far n : Int} (ho : o ≠ "") (ht : t ≠ "") : ([[(t, o, far)], [(o, t, -far)]] : List (List Lit)).all (holds (f2 t n)) = decide ((if t = o then 0 else n) = far) := by
  simp only [List.all_cons, List.all_nil, holds, List.any_cons, List.any_nil, f2, Bool.or_false, Bool.and_true]
  rw [if_neg ht, if_neg ho, if_pos trivial]
  rw [Bool.eq_iff_iff]
  simp only [Bool.and_eq_true, decide_eq_true_eq]
  by_cases e : t = o
  · rw [if_pos e.symm, if_pos e]
    omega
  · rw [if_neg (fun z => e z.symm), if_neg e]
    omega
end Kx
namespace Kx
open PySem L2 PySem.Spec PyProof.Rows
abbrev sLaw : Stmt := top 30
abbrev nL : List PySem.Str := ["_law_script", "_law_cell", "_law_well_here", "_law_other", "_law_far", "_law_cond", "_law_some", "_law_number_here", "_law_plus_so", "_law_high", "_law_low", "_law_odd", "_law_one_here"]
theorem cut_mem {xs : List V} {lo hi : Option Int} : ∀ v ∈ cutV xs lo hi, v ∈ xs := fun v h => List.mem_of_mem_drop (List.mem_of_mem_take h)
theorem passN {X : Cx} : Passes (L2N.CX X.prog X.w) X E0 := fun _ _ _ _ _ _ _ h => by
  obtain ⟨_, _, _, _, _, _, _, _, _, _, _, _, z⟩ := h
  exact z.elim
theorem CondF.keepL {K : PySem.W.Frag} {H H' : Hp} {p0 : Addr} {n : Int} {a C dx p q : Addr} {cs : List (List Lit)} {ys : List PySem.Str} (W : WellAt H p0 n) (k : KeepB p0 H H') (h : CondF K H a C dx p q cs ys) : CondF K H' a C dx p q cs ys := by
  obtain ⟨_, e⟩ := W.lst
  refine ⟨k _ _ (fun z => by have := h.ins; rw [z, e] at this; cases this) h.ins, ?_, SqT.keep e k h.tm, h.so, h.nd, h.mem⟩
  obtain ⟨xs, hc⟩ := h.cl
  exact ⟨xs, SqT.keep e k hc.sq, L2.Paired.mapP hc.p fun _ _ z => let ⟨b, zs, e1, q⟩ := z; ⟨b, zs, e1, SqT.keep e k q.sq, L2.Paired.mapP q.p fun _ _ y => (let ⟨b2, e2, q2⟩ := y; ⟨b2, e2, SqT.keep e k q2⟩), q.l1, q.l2⟩, hc.l⟩
def OddV (K : PySem.W.Frag) (H : Hp) (v : V) : Prop := ∃ d, Is K H v d ∧ isTermS d = false
structure LawOf (K : PySem.W.Frag) (mg : PySem.Str → Option Value) (B CB fB C fI fX fY fE fC CN fN gH gW gR : Addr) (fdB fdI fdX fdY fdE fdC fdN fdH fdW fdR : FuncData) (ds : List Value) (mc : Value) : Prop where
  A : CondAll K mg B CB fB C fI fdB fdI
  cr : ClX.CRead K C mc
  sx : ∃ p, SMet K C mc "between" p fX
  sy : ∃ p, SMet K C mc "equal" p fY
  FX : Fun K "between" "Cond.between" sBetw fX fdX
  bX : Binds K fdX ["term", "low", "high"] []
  FY : Fun K "equal" "Cond.equal" sEqual fY fdY
  bY : Binds K fdY ["left", "right", "plus"] ds
  vY : Vals [V.int 0] ds
  kY : KBn K fdY ["left", "right", "plus"] 2 ["plus"] (fun us ws => us ++ ws) (fun vs zs => vs ++ zs)
  mi : ∃ f fd, Fs K mg "_minus" sMinus ["number"] f fd
  FE : Fun K "__eq__" "Cond.__eq__" sEqC fE fdE
  bE : Binds K fdE ["self", "other"] []
  M : EqCls K C fE
  kS : PySem.W.kitOne K (.type "str") (.ref C) = some false
  kT : PySem.W.kitOne K (.type "tuple") (.ref C) = some false
  FC : Fun K "__call__" "Cond.__call__" sCall fC fdC
  bC : Binds K fdC ["self", "values"] []
  N : NoV K mg B CN fN fdN
  Hd : Fs K mg "_holds" sHolds ["clause", "values"] gH fdH
  Wd : Fs K mg "_worth" sWorth ["term", "values"] gW fdW
  any : mg "any" = none
  enum : mg "enumerate" = none
  bro : ∃ g fd, Fs K mg "first_broken" sBroken ["clauses", "values"] g fd
  co : StX.CallO K C fC
  G : Gt K CB
  D : Drw K mg
  num : ∃ f fd, Fs K mg "_law_number" sNum ["_law_well_here"] f fd
  ref : Fs K mg "_law_refused" sRef ["_law_ask"] gR fdR
section
variable {P : Program} {w : World} {K : PySem.W.Frag} {mg : PySem.Str → Option Value} {base : Heap} {B CB fB C fI fX fY fE fC CN fN gH gW gR c0 PT : Addr} {fdB fdI fdX fdY fdE fdC fdN fdH fdW fdR : FuncData} {ds : List Value} {mc : Value}
theorem scL : FnScope nL ["_law_script"] (defScope sLaw) := ⟨rfl, rfl, rfl, by decide +kernel, rfl, by decide +kernel, by decide +kernel⟩
theorem law_body {a : Addr} {ns : List Int} (M : LawOf K mg B CB fB C fI fX fY fE fC CN fN gH gW gR fdB fdI fdX fdY fdE fdC fdN fdH fdW fdR ds mc) (TB : LamX.TabB base mg c0 PT) (f : Addr) (A : Around) (outer : List Env) (s : Shared) (H : Hp) (E : XK) {Q0 : VK} (q0 : ∀ H', Q0 (V.bl true) H') (hr : Room 10 (A.deeper (envOfC "law" (defScope sLaw) s.heap.objs.size f (.ref c0))))
    (hS : SqL K H a (ns.map V.int)) (hn : ns.length ≤ 63) (hT : H PT = some (.tbl #[])) : ∃ t, PSs (cxOf CX0 P w K mg base nL "law" (defScope sLaw) f (.ref c0) A outer s H E).nox (defBody sLaw) t ∧ t { nx := fun _ H' => Q0 V.non H', rt := Q0 } (start nL [.ref a]) H := by
  have D := M.A.D
  have T := D.M.T
  obtain ⟨_, sx⟩ := M.sx
  obtain ⟨_, sy⟩ := M.sy
  obtain ⟨_, _, dI⟩ := D.M.int
  obtain ⟨_, _, dMi⟩ := M.mi
  obtain ⟨_, _, dW⟩ := M.D.well
  obtain ⟨_, _, dO⟩ := M.D.one
  obtain ⟨_, _, dD⟩ := M.D.draw
  obtain ⟨_, _, dN⟩ := M.num
  have dR := M.ref
  obtain ⟨ocR, odR, kVR, docR, pmR, anR, cdvR, ctR, oslR, eR, lkR, hcR⟩ := dR.F.ex
  have bR := dR.b
  rw [eR] at bR lkR
  have GW : FnOk P w K mg base CX0 1 _ _ ["_law_cell"] spWell := ok_well dW.F M.D.T
  have GO : FnOk P w K mg base CX0 2 _ _ ["_law_well_here", "_law_some"] (spOne K) := ok_one dO.F M.D.T dD.F dD.b dD.m
  have GN : FnOk P w K mg base CX0 3 _ _ ["_law_well_here"] spNum := ok_num dN M.D
  have GX : FnOk P w K mg base (L2N.CX P w) 8 fX fdX ["term", "low", "high"] (spBetw K C CB) := ok_betw M.FX dMi dI M.A
  have GY : FnOk P w K mg base (L2N.CX P w) 8 fY fdY ["left", "right", "plus"] (spEqual K C CB) := ok_equal M.FY dMi dI M.A
  have GE : FnOk P w K mg base CX0 1 fE fdE ["self", "other"] (spEqC K C) := ok_eqC M.FE M.A M.kS M.kT
  obtain ⟨_, _, dBr⟩ := M.bro
  have GC : FnOk P w K mg base (L2N.CX P w) 4 fC fdC ["self", "values"] (spCall K C CN) := ok_call M.FC D.cls D.nc M.N M.Hd M.Wd dBr M.any M.enum
  have hr4c : Room 4 _ := hr.mono (by decide)
  have hr1 : Room 1 _ := hr.mono (by decide)
  have hr2 : Room 2 _ := hr.mono (by decide)
  have hr3 : Room 3 _ := hr.mono (by decide)
  have hr8 : Room 8 _ := hr.mono (by decide)
  have hu : (cxOf CX0 P w K mg base nL "law" (defScope sLaw) f (.ref c0) A outer s H E).nox.A.units + 64 < cLine := hr.units
  refine ⟨_, (pss_cons (ps_for PassesOwn.never rfl (pi_list (pe_op op_cat (pe_slice sl_list (pv 0) po_none (po_some pe_int)) (pe_lst (pa_cons pe_int pa_nil)))) (pg_name (i := 1) scL.nd rfl (Or.inl rfl)) (pss_cons (ps_set (i := 2) scL.nd rfl (Or.inl rfl) (pe_call GW hr1 (by rfl) dW.m dW.F.kp dW.b .nil pass0 (pa_cons (pv 1) pa_nil)))
      (pss_cons (ps_asg (pe_tup (pa_cons (pe_call GO hr2 (by rfl) dO.m dO.F.kp dO.b .nil pass0 (pa_cons (pv 2) (pa_cons (pe_lst (pa_cons pe_str (pa_cons pe_str (pa_cons pe_str pa_nil)))) pa_nil))) (pa_cons (pe_call GO hr2 (by rfl) dO.m dO.F.kp dO.b .nil pass0 (pa_cons (pv 2) (pa_cons (pe_lst (pa_cons pe_str (pa_cons pe_str (pa_cons pe_str pa_nil)))) pa_nil))) pa_nil))) (pg_tup rfl (pgs_cons (pg_name (i := 12) scL.nd rfl (Or.inr rfl)) (pgs_cons (pg_name (i := 3) scL.nd rfl (Or.inl rfl)) pgs_nil))))
      (pss_cons (ps_asg (pe_tup (pa_cons (pe_call GN hr3 (by rfl) dN.m dN.F.kp dN.b .nil pass0 (pa_cons (pv 2) pa_nil)) (pa_cons (pe_call GN hr3 (by rfl) dN.m dN.F.kp dN.b .nil pass0 (pa_cons (pv 2) pa_nil)) pa_nil))) (pg_tup rfl (pgs_cons (pg_name (i := 10) scL.nd rfl (Or.inr rfl)) (pgs_cons (pg_name (i := 9) scL.nd rfl (Or.inr rfl)) pgs_nil))))
      (pss_cons (ps_set (i := 4) scL.nd rfl (Or.inl rfl) (pe_call GN hr3 (by rfl) dN.m dN.F.kp dN.b .nil pass0 (pa_cons (pv 2) pa_nil)))
      (pss_cons (ps_set (i := 5) scL.nd rfl (Or.inl rfl) (pe_smeth (pe_glob (v := .ref C) (by rfl) D.gC rfl) M.cr sx GX hr8 M.bX .nil passN (pa_cons (pv 12) (pa_cons (pv 10) (pa_cons (pv 9) pa_nil)))))
      (pss_cons (ps_if (PW.pt (pw_or (pt_cmpR (op_neD hu) (pe_fld (pv 5) (by rfl)) (pe_tup (pa_cons (pe_tup (pa_cons (pe_tup (pa_cons pe_str (pa_cons (pv 12) (pa_cons (pe_un un_neg (pv 10)) pa_nil)))) pa_nil)) (pa_cons (pe_tup (pa_cons (pe_tup (pa_cons (pv 12) (pa_cons pe_str (pa_cons (pv 9) pa_nil)))) pa_nil)) pa_nil))) (by with_unfolding_all rfl)) (pw_or1 (pt_cmpR (op_ownNe M.M GE (hr.mono (by decide)) M.bE pass0) (pv 5) (pe_smeth (pe_glob (v := .ref C) (by rfl) D.gC rfl) M.cr sx GX hr8 M.bX .nil passN (pa_cons (pv 12) (pa_cons (pv 10) (pa_cons (pv 9) pa_nil)))) (by with_unfolding_all rfl))))) (pss_one (ps_ret pe_bl)) pss_nil)
      (pss_cons (ps_set (i := 6) scL.nd rfl (Or.inl rfl) (pe_lst (pa_cons (pe_op op_sub (pv 10) pe_int) (pa_cons (pv 10) (pa_cons (pv 9) (pa_cons (pe_op op_add (pv 9) pe_int) (pa_cons (pe_call GN hr3 (by rfl) dN.m dN.F.kp dN.b .nil pass0 (pa_cons (pv 2) pa_nil)) pa_nil)))))))
      (pss_cons (ps_for PassesOwn.never rfl (pi_list (pv 6)) (pg_name (i := 7) scL.nd rfl (Or.inl rfl)) (pss_one (ps_if (pt_cmpR op_ne (pe_callOX (C := C) (g := fC) takesN0 (pv 5) M.co GC hr4c M.bC (pa_cons (pe_disp (pps_cons (pv 12) (pv 7) pps_nil) rfl rfl (by simp) (by simp)) pa_nil)) (pe_chain op_le op_le (pv 10) (pv 7) (pv 9)) (by with_unfolding_all rfl)) (pss_one (ps_ret pe_bl)) pss_nil)))
      (pss_cons (ps_set (i := 5) scL.nd rfl (Or.inl rfl) (pe_smethK (n := 2) (pe_glob (v := .ref C) (by rfl) D.gC rfl) M.cr sy GY hr8 M.kY passN (pa_cons (pv 12) (pa_cons (pv 3) pa_nil)) (pk_cons (pv 4) pk_nil)))
      (pss_cons (ps_if (pt_cmpR (op_neD hu) (pe_fld (pv 5) (by rfl)) (pe_tup (pa_cons (pe_tup (pa_cons (pe_tup (pa_cons (pv 12) (pa_cons (pv 3) (pa_cons (pv 4) pa_nil)))) pa_nil)) (pa_cons (pe_tup (pa_cons (pe_tup (pa_cons (pv 3) (pa_cons (pv 12) (pa_cons (pe_un un_neg (pv 4)) pa_nil)))) pa_nil)) pa_nil))) (by with_unfolding_all rfl)) (pss_one (ps_ret pe_bl)) pss_nil)
      (pss_cons (ps_if (pt_cmpR (op_neD hu) (pe_fld (pe_smeth (pe_glob (v := .ref C) (by rfl) D.gC rfl) M.cr sy GY hr8 M.bY M.vY passN (pa_cons (pv 12) (pa_cons (pv 3) pa_nil))) (by rfl)) (pe_tup (pa_cons (pe_tup (pa_cons (pe_tup (pa_cons (pv 12) (pa_cons (pv 3) (pa_cons pe_int pa_nil)))) pa_nil)) (pa_cons (pe_tup (pa_cons (pe_tup (pa_cons (pv 3) (pa_cons (pv 12) (pa_cons pe_int pa_nil)))) pa_nil)) pa_nil))) (by with_unfolding_all rfl)) (pss_one (ps_ret pe_bl)) pss_nil)
      (pss_cons (ps_for PassesOwn.never rfl (pi_list (pe_lst (pa_cons (pv 4) (pa_cons (pe_op op_sub (pv 4) pe_int) (pa_cons (pe_op op_add (pv 4) pe_int) (pa_cons pe_int pa_nil)))))) (pg_name (i := 7) scL.nd rfl (Or.inl rfl)) (pss_cons (ps_set (i := 8) scL.nd rfl (Or.inl rfl) (pe_ifExp (pt_cmpR op_eq (pv 12) (pv 3) (nomark _)) pe_int (pv 7)))
      (pss_one (ps_if (pt_cmpR op_ne (pe_callOX (C := C) (g := fC) takesN0 (pv 5) M.co GC hr4c M.bC (pa_cons (pe_disp (pps_cons (pv 3) pe_int (pps_cons (pv 12) (pe_op op_add pe_int (pv 7)) pps_nil)) rfl rfl (by simp) (by simp)) pa_nil)) (pe_cmpR op_eq (pv 8) (pv 4) (nomark _)) (by with_unfolding_all rfl)) (pss_one (ps_ret pe_bl)) pss_nil))))
      (pss_cons (ps_if (pt_cmpR op_notBl (pe_callOX (C := C) (g := fC) takesN0 (pe_smethK (n := 2) (pe_glob (v := .ref C) (by rfl) D.gC rfl) M.cr sy GY hr8 M.kY passN (pa_cons pe_str (pa_cons (pv 12) pa_nil)) (pk_cons (pv 4) pk_nil)) M.co GC hr4c M.bC (pa_cons (pe_disp (pps_cons (pv 12) (pe_un un_neg (pv 4)) pps_nil) rfl rfl (by simp) (by simp)) pa_nil)) pe_bl (nomark _)) (pss_one (ps_ret pe_bl)) pss_nil)
      (pss_cons (ps_if (pt_cmpR op_ne (pe_callOX (C := C) (g := fC) takesN0 (pe_smeth (pe_glob (v := .ref C) (by rfl) D.gC rfl) M.cr sx GX hr8 M.bX .nil passN (pa_cons pe_str (pa_cons (pv 10) (pa_cons (pv 9) pa_nil)))) M.co GC hr4c M.bC (pa_cons pe_dnewK pa_nil)) (pe_chain op_le op_le (pv 10) pe_int (pv 9)) (by with_unfolding_all rfl)) (pss_one (ps_ret pe_bl)) pss_nil)
      (pss_cons (ps_set (i := 11) scL.nd rfl (Or.inr rfl) (pe_call GO hr2 (by rfl) dO.m dO.F.kp dO.b .nil pass0 (pa_cons (pv 2) (pa_cons (pe_lst (pa_cons pe_str (pa_cons pe_str (pa_cons pe_str (pa_cons pe_non (pa_cons pe_int (pa_cons (pe_tup (pa_cons pe_str pa_nil)) (pa_cons pe_str (pa_cons (pe_lst (pa_cons pe_str pa_nil)) pa_nil))))))))) pa_nil))))
      (pss_cons (ps_if (pt_cmpR op_ne (LamX.pe_lamcall (T := [(PT, "law.<locals>.<lambda>")]) (TT := TRef CB) (t := fun E => tSM C (spBetw K C CB) [] E (tC (.ref C)) (tCons (tVar 11) (tCons (tVar 10) (tCons (tVar 9) tNil)))) (k := 8) (by rfl) dR.m dR.F.kp lkR hcR bR scRf rfl (Or.inl rfl) (refused_gives M.A.W M.G M.A.W.gm) TB rfl (by simp; rfl) (fun p hp _ => by (rw [List.mem_singleton.mp hp]; rfl)) hr (LamX.lamS_by (by show LamX.lamSB (defScope sLaw) _ = true; decide +kernel)) rfl (fun _ _ _ _ _ => rfl) (fun A outer s H E f c' hr => pe_smeth (pe_glob (v := .ref C) (by rfl) D.gC rfl) M.cr sx GX hr M.bX .nil lam_pass (pa_cons (pv 11) (pa_cons (pv 10) (pa_cons (pv 9) pa_nil))))) pe_int (by with_unfolding_all rfl)) (pss_one (ps_ret pe_bl)) pss_nil)
      (pss_cons (ps_if (pt_cmpR op_ne (LamX.pe_lamcall (T := [(PT, "law.<locals>.<lambda>")]) (TT := TRef CB) (t := fun E => tSM C (spEqual K C CB) [V.int 0] E (tC (.ref C)) (tCons (tVar 12) (tCons (tVar 11) tNil))) (k := 8) (by rfl) dR.m dR.F.kp lkR hcR bR scRf rfl (Or.inl rfl) (refused_gives M.A.W M.G M.A.W.gm) TB rfl (by simp; rfl) (fun p hp _ => by (rw [List.mem_singleton.mp hp]; rfl)) hr (LamX.lamS_by (by show LamX.lamSB (defScope sLaw) _ = true; decide +kernel)) rfl (fun _ _ _ _ _ => rfl) (fun A outer s H E f c' hr => pe_smeth (pe_glob (v := .ref C) (by rfl) D.gC rfl) M.cr sy GY hr M.bY M.vY lam_pass (pa_cons (pv 12) (pa_cons (pv 11) pa_nil)))) pe_int (by with_unfolding_all rfl)) (pss_one (ps_ret pe_bl)) pss_nil)
      (pss_one (ps_if (pt_cmpR op_ne (LamX.pe_lamcall (T := [(PT, "law.<locals>.<lambda>")]) (TT := TRef CB) (t := fun E => tSM C (spEqual K C CB) [V.int 0] E (tC (.ref C)) (tCons (tVar 11) (tCons (tVar 12) tNil))) (k := 8) (by rfl) dR.m dR.F.kp lkR hcR bR scRf rfl (Or.inl rfl) (refused_gives M.A.W M.G M.A.W.gm) TB rfl (by simp; rfl) (fun p hp _ => by (rw [List.mem_singleton.mp hp]; rfl)) hr (LamX.lamS_by (by show LamX.lamSB (defScope sLaw) _ = true; decide +kernel)) rfl (fun _ _ _ _ _ => rfl) (fun A outer s H E f c' hr => pe_smeth (pe_glob (v := .ref C) (by rfl) D.gC rfl) M.cr sy GY hr M.bY M.vY lam_pass (pa_cons (pv 11) (pa_cons (pv 12) pa_nil)))) pe_int (by with_unfolding_all rfl)) (pss_one (ps_ret pe_bl)) pss_nil))))))))))))))))))))
      (pss_one (ps_ret pe_bl))), ?_⟩
  have hc : ∀ v ∈ cutV (ns.map V.int) none (some 10) ++ [V.int 0], ∃ c, v = V.int c := by
    intro v hv
    rcases List.mem_append.mp hv with h | h
    · obtain ⟨c, _, e⟩ := List.mem_map.mp (cut_mem v h)
      exact ⟨c, e.symm⟩
    · exact ⟨0, by simpa using h⟩
  have hcl : (cutV (ns.map V.int) none (some 10)).length ≤ 63 := Nat.le_trans (cutV_length _ _ _) (by rw [List.length_map]; exact hn)
  have hT0 : LamX.Tabs [(PT, "law.<locals>.<lambda>")] H := fun p hp => by
    rw [List.mem_singleton.mp hp]
    exact LamX.TabS.nil hT
  refine ⟨_, rfl, _, rfl, a, _, rfl, hS, fun l0 n0 => ?_⟩
  refine ⟨by show 1 ≤ sizeLine; decide, fun l1 n1 => ?_⟩
  have e01 : l0 ≠ l1 := ne_of_none (o := .lst (cutV (ns.map V.int) none (some 10))) upd_same n1
  refine ⟨l0, l1, _, _, rfl, rfl, (by rw [upd_ne e01]; exact upd_same), upd_same, (Nat.le_of_lt (small1000 (by show _ + 1 ≤ 1000; omega))), fun l2 n2 => ?_⟩
  refine ⟨l2, rfl, ⟨_, SqL.of upd_same⟩, ?_⟩
  refine for_list (K := K) (a := l2) (xs := cutV (ns.map V.int) none (some 10) ++ [V.int 0])
    (fun i σ H2 => ∃ o1 o2 o3 o4 o5 o6 o7 o8 o9 o10 o11 o12 : Option V, σ = [some (.ref a), o1, o2, o3, o4, o5, o6, o7, o8, o9, o10, o11, o12] ∧ H2 l2 = some (.lst (cutV (ns.map V.int) none (some 10) ++ [V.int 0])) ∧ LamX.Tabs [(PT, "law.<locals>.<lambda>")] H2)
    ⟨none, none, none, none, none, none, none, none, none, none, none, none, rfl, upd_same, Tabs.same hT0 fun b u z => new_same n2 _ _ (new_same n1 _ _ (new_same n0 _ _ z))⟩ (fun i σ H2 _ ⟨_, _, _, _, _, _, _, _, _, _, _, _, _, h2, _⟩ => SqL.of h2) ?_ ?_
  · rintro i y σ H2 hi ⟨o1, o2, o3, o4, o5, o6, o7, o8, o9, o10, o11, o12, rfl, h2, t2⟩
    obtain ⟨c, rfl⟩ := hc y (List.mem_of_getElem? hi)
    refine ⟨_, rfl, c, rfl, fun wl H3 nw s3 hW => ?_⟩
    have nl2 : l2 ≠ wl := ne_of_none h2 nw
    have h23 := s3 _ _ h2
    have t3 := Tabs.same t2 s3
    obtain ⟨msw, hwl⟩ := hW.lst
    have tmA : ∀ y ∈ [V.str "x", .str "self.f", .str "result"], TermV y := all_cons ⟨_, rfl, by decide +kernel, by decide +kernel, ⟨by decide +kernel, by decide +kernel, by decide +kernel⟩, by decide +kernel⟩ (all_cons ⟨_, rfl, by decide +kernel, by decide +kernel, ⟨by decide +kernel, by decide +kernel, by decide +kernel⟩, by decide +kernel⟩ (all_cons ⟨_, rfl, by decide +kernel, by decide +kernel, ⟨by decide +kernel, by decide +kernel, by decide +kernel⟩, by decide +kernel⟩ all_nil))
    have tmB : ∀ y ∈ [V.str "y", .str "x", .str "p.q"], TermV y := all_cons ⟨_, rfl, by decide +kernel, by decide +kernel, ⟨by decide +kernel, by decide +kernel, by decide +kernel⟩, by decide +kernel⟩ (all_cons ⟨_, rfl, by decide +kernel, by decide +kernel, ⟨by decide +kernel, by decide +kernel, by decide +kernel⟩, by decide +kernel⟩ (all_cons ⟨_, rfl, by decide +kernel, by decide +kernel, ⟨by decide +kernel, by decide +kernel, by decide +kernel⟩, by decide +kernel⟩ all_nil))
    have le : ∀ {n : Nat}, n ≤ 100 → n ≤ sizeLine := le_sz
    refine ⟨_, rfl, le (Nat.le_of_ble_eq_true rfl), fun q1 g1 => ?_⟩
    try dsimp only [tNil, List.nil_append, List.append_nil, List.cons_append]
    refine one_go (E := E0) (B := TermV) hW (by decide) g1 tmA (Nat.le_of_ble_eq_true rfl) (Nat.le_of_ble_eq_true rfl) fun v1 H4 hv1 _ k4 W4 => ?_
    refine ⟨_, rfl, le (Nat.le_of_ble_eq_true rfl), fun q2 g2 => ?_⟩
    try dsimp only [tNil, List.nil_append, List.append_nil, List.cons_append]
    refine one_go (E := E0) (B := TermV) W4 (by decide) g2 tmB (Nat.le_of_ble_eq_true rfl) (Nat.le_of_ble_eq_true rfl) fun v2 H5 hv2 _ k5 W5 => ?_
    obtain ⟨t, rfl, ht1, ht2, ht3, ht4⟩ := hv1
    obtain ⟨o, rfl, ho1, ho2, ho3, ho4⟩ := hv2
    refine ⟨le (Nat.le_of_ble_eq_true rfl), fun u0 gu0 => ⟨u0, _, rfl, SqT.of upd_same, rfl, _, _, rfl, _, _, rfl, rfl, ?_⟩⟩
    have s6 := new_same (o := .tup [V.str t, .str o]) gu0
    have W6 := W5.same s6
    have k6 : KeepB wl H3 (upd H5 u0 (.tup [V.str t, .str o])) := (k4.trans k5).trans (KeepB.of s6)
    generalize upd H5 u0 (.tup [V.str t, .str o]) = H6 at W6 k6 ⊢
    refine ⟨_, rfl, wl, _, rfl, W6, by decide, fun lo H7 k7 W7 => ⟨_, rfl, wl, _, rfl, W7, by decide, fun hi H8 k8 W8 => ⟨le (Nat.le_of_ble_eq_true rfl), fun u1 gu1 => ⟨u1, _, rfl, SqT.of upd_same, rfl, _, _, rfl, _, _, rfl, rfl, ?_⟩⟩⟩⟩
    have s9 := new_same (o := .tup [V.int lo, .int hi]) gu1
    have W9 := W8.same s9
    have k9 : KeepB wl H3 (upd H8 u1 (.tup [V.int lo, .int hi])) := ((k6.trans k7).trans k8).trans (KeepB.of s9)
    generalize upd H8 u1 (.tup [V.int lo, .int hi]) = H9 at W9 k9 ⊢
    refine ⟨_, rfl, wl, _, rfl, W9, by decide, fun far Ha ka Wa => ?_⟩
    have k10 := k9.trans ka
    clear k4 k5 k6 k7 k8 k9 ka s6 s9 W4 W5 W6 W7 W8 W9
    refine ⟨rfl, _, rfl, _, rfl, _, rfl, ?_⟩
    try dsimp only [tNil, List.nil_append, List.append_nil, List.cons_append]
    refine betw_go ht1 ht3 fun r dz p q ys Hb hF sb => ?_
    have oB : okC [[("", t, -lo)], [(t, "", hi)]] := ok2 okE ht4 ht4 okE
    refine ⟨_, rfl, r, C, dz, _, .ref p, rfl, hF.ins, D.cls, D.nc, rfl, _, rfl, _, rfl, _, rfl, le (Nat.le_of_ble_eq_true rfl), fun u2 g2 => ⟨le (Nat.le_of_ble_eq_true rfl), fun u3 g3 => ?_⟩⟩
    have i1 := isT3 (K := K) (.str "" shE) (.str t ht3) (.int (-lo)) g2 g3
    have s1 : Same Hb (upd (upd Hb u2 (.tup [.str "", .str t, .int (-lo)])) u3 (.tup [.ref u2])) := fun b u z => new_same g3 _ _ (new_same g2 _ _ z)
    generalize upd (upd Hb u2 (.tup [.str "", .str t, .int (-lo)])) u3 (.tup [.ref u2]) = Hc at i1 s1 ⊢
    refine ⟨_, rfl, _, rfl, le (Nat.le_of_ble_eq_true rfl), fun u4 g4 => ⟨le (Nat.le_of_ble_eq_true rfl), fun u5 g5 => ⟨le (Nat.le_of_ble_eq_true rfl), fun u6 g6 => ?_⟩⟩⟩
    have i2 := isT3 (K := K) (.str t ht3) (.str "" shE) (.int hi) g4 g5
    have s2 : Same Hc (upd (upd Hc u4 (.tup [.str t, .str "", .int hi])) u5 (.tup [.ref u4])) := fun b u z => new_same g5 _ _ (new_same g4 _ _ z)
    generalize upd (upd Hc u4 (.tup [.str t, .str "", .int hi])) u5 (.tup [.ref u4]) = Hd at i2 s2 g6 ⊢
    have s3' := new_same (o := .tup [V.ref u3, .ref u5]) g6
    have sbe : Same Hb (upd Hd u6 (.tup [V.ref u3, .ref u5])) := fun b u z => s3' _ _ (s2 _ _ (s1 _ _ z))
    refine cl2_go (l := ("", t, -lo)) (m := (t, "", hi)) (hF.same sbe) ((i1.same s2).same s3') (i2.same s3') (SqT.of upd_same) oB ⟨_, rfl, ?_⟩
    generalize upd Hd u6 (.tup [V.ref u3, .ref u5]) = He at sbe ⊢
    refine iteF ⟨_, rfl, rfl, _, rfl, _, rfl, _, rfl, ?_⟩
    try dsimp only [tNil, List.nil_append, List.append_nil, List.cons_append]
    refine betw_go ht1 ht3 fun r2 dz2 p2 q2 ys2 Hf hF2 sf => ?_
    have sbf : Same Hb Hf := fun b u z => sf _ _ (sbe _ _ z)
    have hFf := hF.same sbf
    refine ne_go hFf hF2 oB oB ⟨_, rfl, ?_⟩
    rw [decide_eq_true rfl]
    have k11 := k10.trans ((KeepB.of sb).trans (KeepB.of sbf))
    have Wf := (Wa.same sb).same sbf
    refine iteF ?_
    clear sbf sbe sf sb i1 i2 s1 s2 s3' hF hF2 Wa k10
    refine ⟨_, rfl, _, _, rfl, rfl, _, rfl, _, rfl, _, rfl, _, _, rfl, rfl, _, rfl, wl, _, rfl, Wf, by decide, fun nn Hg kg Wg => ⟨le (Nat.le_of_ble_eq_true rfl), fun l6 g6 => ?_⟩⟩
    have hFg := CondF.keepL Wf kg hFf
    have k12 := k11.trans (kg.trans (KeepB.of (new_same (o := .lst [V.int (lo - 1), .int lo, .int hi, .int (hi + 1), .int nn]) g6)))
    have Wh := Wg.same (new_same (o := .lst [V.int (lo - 1), .int lo, .int hi, .int (hi + 1), .int nn]) g6)
    have hFh := hFg.same (new_same (o := .lst [V.int (lo - 1), .int lo, .int hi, .int (hi + 1), .int nn]) g6)
    have gl6 : (upd Hg l6 (.lst [V.int (lo - 1), .int lo, .int hi, .int (hi + 1), .int nn])) l6 = some (.lst [V.int (lo - 1), .int lo, .int hi, .int (hi + 1), .int nn]) := upd_same
    generalize upd Hg l6 (.lst [V.int (lo - 1), .int lo, .int hi, .int (hi + 1), .int nn]) = Hh at k12 Wh hFh gl6 ⊢
    refine ⟨_, rfl, l6, rfl, ⟨_, SqL.of gl6⟩, ?_⟩
    refine for_list (xs := [V.int (lo - 1), .int lo, .int hi, .int (hi + 1), .int nn]) (fun i σ H5 => (∃ o7, σ = [some (.ref a), some (.int c), some (.ref wl), some (.str o), some (.int far), some (.ref r), some (.ref l6), o7, o8, some (.int hi), some (.int lo), o11, some (.str t)]) ∧ Same Hh H5) ⟨⟨o7, rfl⟩, fun _ _ z => z⟩ (fun i σ H5 _ h => SqL.of (h.2 _ _ gl6)) ?_ ?_
    · rintro i x σ H5 hx ⟨⟨o7, rfl⟩, s5⟩
      obtain ⟨n, rfl⟩ : isInt x := all_cons ii (all_cons ii (all_cons ii (all_cons ii (all_cons ii all_nil)))) x (List.mem_of_getElem? hx)
      refine ⟨_, rfl, r, rfl, fun d hd => ⟨_, rfl, _, rfl, upd_same, [(.inr t, .int n)], rfl, Nat.le_of_ble_eq_true rfl, ?_⟩⟩
      have sd : Same H5 (upd (upd H5 d (.dK [])) d (.dK (mergeK [] [(.inr t, .int n)]))) := fun b u z => by
        have e : b ≠ d := fun y => by rw [y, hd] at z; cases z
        rw [upd_ne e, upd_ne e]
        exact z
      have hFx := (hFh.same s5).same sd
      refine ⟨.inr ⟨dz, _, hFx.ins⟩, ?_⟩
      try dsimp only [tNil, List.nil_append, List.append_nil, List.cons_append]
      refine call_go (f := f1 n) hFx upd_same (fun s hs => worth1 (n := n) ht2 ?_) fun H6 s6 => ?_
      · rcases asked2 hs with h | h | h | h
        · exact .inl h
        · exact .inr h
        · exact .inr h
        · exact .inl h
      rw [betw_t ht2]
      have s56 : Same Hh H6 := fun b u z => s6 _ _ (sd _ _ (s5 _ _ z))
      refine ⟨_, rfl, _, rfl, _, _, rfl, rfl, _, rfl, ?_⟩
      by_cases h1 : lo ≤ n
      · rw [decide_eq_true h1, Bool.true_and]
        refine iteT ⟨_, rfl, _, _, rfl, rfl, rfl, _, rfl, ?_⟩
        rw [decide_eq_true (show V.bl (decide (n ≤ hi)) = V.bl (decide (n ≤ hi)) from rfl)]
        exact iteF ⟨⟨_, rfl⟩, s56⟩
      · rw [decide_eq_false h1, Bool.false_and]
        refine iteF ⟨rfl, _, rfl, ?_⟩
        rw [decide_eq_true (show V.bl false = V.bl false from rfl)]
        exact iteF ⟨⟨_, rfl⟩, s56⟩
    · rintro σ H5 ⟨⟨o7, rfl⟩, s5⟩
      have hF5 := hFh.same s5
      have k13 := k12.trans (KeepB.of s5)
      have W5 := Wh.same s5
      clear hF5 hFh hFg hFf k12 Wh Wg Wf kg k11
      refine ⟨rfl, _, rfl, _, rfl, _, rfl, rfl, rfl, ?_⟩
      try dsimp only [tNil, List.nil_append, List.append_nil, List.cons_append]
      refine equal_go ht1 ht3 ho1 ho3 fun r dz p q ys Hb hF sb => ?_
      have oB : okC [[(t, o, far)], [(o, t, -far)]] := ok2 ht4 ho4 ho4 ht4
      refine ⟨_, rfl, r, C, dz, _, .ref p, rfl, hF.ins, D.cls, D.nc, rfl, _, rfl, _, rfl, _, rfl, le (Nat.le_of_ble_eq_true rfl), fun u2 g2 => ⟨le (Nat.le_of_ble_eq_true rfl), fun u3 g3 => ?_⟩⟩
      have i1 := isT3 (K := K) (.str t ht3) (.str o ho3) (.int far) g2 g3
      have s1 : Same Hb (upd (upd Hb u2 (.tup [.str t, .str o, .int far])) u3 (.tup [.ref u2])) := fun b u z => new_same g3 _ _ (new_same g2 _ _ z)
      generalize upd (upd Hb u2 (.tup [.str t, .str o, .int far])) u3 (.tup [.ref u2]) = Hc at i1 s1 ⊢
      refine ⟨_, rfl, _, rfl, _, rfl, _, rfl, le (Nat.le_of_ble_eq_true rfl), fun u4 g4 => ⟨le (Nat.le_of_ble_eq_true rfl), fun u5 g5 => ⟨le (Nat.le_of_ble_eq_true rfl), fun u6 g6 => ?_⟩⟩⟩
      have i2 := isT3 (K := K) (.str o ho3) (.str t ht3) (.int (-far)) g4 g5
      have s2 : Same Hc (upd (upd Hc u4 (.tup [.str o, .str t, .int (-far)])) u5 (.tup [.ref u4])) := fun b u z => new_same g5 _ _ (new_same g4 _ _ z)
      generalize upd (upd Hc u4 (.tup [.str o, .str t, .int (-far)])) u5 (.tup [.ref u4]) = Hd at i2 s2 g6 ⊢
      have s3' := new_same (o := .tup [V.ref u3, .ref u5]) g6
      have sbe : Same Hb (upd Hd u6 (.tup [V.ref u3, .ref u5])) := fun b u z => s3' _ _ (s2 _ _ (s1 _ _ z))
      refine cl2_go (l := (t, o, far)) (m := (o, t, -far)) (hF.same sbe) ((i1.same s2).same s3') (i2.same s3') (SqT.of upd_same) oB ⟨_, rfl, ?_⟩
      generalize upd Hd u6 (.tup [V.ref u3, .ref u5]) = He at sbe ⊢
      have hFe := hF.same sbe
      have k14 := k13.trans ((KeepB.of sb).trans (KeepB.of sbe))
      have We := (W5.same sb).same sbe
      refine iteF ?_
      clear i1 i2 s1 s2 s3' sbe hF sb k13 W5 s5
      refine ⟨rfl, _, rfl, _, rfl, ?_⟩
      try dsimp only [tNil, List.nil_append, List.append_nil, List.cons_append]
      refine equal_go ht1 ht3 ho1 ho3 fun rZ dzZ pZ qZ ysZ Hb hF sb => ?_
      have oZ : okC [[(t, o, 0)], [(o, t, -0)]] := ok2 ht4 ho4 ho4 ht4
      refine ⟨rZ, C, dzZ, _, .ref pZ, rfl, hF.ins, D.cls, D.nc, rfl, _, rfl, _, rfl, le (Nat.le_of_ble_eq_true rfl), fun u2 g2 => ⟨le (Nat.le_of_ble_eq_true rfl), fun u3 g3 => ?_⟩⟩
      have i1 := isT3 (K := K) (.str t ht3) (.str o ho3) (.int 0) g2 g3
      have s1 : Same Hb (upd (upd Hb u2 (.tup [.str t, .str o, .int 0])) u3 (.tup [.ref u2])) := fun b u z => new_same g3 _ _ (new_same g2 _ _ z)
      generalize upd (upd Hb u2 (.tup [.str t, .str o, .int 0])) u3 (.tup [.ref u2]) = Hc at i1 s1 ⊢
      refine ⟨_, rfl, _, rfl, le (Nat.le_of_ble_eq_true rfl), fun u4 g4 => ⟨le (Nat.le_of_ble_eq_true rfl), fun u5 g5 => ⟨le (Nat.le_of_ble_eq_true rfl), fun u6 g6 => ?_⟩⟩⟩
      have i2 := isT3 (K := K) (.str o ho3) (.str t ht3) (.int 0) g4 g5
      have s2 : Same Hc (upd (upd Hc u4 (.tup [.str o, .str t, .int 0])) u5 (.tup [.ref u4])) := fun b u z => new_same g5 _ _ (new_same g4 _ _ z)
      generalize upd (upd Hc u4 (.tup [.str o, .str t, .int 0])) u5 (.tup [.ref u4]) = Hd at i2 s2 g6 ⊢
      have s3' := new_same (o := .tup [V.ref u3, .ref u5]) g6
      have sbe : Same Hb (upd Hd u6 (.tup [V.ref u3, .ref u5])) := fun b u z => s3' _ _ (s2 _ _ (s1 _ _ z))
      refine cl2_go (l := (t, o, 0)) (m := (o, t, -0)) (hF.same sbe) ((i1.same s2).same s3') (i2.same s3') (SqT.of upd_same) oZ ⟨_, rfl, ?_⟩
      generalize upd Hd u6 (.tup [V.ref u3, .ref u5]) = Hf at sbe ⊢
      have hFf := (hFe.same sb).same sbe
      have k15 := k14.trans ((KeepB.of sb).trans (KeepB.of sbe))
      have Wf := (We.same sb).same sbe
      refine iteF ?_
      clear i1 i2 s1 s2 s3' sbe hF sb k14 We hFe
      refine ⟨_, rfl, _, rfl, _, _, rfl, rfl, _, rfl, _, _, rfl, rfl, le (Nat.le_of_ble_eq_true rfl), fun l7 g7 => ⟨l7, rfl, ⟨_, SqL.of upd_same⟩, ?_⟩⟩
      have s7 := new_same (o := .lst [V.int far, .int (far - 1), .int (far + 1), .int 0]) g7
      have gl7 : (upd Hf l7 (.lst [V.int far, .int (far - 1), .int (far + 1), .int 0])) l7 = some (.lst [V.int far, .int (far - 1), .int (far + 1), .int 0]) := upd_same
      have hFh := hFf.same s7
      have k16 := k15.trans (KeepB.of s7)
      have Wh := Wf.same s7
      generalize upd Hf l7 (.lst [V.int far, .int (far - 1), .int (far + 1), .int 0]) = Hh at s7 gl7 hFh k16 Wh ⊢
      clear k15 Wf hFf s7
      refine for_list (xs := [V.int far, .int (far - 1), .int (far + 1), .int 0]) (fun i σ H5 => (∃ o7 o8, σ = [some (.ref a), some (.int c), some (.ref wl), some (.str o), some (.int far), some (.ref r), some (.ref l6), o7, o8, some (.int hi), some (.int lo), o11, some (.str t)]) ∧ Same Hh H5) ⟨⟨o7, o8, rfl⟩, fun _ _ z => z⟩ (fun i σ H5 _ h => SqL.of (h.2 _ _ gl7)) ?_ ?_
      · rintro i x σ H5 hx ⟨⟨o7, o8, rfl⟩, s5⟩
        obtain ⟨n, rfl⟩ : isInt x := all_cons ii (all_cons ii (all_cons ii (all_cons ii all_nil))) x (List.mem_of_getElem? hx)
        refine ⟨_, rfl, _, rfl, rfl, _, rfl, ?_⟩
        by_cases e : t = o
        · rw [decide_eq_true (show V.str t = V.str o from by rw [e])]
          refine iteT ?_
          refine ⟨_, rfl, r, rfl, fun d hd => ⟨_, rfl, _, rfl, _, rfl, _, _, rfl, rfl, upd_same, [(.inr o, .int 7), (.inr t, .int (7 + n))], rfl, Nat.le_of_ble_eq_true rfl, ?_⟩⟩
          have sd : Same H5 (upd (upd H5 d (.dK [])) d (.dK (mergeK [] [(.inr o, .int 7), (.inr t, .int (7 + n))]))) := fun b u z => by
            have e : b ≠ d := fun y => by rw [y, hd] at z; cases z
            rw [upd_ne e, upd_ne e]
            exact z
          have hFx := (hFh.same s5).same sd
          refine ⟨.inr ⟨dz, _, hFx.ins⟩, ?_⟩
          try dsimp only [tNil, List.nil_append, List.append_nil, List.cons_append]
          refine call_go (f := f2 t n) hFx upd_same (fun s hs => worth2 (n := n) ho2 ht2 ?_) fun H6 s6 => ?_
          · rcases asked2 hs with h | h | h | h
            · exact .inr h
            · exact .inl h
            · exact .inl h
            · exact .inr h
          rw [equal_t ho2 ht2]
          have s56 : Same Hh H6 := fun b u z => s6 _ _ (sd _ _ (s5 _ _ z))
          refine ⟨_, rfl, _, rfl, rfl, rfl, _, rfl, ?_⟩
          rw [show decide (V.int 0 = V.int far) = decide ((if t = o then 0 else n) = far) from by rw [if_pos e, decide_eq_decide]; exact ⟨fun y => V.int.inj y, fun y => by rw [y]⟩]
          rw [decide_eq_true (show V.bl (decide ((if t = o then 0 else n) = far)) = V.bl (decide ((if t = o then 0 else n) = far)) from rfl)]
          exact iteF ⟨⟨_, _, rfl⟩, s56⟩
        · rw [decide_eq_false (show ¬ V.str t = V.str o from fun y => e (V.str.inj y))]
          refine iteF ⟨_, rfl, ?_⟩
          refine ⟨_, rfl, r, rfl, fun d hd => ⟨_, rfl, _, rfl, _, rfl, _, _, rfl, rfl, upd_same, [(.inr o, .int 7), (.inr t, .int (7 + n))], rfl, Nat.le_of_ble_eq_true rfl, ?_⟩⟩
          have sd : Same H5 (upd (upd H5 d (.dK [])) d (.dK (mergeK [] [(.inr o, .int 7), (.inr t, .int (7 + n))]))) := fun b u z => by
            have e : b ≠ d := fun y => by rw [y, hd] at z; cases z
            rw [upd_ne e, upd_ne e]
            exact z
          have hFx := (hFh.same s5).same sd
          refine ⟨.inr ⟨dz, _, hFx.ins⟩, ?_⟩
          try dsimp only [tNil, List.nil_append, List.append_nil, List.cons_append]
          refine call_go (f := f2 t n) hFx upd_same (fun s hs => worth2 (n := n) ho2 ht2 ?_) fun H6 s6 => ?_
          · rcases asked2 hs with h | h | h | h
            · exact .inr h
            · exact .inl h
            · exact .inl h
            · exact .inr h
          rw [equal_t ho2 ht2]
          have s56 : Same Hh H6 := fun b u z => s6 _ _ (sd _ _ (s5 _ _ z))
          refine ⟨_, rfl, _, rfl, rfl, rfl, _, rfl, ?_⟩
          rw [show decide (V.int n = V.int far) = decide ((if t = o then 0 else n) = far) from by rw [if_neg e, decide_eq_decide]; exact ⟨fun y => V.int.inj y, fun y => by rw [y]⟩]
          rw [decide_eq_true (show V.bl (decide ((if t = o then 0 else n) = far)) = V.bl (decide ((if t = o then 0 else n) = far)) from rfl)]
          exact iteF ⟨⟨_, _, rfl⟩, s56⟩
      · rintro σ H5 ⟨⟨o7, o8, rfl⟩, s5⟩
        have k17 := k16.trans (KeepB.of s5)
        have W5 := Wh.same s5
        clear hFh k16 Wh s5 gl7
        refine ⟨rfl, _, rfl, _, rfl, rfl, rfl, ?_⟩
        try dsimp only [tNil, List.nil_append, List.append_nil, List.cons_append]
        refine equal_go isE shE ht1 ht3 fun r2 dz2 p2 q2 ys2 H6 F6 s6 => ?_
        refine ⟨r2, rfl, fun d hd => ⟨_, rfl, _, rfl, _, rfl, upd_same, [(.inr t, .int (-far))], rfl, Nat.le_of_ble_eq_true rfl, ?_⟩⟩
        have sd : Same H6 (upd (upd H6 d (.dK [])) d (.dK (mergeK [] [(.inr t, .int (-far))]))) := fun b u z => by
          have e : b ≠ d := fun y => by rw [y, hd] at z; cases z
          rw [upd_ne e, upd_ne e]
          exact z
        refine ⟨.inr ⟨dz2, _, (F6.same sd).ins⟩, ?_⟩
        try dsimp only [tNil, List.nil_append, List.append_nil, List.cons_append]
        refine call_go (f := f1 (-far)) (F6.same sd) upd_same (fun s hs => worth1 (n := -far) ht2 ?_) fun H7 s7 => ?_
        · rcases asked2 hs with h | h | h | h
          · exact .inl h
          · exact .inr h
          · exact .inr h
          · exact .inl h
        rw [eqz_t ht2]
        refine ⟨_, _, rfl, rfl, _, rfl, iteF ?_⟩
        have s57 : Same H5 H7 := fun b u z => s7 _ _ (sd _ _ (s6 _ _ z))
        have k18 := k17.trans (KeepB.of s57)
        have W7 := W5.same s57
        clear sd s7 F6 s6 s57 k17 W5
        refine ⟨rfl, _, rfl, _, rfl, ?_⟩
        try dsimp only [tNil, List.nil_append, List.append_nil, List.cons_append]
        refine betw_go isE shE fun r3 dz3 p3 q3 ys3 H8 F8 s8 => ?_
        refine ⟨r3, rfl, fun d hd => ⟨.inr ⟨dz3, _, (F8.same (new_same hd)).ins⟩, ?_⟩⟩
        try dsimp only [tNil, List.nil_append, List.append_nil, List.cons_append]
        refine call_go (f := f1 0) (F8.same (new_same hd)) upd_same (fun s hs => worth0 (n := 0) ?_) fun H9 s9 => ?_
        · rcases asked2 hs with h | h | h | h <;> exact h
        rw [betw_0]
        have s89 : Same H7 H9 := fun b u z => s9 _ _ (new_same hd _ _ (s8 _ _ z))
        have k19 := k18.trans (KeepB.of s89)
        have W9 := W7.same s89
        clear s9 F8 s8 s89 k18 W7
        refine ⟨_, rfl, _, _, rfl, rfl, _, rfl, ?_⟩
        by_cases h1 : lo ≤ 0
        · rw [decide_eq_true h1, Bool.true_and]
          refine iteT ⟨_, rfl, _, _, rfl, rfl, rfl, _, rfl, ?_⟩
          rw [decide_eq_true (show V.bl (decide (0 ≤ hi)) = V.bl (decide (0 ≤ hi)) from rfl)]
          refine iteF ⟨_, rfl, le (Nat.le_of_ble_eq_true rfl), fun ta ga => ⟨le (Nat.le_of_ble_eq_true rfl), fun la gb => ⟨le (Nat.le_of_ble_eq_true rfl), fun q8 g8 => ?_⟩⟩⟩
          have sA : Same H9 (upd (upd H9 ta (.tup [.str "x"])) la (.lst [.str "x"])) := fun b u z => new_same gb _ _ (new_same ga _ _ z)
          have bad : ∀ {z : Str}, z.length ≤ 1000 → (Txt.split z ".").length ≤ 1000 → (∀ x ∈ Txt.split z ".", x.length ≤ 1000) → isTerm z = false → OddV K (upd (upd H9 ta (.tup [.str "x"])) la (.lst [.str "x"])) (.str z) := fun x1 x2 x3 x4 => ⟨_, .str _ ⟨x1, x2, x3⟩, x4⟩
          have all8 : ∀ y ∈ [V.str "A", .str "a.", .str "a.b.c", .non, .int 5, .ref ta, .str "abcdefghi", .ref la], OddV K (upd (upd H9 ta (.tup [.str "x"])) la (.lst [.str "x"])) y :=
            all_cons (bad (by decide +kernel) (by decide +kernel) (by decide +kernel) (by decide +kernel)) (all_cons (bad (by decide +kernel) (by decide +kernel) (by decide +kernel) (by decide +kernel)) (all_cons (bad (by decide +kernel) (by decide +kernel) (by decide +kernel) (by decide +kernel))
              (all_cons ⟨_, .non, rfl⟩ (all_cons ⟨_, .int 5, rfl⟩ (all_cons ⟨_, (Is.tup (SqT.of upd_same) (.cons (.str "x" ⟨by decide +kernel, by decide +kernel, by decide +kernel⟩) .nil) (Nat.le_of_ble_eq_true rfl) : Is K (upd H9 ta (.tup [.str "x"])) (.ref ta) (.tup [.str "x"])).same (new_same gb), rfl⟩
              (all_cons (bad (by decide +kernel) (by decide +kernel) (by decide +kernel) (by decide +kernel)) (all_cons ⟨_, .lst ⟨_, SqL.of upd_same⟩, rfl⟩ all_nil)))))))
          have WA := W9.same sA
          generalize upd (upd H9 ta (.tup [.str "x"])) la (.lst [.str "x"]) = HA at sA all8 WA g8 ⊢
          have W8' := WA.same (new_same (o := .lst [V.str "A", .str "a.", .str "a.b.c", .non, .int 5, .ref ta, .str "abcdefghi", .ref la]) g8)
          refine ⟨wl, q8, _, _, rfl, W8', by decide, (WA.ne g8).symm, SqL.of upd_same, Nat.le_of_ble_eq_true rfl, Nat.le_of_ble_eq_true rfl, fun rr vo xs8 hv W10 => ?_⟩
          obtain ⟨dv, hdv, hno⟩ := all8 vo (List.mem_of_getElem? hv)
          have kAB : KeepB wl HA (upd (upd HA q8 (.lst [V.str "A", .str "a.", .str "a.b.c", .non, .int 5, .ref ta, .str "abcdefghi", .ref la])) wl (.lst xs8)) := (KeepB.of (new_same g8)).trans KeepB.at
          have hvo : Is K (upd (upd HA q8 (.lst [V.str "A", .str "a.", .str "a.b.c", .non, .int 5, .ref ta, .str "abcdefghi", .ref la])) wl (.lst xs8)) vo dv := by
            obtain ⟨_, e1⟩ := WA.lst
            exact Is.keep e1 upd_same kAB hdv
          have k20 := k19.trans ((KeepB.of sA).trans kAB)
          generalize upd (upd HA q8 (.lst [V.str "A", .str "a.", .str "a.b.c", .non, .int 5, .ref ta, .str "abcdefghi", .ref la])) wl (.lst xs8) = H10 at W10 hvo k20 ⊢
          have t10 := Tabs.keep hwl t3 k20
          have h210 := k20 _ _ nl2 h23
          clear sA all8 WA g8 W8' kAB k19 k20 W9 hdv W10
          refine ⟨t10, fun H11 e11 t11 => ?_⟩
          have hvo11 := Is.ext e11 hvo
          have h211 := e11 _ _ h210 fun _ z => nomatch z
          refine ⟨rfl, _, rfl, _, rfl, _, rfl, ?_⟩
          try dsimp only [tNil, List.nil_append, List.append_nil, List.cons_append]
          refine ⟨_, _, _, _, _, _, rfl, hvo11, .int lo, .int hi, bad2 (.inr hno) fun d H12 s12 hd => ⟨rfl, d, 0, rfl, hd, rfl, _, rfl, iteF ?_⟩⟩
          have hvo12 := hvo11.same s12
          have h212 := s12 _ _ h211
          have t12 := Tabs.same t11 s12
          refine ⟨t12, fun H13 e13 t13 => ?_⟩
          have hvo13 := Is.ext e13 hvo12
          have h213 := e13 _ _ h212 fun _ z => nomatch z
          refine ⟨rfl, _, rfl, _, rfl, ?_⟩
          try dsimp only [tNil, List.nil_append, List.append_nil, List.cons_append]
          refine ⟨_, _, _, _, _, _, rfl, .str t ht3, hvo13, .int 0, bad2 (.inr hno) fun d H14 s14 hd => ⟨rfl, d, 0, rfl, hd, rfl, _, rfl, iteF ?_⟩⟩
          have hvo14 := hvo13.same s14
          have h214 := s14 _ _ h213
          have t14 := Tabs.same t13 s14
          refine ⟨t14, fun H15 e15 t15 => ?_⟩
          have hvo15 := Is.ext e15 hvo14
          have h215 := e15 _ _ h214 fun _ z => nomatch z
          refine ⟨rfl, _, rfl, _, rfl, ?_⟩
          try dsimp only [tNil, List.nil_append, List.append_nil, List.cons_append]
          refine ⟨_, _, _, _, _, _, rfl, hvo15, .str t ht3, .int 0, bad2 (.inl hno) fun d H16 s16 hd => ⟨rfl, d, 0, rfl, hd, rfl, _, rfl, iteF ?_⟩⟩
          exact ⟨_, _, _, _, _, _, _, _, _, _, _, _, rfl, s16 _ _ h215, Tabs.same t15 s16⟩
        · rw [decide_eq_false h1, Bool.false_and]
          refine iteF ⟨rfl, _, rfl, ?_⟩
          rw [decide_eq_true (show V.bl false = V.bl false from rfl)]
          refine iteF ⟨_, rfl, le (Nat.le_of_ble_eq_true rfl), fun ta ga => ⟨le (Nat.le_of_ble_eq_true rfl), fun la gb => ⟨le (Nat.le_of_ble_eq_true rfl), fun q8 g8 => ?_⟩⟩⟩
          have sA : Same H9 (upd (upd H9 ta (.tup [.str "x"])) la (.lst [.str "x"])) := fun b u z => new_same gb _ _ (new_same ga _ _ z)
          have bad : ∀ {z : Str}, z.length ≤ 1000 → (Txt.split z ".").length ≤ 1000 → (∀ x ∈ Txt.split z ".", x.length ≤ 1000) → isTerm z = false → OddV K (upd (upd H9 ta (.tup [.str "x"])) la (.lst [.str "x"])) (.str z) := fun x1 x2 x3 x4 => ⟨_, .str _ ⟨x1, x2, x3⟩, x4⟩
          have all8 : ∀ y ∈ [V.str "A", .str "a.", .str "a.b.c", .non, .int 5, .ref ta, .str "abcdefghi", .ref la], OddV K (upd (upd H9 ta (.tup [.str "x"])) la (.lst [.str "x"])) y :=
            all_cons (bad (by decide +kernel) (by decide +kernel) (by decide +kernel) (by decide +kernel)) (all_cons (bad (by decide +kernel) (by decide +kernel) (by decide +kernel) (by decide +kernel)) (all_cons (bad (by decide +kernel) (by decide +kernel) (by decide +kernel) (by decide +kernel))
              (all_cons ⟨_, .non, rfl⟩ (all_cons ⟨_, .int 5, rfl⟩ (all_cons ⟨_, (Is.tup (SqT.of upd_same) (.cons (.str "x" ⟨by decide +kernel, by decide +kernel, by decide +kernel⟩) .nil) (Nat.le_of_ble_eq_true rfl) : Is K (upd H9 ta (.tup [.str "x"])) (.ref ta) (.tup [.str "x"])).same (new_same gb), rfl⟩
              (all_cons (bad (by decide +kernel) (by decide +kernel) (by decide +kernel) (by decide +kernel)) (all_cons ⟨_, .lst ⟨_, SqL.of upd_same⟩, rfl⟩ all_nil)))))))
          have WA := W9.same sA
          generalize upd (upd H9 ta (.tup [.str "x"])) la (.lst [.str "x"]) = HA at sA all8 WA g8 ⊢
          have W8' := WA.same (new_same (o := .lst [V.str "A", .str "a.", .str "a.b.c", .non, .int 5, .ref ta, .str "abcdefghi", .ref la]) g8)
          refine ⟨wl, q8, _, _, rfl, W8', by decide, (WA.ne g8).symm, SqL.of upd_same, Nat.le_of_ble_eq_true rfl, Nat.le_of_ble_eq_true rfl, fun rr vo xs8 hv W10 => ?_⟩
          obtain ⟨dv, hdv, hno⟩ := all8 vo (List.mem_of_getElem? hv)
          have kAB : KeepB wl HA (upd (upd HA q8 (.lst [V.str "A", .str "a.", .str "a.b.c", .non, .int 5, .ref ta, .str "abcdefghi", .ref la])) wl (.lst xs8)) := (KeepB.of (new_same g8)).trans KeepB.at
          have hvo : Is K (upd (upd HA q8 (.lst [V.str "A", .str "a.", .str "a.b.c", .non, .int 5, .ref ta, .str "abcdefghi", .ref la])) wl (.lst xs8)) vo dv := by
            obtain ⟨_, e1⟩ := WA.lst
            exact Is.keep e1 upd_same kAB hdv
          have k20 := k19.trans ((KeepB.of sA).trans kAB)
          generalize upd (upd HA q8 (.lst [V.str "A", .str "a.", .str "a.b.c", .non, .int 5, .ref ta, .str "abcdefghi", .ref la])) wl (.lst xs8) = H10 at W10 hvo k20 ⊢
          have t10 := Tabs.keep hwl t3 k20
          have h210 := k20 _ _ nl2 h23
          clear sA all8 WA g8 W8' kAB k19 k20 W9 hdv W10
          refine ⟨t10, fun H11 e11 t11 => ?_⟩
          have hvo11 := Is.ext e11 hvo
          have h211 := e11 _ _ h210 fun _ z => nomatch z
          refine ⟨rfl, _, rfl, _, rfl, _, rfl, ?_⟩
          try dsimp only [tNil, List.nil_append, List.append_nil, List.cons_append]
          refine ⟨_, _, _, _, _, _, rfl, hvo11, .int lo, .int hi, bad2 (.inr hno) fun d H12 s12 hd => ⟨rfl, d, 0, rfl, hd, rfl, _, rfl, iteF ?_⟩⟩
          have hvo12 := hvo11.same s12
          have h212 := s12 _ _ h211
          have t12 := Tabs.same t11 s12
          refine ⟨t12, fun H13 e13 t13 => ?_⟩
          have hvo13 := Is.ext e13 hvo12
          have h213 := e13 _ _ h212 fun _ z => nomatch z
          refine ⟨rfl, _, rfl, _, rfl, ?_⟩
          try dsimp only [tNil, List.nil_append, List.append_nil, List.cons_append]
          refine ⟨_, _, _, _, _, _, rfl, .str t ht3, hvo13, .int 0, bad2 (.inr hno) fun d H14 s14 hd => ⟨rfl, d, 0, rfl, hd, rfl, _, rfl, iteF ?_⟩⟩
          have hvo14 := hvo13.same s14
          have h214 := s14 _ _ h213
          have t14 := Tabs.same t13 s14
          refine ⟨t14, fun H15 e15 t15 => ?_⟩
          have hvo15 := Is.ext e15 hvo14
          have h215 := e15 _ _ h214 fun _ z => nomatch z
          refine ⟨rfl, _, rfl, _, rfl, ?_⟩
          try dsimp only [tNil, List.nil_append, List.append_nil, List.cons_append]
          refine ⟨_, _, _, _, _, _, rfl, hvo15, .str t ht3, .int 0, bad2 (.inl hno) fun d H16 s16 hd => ⟨rfl, d, 0, rfl, hd, rfl, _, rfl, iteF ?_⟩⟩
          exact ⟨_, _, _, _, _, _, _, _, _, _, _, _, rfl, s16 _ _ h215, Tabs.same t15 s16⟩
  · rintro σ H2 ⟨o1, o2, o3, o4, o5, o6, o7, o8, o9, o10, o11, o12, rfl, h2, t2⟩
    exact q0 _
end
end Kx
namespace Kx
open PySem L2 PySem.Spec PyProof.Rows
/-! what the top has left, and the law's head -/
structure Law (K : PySem.W.Frag) (mg : Str → Option Value) (fa : Addr) : Prop where
  ex : ∃ (B CB fB C fI fX fY fE fC CN fN gH gW gR c0 PT : Addr) (fdB fdI fdX fdY fdE fdC fdN fdH fdW fdR : FuncData) (ds : List Value) (mc : Value), LawOf K mg B CB fB C fI fX fY fE fC CN fN gH gW gR fdB fdI fdX fdY fdE fdC fdN fdH fdW fdR ds mc ∧
    PySem.W.tabIn K "law" = some (c0, PT) ∧ K.lookup PT = none ∧ ∃ (oc kV doc pm ct : Value) (od an : Option Addr) (osl : Array (Option Value)), K.lookup fa = some ⟨oc, od, .func (PySem.W.fnOf "law" "law" (defArgs sLaw) (defBody sLaw) (defScope sLaw) .none kV doc pm an (.ref c0) ct), osl⟩ ∧ PySem.W.codeIn K (.ref c0) "law" = true
def spLaw (K : PySem.W.Frag) (PT : Addr) : Sp := fun vs H Q _ => ∃ (a : Addr) (ns : List Int), vs = [.ref a] ∧ SqL K H a (ns.map V.int) ∧ ns.length ≤ 63 ∧ H PT = some (.tbl #[]) ∧ ∀ H', Q (.bl true) H'
theorem walk {l : PySem.W.OpenLaw} {q : Program} {loose : List Str} {XP : (Str → Option Value) → Heap → Prop} {YP : World → Heap → Prop} {d : DefRec} {K : Params → PySem.W.Frag} (hn : l.most = some 63) (hdf : d.params.defaults = []) (hq : (recsOf q).find? (fun e => e.name == (Str.ofString "law")) = some d)
    (hY : ∀ (w : World) (h : Heap), YP w h → (K w.params).In h)
    (F : ∀ (w : World) (mg : Str → Option Value) (fa : Addr) (h : Heap), (K w.params).In h → h.Ns mainGlobals mg → mg d.name = some (.ref fa) → Law (K w.params) mg fa) :
    PySem.W.WalkO q loose XP YP l.row.toRowW d [] (fun f vs => PySem.call f vs) := by
  refine Att.attach_call hn hdf fun w s₀ s₁ mg mb fa o pm cd doc a vs ns G Y ho hd hcd hmg hobj hints hlen hg => ?_
  have KX := hY w _ Y
  obtain ⟨B, CB, fB, C, fI, fX, fY, fE, fC, CN, fN, gH, gW, gR, c0, PT, fdB, fdI, fdX, fdY, fdE, fdC, fdN, fdH, fdW, fdR, ds, mc, M, ht, nP, oc, kV, dc, pm', ct, od, an, osl, lk, hc⟩ := (F w mg fa _ KX G.T.g hmg).ex
  obtain ⟨t1, t2⟩ := PySem.W.tab_of G.T KX hq ht
  have one : ∀ {p : Addr × Addr}, p ∈ [(c0, PT)] → p = (c0, PT) := fun hp => List.mem_singleton.mp hp
  refine LamX.law_callTs (CX := CX0) (k := 11) (cs := [(c0, PT)]) (x := "_law_script") (fd := PySem.W.fnOf "law" "law" (defArgs sLaw) (defBody sLaw) (defScope sLaw) .none kV dc pm' an (.ref c0) ct) (sp := spLaw (K w.params) PT) KX G.T.g G.T.b G.T.builtins G.T.nolimit hg (fun p hp => by rw [one hp]; exact t2) (fun p hp => by rw [one hp]; exact nP) (fun p hp => by rw [one hp]; exact t1) G.T.bmain hobj hints
    (Nat.le_of_lt (small1000 (by omega))) ⟨rfl, by decide, by decide⟩ (fun base KB NB TB => ?_) (fun s u => .of_eq rfl) (fun H hH hS => ⟨a, ns, rfl, hS, hlen, hH _ List.mem_cons_self, fun _ => rfl⟩) (fun _ _ _ h => h)
  have TB0 := TB _ List.mem_cons_self
  refine fn_of lk hc scL (fun vs H Q E h => ?_) fun A outer s H vs Q E hr h => ?_
  · obtain ⟨a, ns, rfl, _⟩ := h
    rfl
  · obtain ⟨a, ns, rfl, hS, hl, hT, q⟩ := h
    obtain ⟨t, h1, h2⟩ := law_body (P := l.prog) (w := w) M TB0 fa A outer s H E q hr hS hl hT
    exact ⟨t, h1.nox, h2⟩
end Kx
namespace Kx
open PySem L2 PySem.Spec PyProof.Rows
section
variable {K : PySem.W.Frag} {mg : Str → Option Value} {h : Heap} {B C : Addr}
theorem ct_mk {nm q : Str} {N : Addr} {bs : List Value} {sn : List Str} {sub : List Value} {ab : Bool} {col : Option Bool} {dd : Option Addr} {k0 k1 k2 k3 k5 : Option Value}
    (x : K.lookup C = some (excClassObj nm q C N bs (.ref B :: veL) true sn sub ab col dd k0 k1 k2 k3 k5 "ValueError.__new__")) (sa : PySem.W.findIn K (.ref C) "__setattr__" = some (some (.builtin "object.__setattr__")))
    (ga : PySem.W.findIn K (.ref C) "__getattribute__" = some (some (.builtin "BaseException.__getattribute__"))) (gg : PySem.W.findIn K (.ref C) "__getattr__" = some none) (tyC : PySem.W.typeIn K (.ref C) = some (.type "type")) (kC : PySem.W.keepIn K (.ref C) = true)
    (hdC : PySem.W.hasDictIn K C = true) (ha : PySem.W.findIn K (.ref C) "__class__" = some (some (.builtin "object.__class__"))) : Ct K B C := ⟨⟨nm, q, N, bs, sn, sub, ab, col, dd, k0, k1, k2, k3, k5, x⟩, sa, ga, gg, tyC, kC, hdC, ha⟩
theorem def_mk {x : Str} {st : Stmt} {ps : List Str} {f : Addr} {oc : Value} {od an : Option Addr} {osl : Array (Option Value)} {kV doc pm cdv ct : Value} (X : K.In h) (G : h.Ns mainGlobals mg) (m : PySem.W.nsIn K mainGlobals x = some (some (.ref f)))
    (l : K.lookup f = some ⟨oc, od, .func (PySem.W.fnOf x x (defArgs st) (defBody st) (defScope st) .none kV doc pm an cdv ct), osl⟩) (c : PySem.W.codeIn K cdv x = true) (k : PySem.W.keepIn K (.ref f) = true)
    (b : ∀ (kV doc pm : Value) (an : Option Addr) (cdv ct : Value) (us : List Value), us.length = ps.length → bindArgs (PySem.W.fnOf x x (defArgs st) (defBody st) (defScope st) .none kV doc pm an cdv ct) ⟨us, []⟩ = pure (ps.zip us)) :
    ∃ f fd, Fs K mg x st ps f fd := ⟨f, _, fun_mk l c k, (fun_mk (st := st) l c k).binds b, PySem.W.mg_of X G m⟩
theorem bad_mk {CB f : Addr} {oc : Value} {od an : Option Addr} {osl : Array (Option Value)} {kV doc pm cdv ct : Value} (T : Ct K B CB) (iC : PySem.W.findIn K (.ref CB) "__init__" = some (some (.ref f))) (tI : PySem.W.typeIn K (.ref f) = some (.type "function"))
    (l : K.lookup f = some ⟨oc, od, .func (PySem.W.fnOf "__init__" "BadCond.__init__" (defArgs (inClass (top 3) 0)) (defBody (inClass (top 3) 0)) (defScope (inClass (top 3) 0)) .none kV doc pm an cdv ct), osl⟩) (c : PySem.W.codeIn K cdv "BadCond.__init__" = true) (k : PySem.W.keepIn K (.ref f) = true)
    (no : ∀ x ∈ ([("clause" : Str)] : List Str), PySem.W.findIn K (.ref CB) x = some none) (gm : mg "BadCond" = some (.ref CB)) : ∃ fd, Bad K mg B CB f fd :=
  ⟨_, T, no, iC, tI, fun_mk l c k, (fun_mk (st := inClass (top 3) 0) l c k).binds (fun _ _ _ _ _ _ us hl => match us, hl with | [_, _], _ => rfl), gm⟩
theorem nov_mk {CB f : Addr} {oc : Value} {od an : Option Addr} {osl : Array (Option Value)} {kV doc pm cdv ct : Value} (T : Ct K B CB) (iC : PySem.W.findIn K (.ref CB) "__init__" = some (some (.ref f))) (tI : PySem.W.typeIn K (.ref f) = some (.type "function"))
    (l : K.lookup f = some ⟨oc, od, .func (PySem.W.fnOf "__init__" "NoValue.__init__" (defArgs (inClass (top 4) 0)) (defBody (inClass (top 4) 0)) (defScope (inClass (top 4) 0)) .none kV doc pm an cdv ct), osl⟩) (c : PySem.W.codeIn K cdv "NoValue.__init__" = true) (k : PySem.W.keepIn K (.ref f) = true)
    (no : ∀ x ∈ ([("term" : Str)] : List Str), PySem.W.findIn K (.ref CB) x = some none) (gm : mg "NoValue" = some (.ref CB)) : ∃ fd, NoV K mg B CB f fd :=
  ⟨_, T, no, iC, tI, fun_mk l c k, (fun_mk (st := inClass (top 4) 0) l c k).binds (fun _ _ _ _ _ _ us hl => match us, hl with | [_, _], _ => rfl), gm⟩
theorem call_mk {f : Addr} {oc : Value} {od an : Option Addr} {osl : Array (Option Value)} {kV doc pm cdv ct : Value} (l : K.lookup f = some ⟨oc, od, .func (PySem.W.fnOf "__call__" "Cond.__call__" (defArgs sCall) (defBody sCall) (defScope sCall) .none kV doc pm an cdv ct), osl⟩) (c : PySem.W.codeIn K cdv "Cond.__call__" = true) (k : PySem.W.keepIn K (.ref f) = true) :
    ∃ fd, Fun K "__call__" "Cond.__call__" sCall f fd ∧ Binds K fd ["self", "values"] [] := ⟨_, fun_mk l c k, (fun_mk (st := sCall) l c k).binds (fun _ _ _ _ _ _ us hl => match us, hl with | [_, _], _ => rfl)⟩
theorem eq_mk {f : Addr} {oc : Value} {od an : Option Addr} {osl : Array (Option Value)} {kV doc pm cdv ct : Value} (l : K.lookup f = some ⟨oc, od, .func (PySem.W.fnOf "__eq__" "Cond.__eq__" (defArgs sEqC) (defBody sEqC) (defScope sEqC) .none kV doc pm an cdv ct), osl⟩) (c : PySem.W.codeIn K cdv "Cond.__eq__" = true) (k : PySem.W.keepIn K (.ref f) = true) :
    ∃ fd, Fun K "__eq__" "Cond.__eq__" sEqC f fd ∧ Binds K fd ["self", "other"] [] := ⟨_, fun_mk l c k, (fun_mk (st := sEqC) l c k).binds (fun _ _ _ _ _ _ us hl => match us, hl with | [_, _], _ => rfl)⟩
theorem betw_mk {f : Addr} {oc : Value} {od an : Option Addr} {osl : Array (Option Value)} {kV doc pm cdv ct : Value} (l : K.lookup f = some ⟨oc, od, .func (PySem.W.fnOf "between" "Cond.between" (defArgs sBetw) (defBody sBetw) (defScope sBetw) .none kV doc pm an cdv ct), osl⟩) (c : PySem.W.codeIn K cdv "Cond.between" = true) (k : PySem.W.keepIn K (.ref f) = true) :
    ∃ fd, Fun K "between" "Cond.between" sBetw f fd ∧ Binds K fd ["term", "low", "high"] [] := ⟨_, fun_mk l c k, (fun_mk (st := sBetw) l c k).binds (fun _ _ _ _ _ _ us hl => match us, hl with | [_, _, _], _ => rfl)⟩
theorem init_mk {f : Addr} {oc : Value} {od an : Option Addr} {osl : Array (Option Value)} {kV doc pm cdv ct : Value} (l : K.lookup f = some ⟨oc, od, .func (PySem.W.fnOf "__init__" "Cond.__init__" (defArgs sInit) (defBody sInit) (defScope sInit) .none kV doc pm an cdv ct), osl⟩) (c : PySem.W.codeIn K cdv "Cond.__init__" = true) (k : PySem.W.keepIn K (.ref f) = true) :
    ∃ fd, Fun K "__init__" "Cond.__init__" sInit f fd := ⟨_, fun_mk l c k⟩
theorem eql_mk {f D : Addr} {oc : Value} {od an : Option Addr} {osl : Array (Option Value)} {doc pm cdv ct : Value} {tk : Tok} (l : K.lookup f = some ⟨oc, od, .func (PySem.W.fnOf "equal" "Cond.equal" (defArgs sEqual) (defBody sEqual) (defScope sEqual) .none (.ref D) doc pm an cdv ct), osl⟩) (c : PySem.W.codeIn K cdv "Cond.equal" = true) (k : PySem.W.keepIn K (.ref f) = true) (hd : PySem.W.nsIn K D "plus" = some (some (.int 0 tk))) :
    ∃ fd ds, Fun K "equal" "Cond.equal" sEqual f fd ∧ Binds K fd ["left", "right", "plus"] ds ∧ Vals [V.int 0] ds ∧ KBn K fd ["left", "right", "plus"] 2 ["plus"] (fun us ws => us ++ ws) (fun vs zs => vs ++ zs) := by
  have F : FunD K "equal" "Cond.equal" (defArgs sEqual) (defBody sEqual) (defScope sEqual) [] [("plus", V.int 0)] f (PySem.W.fnOf "equal" "Cond.equal" (defArgs sEqual) (defBody sEqual) (defScope sEqual) .none (.ref D) doc pm an cdv ct) :=
    ⟨⟨oc, od, .none, .ref D, doc, pm, an, cdv, ct, osl, rfl, l, c, .inl ⟨rfl, rfl⟩, .inr ⟨D, rfl, fun q hq => by rw [List.mem_singleton.mp hq]; exact ⟨_, hd, ⟨_, rfl⟩⟩⟩⟩, k⟩
  obtain ⟨ds, h1, h2⟩ := FunD.binds0 (ps := ["left", "right", "plus"]) F 2 (by simp) rfl (fun D doc pm an cdv ct us ks h1 h2 => match us, ks, h1, h2 with | [_, _], [_], _, _ => ⟨_, _, _, _, _, _, rfl, rfl, rfl⟩)
  exact ⟨_, ds, fun_mk l c k, h2, h1, ⟨fun s us ws _ h1 h2 => match us, ws, h1, h2 with | [_, _], [_], _, _ => .of_eq rfl, fun r1 r2 => r1.append r2⟩⟩
end
theorem all_mk {K : PySem.W.Frag} {mg : Str → Option Value} {h : Heap} {B CB fB C fI fa fl CN fN fC fE fX fY pX pY c0 PT : Addr} {t1 t2 t3 t4 : Tok} {oc kV doc pm cdv ct : Value} {od an0 : Option Addr} {osl : Array (Option Value)} (X : K.In h) (G : h.Ns mainGlobals mg)
    (mC : PySem.W.nsIn K mainGlobals "Cond" = some (some (.ref C))) (mCB : PySem.W.nsIn K mainGlobals "BadCond" = some (some (.ref CB))) (mCN : PySem.W.nsIn K mainGlobals "NoValue" = some (some (.ref CN))) (mB : PySem.W.nsIn K mainGlobals "ContractError" = some (some (.ref B))) (mLet : PySem.W.nsIn K mainGlobals "LETTERS" = some (some (.str lets t1))) (mLong : PySem.W.nsIn K mainGlobals "LONGEST_WORD" = some (some (.int 8 t2))) (mML : PySem.W.nsIn K mainGlobals "MOST_LITERALS" = some (some (.int 2 t3))) (mMC : PySem.W.nsIn K mainGlobals "MOST_CLAUSES" = some (some (.int 4 t4))) (z_isinstance : PySem.W.nsIn K mainGlobals "isinstance" = some none) (z_int : PySem.W.nsIn K mainGlobals "int" = some none) (z_bool : PySem.W.nsIn K mainGlobals "bool" = some none) (z_str : PySem.W.nsIn K mainGlobals "str" = some none) (z_tuple : PySem.W.nsIn K mainGlobals "tuple" = some none) (z_len : PySem.W.nsIn K mainGlobals "len" = some none) (z_all : PySem.W.nsIn K mainGlobals "all" = some none) (z_sorted : PySem.W.nsIn K mainGlobals "sorted" = some none) (z_enumerate : PySem.W.nsIn K mainGlobals "enumerate" = some none) (z_any : PySem.W.nsIn K mainGlobals "any" = some none) (c1 : PySem.W.plainGet K C Str.empty = true) (c2 : PySem.W.hasDictIn K C = true) (c3 : PySem.W.plainOver K C = true) (c4 : PySem.W.findIn K (.ref C) "__setattr__" = some (some (.builtin "object.__setattr__"))) (nc : PySem.W.findIn K (.ref C) "clauses" = some none) (nt : PySem.W.findIn K (.ref C) "terms" = some none) (k1 : PySem.W.makesIn K C = true) (k2 : PySem.W.findIn K (.ref C) "__init__" = some (some (.ref fI))) (k3 : PySem.W.isFn K (.ref fI) = true) (k4 : PySem.W.keepIn K (.ref C) = true) (y1 : PySem.W.findIn K (.ref C) "__class__" = some (some (.builtin "object.__class__"))) (y2 : PySem.W.specialIn K (.builtin "object.__class__") "__get__" = some (some (.builtin "getset_descriptor.__get__"))) (y3 : PySem.W.takesIn K (.builtin "object.__class__") = some true) (y4 : PySem.W.mroIn K C (.type "object") = some true) (q1 : PySem.W.findIn K (.ref C) "__call__" = some (some (.ref fC))) (q2 : PySem.W.isFn K (.ref fC) = true) (q3 : PySem.W.fnIn K fC = true) (e1 : PySem.W.findIn K (.ref C) "__eq__" = some (some (.ref fE))) (e2 : PySem.W.isFn K (.ref fE) = true) (sS : PySem.W.subIn K (.type "str") (.ref C) = some false) (sT : PySem.W.subIn K (.type "tuple") (.ref C) = some false) (kc : PySem.W.clsIn K C = some xcd) (kt2 : PySem.W.typeIn K (.ref C) = some (.type "type")) (xl : K.lookup C = some (excClassObj xnm xq C xN xbs [.type "object"] xhd xsn xsub xab xcol xdd xk0 xk1 xk2 xk3 xk5 xnew)) (xnl : K.lookup xN = some ⟨xa, xb, .dict xes xep, xsl⟩) (xna : (xes.all fun e => match e.key with | .str _ _ => true | _ => false) = true) (xe : PySem.W.nsIn K xN "__eq__" = some (some (.ref fE))) (xne : PySem.W.nsIn K xN "__ne__" = some none) (xf : K.lookup fE = some xo) (xfc : xo.cls = .type "function") (srd : PySem.W.readsIn K C (.type "type") = true) (sga : PySem.W.specialIn K (.ref C) "__getattribute__" = some (some (.builtin "type.__getattribute__"))) (fx1 : PySem.W.findCls K (.ref C) (.type "type") "between" = some (.get (.builtin "staticmethod.__get__") (.ref pX) .none (.ref C))) (fx2 : PySem.W.recIn K pX "staticmethod" = some (.ref fX :: rX)) (fx3 : PySem.W.keepIn K (.ref fX) = true) (fy1 : PySem.W.findCls K (.ref C) (.type "type") "equal" = some (.get (.builtin "staticmethod.__get__") (.ref pY) .none (.ref C))) (fy2 : PySem.W.recIn K pY "staticmethod" = some (.ref fY :: rY)) (fy3 : PySem.W.keepIn K (.ref fY) = true) (h3 : PySem.W.isClsIn K CB = true) (h4 : PySem.W.typeIn K (.ref CB) = some (.type "type")) (h5 : PySem.W.subIn K (.ref CB) (.type "BaseException") = some true) (h6 : PySem.W.hasDictIn K CB = true) (g3 : PySem.W.isClsIn K B = true) (g4 : PySem.W.typeIn K (.ref B) = some (.type "type")) (g5 : PySem.W.subIn K (.ref B) (.type "BaseException") = some true) (g6 : PySem.W.hasDictIn K B = true)
    (bad : mg "BadCond" = some (.ref CB) → ∃ fd, Bad K mg B CB fB fd) (nov : mg "NoValue" = some (.ref CN) → ∃ fd, NoV K mg B CN fN fd) (ini : ∃ fd, Fun K "__init__" "Cond.__init__" sInit fI fd) (cal : ∃ fd, Fun K "__call__" "Cond.__call__" sCall fC fd ∧ Binds K fd ["self", "values"] []) (eqm : ∃ fd, Fun K "__eq__" "Cond.__eq__" sEqC fE fd ∧ Binds K fd ["self", "other"] []) (btm : ∃ fd, Fun K "between" "Cond.between" sBetw fX fd ∧ Binds K fd ["term", "low", "high"] []) (eqlm : ∃ fd ds, Fun K "equal" "Cond.equal" sEqual fY fd ∧ Binds K fd ["left", "right", "plus"] ds ∧ Vals [V.int 0] ds ∧ KBn K fd ["left", "right", "plus"] 2 ["plus"] (fun us ws => us ++ ws) (fun vs zs => vs ++ zs)) (d_int : ∃ f fd, Fs K mg "is_integer" sIsInt ["thing"] f fd) (d_word : ∃ f fd, Fs K mg "is_word" sIsWord ["thing"] f fd) (d_term : ∃ f fd, Fs K mg "is_term" sIsTerm ["thing"] f fd) (d_lit : ∃ f fd, Fs K mg "is_literal" sIsLit ["thing"] f fd) (d_litT : ∃ f fd, Fs K mg "is_literal_over_terms" sLitT ["thing"] f fd) (d_cl : ∃ f fd, Fs K mg "is_clause" sIsCl ["thing", "most"] f fd) (d_stand : ∃ f fd, Fs K mg "_can_stand" sStand ["thing"] f fd) (d_first : ∃ f fd, Fs K mg "_first_wrong" sFirst ["clauses"] f fd) (d_holds : ∃ f fd, Fs K mg "_holds" sHolds ["clause", "values"] f fd) (d_worth : ∃ f fd, Fs K mg "_worth" sWorth ["term", "values"] f fd) (d_broken : ∃ f fd, Fs K mg "first_broken" sBroken ["clauses", "values"] f fd) (d_well : ∃ f fd, Fs K mg "_law_well" sWell ["_law_cell"] f fd) (d_draw : ∃ f fd, Fs K mg "_law_draw" sDraw ["_law_well_here", "_law_base"] f fd) (d_one : ∃ f fd, Fs K mg "_law_one" sOne ["_law_well_here", "_law_some"] f fd) (d_num : ∃ f fd, Fs K mg "_law_number" sNum ["_law_well_here"] f fd) (d_minus : ∃ f fd, Fs K mg "_minus" sMinus ["number"] f fd) (d_refd : ∃ f fd, Fs K mg "_law_refused" sRef ["_law_ask"] f fd)
    (hfa : mg "law" = some (.ref fa)) (mL : PySem.W.nsIn K mainGlobals "law" = some (some (.ref fl))) (lL : K.lookup fl = some ⟨oc, od, .func (PySem.W.fnOf "law" "law" (defArgs sLaw) (defBody sLaw) (defScope sLaw) .none kV doc pm an0 cdv ct), osl⟩) (cL : PySem.W.codeIn K cdv "law" = true) (tcd : cdv = .ref c0) (tb1 : K.lookup c0 = some ⟨xc1, xc2, .fields xvs, xc4⟩) (tb2 : (xvs[11]? : Option Value) = some (.ref PT)) (nPT : (K.lookup PT).isNone = true) : Law K mg fa := by
  have e := hfa.symm.trans (PySem.W.mg_of X G mL)
  cases e
  obtain ⟨fdB, bad⟩ := bad (PySem.W.mg_of X G mCB)
  obtain ⟨fdI, ini⟩ := ini
  have kt : PySem.W.kitOne K (.ref C) (.ref C) = some true := by
    unfold PySem.W.kitOne
    rw [if_pos (beq_self_eq_true _)]
  have cl : Cls K C := ⟨c1, c2, c3, c4⟩
  have T : Bx mg := ⟨PySem.W.mg_none_of X G z_isinstance, PySem.W.mg_none_of X G z_int, PySem.W.mg_none_of X G z_bool, PySem.W.mg_none_of X G z_str, PySem.W.mg_none_of X G z_tuple, PySem.W.mg_none_of X G z_len, PySem.W.mg_none_of X G z_all, PySem.W.mg_none_of X G z_sorted, PySem.W.mg_none_of X G z_enumerate, ⟨_, PySem.W.mg_of X G mLet⟩, ⟨_, PySem.W.mg_of X G mLong⟩⟩
  have M : Forms K mg := ⟨T, ⟨_, PySem.W.mg_of X G mML⟩, ⟨_, PySem.W.mg_of X G mMC⟩, d_int, d_word, d_term, d_lit, d_cl, d_stand, d_litT⟩
  have D : Cnd K mg C := ⟨cl, nc, nt, PySem.W.mg_of X G mC, d_first, M⟩
  have A : CondAll K mg B CB fB C fI fdB fdI := ⟨D, bad, ini, ⟨k1, k2, k3, k4⟩, fun H a dx fs e => .base (.ins e cl y1 y2 y3 y4), kt⟩
  have gt : Gt K B := ⟨y2, y3, by unfold PySem.W.isClsIn at g3; exact g3, g4, g5, g6⟩
  obtain ⟨fdN, nov⟩ := nov (PySem.W.mg_of X G mCN)
  obtain ⟨fdC, cal1, cal2⟩ := cal
  obtain ⟨gH, fdH, dH⟩ := d_holds
  obtain ⟨gW, fdW, dWo⟩ := d_worth
  obtain ⟨fdE, eq1, eq2⟩ := eqm
  obtain ⟨fdX, bt1, bt2⟩ := btm
  obtain ⟨fdY, ds, el1, el2, el3, el4⟩ := eqlm
  obtain ⟨gR', fdR, dRef⟩ := d_refd
  have kS : PySem.W.kitOne K (.type "str") (.ref C) = some false := by
    unfold PySem.W.kitOne
    rw [if_neg (by simp)]
    unfold PySem.W.kitCls
    dsimp only
    rw [kc, kt2, sS]
    simp
  have kT : PySem.W.kitOne K (.type "tuple") (.ref C) = some false := by
    unfold PySem.W.kitOne
    rw [if_neg (by simp)]
    unfold PySem.W.kitCls
    dsimp only
    rw [kc, kt2, sT]
    simp
  have xn : PySem.W.nsOkIn K xN = true := by
    unfold PySem.W.nsOkIn
    rw [xnl]
    exact xna
  have EM : EqCls K C fE := ⟨e1, e2, ⟨_, _, _, _, _, _, _, _, _, _, _, _, _, _, _, _, xl, xn, xe, xne⟩, ⟨_, xf, xfc⟩, sS, sT⟩
  have gtC : Gt K CB := ⟨y2, y3, by unfold PySem.W.isClsIn at h3; exact h3, h4, h5, h6⟩
  have tb : PySem.W.tabIn K "law" = some (c0, PT) := by
    unfold PySem.W.tabIn
    rw [mL]
    dsimp only
    rw [lL]
    show (match cdv with | .ref c => _ | _ => none) = _
    rw [tcd]
    dsimp only
    rw [tb1]
    dsimp only
    rw [tb2]
  subst tcd
  refine ⟨⟨B, CB, fB, C, fI, fX, fY, fE, fC, CN, fN, gH, gW, gR', c0, PT, fdB, fdI, fdX, fdY, fdE, fdC, fdN, fdH, fdW, fdR, ds, .type "type", ⟨A, ⟨srd, sga⟩, ⟨pX, fx1, ⟨_, fx2⟩, fx3⟩, ⟨pY, fy1, ⟨_, fy2⟩, fy3⟩, bt1, bt2, el1, el2, el3, el4, d_minus, eq1, eq2, EM, kS, kT, cal1, cal2, nov, dH, dWo, PySem.W.mg_none_of X G z_any, PySem.W.mg_none_of X G z_enumerate, d_broken, ⟨q1, q2, q3⟩, gtC, ⟨⟨PySem.W.mg_none_of X G z_int, PySem.W.mg_none_of X G z_len⟩, d_well, d_draw, d_one⟩, d_num, dRef⟩, tb, Option.isNone_iff_eq_none.mp nPT, oc, kV, doc, pm, ct, od, an0, osl, lL, cL⟩⟩
end Kx
open PySem PySem.W PyProof.Rows
set_option maxRecDepth 100000 in
set_option maxHeartbeats 0 in
theorem PySem.Challenge.cw_contractheirs_k04_between_and_equal_holds : PySem.Challenge.rw_contractheirs_k04_between_and_equal.Holds := by
  w_on; o_law; k_head; (case hw => w_witness2)
  k_fill
  refine Kx.walk (l := PySem.Challenge.rw_contractheirs_k04_between_and_equal) rfl rfl rfl (fun w h Y => PySem.W.km_in_of Y) ?F
  case F =>
    intro w mg fa h KX G hmg
    refine' Kx.all_mk KX G ?u_mC ?u_mCB ?u_mCN ?u_mB ?u_mLet ?u_mLong ?u_mML ?u_mMC ?u_z_isinstance ?u_z_int ?u_z_bool ?u_z_str ?u_z_tuple ?u_z_len ?u_z_all ?u_z_sorted ?u_z_enumerate ?u_z_any ?u_c1 ?u_c2 ?u_c3 ?u_c4 ?u_nc ?u_nt ?u_k1 ?u_k2 ?u_k3 ?u_k4 ?u_y1 ?u_y2 ?u_y3 ?u_y4 ?u_q1 ?u_q2 ?u_q3 ?u_e1 ?u_e2 ?u_sS ?u_sT ?u_kc ?u_kt2 ?u_xl ?u_xnl ?u_xna ?u_xe ?u_xne ?u_xf ?u_xfc ?u_srd ?u_sga ?u_fx1 ?u_fx2 ?u_fx3 ?u_fy1 ?u_fy2 ?u_fy3 ?u_h3 ?u_h4 ?u_h5 ?u_h6 ?u_g3 ?u_g4 ?u_g5 ?u_g6 (fun gm => Kx.bad_mk (Kx.ct_mk ?ux ?ua ?ub ?uc ?ue ?uf ?ug ?uh) ?ui ?uj ?uk ?ul ?um ?uo gm) (fun gm => Kx.nov_mk (Kx.ct_mk ?nx ?na ?nb ?nc ?ne ?nf ?ng ?nh) ?ni ?nj ?nk ?nl ?nm ?no gm) (Kx.init_mk ?vii ?vij ?vik) (Kx.call_mk ?vci ?vcj ?vck) (Kx.eq_mk ?vm0i ?vm0j ?vm0k) (Kx.betw_mk ?vm1i ?vm1j ?vm1k) (Kx.eql_mk ?wli ?wlj ?wlk ?wll) (Kx.def_mk KX G ?uda0 ?udb0 ?udc0 ?udd0 (fun _ _ _ _ _ _ us hl => match us, hl with | [_], _ => rfl)) (Kx.def_mk KX G ?uda1 ?udb1 ?udc1 ?udd1 (fun _ _ _ _ _ _ us hl => match us, hl with | [_], _ => rfl)) (Kx.def_mk KX G ?uda2 ?udb2 ?udc2 ?udd2 (fun _ _ _ _ _ _ us hl => match us, hl with | [_], _ => rfl)) (Kx.def_mk KX G ?uda3 ?udb3 ?udc3 ?udd3 (fun _ _ _ _ _ _ us hl => match us, hl with | [_], _ => rfl)) (Kx.def_mk KX G ?uda4 ?udb4 ?udc4 ?udd4 (fun _ _ _ _ _ _ us hl => match us, hl with | [_], _ => rfl)) (Kx.def_mk KX G ?uda5 ?udb5 ?udc5 ?udd5 (fun _ _ _ _ _ _ us hl => match us, hl with | [_, _], _ => rfl)) (Kx.def_mk KX G ?uda6 ?udb6 ?udc6 ?udd6 (fun _ _ _ _ _ _ us hl => match us, hl with | [_], _ => rfl)) (Kx.def_mk KX G ?uda7 ?udb7 ?udc7 ?udd7 (fun _ _ _ _ _ _ us hl => match us, hl with | [_], _ => rfl)) (Kx.def_mk KX G ?uda8 ?udb8 ?udc8 ?udd8 (fun _ _ _ _ _ _ us hl => match us, hl with | [_, _], _ => rfl)) (Kx.def_mk KX G ?uda9 ?udb9 ?udc9 ?udd9 (fun _ _ _ _ _ _ us hl => match us, hl with | [_, _], _ => rfl)) (Kx.def_mk KX G ?uda9b ?udb9b ?udc9b ?udd9b (fun _ _ _ _ _ _ us hl => match us, hl with | [_, _], _ => rfl)) (Kx.def_mk KX G ?uda10 ?udb10 ?udc10 ?udd10 (fun _ _ _ _ _ _ us hl => match us, hl with | [_], _ => rfl)) (Kx.def_mk KX G ?uda11 ?udb11 ?udc11 ?udd11 (fun _ _ _ _ _ _ us hl => match us, hl with | [_, _], _ => rfl)) (Kx.def_mk KX G ?uda12 ?udb12 ?udc12 ?udd12 (fun _ _ _ _ _ _ us hl => match us, hl with | [_, _], _ => rfl)) (Kx.def_mk KX G ?uda13 ?udb13 ?udc13 ?udd13 (fun _ _ _ _ _ _ us hl => match us, hl with | [_], _ => rfl)) (Kx.def_mk KX G ?uda14 ?udb14 ?udc14 ?udd14 (fun _ _ _ _ _ _ us hl => match us, hl with | [_], _ => rfl)) (Kx.def_mk KX G ?uda15 ?udb15 ?udc15 ?udd15 (fun _ _ _ _ _ _ us hl => match us, hl with | [_], _ => rfl)) hmg ?umL ?ulL ?ucL ?utcd ?utb1 ?utb2 ?unPT
    (case u_mC => k_is)
    (case u_mCB => k_is)
    (case u_mCN => k_is)
    (case u_mB => k_is)
    (case u_mLet => k_is)
    (case u_mLong => k_is)
    (case u_mML => k_is)
    (case u_mMC => k_is)
    (case u_z_isinstance => k_is)
    (case u_z_int => k_is)
    (case u_z_bool => k_is)
    (case u_z_str => k_is)
    (case u_z_tuple => k_is)
    (case u_z_len => k_is)
    (case u_z_all => k_is)
    (case u_z_sorted => k_is)
    (case u_z_enumerate => k_is)
    (case u_z_any => k_is)
    (case u_c1 => k_is)
    (case u_c2 => k_is)
    (case u_c3 => k_is)
    (case u_c4 => k_is)
    (case u_nc => k_is)
    (case u_nt => k_is)
    (case u_k1 => k_is)
    (case u_k2 => k_is)
    (case u_k3 => k_is)
    (case u_k4 => k_is)
    (case u_y1 => k_is)
    (case u_y2 => k_is)
    (case u_y3 => k_is)
    (case u_y4 => k_is)
    (case u_q1 => k_is)
    (case u_q2 => k_is)
    (case u_q3 => k_is)
    (case u_e1 => k_is)
    (case u_e2 => k_is)
    (case u_sS => k_is)
    (case u_sT => k_is)
    (case u_kc => k_is)
    (case u_kt2 => k_is)
    (case u_xl => k_is)
    (case u_xnl => k_is)
    (case u_xna => simp)
    (case u_xe => k_is)
    (case u_xne => k_is)
    (case u_xf => k_is)
    (case u_xfc => rfl)
    (case u_srd => k_is)
    (case u_sga => k_is)
    (case u_fx1 => k_is)
    (case u_fx2 => k_is)
    (case u_fx3 => k_is)
    (case u_fy1 => k_is)
    (case u_fy2 => k_is)
    (case u_fy3 => k_is)
    (case u_h3 => k_is)
    (case u_h4 => k_is)
    (case u_h5 => k_is)
    (case u_h6 => k_is)
    (case u_g3 => k_is)
    (case u_g4 => k_is)
    (case u_g5 => k_is)
    (case u_g6 => k_is)
    (case ux => k_is)
    (case ua => k_is)
    (case ub => k_is)
    (case uc => k_is)
    (case ue => k_is)
    (case uf => k_is)
    (case ug => k_is)
    (case uh => k_is)
    (case ui => k_is)
    (case uj => k_is)
    (case uk => k_is)
    (case ul => k_is)
    (case um => k_is)
    (case uo => (intro x hx; cases List.mem_singleton.mp hx; k_is))
    (case nx => k_is)
    (case na => k_is)
    (case nb => k_is)
    (case nc => k_is)
    (case ne => k_is)
    (case nf => k_is)
    (case ng => k_is)
    (case nh => k_is)
    (case ni => k_is)
    (case nj => k_is)
    (case nk => k_is)
    (case nl => k_is)
    (case nm => k_is)
    (case no => (intro x hx; cases List.mem_singleton.mp hx; k_is))
    (case vii => k_is)
    (case vij => k_is)
    (case vik => k_is)
    (case vci => k_is)
    (case vcj => k_is)
    (case vck => k_is)
    (case vm0i => k_is)
    (case vm0j => k_is)
    (case vm0k => k_is)
    (case wli => k_is)
    (case wlj => k_is)
    (case wlk => k_is)
    (case wll => k_is)
    (case vm1i => k_is)
    (case vm1j => k_is)
    (case vm1k => k_is)
    (case uda0 => k_is)
    (case udb0 => k_is)
    (case udc0 => k_is)
    (case udd0 => k_is)
    (case uda1 => k_is)
    (case udb1 => k_is)
    (case udc1 => k_is)
    (case udd1 => k_is)
    (case uda2 => k_is)
    (case udb2 => k_is)
    (case udc2 => k_is)
    (case udd2 => k_is)
    (case uda3 => k_is)
    (case udb3 => k_is)
    (case udc3 => k_is)
    (case udd3 => k_is)
    (case uda4 => k_is)
    (case udb4 => k_is)
    (case udc4 => k_is)
    (case udd4 => k_is)
    (case uda5 => k_is)
    (case udb5 => k_is)
    (case udc5 => k_is)
    (case udd5 => k_is)
    (case uda6 => k_is)
    (case udb6 => k_is)
    (case udc6 => k_is)
    (case udd6 => k_is)
    (case uda7 => k_is)
    (case udb7 => k_is)
    (case udc7 => k_is)
    (case udd7 => k_is)
    (case uda8 => k_is)
    (case udb8 => k_is)
    (case udc8 => k_is)
    (case udd8 => k_is)
    (case uda9 => k_is)
    (case udb9 => k_is)
    (case udc9 => k_is)
    (case udd9 => k_is)
    (case uda9b => k_is)
    (case udb9b => k_is)
    (case udc9b => k_is)
    (case udd9b => k_is)
    (case uda10 => k_is)
    (case udb10 => k_is)
    (case udc10 => k_is)
    (case udd10 => k_is)
    (case uda11 => k_is)
    (case udb11 => k_is)
    (case udc11 => k_is)
    (case udd11 => k_is)
    (case uda12 => k_is)
    (case udb12 => k_is)
    (case udc12 => k_is)
    (case udd12 => k_is)
    (case uda13 => k_is)
    (case udb13 => k_is)
    (case udc13 => k_is)
    (case udd13 => k_is)
    (case uda14 => k_is)
    (case udb14 => k_is)
    (case udc14 => k_is)
    (case udd14 => k_is)
    (case uda15 => k_is)
    (case udb15 => k_is)
    (case udc15 => k_is)
    (case udd15 => k_is)
    (case umL => k_is)
    (case ulL => k_is)
    (case ucL => k_is)
    (case utcd => rfl)
    (case utb1 => k_is)
    (case utb2 => rfl)
    (case unPT => first | rfl | with_unfolding_all rfl | decide +kernel)
