import PyProof.Rows.All
import HandS.SetFor
import HandS.Strs
import HandS.SortInts
import KE.SortData
import HandS.ForMost
import HandS.Flow
import HandS.IsInst
import HandS.Deep
import HandS.TupAny
import HandS.Text
import HandS.Iter
import HandS.Zip
import HandS.TupMul
import KE.DataCmp
import HandS.Conv
import PyProof.Rows.SeqMore
import PyProof.Rows.IntBool
import PyProof.ListStr
import PySem.Challenge.RW_doubtborne_k17_faults_strike
set_option Elab.async false
set_option linter.all false
set_option maxRecDepth 100000
namespace L2
open PySem PySem.Spec PyProof.Rows
section
variable {P : Program} {w : World} {A : Around} {E : Value → Shared → Prop} {s : Shared}

set_option maxRecDepth 100000 in
set_option maxHeartbeats 3200000 in
theorem call_set_listI {l : Addr} {items : Array Value} (ns : List Int) {Q : Value → Shared → Prop} (hh : A.handled = none) (hl : s.heap.IsList l items) (hit : IntsAre items.toList ns) (hb : ns.length + 1 < scanBound)
    (h : ∀ (h' : Heap) (tk c : Nat), SetR w h' s.heap.objs.size (fun j => decide (j ∈ ns)) c → c ≤ ns.length → (∀ b o, s.heap.get? b = some o → h'.get? b = some o) → Q (.ref s.heap.objs.size) { s with heap := h', toks := tk }) :
    wpAny (model P w) A (call (.type "set") [.ref l]) Q E s := by
  have hisz : items.size = ns.length := by
    have q := IntsAre.length hit
    rw [Array.length_toList] at q
    exact q
  obtain ⟨c, tl, hmro⟩ := F.called_set.mro
  have hmade := F.called_set.made
  have hsub := F.called_set.sub
  refine wpAny_call (codeAny_of_tree ?_)
  show wpAny _ _ (callAny (.type "set") _) _ _ _
  refine wpAny_pure ⟨Code.quiet_builtin _ (by decide +kernel), codeAny_builtin F.entry_type_call ?_⟩
  rw [Around.under_plain (weight_type_call_type "set" [.ref l] []) rfl]
  have h1 := F.called_set.notType
  have h2 := F.called_set.canCreate
  have hct := F.typeCall_set_1 (.ref l)
  repeat (any_goals (first | assumption | wp_step))

  refine codeAny_mono (code_set_led1 (.ref l) (E := E) (Q₁ := fun obj s₁ => obj = .ref s.heap.objs.size ∧ s₁ = { s with heap := s.heap.push { cls := .type "set", dict := none, data := .set #[] 0 (.fresh 0 0 (!w.params.followText "set-order")) } }) ⟨rfl, rfl⟩) fun r s₁ hr => ?_
  cases r with
  | error e => exact hr
  | ok fl =>
    cases fl with
    | ret obj =>
      obtain ⟨rfl, rfl⟩ := hr
      have hS : (s.heap.push { cls := .type "set", dict := none, data := .set #[] 0 (.fresh 0 0 (!w.params.followText "set-order")) }).get? s.heap.objs.size = some { cls := .type "set", dict := none, data := .set #[] 0 (.fresh 0 0 (!w.params.followText "set-order")) } := Heap.get?_push_size _ rfl
      have hT : Shared.TypeIs { s with heap := s.heap.push { cls := .type "set", dict := none, data := .set #[] 0 (.fresh 0 0 (!w.params.followText "set-order")) } } (.ref s.heap.objs.size) "set" := ⟨_, hS, rfl⟩
      have hli := F.called_set.init.lookup
      have hbi := F.called_set.init.bind (.ref s.heap.objs.size)
      repeat (any_goals (first | assumption | wp_step))

      refine codeAny_mono (codeAny_call_builtin (R := wants (fun r s₂ => r = .none ∧ ∃ h' tk c, s₂ = { s with heap := h', toks := tk } ∧ SetR w h' s.heap.objs.size (fun j => decide (j ∈ ns)) c ∧ c ≤ ns.length ∧
          (∀ b o, s.heap.get? b = some o → h'.get? b = some o)) E) F.called_set.init.plain F.entry_set_init (check_set_init_1 hT ?_)) fun r₂ s₂ hr₂ => ?_
      · obtain ⟨ol, hol, hcl, nl, hdl⟩ := hl
        obtain ⟨ocls, odict, odata, oslots⟩ := ol
        simp only at hcl hdl
        subst hcl; subst hdl
        have hol' : (s.heap.push { cls := .type "set", dict := none, data := .set #[] 0 (.fresh 0 0 (!w.params.followText "set-order")) }).get? l = some { cls := .type "list", dict := odict, data := .seq items nl, slots := oslots } := Heap.get?_push_of_some _ hol
        have hsls := F.sub_list_set
        have hslf := F.sub_list_frozenset
        have hne : (Value.type "list" == Value.type "dict") = false := by decide
        have hl1 : (s.heap.push { cls := .type "set", dict := none, data := .set #[] 0 (.fresh 0 0 (!w.params.followText "set-order")) }).IsList l items := ⟨_, hol', rfl, nl, rfl⟩
        unfold Builtin.«set.__init__» noKeywords Builtin.Frozenset.updateFrom
        generalize hPI : pyIter = PI
        wp_walk
        subst hPI

        refine wpAny_pyIter_list hl1 ?_
        refine wpAny_bind (wpAny_runValue ?_)
        have hlS : l < s.heap.objs.size := Heap.lt_size hol
        have hh3 : A.in1.in1.in1.handled = none := by simp [hh]
        have hz1 : (s.heap.push { cls := .type "set", dict := none, data := .set #[] 0 (.fresh 0 0 (!w.params.followText "set-order")) }).objs.size = s.heap.objs.size + 1 := Heap.size_push ..
        have hneI : l ≠ (s.heap.push { cls := .type "set", dict := none, data := .set #[] 0 (.fresh 0 0 (!w.params.followText "set-order")) }).objs.size := by
          rw [Heap.size_push]; exact Nat.ne_of_lt (Nat.lt_succ_of_lt hlS)
        have hSf : s.heap.objs.size ∉ [(s.heap.push { cls := .type "set", dict := none, data := .set #[] 0 (.fresh 0 0 (!w.params.followText "set-order")) }).objs.size, l] := by
          rw [Heap.size_push]; simp only [List.mem_cons, List.mem_singleton, List.not_mem_nil, or_false, not_or]
          exact ⟨Nat.ne_of_lt (Nat.lt_succ_self _), Nat.ne_of_gt hlS⟩
        have hval : ∀ (i : Nat) (v : Value), items[i]? = some v → ∃ k t, ns[i]? = some k ∧ v = .int k t := fun i v hv => by
          have hi : i < ns.length := by rw [← hisz]; exact (Array.getElem?_eq_some_iff.mp hv).1
          obtain ⟨t, e⟩ := PyProof.Rows.IntsAre.int_at hit i v (by rw [Array.getElem?_toList]; exact hv)
          refine ⟨ns[i], t, List.getElem?_eq_getElem hi, ?_⟩
          rw [e, List.getD_eq_getElem?_getD, List.getElem?_eq_getElem hi] <;> rfl
        refine set_update_ints ((Walks.list hh3 _ l hneI items).toS) s.heap.objs.size
          hSf ns hisz hb hval (items.size - 0) 0 _ (by omega) (Nat.zero_le _)
          ⟨⟨_, Heap.get?_push_size _ rfl, rfl, rfl⟩, (hl1.push _)⟩ ?hS0 ?hR
        case hS0 =>
          have hget : ((s.heap.push { cls := .type "set", dict := none, data := .set #[] 0 (.fresh 0 0 (!w.params.followText "set-order")) }).push { cls := .type "list_iterator", data := .fields #[.ref l, .int 0 0] }).get? s.heap.objs.size
              = some { cls := .type "set", dict := none, data := .set #[] 0 (.fresh 0 0 (!w.params.followText "set-order")) } := Heap.get?_push_of_some _ hS
          exact ⟨0, Nat.le_refl 0, setR_new_at hget⟩
        case hR =>
          intro s' c' hm hc' hS'
          obtain ⟨h', g2, d', tk', os'⟩ := s'
          have eg : g2 = s.gens := hm.gens
          have ed : d' = s.drawn := hm.drawn
          have eo : os' = s.os := hm.os
          subst eg; subst ed; subst eo
          show wpAny _ _ _ _ _ _
          refine wpAny_pure ?_
          show wpAny _ _ (ret Value.none) _ _ _
          rw [hisz] at hc'
          refine wpAny_pure ⟨rfl, h', tk', c', rfl, hS', hc', fun b o e => ?_⟩
          have hb0 : b < s.heap.objs.size := Heap.lt_size e
          have hb1 : b ≠ s.heap.objs.size := Nat.ne_of_lt hb0
          have hb2 : b ≠ (s.heap.push { cls := .type "set", dict := none, data := .set #[] 0 (.fresh 0 0 (!w.params.followText "set-order")) }).objs.size := by
            rw [Heap.size_push]; exact Nat.ne_of_lt (Nat.lt_succ_of_lt hb0)
          exact hm.heap b o (by simp only [List.mem_cons, List.mem_singleton, List.not_mem_nil, or_false, not_or]; exact ⟨hb1, hb2⟩) (Heap.get?_push_of_some _ (Heap.get?_push_of_some _ e))

      · cases r₂ with
        | error e => exact hr₂
        | ok fl₂ =>
          cases fl₂ with
          | ret r =>
            obtain ⟨rfl, h', tk, c', rfl, hS', hc', hk'⟩ := hr₂
            repeat (any_goals (first | assumption | wp_step))
            exact h _ _ _ hS' hc' hk'
          | _ => exact hr₂.elim
    | _ => exact hr.elim
end
end L2

set_option Elab.async false
set_option linter.all false
set_option maxRecDepth 100000
namespace L2
open PySem PySem.Spec PyProof.Rows
section
variable {P : Program} {w : World} {A : Around} {E : Value → Shared → Prop} {s : Shared}
theorem setR_sz {h : Heap} {a : Addr} {S : Int → Bool} {n : Nat} (R : SetR w h a S n) : ∃ o es ep t, h.get? a = some o ∧ o.cls = .type "set" ∧ o.data = .set es ep t ∧ es.size = n ∧ t.fits es.size = true ∧ (∀ e ∈ es.toList, GoodE e) := by
  obtain ⟨o, es, ep, t, ho, hex, hd, g, nd, hm, hb, hf, hn, hr, hl⟩ := R
  exact ⟨o, es, ep, t, ho, hex.1, hd, hn, hf, g⟩
theorem setEntries_of {a : Addr} {o : Obj} {es : Array (Int × Value)} {ep : Nat} {t : SetTable} {Q : Array (Int × Value) → Shared → Prop}
    (ho : s.heap.get? a = some o) (hd : o.data = .set es ep t) (hf : t.fits es.size = true) (h : Q es s) : wpAny (model P w) A (setEntries a) Q E s := by
  unfold setEntries
  exact wpAny_bind (wpAny_setState_of ho hd hf (wpAny_pure h))
theorem sizeOf_of {a : Addr} {S : Int → Bool} {n : Nat} {Q : Nat → Shared → Prop} (R : SetR w s.heap a S n) (h : Q n s) : wpAny (model P w) A (Builtin.Frozenset.sizeOf a) Q E s := by
  obtain ⟨o, es, ep, t, ho, hc, hd, hn, hf, g⟩ := setR_sz R
  unfold Builtin.Frozenset.sizeOf
  exact wpAny_bind (setEntries_of ho hd hf (wpAny_pure (by rw [hn]; exact h)))
theorem setsQuiet_ints {sets : List Addr} {Q : Bool → Shared → Prop} (hs : ∀ a ∈ sets, ∃ S n, SetR w s.heap a S n) (hq : Q true s) : wpAny (model P w) A (setsQuiet sets) Q E s := by
  unfold setsQuiet
  refine wpAny_bind (wpAny_forIn_list _ (fun rest b s' => s' = s ∧ b = (none, ()) ∧ ∀ a ∈ rest, ∃ S n, SetR w s.heap a S n) _ (fun a rest b s' hI => ?_) (fun b s' hI => ?_) sets (none, ()) ⟨rfl, rfl, hs⟩)
  · obtain ⟨rfl, rfl, h3⟩ := hI
    obtain ⟨S, n, R⟩ := h3 a (List.mem_cons_self ..)
    obtain ⟨o, es, ep, t, ho, hc, hd, hn, hf, g⟩ := setR_sz R
    refine wpAny_bind (setEntries_of ho hd hf ?_)
    refine wpAny_bind (wpAny_forIn_array' _ (fun rest2 b s'' => s'' = s' ∧ b = (none, ()) ∧ ∀ e ∈ rest2, GoodE e) _ (fun e rest2 b s'' hJ => ?_) (fun b s'' hJ => ?_) es (none, ()) ⟨rfl, rfl, g⟩)
    · obtain ⟨rfl, rfl, h4⟩ := hJ
      obtain ⟨k, tk, e1, e2⟩ := h4 e (List.mem_cons_self ..)
      obtain ⟨h, x⟩ := e
      dsimp only at e1
      subst e1
      exact wpAny_pure ⟨rfl, rfl, fun e he => h4 e (List.mem_cons_of_mem _ he)⟩
    · obtain ⟨rfl, rfl, _⟩ := hJ
      exact wpAny_pure ⟨rfl, rfl, fun a ha => h3 a (List.mem_cons_of_mem _ ha)⟩
  · obtain ⟨rfl, rfl, _⟩ := hI
    exact wpAny_pure hq
theorem setWalk_ints {a : Addr} {o : Obj} {es : Array (Int × Value)} {ep : Nat} {t : SetTable} {Q : Array (Int × Value) → Shared → Prop} (ho : s.heap.get? a = some o) (hd : o.data = .set es ep t) (hf : t.fits es.size = true)
    (hl : w.params.followText "set-order" = true ∨ t.led = true) (h : ∀ out d, out.toList.Perm es.toList → Q out { s with drawn := d }) : wpAny (model P w) A (setWalk a) Q E s := by
  unfold setWalk
  refine wpAny_bind (wpAny_setState_of ho hd hf ?_)
  dsimp only
  refine wpAny_bind (wpAny_byText ?_)
  by_cases hbt : w.params.followText "set-order" = true
  · refine wp_if_pos hbt ?_
    exact wpAny_bind (wpAny_askSetting (wpAny_pure (h _ s.drawn (pick_perm _ _))))
  · refine wp_if_neg hbt ?_
    try refine wpAny_bind (wpAny_pure ?_)
    have hled := hl.resolve_left hbt
    by_cases hdr : (!t.plain && decide (es.size > 1)) = true
    · refine wp_if_pos (by show (!t.plain && decide (es.size > 1)) = true; exact hdr) ?_
      refine wpAny_bind (drawOrder_at es.size es.toList s _ (by simp) fun ys d hp => ?_)
      exact wpAny_pure (h ys.toArray d (by simpa using hp))
    · refine wp_if_neg (by show ¬ (!t.plain && decide (es.size > 1)) = true; exact hdr) ?_
      try refine wpAny_bind (wpAny_pure ?_)
      refine wpAny_bind (wpAny_of_eq (a := ()) ?_ ?_)
      · show (if (!t.led && decide (es.size > 1)) = true then unsupported "set:maker-not-led" else pure ()) = pure ()
        rw [hled] <;> rfl
      · exact wpAny_pure (h es s.drawn (List.Perm.refl _))
/-- what is walked, a set of ints; r is being filled -/
theorem walkUnseen_ints {a r : Addr} {others : List Addr} {S U : Int → Bool} {n c : Nat} {Q : Array (Int × Value) → Shared → Prop} (R : SetR w s.heap a S n) (Rr : SetR w s.heap r U c) (hne : a ≠ r) (ho : ∀ b ∈ others, ∃ S n, SetR w s.heap b S n)
    (hQ : ∀ out s', s'.gens = s.gens → s'.os = s.os → Heap.SameBut r s.heap s'.heap → SetR w s'.heap r U c → (∀ e ∈ out.toList, GoodE e) → (out.toList.map keyOf).Nodup → (∀ k, S k = true ↔ k ∈ out.toList.map keyOf) → out.size = n → Q out s') :
    wpAny (model P w) A (setWalkUnseen a others (some r)) Q E s := by
  have R0 := R
  obtain ⟨o, es, ep, t, hoa, hex, hd, g, nd, hm, hb, hf, hn, hr, hl⟩ := R
  have perm : ∀ (out : Array (Int × Value)) s', s'.gens = s.gens → s'.os = s.os → Heap.SameBut r s.heap s'.heap → SetR w s'.heap r U c → out.toList.Perm es.toList → Q out s' := fun out s' h1 h2 h3 h4 hp =>
    hQ out s' h1 h2 h3 h4 (fun e he => g e (hp.mem_iff.mp he)) ((hp.map keyOf).nodup_iff.mpr nd) (fun k => (hm k).trans (hp.map keyOf).mem_iff.symm) (by rw [← hn, ← Array.length_toList, hp.length_eq, Array.length_toList])
  have walk : wpAny (model P w) A (setWalk a) Q E s := setWalk_ints hoa hd hf hl fun out d hp => perm out _ rfl rfl (Heap.SameBut.refl r _) Rr hp
  unfold setWalkUnseen
  refine wpAny_bind (wpAny_setState_of hoa hd hf ?_)
  dsimp only
  refine wpAny_bind (wpAny_byText ?_)
  split
  · exact walk
  · rename_i hc
    refine wpAny_bind (setsQuiet_ints (fun b hb => ?_) ?_)
    · rcases List.mem_cons.mp hb with e | e
      · rw [e]; exact ⟨S, n, R0⟩
      · exact ho b e
    refine wp_if_neg (by simp) ?_
    try refine wpAny_bind (wpAny_pure ?_)
    refine wpAny_bind (wpAny_rule ?_)
    obtain ⟨o2, es2, ep2, t2, ho2, hex2, hd2, g2, nd2, hm2, hb2, hf2, hn2, hr2, hl2⟩ := Rr
    refine wpAny_bind (wpAny_setState_of ho2 hd2 hf2 ?_)
    dsimp only
    split
    · refine wpAny_bind (wpAny_storeSet_of ho2 hd2 ?_ (fits_of_scanBound hb2))
      refine wpAny_pure (perm es _ rfl rfl (Heap.SameBut.update s.heap r _) ?_ (List.Perm.refl _))
      refine ⟨_, es2, _, _, store_at ho2 hd2, hex2, rfl, g2, nd2, hm2, hb2, hf2, hn2, hr2, ?_⟩
      rcases hl2 with z | z
      · exact .inl z
      · rcases hl with y | y
        · exact .inl y
        · exact .inr (by show (t2.led && t.led) = true; rw [z, y]; rfl)
    · exact wpAny_pure (perm es s rfl rfl (Heap.SameBut.refl r _) ⟨o2, es2, ep2, t2, ho2, hex2, hd2, g2, nd2, hm2, hb2, hf2, hn2, hr2, hl2⟩ (List.Perm.refl _))
theorem newSet_set {Q : Value → Shared → Prop} (h : SetR w (s.heap.push { cls := .type "set", dict := none, data := .set #[] 0 (.fresh 0 0 (!w.params.followText "set-order")) }) s.heap.objs.size (fun _ => false) 0 →
      Q (.ref s.heap.objs.size) { s with heap := s.heap.push { cls := .type "set", dict := none, data := .set #[] 0 (.fresh 0 0 (!w.params.followText "set-order")) } }) : wpAny (model P w) A (newSet (.type "set")) Q E s := by
  unfold newSet
  refine wpAny_bind (wpAny_byText ?_)
  dsimp only
  simp only [newObj]
  first
  | exact wpAny_bind (wpAny_alloc (wpAny_pure (h (setR_fresh w))))
  | exact wpAny_alloc (wpAny_pure (h (setR_fresh w)))
theorem baseOf_set {a : Addr} {S : Int → Bool} {n : Nat} {Q : Value → Shared → Prop} (R : SetR w s.heap a S n) (h : Q (.type "set") s) : wpAny (model P w) A (Builtin.Frozenset.baseOf a) Q E s := by
  obtain ⟨o, es, ep, t, ho, hc, hd, hn, hf, g⟩ := setR_sz R
  unfold Builtin.Frozenset.baseOf
  refine wpAny_bind (wpAny_isInstance (b := true) ⟨o, ho, hc⟩ sub_set_self ?_)
  exact wpAny_pure h
theorem isAnySet_set {a : Addr} {S : Int → Bool} {n : Nat} {Q : Bool → Shared → Prop} (R : SetR w s.heap a S n) (h : Q true s) : wpAny (model P w) A (Builtin.Frozenset.isAnySet (.ref a)) Q E s := by
  obtain ⟨o, es, ep, t, ho, hc, hd, hn, hf, g⟩ := setR_sz R
  unfold Builtin.Frozenset.isAnySet
  refine wpAny_bind (wpAny_isInstance (b := true) ⟨o, ho, hc⟩ sub_set_self ?_)
  exact wpAny_pure h
end
end L2

set_option Elab.async false
set_option linter.all false
set_option maxRecDepth 100000
namespace L2
open PySem PySem.Spec PyProof.Rows
section
variable {P : Program} {w : World} {A : Around} {E : Value → Shared → Prop} {s : Shared}
theorem setFind_int {a : Addr} {S : Int → Bool} {n : Nat} {k : Int} {tk : Tok} {Q : Option Nat → Shared → Prop} (R : SetR w s.heap a S n) (h : ∀ r : Option Nat, r.isSome = S k → Q r s) : wpAny (model P w) A (setFind a (.int k tk) ((intKind P w).hash k)) Q E s :=
  wpAny_setFind_of (intKind_is P w k tk) rfl R.setOf h
theorem unchanged_of {id : String} {a : Addr} {o : Obj} {es : Array (Int × Value)} {ep : Nat} {t : SetTable} {Q : Unit → Shared → Prop} (ho : s.heap.get? a = some o) (hd : o.data = .set es ep t) (hf : t.fits es.size = true) (h : Q () s) : wpAny (model P w) A (Builtin.Frozenset.unchanged id a ep) Q E s := by
  unfold Builtin.Frozenset.unchanged
  refine wpAny_bind (wpAny_setEpoch_of ho hd hf ?_)
  refine wp_if_neg (by simp) ?_
  exact wpAny_pure h
theorem mem_snoc {j k : Int} {l : List Int} (h : ¬ j = k) : decide (j ∈ l ++ [k]) = decide (j ∈ l) := by
  refine decide_eq_decide.mpr ?_
  rw [List.mem_append, List.mem_singleton]
  exact ⟨fun z => z.resolve_right h, .inl⟩
/-- what has been picked so far of the walked members -/
def Pick (w : World) (s0 s' : Shared) (r : Addr) (T : Int → Bool) (dn : List (Int × Value)) (c : Nat) : Prop :=
  s'.gens = s0.gens ∧ s'.os = s0.os ∧ (∀ b u, b ≠ r → s0.heap.get? b = some u → s'.heap.get? b = some u) ∧ SetR w s'.heap r (fun j => decide (j ∈ dn.map keyOf) && T j) c ∧ c ≤ dn.length
theorem pick_turn {s0 s' : Shared} {r : Addr} {T : Int → Bool} {dn : List (Int × Value)} {c : Nat} {e : Int × Value} {Q : Unit → Shared → Prop} (p : Pick w s0 s' r T dn c) (g : GoodE e) (hb : dn.length + 1 < scanBound)
    (hQ : ∀ s'' c', Pick w s0 s'' r T (dn ++ [e]) c' → Q () s'') : wpAny (model P w) A (if T (keyOf e) = true then do { let _ ← setAddHashed r e.2 e.1; pure () } else pure ()) Q E s' := by
  obtain ⟨h1, h2, h3, h4, h5⟩ := p
  obtain ⟨k, tk, e1, e2⟩ := g
  obtain ⟨h, x⟩ := e
  dsimp only at e1 e2 ⊢
  subst e1 e2
  have hk : keyOf (hashInt k, Value.int k tk) = k := rfl
  rw [hk]
  by_cases hT : T k = true
  · rw [if_pos hT]
    refine wpAny_bind (setR_add_hashed (P := P) (tk := tk) h4 (by omega) fun h' sb R => ?_)
    refine wpAny_pure (hQ _ _ ⟨h1, h2, fun b u hbr hu => ?_, R.congr fun j => ?_, ?_⟩)
    · show h'.get? b = some u
      rw [sb.2 b hbr]; exact h3 b u hbr hu
    · rw [List.map_append, List.map_cons, hk, List.map_nil]
      by_cases hj : j = k
      · subst hj; simp [hT]
      · rw [decide_eq_false hj, Bool.or_false, mem_snoc hj]
    · rw [List.length_append]
      split
      · exact Nat.le_succ_of_le h5
      · exact Nat.succ_le_succ h5
  · rw [if_neg hT]
    refine wpAny_pure (hQ _ _ ⟨h1, h2, h3, h4.congr fun j => ?_, by rw [List.length_append]; exact Nat.le_succ_of_le h5⟩)
    rw [List.map_append, List.map_cons, hk, List.map_nil]
    by_cases hj : j = k
    · subst hj; simp [hT]
    · rw [mem_snoc hj]
/-- set - set, set & set; the greater part of the set at a is not to be missing -/
theorem set_diff {id : String} {a b : Addr} {S T : Int → Bool} {n m : Nat} {Q : Value → Shared → Prop} (R1 : SetR w s.heap a S n) (R2 : SetR w s.heap b T m) (hsz : n / 4 ≤ m)
    (hQ : ∀ (p : Addr) s' c, s'.gens = s.gens → s'.os = s.os → s.heap.objs.size ≤ p → (∀ b u, s.heap.get? b = some u → s'.heap.get? b = some u) → SetR w s'.heap p (fun j => S j && !T j) c → Q (.ref p) s') :
    wpAny (model P w) A (Builtin.Frozenset.difference id a (.ref b)) Q E s := by
  have hscan : n < scanBound := by obtain ⟨o, es, ep, t, ho, hex, hd, g, nd, hm, hb, hf, hn, hr, hl⟩ := R1; omega
  obtain ⟨oa, esa, epa, ta, hoa, hca, hda, hna, hfa, ga⟩ := setR_sz R1
  obtain ⟨ob, esb, epb, tb, hob, hcb, hdb, hnb, hfb, gb⟩ := setR_sz R2
  unfold Builtin.Frozenset.difference
  dsimp only
  refine wpAny_bind (isAnySet_set R2 ?_)
  refine wp_if_neg (by simp) ?_
  refine wpAny_bind (show wpAny _ _ (Builtin.Frozenset.addrOf (.ref b)) _ _ _ from wpAny_pure ?_)
  refine wp_if_neg (by simp) ?_
  refine wp_if_pos rfl ?_
  refine wpAny_bind (sizeOf_of R2 ?_)
  refine wpAny_bind (sizeOf_of R1 ?_)
  refine wp_if_neg (by omega) ?_
  refine wpAny_bind (baseOf_set R1 ?_)
  refine wpAny_bind (newSet_set fun Rr => ?_)
  refine wpAny_bind (show wpAny _ _ (Builtin.Frozenset.addrOf (.ref s.heap.objs.size)) _ _ _ from wpAny_pure ?_)
  have keep0 : ∀ b u, s.heap.get? b = some u → (s.heap.push { cls := .type "set", dict := none, data := .set #[] 0 (.fresh 0 0 (!w.params.followText "set-order")) }).get? b = some u := fun b u e => Heap.get?_push_of_some _ e
  have ltr : ∀ b u, s.heap.get? b = some u → b ≠ s.heap.objs.size := fun b u e => Nat.ne_of_lt (Heap.lt_size e)
  generalize hr : s.heap.objs.size = r at Rr ltr ⊢
  generalize hs1 : s.heap.push { cls := .type "set", dict := none, data := .set #[] 0 (.fresh 0 0 (!w.params.followText "set-order")) } = h1 at Rr keep0 ⊢
  have R1' : SetR w h1 a S n := R1.at fun o e => keep0 _ _ e
  have R2' : SetR w h1 b T m := R2.at fun o e => keep0 _ _ e
  refine wpAny_bind (wpAny_setEpoch_of (s := { s with heap := h1 }) (keep0 _ _ hoa) hda hfa ?_)
  refine wpAny_bind (wpAny_holding ?_)
  refine wpAny_bind (m := if true = true then setWalkUnseen a [b, r] (some r) else setWalk a) (wp_if_pos rfl ?_)
  refine walkUnseen_ints (s := { s with heap := h1 }) R1' Rr (ltr _ _ hoa) (fun z hz => ?_) fun out s' g1 o1 sb Rr' gd nd hm hn => ?_
  · rcases List.mem_cons.mp hz with e | e
    · rw [e]; exact ⟨T, m, R2'⟩
    · rw [List.mem_singleton.mp e]; exact ⟨_, _, Rr⟩
  have sbk : ∀ b u, b ≠ r → s.heap.get? b = some u → s'.heap.get? b = some u := fun b u hb e => by rw [sb.2 b hb]; exact keep0 _ _ e
  refine wpAny_bind (wpAny_forIn_array' _ (fun rest _ s'' => ∃ dn c, out.toList = dn ++ rest ∧ Pick w s s'' r (fun j => !T j) dn c) _ (fun e rest bb s'' hI => ?_) (fun bb s'' hI => ?_) out PUnit.unit ⟨[], 0, rfl, g1, o1, sbk, Rr'.congr fun j => by simp, Nat.zero_le _⟩)
  · obtain ⟨dn, c, e1, pk⟩ := hI
    have hlen : dn.length + 1 ≤ out.size := by
      rw [← Array.length_toList, e1, List.length_append, List.length_cons]; omega
    have hg : GoodE e := gd e (by rw [e1]; exact List.mem_append_right _ (List.mem_cons_self ..))
    have hg0 := hg
    have Ra : SetR w s''.heap b T m := R2.at fun o e => pk.2.2.1 _ _ (ltr _ _ hob) e
    obtain ⟨k, tk, e3, e4⟩ := hg
    obtain ⟨h, x⟩ := e
    dsimp only at e3 e4
    subst e3 e4
    dsimp only
    refine wpAny_bind (wpAny_holding ?_)
    refine wp_if_pos rfl ?_
    refine wpAny_bind (setFind_int (P := P) Ra fun q hq => ?_)
    refine wpAny_bind (wpAny_pure ?_)
    rw [hq]
    have := pick_turn (P := P) (A := A) (E := E) (Q := fun _ s3 => ∃ c', Pick w s s3 r (fun j => !T j) (dn ++ [(hashInt k, Value.int k tk)]) c') pk hg0 (by omega) (fun s3 c' p => ⟨c', p⟩)
    refine wpAny_mono this (fun _ s3 ⟨c', p⟩ => ?_) fun _ _ e => e
    refine wpAny_bind (unchanged_of (p.2.2.1 _ _ (ltr _ _ hoa) hoa) hda hfa ?_)
    exact wpAny_pure ⟨_, c', by rw [e1, List.append_assoc]; rfl, p⟩
  · obtain ⟨dn, c, e1, g2, o2, k2, R3, hc⟩ := hI
    rw [List.append_nil] at e1
    refine wpAny_pure (wpAny_pure ?_)
    refine hQ r s'' c g2 o2 (Nat.le_of_eq hr) (fun b u e => k2 b u (ltr _ _ e) e) (R3.congr fun j => ?_)
    rw [← e1]
    cases hS : S j with
    | true => rw [decide_eq_true ((hm j).mp hS)]
    | false => rw [decide_eq_false fun z => by rw [(hm j).mpr z] at hS; cases hS]
end
end L2

set_option Elab.async false
set_option linter.all false
set_option maxRecDepth 100000
namespace L2
open PySem PySem.Spec PyProof.Rows
section
variable {P : Program} {w : World} {A : Around} {E : Value → Shared → Prop} {s : Shared}
/-- what of the walked set is found in the asked one -/
theorem inter_loop {id : String} {a b r : Addr} {S T : Int → Bool} {n m : Nat} {Q : Unit → Shared → Prop} (R1 : SetR w s.heap a S n) (R2 : SetR w s.heap b T m) (hr : s.heap.objs.size = r) {h1 : Heap} (keep0 : ∀ b u, s.heap.get? b = some u → h1.get? b = some u)
    (Rr : SetR w h1 r (fun _ => false) 0)
    (hQ : ∀ s' c, s'.gens = s.gens → s'.os = s.os → (∀ b u, s.heap.get? b = some u → s'.heap.get? b = some u) → SetR w s'.heap r (fun j => S j && T j) c → Q () s') :
    wpAny (model P w) A (do
      let was ← setEpoch a
      let l ← setWalkUnseen a [b, r] (some r)
      forIn l PUnit.unit fun x __s =>
        match x with
        | (h, x) => do
          holding [x] do
              let l ← setFind b x h
              if Option.isSome l = true then do
                  let _ ← setAddHashed r x h
                  pure ()
                else pure ()
          Builtin.Frozenset.unchanged id a was
          pure (ForInStep.yield PUnit.unit)
      pure ()) Q E { s with heap := h1 } := by
  have hscan : n < scanBound := by obtain ⟨o, es, ep, t, ho, hex, hd, g, nd, hm, hb, hf, hn, hr, hl⟩ := R1; omega
  obtain ⟨oa, esa, epa, ta, hoa, hca, hda, hna, hfa, ga⟩ := setR_sz R1
  obtain ⟨ob, esb, epb, tb, hob, hcb, hdb, hnb, hfb, gb⟩ := setR_sz R2
  have ltr : ∀ b u, s.heap.get? b = some u → b ≠ r := fun b u e => by rw [← hr]; exact Nat.ne_of_lt (Heap.lt_size e)
  have R1' : SetR w h1 a S n := R1.at fun o e => keep0 _ _ e
  have R2' : SetR w h1 b T m := R2.at fun o e => keep0 _ _ e
  refine wpAny_bind (wpAny_setEpoch_of (s := { s with heap := h1 }) (keep0 _ _ hoa) hda hfa ?_)
  refine wpAny_bind (walkUnseen_ints (s := { s with heap := h1 }) R1' Rr (ltr _ _ hoa) (fun z hz => ?_) fun out s' g1 o1 sb Rr' gd nd hm hn => ?_)
  · rcases List.mem_cons.mp hz with e | e
    · rw [e]; exact ⟨T, m, R2'⟩
    · rw [List.mem_singleton.mp e]; exact ⟨_, _, Rr⟩
  have sbk : ∀ b u, b ≠ r → s.heap.get? b = some u → s'.heap.get? b = some u := fun b u hb e => by rw [sb.2 b hb]; exact keep0 _ _ e
  refine wpAny_bind (wpAny_forIn_array' _ (fun rest _ s'' => ∃ dn c, out.toList = dn ++ rest ∧ Pick w s s'' r T dn c) _ (fun e rest bb s'' hI => ?_) (fun bb s'' hI => ?_) out PUnit.unit ⟨[], 0, rfl, g1, o1, sbk, Rr'.congr fun j => by simp, Nat.zero_le _⟩)
  · obtain ⟨dn, c, e1, pk⟩ := hI
    have hlen : dn.length + 1 ≤ out.size := by
      rw [← Array.length_toList, e1, List.length_append, List.length_cons]; omega
    have hg : GoodE e := gd e (by rw [e1]; exact List.mem_append_right _ (List.mem_cons_self ..))
    have hg0 := hg
    have Ra : SetR w s''.heap b T m := R2.at fun o e => pk.2.2.1 _ _ (ltr _ _ hob) e
    obtain ⟨k, tk, e3, e4⟩ := hg
    obtain ⟨h, x⟩ := e
    dsimp only at e3 e4
    subst e3 e4
    dsimp only
    refine wpAny_bind (wpAny_holding ?_)
    refine wpAny_bind (setFind_int (P := P) Ra fun q hq => ?_)
    rw [hq]
    have := pick_turn (P := P) (A := A) (E := E) (Q := fun _ s3 => ∃ c', Pick w s s3 r T (dn ++ [(hashInt k, Value.int k tk)]) c') pk hg0 (by omega) (fun s3 c' p => ⟨c', p⟩)
    refine wpAny_mono this (fun _ s3 ⟨c', p⟩ => ?_) fun _ _ e => e
    refine wpAny_bind (unchanged_of (p.2.2.1 _ _ (ltr _ _ hoa) hoa) hda hfa ?_)
    exact wpAny_pure ⟨_, c', by rw [e1, List.append_assoc]; rfl, p⟩
  · obtain ⟨dn, c, e1, g2, o2, k2, R3, hc⟩ := hI
    rw [List.append_nil] at e1
    refine wpAny_pure (hQ s'' c g2 o2 (fun b u e => k2 b u (ltr _ _ e) e) (R3.congr fun j => ?_))
    rw [← e1]
    cases hS : S j with
    | true => rw [decide_eq_true ((hm j).mp hS)]
    | false => rw [decide_eq_false fun z => by rw [(hm j).mpr z] at hS; cases hS]
theorem set_inter {id : String} {a b : Addr} {S T : Int → Bool} {n m : Nat} {Q : Value → Shared → Prop} (R1 : SetR w s.heap a S n) (R2 : SetR w s.heap b T m) (hne : a ≠ b)
    (hQ : ∀ (p : Addr) s' c, s'.gens = s.gens → s'.os = s.os → s.heap.objs.size ≤ p → (∀ b u, s.heap.get? b = some u → s'.heap.get? b = some u) → SetR w s'.heap p (fun j => S j && T j) c → Q (.ref p) s') :
    wpAny (model P w) A (Builtin.Frozenset.intersection id a (.ref b)) Q E s := by
  unfold Builtin.Frozenset.intersection
  refine wp_if_neg (by intro z; rw [beq_iff_eq] at z; injection z with z; exact hne z.symm) ?_
  refine wpAny_bind (baseOf_set R1 ?_)
  refine wpAny_bind (newSet_set fun Rr => ?_)
  refine wpAny_bind (show wpAny _ _ (Builtin.Frozenset.addrOf (.ref s.heap.objs.size)) _ _ _ from wpAny_pure ?_)
  have keep0 : ∀ b u, s.heap.get? b = some u → (s.heap.push { cls := .type "set", dict := none, data := .set #[] 0 (.fresh 0 0 (!w.params.followText "set-order")) }).get? b = some u := fun b u e => Heap.get?_push_of_some _ e
  generalize hr : s.heap.objs.size = r at Rr ⊢
  generalize hs1 : s.heap.push { cls := .type "set", dict := none, data := .set #[] 0 (.fresh 0 0 (!w.params.followText "set-order")) } = h1 at Rr keep0 ⊢
  have R1' : SetR w h1 a S n := R1.at fun o e => keep0 _ _ e
  have R2' : SetR w h1 b T m := R2.at fun o e => keep0 _ _ e
  refine wpAny_bind (wpAny_holding ?_)
  refine wpAny_bind (isAnySet_set (s := { s with heap := h1 }) R2' ?_)
  refine wp_if_pos rfl ?_
  refine wpAny_bind (show wpAny _ _ (Builtin.Frozenset.addrOf (.ref b)) _ _ _ from wpAny_pure ?_)
  refine wpAny_bind (sizeOf_of (s := { s with heap := h1 }) R2' ?_)
  refine wpAny_bind (sizeOf_of (s := { s with heap := h1 }) R1' ?_)
  by_cases hsz : m > n
  · rw [if_pos hsz]
    dsimp only
    refine inter_loop (id := id) R1 R2 hr keep0 Rr fun s' c g o k R => ?_
    exact wpAny_pure (hQ r s' c g o (Nat.le_of_eq hr) k R)
  · rw [if_neg hsz]
    dsimp only
    refine inter_loop (id := id) R2 R1 hr keep0 Rr fun s' c g o k R => ?_
    exact wpAny_pure (hQ r s' c g o (Nat.le_of_eq hr) k (R.congr fun j => Bool.and_comm _ _))
end

/-! ### the operators -/
namespace SetF
theorem entry_sub : entryFor table "set.__sub__" = some Builtin.«frozenset.__sub__» := entryFor_alias (id' := "frozenset.__sub__") (by kernel_rfl) rfl (by decide +kernel) (by kernel_rfl)
theorem entry_and : entryFor table "set.__and__" = some Builtin.«frozenset.__and__» := entryFor_alias (id' := "frozenset.__and__") (by kernel_rfl) rfl (by decide +kernel) (by kernel_rfl)
theorem slot_sub : Slot "set" "__sub__" "set.__sub__" :=
  .of (owner := "set") (n := "__sub__") (by rw [typeLookup_type, builtinLookup_eq_fast]; kernel_rfl) (by decide +kernel) (by decide +kernel) (by decide +kernel)
    (by first | exact .inl (by decide +kernel) | exact .inr (by decide +kernel)) (by rw [isSubtype_type]; kernel_rfl)
theorem slot_and : Slot "set" "__and__" "set.__and__" :=
  .of (owner := "set") (n := "__and__") (by rw [typeLookup_type, builtinLookup_eq_fast]; kernel_rfl) (by decide +kernel) (by decide +kernel) (by decide +kernel)
    (by first | exact .inl (by decide +kernel) | exact .inr (by decide +kernel)) (by rw [isSubtype_type]; kernel_rfl)
theorem args_sub (a b : Value) : argsOk "set.__sub__" ⟨[a, b], []⟩ := by unfold argsOk; kernel_rfl
theorem args_and (a b : Value) : argsOk "set.__and__" ⟨[a, b], []⟩ := by unfold argsOk; kernel_rfl
theorem fills_sub : fillsNumberSlot (.type "set") Operator.Sub.info.2 = pure true :=
  fillsNumberSlot_of (id := "set.__sub__") (r := some (.builtin "set.__rsub__")) (by show typeLookup (.type "set") (dunder "sub") = _; rw [typeLookup_type, builtinLookup_eq_fast]; kernel_rfl) (by decide +kernel) (by show typeLookup (.type "set") (dunderR "sub") = _; rw [typeLookup_type, builtinLookup_eq_fast]; kernel_rfl)
theorem fills_and : fillsNumberSlot (.type "set") Operator.BitAnd.info.2 = pure true :=
  fillsNumberSlot_of (id := "set.__and__") (r := some (.builtin "set.__rand__")) (by show typeLookup (.type "set") (dunder "and") = _; rw [typeLookup_type, builtinLookup_eq_fast]; kernel_rfl) (by decide +kernel) (by show typeLookup (.type "set") (dunderR "and") = _; rw [typeLookup_type, builtinLookup_eq_fast]; kernel_rfl)
end SetF
section
variable {P : Program} {w : World} {A : Around} {E : Value → Shared → Prop} {s : Shared}
theorem setR_ty {a : Addr} {S : Int → Bool} {n : Nat} (R : SetR w s.heap a S n) : s.TypeIs (.ref a) "set" := let ⟨o, _, _, _, ho, hc, _⟩ := setR_sz R; ⟨o, ho, hc⟩
theorem binary_ints {a b : Addr} {S T : Int → Bool} {n m : Nat} {name : String} {f : String → Addr → Value → Sem Value} {B : Sem PySem.Fin} {Q : PySem.Fin → Shared → Prop}
    (hB : B = (do
      let (self, other) ← Builtin.Frozenset.slot1 name ⟨[.ref a, .ref b], []⟩
      let (l, r) := (self, other)
      if !(← Builtin.Frozenset.isAnySet l <&&> Builtin.Frozenset.isAnySet r) then rule s!"frozenset.{name}.declined"; return ← ret .notImplemented
      ret (← f s!"frozenset.{name}" (← Builtin.Frozenset.addrOf l) r)))
    (R1 : SetR w s.heap a S n) (R2 : SetR w s.heap b T m) (h : wpAny (model P w) A (f s!"frozenset.{name}" a (.ref b)) (fun v s' => Q (.done (.ret v)) s') E s) : wpAny (model P w) A B Q E s := by
  subst hB
  refine wpAny_bind (m := Builtin.Frozenset.slot1 name ⟨[.ref a, .ref b], []⟩) ?_
  unfold Builtin.Frozenset.slot1 slotArgs
  simp only [List.isEmpty_nil, Bool.not_true, Bool.false_eq_true, if_false, List.length_cons, List.length_nil, bne_self_eq_false, pure_bind]
  refine wpAny_pure ?_
  dsimp only
  refine wpAny_bind ?_
  show wpAny _ _ (Builtin.Frozenset.isAnySet (.ref a) >>= _) _ _ _
  refine wpAny_bind (isAnySet_set R1 ?_)
  show wpAny _ _ (Builtin.Frozenset.isAnySet (.ref b)) _ _ _
  refine isAnySet_set R2 ?_
  refine wp_if_neg (by simp) ?_
  refine wpAny_bind (show wpAny _ _ (Builtin.Frozenset.addrOf (.ref a)) _ _ _ from wpAny_pure ?_)
  exact wpAny_bind (wpAny_mono h (fun v s' q => wpAny_pure q) fun _ _ e => e)
theorem op_setSub {a b : Addr} {S T : Int → Bool} {n m : Nat} {Q : Value → Shared → Prop} (R1 : SetR w s.heap a S n) (R2 : SetR w s.heap b T m) (hsz : n / 4 ≤ m)
    (hQ : ∀ (p : Addr) s' c, s'.gens = s.gens → s'.os = s.os → s.heap.objs.size ≤ p → (∀ b u, s.heap.get? b = some u → s'.heap.get? b = some u) → SetR w s'.heap p (fun j => S j && !T j) c → Q (.ref p) s') :
    wpAny (model P w) A (binaryOp .Sub (.ref a) (.ref b)) Q E s := by
  refine wpAny_binaryOp_same (setR_ty R1) (setR_ty R2) SetF.fills_sub SetF.slot_sub (wpAny_call_entry SetF.slot_sub (setR_ty R1) SetF.entry_sub ?_ (SetF.args_sub _ _))
  exact binary_ints (name := "__sub__") (f := Builtin.Frozenset.difference) (by rfl) R1 R2 (set_diff R1 R2 hsz fun p s' c g o hp k R => ⟨_, rfl, (fun z => by cases z), hQ p s' c g o hp k R⟩)
theorem op_setAnd {a b : Addr} {S T : Int → Bool} {n m : Nat} {Q : Value → Shared → Prop} (R1 : SetR w s.heap a S n) (R2 : SetR w s.heap b T m) (hne : a ≠ b)
    (hQ : ∀ (p : Addr) s' c, s'.gens = s.gens → s'.os = s.os → s.heap.objs.size ≤ p → (∀ b u, s.heap.get? b = some u → s'.heap.get? b = some u) → SetR w s'.heap p (fun j => S j && T j) c → Q (.ref p) s') :
    wpAny (model P w) A (binaryOp .BitAnd (.ref a) (.ref b)) Q E s := by
  refine wpAny_binaryOp_same (setR_ty R1) (setR_ty R2) SetF.fills_and SetF.slot_and (wpAny_call_entry SetF.slot_and (setR_ty R1) SetF.entry_and ?_ (SetF.args_and _ _))
  unfold Builtin.«frozenset.__and__»
  exact binary_ints (name := "__and__") (f := Builtin.Frozenset.intersection) (by rfl) R1 R2 (set_inter R1 R2 hne fun p s' c g o hp k R => ⟨_, rfl, (fun z => by cases z), hQ p s' c g o hp k R⟩)
end
end L2

set_option Elab.async false
set_option linter.all false
set_option maxRecDepth 100000
namespace L2
open PySem PySem.Spec PyProof.Rows
section
variable {P : Program} {w : World} {A : Around} {E : Value → Shared → Prop} {s : Shared} {a : Addr}
/-- sorted of a set of ints, any number of them -/
theorem sorted_setN {S : Int → Bool} {n : Nat} {Q : Value → Shared → Prop} (R : SetR w s.heap a S n) (hh : A.handled = none)
    (hQ : ∀ s' p (out : Array Value) (c : Nat) (ns : List Int), (∀ b o, s.heap.get? b = some o → s'.heap.get? b = some o) → s'.gens = s.gens → s'.os = s.os → s.heap.objs.size ≤ p →
      s'.heap.get? p = some (seqObj "list" out c) → IntsAre out.toList ns → ns.Pairwise (· < ·) → (∀ k, k ∈ ns ↔ S k = true) → ns.length = n → n ≤ 4096 → Q (.ref p) s') :
    wpAny (model P w) A (call (.builtin "sorted") [.ref a]) Q E s := by
  obtain ⟨o, es, ep, t, ho, hex, hd, g, nd, hm, hb, hf, hn, hr, hl⟩ := R
  refine Calls.call_function_entry kind_sorted plain_sorted entry_sorted (args_sorted1 _) ?_
  unfold Builtin.«sorted»
  refine wpAny_bind (m := checkCount "sorted" 1 1 _) (wpAny_pure ?_)
  refine wpAny_bind (collect_set (A := A.in1) hh ⟨o, ho, hex.1, hd⟩ hf hb hr hl fun s1 vs k1 hz g1 o1 pm => ?_)
  have hvl : vs.length = n := by rw [pm.length_eq, List.length_map, Array.length_toList]; exact hn
  have hb' : n < 4096 := by rw [← hn]; exact hb
  have hI : IntsAre vs (vs.map Builtin.Re.reRawOf) := ints_of vs fun v hv => by
    obtain ⟨e, he, q⟩ := List.mem_map.mp (pm.mem_iff.mp hv)
    obtain ⟨k, tk, h1, _⟩ := g e he
    exact ⟨k, tk, by rw [← q]; exact h1⟩
  have pk : (vs.map Builtin.Re.reRawOf).Perm (es.toList.map keyOf) := by
    have q := pm.map Builtin.Re.reRawOf
    rw [List.map_map] at q
    exact q
  refine wpAny_bind (wpAny_newList ?_ (by rw [hvl, sizeLine_eq]; omega))
  have hoL : (s1.heap.push (seqObj "list" vs.toArray 0)).get? s1.heap.objs.size = some (seqObj "list" vs.toArray 0) := Heap.get?_push_size _ rfl
  refine wpAny_bind (wpAny_holding (wpAny_call_entry slot_list_sort ⟨_, hoL, rfl⟩ entry_list_sort (SrtO.list_sort_ord SrtO.swo_int hoL (by rw [hvl, sizeLine_eq]; omega) (fun h2 => SrtO.ints_sortable hI h2) fun out a1 a2 => ⟨_, rfl, ?_⟩) (args_list_sort _)))
  obtain ⟨b1, b2, b3⟩ := SrtO.ints_out hI a1 a2
  obtain ⟨c, hc⟩ := sortedHeap_at (vs := vs) (out := out.toArray) hoL
  have pn : (out.map SrtO.iv).Perm (es.toList.map keyOf) := b2.trans pk
  refine wpAny_pure ⟨_, rfl, hQ _ s1.heap.objs.size out.toArray c (out.map SrtO.iv) (fun b u e => ?_) g1 o1 hz hc (by simpa using b1) (lt_of_le_nodup _ b3 (pn.nodup_iff.mpr nd)) (fun k => by rw [pn.mem_iff, ← hm k]) ?_ (Nat.le_of_lt hb')⟩
  · have q := k1 b u e
    have hlt := Heap.lt_size q
    show (sortedHeap (s1.heap.push (seqObj "list" vs.toArray 0)) s1.heap.objs.size vs out.toArray).get? b = some u
    rw [sortedHeap_old (Nat.ne_of_lt hlt) (by rw [size_push']; exact Nat.lt_succ_of_lt hlt)]
    exact Heap.get?_push_of_some _ q
  · rw [pn.length_eq, List.length_map, Array.length_toList]; exact hn
end
/-! ### sorted without duplicates -/
def insI (x : Int) : List Int → List Int
  | [] => [x]
  | y :: ys => if x < y then x :: y :: ys else if x = y then y :: ys else y :: insI x ys
def sdd (xs : List Int) : List Int := xs.foldr insI []
theorem insI_mem {x j : Int} : ∀ {l : List Int}, j ∈ insI x l ↔ j = x ∨ j ∈ l
  | [] => by unfold insI; rw [List.mem_singleton]; exact ⟨.inl, fun h => h.resolve_right (by simp)⟩
  | y :: ys => by
    unfold insI
    split
    · exact List.mem_cons
    · split
      · rename_i h; subst h
        exact ⟨.inr, fun h => h.elim (fun e => by rw [e]; exact List.mem_cons_self ..) id⟩
      · rw [List.mem_cons, insI_mem (l := ys), List.mem_cons]
        exact ⟨fun h => h.elim (fun e => .inr (.inl e)) (fun h => h.elim .inl (fun e => .inr (.inr e))), fun h => h.elim (fun e => .inr (.inl e)) (fun h => h.elim .inl (fun e => .inr (.inr e)))⟩
theorem insI_sorted {x : Int} : ∀ {l : List Int}, l.Pairwise (· < ·) → (insI x l).Pairwise (· < ·)
  | [], _ => by unfold insI; exact List.pairwise_singleton _ _
  | y :: ys, h => by
    obtain ⟨h1, h2⟩ := List.pairwise_cons.mp h
    unfold insI
    split
    · rename_i hx
      refine List.pairwise_cons.mpr ⟨fun z hz => ?_, h⟩
      rcases List.mem_cons.mp hz with e | e
      · rw [e]; exact hx
      · exact Int.lt_trans hx (h1 z e)
    · split
      · exact h
      · refine List.pairwise_cons.mpr ⟨fun z hz => ?_, insI_sorted h2⟩
        rcases insI_mem.mp hz with e | e
        · rw [e]; omega
        · exact h1 z e
theorem sdd_mem {j : Int} : ∀ {xs : List Int}, j ∈ sdd xs ↔ j ∈ xs
  | [] => Iff.rfl
  | x :: xs => by
    show j ∈ insI x (sdd xs) ↔ _
    rw [insI_mem, sdd_mem, List.mem_cons]
theorem sdd_sorted : ∀ (xs : List Int), (sdd xs).Pairwise (· < ·)
  | [] => .nil
  | x :: xs => insI_sorted (sdd_sorted xs)
theorem sorted_ext : ∀ {xs ys : List Int}, xs.Pairwise (· < ·) → ys.Pairwise (· < ·) → (∀ j, j ∈ xs ↔ j ∈ ys) → xs = ys
  | [], [], _, _, _ => rfl
  | [], y :: ys, _, _, h => by have := (h y).mpr (List.mem_cons_self ..); cases this
  | x :: xs, [], _, _, h => by have := (h x).mp (List.mem_cons_self ..); cases this
  | x :: xs, y :: ys, hx, hy, h => by
    obtain ⟨x1, x2⟩ := List.pairwise_cons.mp hx
    obtain ⟨y1, y2⟩ := List.pairwise_cons.mp hy
    have e : x = y := by
      rcases List.mem_cons.mp ((h x).mp (List.mem_cons_self ..)) with e | e
      · exact e
      · rcases List.mem_cons.mp ((h y).mpr (List.mem_cons_self ..)) with f | f
        · exact f.symm
        · have a := y1 x e
          have b := x1 y f
          omega
    subst e
    rw [sorted_ext x2 y2 fun j => ⟨fun hj => ?_, fun hj => ?_⟩]
    · rcases List.mem_cons.mp ((h j).mp (List.mem_cons_of_mem _ hj)) with e | e
      · have := x1 j hj; omega
      · exact e
    · rcases List.mem_cons.mp ((h j).mpr (List.mem_cons_of_mem _ hj)) with e | e
      · have := y1 j hj; omega
      · exact e
theorem nodup_lt {xs : List Int} (h : xs.Pairwise (· < ·)) : xs.Nodup := h.imp fun a b => by omega
/-- S and n are those of the members ns -/
structure SetIs (S : Int → Bool) (n : Nat) (ns : List Int) : Prop where
  sorted : ns.Pairwise (· < ·)
  mem : ∀ j, S j = true ↔ j ∈ ns
  len : n = ns.length
theorem setIs_of {w : World} {h : Heap} {a : Addr} {S : Int → Bool} {n : Nat} {ns : List Int} (R : SetR w h a S n) (hs : ns.Pairwise (· < ·)) (hm : ∀ j, S j = true ↔ j ∈ ns) : SetIs S n ns := by
  obtain ⟨o, es, ep, t, ho, hex, hd, g, nd, hm2, hb, hf, hn, hr, hl⟩ := R
  refine ⟨hs, hm, ?_⟩
  have p : (es.toList.map keyOf).Perm ns := (List.perm_ext_iff_of_nodup nd (nodup_lt hs)).mpr fun k => by rw [← hm2 k, hm k]
  have := p.length_eq
  rw [List.length_map, Array.length_toList] at this
  omega

/-! ### at the layer's level -/
section
variable {X : Cx}
/-- set(xs) of ints -/
def rSetI (K : PySem.W.Frag) (w : World) : List V → Hp → VK → Prop := fun vs H Q => ∃ (l : Addr) (ns : List Int), vs = [.ref l] ∧ (SqL K H l (ns.map V.int) ∨ SqT K H l (ns.map V.int)) ∧ ns.length ≤ 4000 ∧
  ∀ p S n, H p = none → SetIs S n (sdd ns) → Q (.ref p) (upd H p (SetO w p S n))
theorem cr_setI (hc : X.calm = true) : CallR X (.type "set") (rSetI X.K X.w) := by
  intro pins s σ H vs us Q I r h
  obtain ⟨l, ns, rfl, hq, hl, q⟩ := h
  rw [Vals.ref1 r]
  have fin : ∀ (h' : Heap) (tk c : Nat), SetR X.w h' s.heap.objs.size (fun j => decide (j ∈ ns)) c → c ≤ ns.length → (∀ b o, s.heap.get? b = some o → h'.get? b = some o) → EP X pins σ Q (.ref s.heap.objs.size) { s with heap := h', toks := tk } := fun h' tk c R hcn k =>
    ⟨.ref _, upd H s.heap.objs.size (SetO X.w s.heap.objs.size (fun j => decide (j ∈ ns)) c), I.laid (t' := tk) k (Nat.le_refl _) (setO_new R), rfl, q _ _ _ (I.hok.fresh (Nat.le_refl _)) (setIs_of R (sdd_sorted ns) fun j => by rw [decide_eq_true_eq, sdd_mem])⟩
  rcases hq with hq | hq
  · obtain ⟨its, rv, pl, hz⟩ := I.list hq
    exact call_set_listI ns (I.ok.hd hc) pl.isList (by simpa using ints_of_vals rv) (by unfold scanBound; omega) fin
  · obtain ⟨its, rv, pt, hz⟩ := I.tuple hq
    exact call_set_tupI ns (I.ok.hd hc) (show s.heap.IsTuple l its.toArray from pt) (by simpa using ints_of_vals rv) (by unfold scanBound; omega) fin
def IsSet (w : World) (H : Hp) (a : Addr) (ns : List Int) : Prop := ∃ S n, H a = some (SetO w a S n) ∧ SetIs S n ns
/-- sorted(found) -/
def rSortSet (w : World) : List V → Hp → VK → Prop := fun vs H Q => ∃ (a : Addr) (ns : List Int), vs = [V.ref a] ∧ IsSet w H a ns ∧ ∀ p, H p = none → Q (.ref p) (upd H p (.lst (ns.map V.int)))
theorem cr_sortSet (hc : X.calm = true) : CallR X (.builtin "sorted") (rSortSet X.w) := by
  intro pins s σ H vs us Q I r h
  obtain ⟨a, ms, rfl, ⟨S, n, ha, his⟩, q⟩ := h
  have R := setO_get I ha
  rw [Vals.ref1 r]
  refine sorted_setN R (I.ok.hd hc) fun s' p out c ns k g o hp hg hi hs hm hl hle => ?_
  have e0 : ns = ms := sorted_ext hs his.sorted fun j => (hm j).trans (his.mem j)
  subst e0
  have hlen : (ns.map V.int).length ≤ sizeLine := by rw [List.length_map, hl, sizeLine_eq]; omega
  have hn : H p = none := I.hok.fresh hp
  have J : Inv X pins σ (upd H p (.lst (ns.map V.int))) { s with heap := s'.heap, gens := s'.gens, drawn := s'.drawn, toks := s'.toks } :=
    I.call (ch := []) (Un.laid k hp hn) (I.hok.laid k hp ⟨hlen, out.toList, c, vals_of_ints hi, hg⟩) (by rw [g]; exact I.bare) (fun _ z => nomatch z)
  have e : s' = { s with heap := s'.heap, gens := s'.gens, drawn := s'.drawn, toks := s'.toks } := by
    cases s'
    cases s
    cases o
    rfl
  rw [e]
  exact ⟨.ref p, _, J, rfl, q p hn⟩
/-- len(found) -/
def rLenSet (w : World) : List V → Hp → VK → Prop := fun vs H Q => ∃ (a : Addr) (ns : List Int), vs = [V.ref a] ∧ IsSet w H a ns ∧ Q (.int ns.length) H
theorem cr_lenSet : CallR X (.builtin "len") (rLenSet X.w) := by
  intro pins s σ H vs us Q I r h
  obtain ⟨a, ms, rfl, ⟨S, n, ha, his⟩, q⟩ := h
  obtain ⟨o, es, ep, t, ho, hex, hd, g, nd, hm2, hb, hf, hn, hr, hl⟩ := setO_get I ha
  rw [Vals.ref1 r]
  refine call_len_set ho hex hd hf (by unfold scanBound at hb; omega) ⟨.int ms.length, H, I.tok _, ⟨_, by rw [hn, his.len]⟩, q⟩
theorem new_set {pins : List (Addr × Obj)} {σ : L2.St} {H : Hp} {s s' : Shared} {p : Addr} {S : Int → Bool} {c : Nat} {Q : VK} (I : Inv X pins σ H s) (g : s'.gens = s.gens) (o : s'.os = s.os) (hp : s.heap.objs.size ≤ p) (k : ∀ b u, s.heap.get? b = some u → s'.heap.get? b = some u) (R : SetR X.w s'.heap p S c)
    (q : Q (.ref p) (upd H p (SetO X.w p S c))) : EP X pins σ Q (.ref p) s' := by
  have hn : H p = none := I.hok.fresh hp
  have J : Inv X pins σ (upd H p (SetO X.w p S c)) { s with heap := s'.heap, gens := s'.gens, drawn := s'.drawn, toks := s'.toks } :=
    I.call (ch := []) (Un.laid k hp hn) (I.hok.laid k hp (setO_new R)) (by rw [g]; exact I.bare) (fun _ z => nomatch z)
  have e : s' = { s with heap := s'.heap, gens := s'.gens, drawn := s'.drawn, toks := s'.toks } := by
    cases s'
    cases s
    cases o
    rfl
  rw [e]
  exact ⟨.ref p, _, J, rfl, q⟩
/-- set - set -/
def rSetSub (w : World) : R2 := fun x y H Q => ∃ (a b : Addr) (ns ms : List Int), x = .ref a ∧ y = .ref b ∧ IsSet w H a ns ∧ IsSet w H b ms ∧ ns.length / 4 ≤ ms.length ∧
  ∀ p S n, H p = none → SetIs S n (ns.filter fun j => !decide (j ∈ ms)) → Q (.ref p) (upd H p (SetO w p S n))
theorem op_setSubR : OpR X (binaryOp .Sub) (rSetSub X.w) := by
  intro pins s σ H x y v u Q I rx ry h
  obtain ⟨a, b, ns, ms, rfl, rfl, ⟨S, n, ha, h1⟩, ⟨T, m, hb, h2⟩, hsz, q⟩ := h
  cases rx
  cases ry
  refine op_setSub (setO_get I ha) (setO_get I hb) (by rw [h1.len, h2.len]; exact hsz) fun p s' c g o hp k R => new_set I g o hp k R (q p _ _ (I.hok.fresh hp) (setIs_of R (h1.sorted.filter _) fun j => ?_))
  rw [List.mem_filter, ← h1.mem j, Bool.and_eq_true]
  have e : T j = decide (j ∈ ms) := by
    rw [Bool.eq_iff_iff, h2.mem j, decide_eq_true_eq]
  rw [e]
/-- set & set -/
def rSetAnd (w : World) : R2 := fun x y H Q => ∃ (a b : Addr) (ns ms : List Int), x = .ref a ∧ y = .ref b ∧ a ≠ b ∧ IsSet w H a ns ∧ IsSet w H b ms ∧
  ∀ p S n, H p = none → SetIs S n (ns.filter fun j => decide (j ∈ ms)) → Q (.ref p) (upd H p (SetO w p S n))
theorem op_setAndR : OpR X (binaryOp .BitAnd) (rSetAnd X.w) := by
  intro pins s σ H x y v u Q I rx ry h
  obtain ⟨a, b, ns, ms, rfl, rfl, hne, ⟨S, n, ha, h1⟩, ⟨T, m, hb, h2⟩, q⟩ := h
  cases rx
  cases ry
  refine op_setAnd (setO_get I ha) (setO_get I hb) hne fun p s' c g o hp k R => new_set I g o hp k R (q p _ _ (I.hok.fresh hp) (setIs_of R (h1.sorted.filter _) fun j => ?_))
  rw [List.mem_filter, ← h1.mem j, Bool.and_eq_true]
  have e : T j = decide (j ∈ ms) := by
    rw [Bool.eq_iff_iff, h2.mem j, decide_eq_true_eq]
  rw [e]
end
end L2

set_option Elab.async false
set_option linter.all false
set_option maxRecDepth 100000
namespace PySem.SeqAt
open PySem
section
variable {A : Around} {s : Shared}
/-- the call of tuple's own __lt__, as sorting makes it -/
theorem call_tuple_lt {prog : Program} {w : World} {E : Value → Shared → Prop} {Q : Value → Shared → Prop} {l b : Addr} {items items2 : Array Value} {e r : Nat → Bool} (hl : s.heap.IsTuple l items) (hb : s.heap.IsTuple b items2)
    (he : ∀ j (h1 : j < items.size) (h2 : j < items2.size), EqAt A.in1 s items[j] items2[j] (e j)) (hr : ∀ j (h1 : j < items.size) (h2 : j < items2.size), e j = false → RcLt A.in1 s items[j] items2[j] (r j))
    (h : Q (.bool (firstLt e r (decide (items.size < items2.size)) (List.range (min items.size items2.size)))) s) : wpAny (model prog w) A (call (.builtin "tuple.__lt__") [.ref l, .ref b]) Q E s := by
  obtain ⟨⟨cls, dd, data, sl⟩, ho, hc, n, hd⟩ := id hl
  obtain ⟨⟨cls2, dd2, data2, sl2⟩, ho2, hc2, n2, hd2⟩ := id hb
  simp only at hc hd hc2 hd2
  subst hc hd hc2 hd2
  exact call_meets F.slot_tuple_lt ⟨_, ho, rfl⟩ F.entry_tuple_lt (F.args_tuple_lt_2 _ _) (tuple_ltAt l b items items2 n n2 dd dd2 sl sl2 e r) ⟨ho, ho2, he, hr, h⟩
end
end PySem.SeqAt
namespace PySem.W
open PySem PySem.SeqAt PySem.Calls PyProof.Rows
section
variable {prog : Program} {w : World} {A : Around} {E : Value → Shared → Prop} {s : Shared}
theorem oneLt_tup {f : Bool} {xs ys : List PyData} {a b : Value} {as bs : List Addr} {Q : Bool → Shared → Prop} (ra : Reads s.heap a (.tuple xs) as) (rb : Reads s.heap b (.tuple ys) bs) (h : alike (.tuple xs) (.tuple ys) = true)
    (hu : A.units + min (PyData.tuple xs).depth (PyData.tuple ys).depth < cLine) (hq : Q (dataLt (.tuple xs) (.tuple ys)) s) : wpAny (model prog w) A (oneLt' f a b) Q E s := by
  cases f with
  | false => exact oneLt_alike (fun z => nomatch z) ra rb h (fun z => nomatch z) hu hq
  | true =>
    have hal : alikeAll xs ys = true := by simpa [alike] using h
    cases ra with
    | @tuple l o vs n _ as₁ h1 h2 h3 h4 =>
      cases rb with
      | @tuple l' o' vs' n' _ bs₁ k1 k2 k3 k4 =>
        have n1 : vs.size = xs.length := by simpa using ReadsAll.length _ _ _ h4
        have n2 : vs'.size = ys.length := by simpa using ReadsAll.length _ _ _ k4
        rw [dataLt_tuple, ← firstLt_toks xs ys hal, ← n1, ← n2] at hq
        rw [oneLt'_eq]
        simp only [if_true]
        refine wpAny_bind (wpAny_cRoomFor (room_here hu) ?_)
        refine wpAny_bind (wpAny_callSpecialIfBound?_slot (T := "tuple") ⟨_, h1, h2⟩ F.slot_tuple_lt (call_tuple_lt (e := pairEq xs ys) (r := fun j => dataLt (xs.getD j .none) (ys.getD j .none)) ⟨_, h1, h2, _, h3⟩ ⟨_, k1, k2, _, k3⟩ (fun j j1 j2 => ?_) (fun j j1 j2 hj => ?_) ?_))
        · have := eqAt_alikeAll xs ys A.in1 s vs.toList vs'.toList _ _ h4 k4 hal (room_in hu) j (by simpa using j1) (by simpa using j2)
          simpa using this
        · have := rcLt_alikeAll xs ys A.in1 s vs.toList vs'.toList _ _ h4 k4 hal (room_in hu) j (by simpa using j1) (by simpa using j2) hj
          simpa using this
        · exact wpAny_truthy_bool hq
def neTup : PyData → Bool
  | .tuple (_ :: _) => true
  | _ => false
def neHead : List PyData → Bool
  | .tuple (_ :: _) :: _ => true
  | _ => false
/-- the first items of tuples, some of them empty -/
theorem tup_firsts : ∀ {vs : List Value} {ds : List PyData} {Q : List (Option Value) → Shared → Prop}, EachIs (fun v d => ∃ as, Reads s.heap v d as) vs ds → (∀ d, d ∈ ds → ∃ xs, d = .tuple xs) →
    (∀ fs, fs.length = vs.length → (fs.all (·.isSome) = ds.all neTup) → (((fs[0]?).bind id).isSome = neHead ds) → Q fs s) → wpAny (model prog w) A (vs.mapM firstOfTuple') Q E s
  | _, _, Q, .nil, _, h => by rw [List.mapM_nil]; exact wpAny_pure (h [] rfl rfl rfl)
  | v :: vs, d :: ds, Q, .cons ⟨as, r⟩ t, ht, h => by
    obtain ⟨xs, rfl⟩ := ht d (List.mem_cons_self ..)
    rw [List.mapM_cons]
    refine wpAny_bind ?_
    cases r with
    | @tuple a o its n _ _ ho hc hd hr =>
      rw [kas_first_eq]
      refine wpAny_bind (Looks.here (show Looks (model prog w) s.heap (typeOf (.ref a)) o.cls from (Looks.ld ho).andThen .now) ?_)
      rw [hc, if_neg (by first | decide | simp)]
      refine wpAny_bind (listItems_at ho hd (wpAny_pure ?_))
      refine wpAny_bind (tup_firsts t (fun d hd => ht d (List.mem_cons_of_mem _ hd)) fun fs h1 h2 _ => wpAny_pure (h _ (by rw [List.length_cons, List.length_cons, h1]) ?_ ?_))
      · rw [List.all_cons, List.all_cons, h2]
        cases xs with
        | nil =>
          have : its[0]? = none := by
            have h0 : its.size = ([] : List PyData).length := by simpa using SeqAt.ReadsAll.length _ _ _ hr
            rw [Array.getElem?_eq_none]
            rw [h0]; exact Nat.le_refl _
          rw [this]; rfl
        | cons x xs =>
          have : its[0]?.isSome = true := by
            have h0 : its.size = (x :: xs).length := by simpa using SeqAt.ReadsAll.length _ _ _ hr
            have hlt : 0 < its.size := by rw [h0]; exact Nat.succ_pos _
            rw [Array.getElem?_eq_getElem hlt]; rfl
          rw [this]
          rfl
      · show its[0]?.isSome = _
        cases xs with
        | nil =>
          have : its[0]? = none := by
            have h0 : its.size = ([] : List PyData).length := by simpa using SeqAt.ReadsAll.length _ _ _ hr
            rw [Array.getElem?_eq_none]
            rw [h0]; exact Nat.le_refl _
          rw [this]; rfl
        | cons x xs =>
          have : its[0]?.isSome = true := by
            have h0 : its.size = (x :: xs).length := by simpa using SeqAt.ReadsAll.length _ _ _ hr
            have hlt : 0 < its.size := by rw [h0]; exact Nat.succ_pos _
            rw [Array.getElem?_eq_getElem hlt]; rfl
          rw [this]
          rfl
/-- tuples can be sorted, empty ones among them -/
theorem SortsAt.tups {vs : List Value} {ds : List PyData} (e : EachIs (fun v d => ∃ as, Reads s.heap v d as) vs ds) (hal : AllAlike ds) (ht : ∀ d, d ∈ ds → ∃ xs, d = .tuple xs) (hu : ∀ d, d ∈ ds → A.units + d.depth < cLine) : SortsAt prog w A s (dataKind s.heap ds) vs := by
  by_cases hne : ds.all neTup = true
  · refine SortsAt.data e hal (.inl fun d hd => ?_) hu
    have := List.all_eq_true.mp hne d hd
    unfold neTup at this
    split at this
    · exact ⟨_, _, rfl⟩
    · cases this
  · have room : ∀ {d d' : PyData}, d ∈ ds → A.units + min d.depth d'.depth < cLine := fun {d d'} hd => Nat.lt_of_le_of_lt (Nat.add_le_add_left (Nat.min_le_left _ _) _) (hu d hd)
    have cmp : ∀ (f : Bool) (E : Value → Shared → Prop) (x y : Value) (a b : List (Int ⊕ List Nat)) (Q : Bool → Shared → Prop), (dataKind s.heap ds).keyOf x = some a → (dataKind s.heap ds).keyOf y = some b → Q (PyProof.Rows.lexLt itemOrd a b) s → wpAny (model prog w) A (oneLt' f x y) Q E s := fun f E x y a b Q ha hb hq => by
      obtain ⟨d, as, hd, ra, rfl⟩ := dataKind_inv ha
      obtain ⟨d', as', hd', rb, rfl⟩ := dataKind_inv hb
      obtain ⟨xs, rfl⟩ := ht d hd
      obtain ⟨ys, rfl⟩ := ht d' hd'
      exact oneLt_tup ra rb (hal _ hd _ hd') (room hd) hq
    refine ⟨fun v hv => ?_, ?_⟩
    · obtain ⟨d, hd, as, r⟩ := e.left v hv
      exact ⟨_, dataKind_some hal hd r⟩
    · by_cases h0 : neHead ds = true
      · refine ⟨general', fun E x y a b Q ha hb hq => ?_, fun h2 E Q hq => ?_⟩
        · exact cmp false E x y a b Q ha hb hq
        · rw [kat_kind_eq, List.mapM_toArray, map_eq_pure_bind]
          refine wpAny_bind (wpAny_bind (tup_firsts e ht fun fs h1 h3 h4 => wpAny_pure ?_))
          rw [if_neg (by rw [List.all_toArray, h3]; exact hne), if_pos (by rw [List.getElem?_toArray, h4]; exact h0)]
          exact wpAny_pure hq
      · refine ⟨oneType', fun E x y a b Q ha hb hq => ?_, fun h2 E Q hq => ?_⟩
        · rw [keyLt'_oneType]
          exact cmp true E x y a b Q ha hb hq
        · rw [kat_kind_eq, List.mapM_toArray, map_eq_pure_bind]
          refine wpAny_bind (wpAny_bind (tup_firsts e ht fun fs h1 h3 h4 => wpAny_pure ?_))
          rw [if_neg (by rw [List.all_toArray, h3]; exact hne), if_neg (by rw [List.getElem?_toArray, h4]; exact h0)]
          obtain ⟨v₁, rest, rfl⟩ : ∃ v₁ rest, vs = v₁ :: rest := by
            cases vs with
            | nil => simp at h2
            | cons v r => exact ⟨v, r, rfl⟩
          rw [oneTypeOnly'_eq, List.mapM_toArray, map_eq_pure_bind]
          refine wpAny_bind (wpAny_bind (wpAny_bind (kas_mapM (r := Value.type "tuple") _ (fun v hv Q' hq => ?_) (wpAny_pure ?_))))
          · obtain ⟨d, hd, as, r⟩ := e.left v hv
            obtain ⟨xs, rfl⟩ := ht d hd
            exact Looks.here (looks_reads r) hq
          · have hall : ((List.map (fun _ => Value.type "tuple") (v₁ :: rest)).toArray.all fun x => x == Value.type "tuple") = true := by
              simp only [List.all_toArray, List.all_map, List.all_eq_true]
              intro _ _
              exact beq_self_eq_true _
            have h0 : (List.map (fun _ => Value.type "tuple") (v₁ :: rest)).toArray[0]? = some (Value.type "tuple") := by simp
            rw [h0]
            simp only [hall, if_true]
            exact wpAny_pure (wpAny_pure hq)
section
variable {β : Type} {R : Value → β → Prop} {enc : β → PyData} {vs : List Value} {bs : List β}
/-- sorted(xs), tuples, empty ones among them -/
theorem sorted_tupsE {l : Addr} {Q : Value → Shared → Prop} (hl : s.heap.IsList l vs.toArray) (e : EachIs R vs bs) (er : EachIs (fun v b => ∃ as, Reads s.heap v (enc b) as) vs bs) (hal : AllAlike (bs.map enc)) (hk : ∀ d, d ∈ bs.map enc → ∃ xs, d = .tuple xs) (hL : bs.length ≤ sizeLine)
    (hu : ∀ b, b ∈ bs → A.units + 2 + (enc b).depth < cLine) (h : ∀ out, out.length = bs.length → EachIs R out (bs.mergeSort (dataLe false enc)) → Q (.ref (s.heap.objs.size + 1)) { s with heap := sortedAll s.heap vs (List.toArray out) }) :
    wpAny (model prog w) A (call (.builtin "sorted") [.ref l]) Q E s := by
  have er' : EachIs (fun v b => ∃ as, Reads (sortingHeap (copyHeap s.heap vs) (s.heap.objs.size + 1) vs) v (enc b) as) vs bs := er.mono fun _ _ ⟨as, r⟩ => ⟨as, PyProof.Rows.Reads.keeps (fun _ _ => sorting_copy_old) r⟩
  exact sorted_vals hl (SortsAt.tups (s := { s with heap := sortingHeap (copyHeap s.heap vs) (s.heap.objs.size + 1) vs }) (each_map (R := fun v d => ∃ as, Reads (sortingHeap (copyHeap s.heap vs) (s.heap.objs.size + 1) vs) v d as) enc er') hal hk (bound_map hu)) (by rw [e.length]; exact hL)
    (h _ (by rw [sortVals_length false rfl]; exact e.length) (sortVals_data false e er' hal))
end
end
end PySem.W

set_option Elab.async false
set_option linter.all false
set_option maxRecDepth 100000
namespace Lk
open PySem PySem.Spec PyProof.Rows L2

abbrev D := PyData
noncomputable def cut (O : Addr → Prop) (H : Hp) : Hp := fun a => open Classical in if O a then none else H a
theorem cut_some {O : Addr → Prop} {H : Hp} {a : Addr} {o : HO} : cut O H a = some o ↔ ¬ O a ∧ H a = some o := by
  unfold cut
  by_cases h : O a <;> simp [h]

def Sub (H H' : Hp) : Prop := ∀ a o, H a = some o → H' a = some o
theorem Sub.refl (H : Hp) : Sub H H := fun _ _ h => h
theorem Sub.trans {A B C : Hp} (a : Sub A B) (b : Sub B C) : Sub A C := fun x o h => b x o (a x o h)
theorem Sub.upd {H : Hp} {p : Addr} {o : HO} (h : H p = none) : Sub H (upd H p o) := fun a u e => by
  rw [upd_ne (ne_of_none e h)]
  exact e
theorem Sub.l {K : PySem.W.Frag} {H H' : Hp} {a : Addr} {xs : List V} (e : Sub H H') (h : SqL K H a xs) : SqL K H' a xs := by
  rcases h with (h | ⟨o, h⟩) | h
  · exact .inl (.inl (e _ _ h))
  · exact .inl (.inr ⟨o, e _ _ h⟩)
  · exact .inr h
theorem Sub.t {K : PySem.W.Frag} {H H' : Hp} {a : Addr} {xs : List V} (e : Sub H H') (h : SqT K H a xs) : SqT K H' a xs := by
  rcases h with (h | ⟨o, h⟩) | h
  · exact .inl (.inl (e _ _ h))
  · exact .inl (.inr ⟨o, e _ _ h⟩)
  · exact .inr h
theorem cut_sub {O : Addr → Prop} {H : Hp} : Sub (cut O H) H := fun _ _ h => (cut_some.mp h).2
mutual
theorem dp_mono {K : PySem.W.Frag} {H H' : Hp} (e : Sub H H') : ∀ (d : D) (v : V), Dp K H v d → Dp K H' v d
  | .none, _, h => by cases h; exact .non
  | .bool b, _, h => by cases h; exact .bl b
  | .int i, _, h => by cases h; exact .int i
  | .str x, _, h => by cases h; exact .str x
  | .list ds, _, h => by
    cases h with
    | lst hs ha => exact .lst (e.l hs) (dpa_mono e ds _ ha)
  | .tuple ds, _, h => by
    cases h with
    | tup hs ha => exact .tup (e.t hs) (dpa_mono e ds _ ha)
  | .dict _, _, h => by cases h
theorem dpa_mono {K : PySem.W.Frag} {H H' : Hp} (e : Sub H H') : ∀ (ds : List D) (vs : List V), DpAll K H vs ds → DpAll K H' vs ds
  | [], _, h => by cases h; exact .nil
  | d :: ds, _, h => by
    cases h with
    | cons h1 h2 => exact .cons (dp_mono e d _ h1) (dpa_mono e ds _ h2)
end
theorem dpa_len {K : PySem.W.Frag} {H : Hp} : ∀ {ds : List D} {vs : List V}, DpAll K H vs ds → vs.length = ds.length
  | [], _, h => by cases h; rfl
  | _ :: ds, _, h => by
    cases h with
    | cons h1 h2 => rw [List.length_cons, List.length_cons, dpa_len h2]
theorem dpa_get {K : PySem.W.Frag} {H : Hp} : ∀ {ds : List D} {vs : List V}, DpAll K H vs ds → ∀ (i : Nat) (v : V), vs[i]? = some v → ∃ d, ds[i]? = some d ∧ Dp K H v d
  | [], _, h, i, v, e => by cases h; simp at e
  | d :: ds, _, h, i, v, e => by
    cases h with
    | cons h1 h2 =>
      cases i with
      | zero => simp at e; subst e; exact ⟨d, rfl, h1⟩
      | succ i => simpa using dpa_get h2 i v (by simpa using e)
theorem dpa_get' {K : PySem.W.Frag} {H : Hp} {ds : List D} {vs : List V} (h : DpAll K H vs ds) {i : Nat} {d : D} (e : ds[i]? = some d) : ∃ v, vs[i]? = some v ∧ Dp K H v d := by
  have hl := dpa_len h
  obtain ⟨hi, _⟩ := List.getElem?_eq_some_iff.mp e
  obtain ⟨d', e', q⟩ := dpa_get h i (vs[i]'(by omega)) (List.getElem?_eq_getElem _)
  rw [e] at e'; cases e'
  exact ⟨_, List.getElem?_eq_getElem _, q⟩
theorem dpa_app {K : PySem.W.Frag} {H : Hp} : ∀ {ds es : List D} {vs us : List V}, DpAll K H vs ds → DpAll K H us es → DpAll K H (vs ++ us) (ds ++ es)
  | [], _, _, _, h, h' => by cases h; exact h'
  | _ :: _, _, _, _, h, h' => by
    cases h with
    | cons h1 h2 => exact .cons h1 (dpa_app h2 h')
theorem dpa_set {K : PySem.W.Frag} {H : Hp} {v : V} {d : D} (q : Dp K H v d) : ∀ {ds : List D} {vs : List V}, DpAll K H vs ds → ∀ (i : Nat), DpAll K H (vs.set i v) (ds.set i d)
  | [], _, h, i => by cases h; exact .nil
  | _ :: _, _, h, i => by
    cases h with
    | cons h1 h2 =>
      cases i with
      | zero => exact .cons q h2
      | succ i => exact .cons h1 (dpa_set q h2 i)
theorem dpa_take {K : PySem.W.Frag} {H : Hp} : ∀ {ds : List D} {vs : List V}, DpAll K H vs ds → ∀ (i : Nat), DpAll K H (vs.take i) (ds.take i)
  | [], _, h, i => by cases h; simp; exact .nil
  | _ :: _, _, h, i => by
    cases h with
    | cons h1 h2 =>
      cases i with
      | zero => exact .nil
      | succ i => exact .cons h1 (dpa_take h2 i)
theorem dpa_drop {K : PySem.W.Frag} {H : Hp} : ∀ {ds : List D} {vs : List V}, DpAll K H vs ds → ∀ (i : Nat), DpAll K H (vs.drop i) (ds.drop i)
  | [], _, h, i => by cases h; simp; exact .nil
  | _ :: _, _, h, i => by
    cases h with
    | cons h1 h2 =>
      cases i with
      | zero => exact .cons h1 h2
      | succ i => exact dpa_drop h2 i

/-- what an object of one's own holds: a list, a dict (keys ints and texts; tuples of such), a set of ints -/
inductive Ct where
  | lst (ds : List D) | dK (kvs : List (Key × D)) | dT (kvs : List (List Key × D))
def KvOk {κ : Type} (K : PySem.W.Frag) (H : Hp) : List (κ × V) → List (κ × D) → Prop
  | [], [] => True
  | (k, v) :: r, (k', d) :: s => k = k' ∧ Dp K H v d ∧ KvOk K H r s
  | _, _ => False
def CtOk (K : PySem.W.Frag) (H : Hp) : HO → Ct → Prop
  | .lst us, .lst ds => DpAll K H us ds
  | .dK kvs, .dK es => KvOk K H kvs es
  | .dT kvs, .dT es => KvOk K H kvs es
  | _, _ => False
theorem kv_mono {κ : Type} {K : PySem.W.Frag} {H H' : Hp} (e : Sub H H') : ∀ {a : List (κ × V)} {b : List (κ × D)}, KvOk K H a b → KvOk K H' a b
  | [], [], _ => trivial
  | (_, v) :: r, (_, d) :: s, h => ⟨h.1, dp_mono e d v h.2.1, kv_mono e h.2.2⟩
  | [], _ :: _, h => h.elim
  | _ :: _, [], h => h.elim
theorem ct_mono {K : PySem.W.Frag} {H H' : Hp} (e : Sub H H') {o : HO} {c : Ct} (h : CtOk K H o c) : CtOk K H' o c := by
  cases o <;> cases c <;> first | exact h.elim | exact dpa_mono e _ _ h | exact kv_mono e h
theorem ct_lst {K : PySem.W.Frag} {H : Hp} {o : HO} {ds : List D} (h : CtOk K H o (.lst ds)) : ∃ us, o = .lst us ∧ DpAll K H us ds := by
  cases o <;> first | exact ⟨_, rfl, h⟩ | exact h.elim
/-- a place of the def: forgotten, a value, an object of its own that may change (true: it came as an argument) -/
inductive Sl where
  | non | val (d : D) | own (b : Bool) (c : Ct) | pin (v : V)
abbrev Rho := List Sl
structure Wd where
  H0 : Hp
  B : Addr → Prop
  ioL : List (Nat × Addr)
def Wd.io (W : Wd) (a : Addr) : Prop := ∃ i, (i, a) ∈ W.ioL

structure Mt (K : PySem.W.Frag) (W : Wd) (ρ : Rho) (σ : L2.St) (H : Hp) (O : Addr → Prop) : Prop where
  len : σ.length = ρ.length
  val : ∀ (i : Nat) d, ρ[i]? = some (Sl.val d) → ∃ v, σ[i]? = some (some v) ∧ Dp K (cut O H) v d
  own : ∀ (i : Nat) b ds, ρ[i]? = some (Sl.own b ds) → ∃ p us, σ[i]? = some (some (V.ref p)) ∧ O p ∧ H p = some us ∧ CtOk K (cut O H) us ds ∧ (b = false → W.H0 p = none) ∧ (b = true → W.io p)
  apart : ∀ (i j : Nat) b c ds es p, i ≠ j → ρ[i]? = some (Sl.own b ds) → ρ[j]? = some (Sl.own c es) → σ[i]? = some (some (V.ref p)) → σ[j]? ≠ some (some (V.ref p))
  ios : ∀ q ∈ W.ioL, σ[q.1]? = some (some (V.ref q.2)) ∧ ∃ ds, ρ[q.1]? = some (Sl.own true ds)
  ex : ∀ a, O a → ∃ o, H a = some o
  keep : ∀ a o, W.H0 a = some o → ¬ W.io a → H a = some o
  sub : ∀ a, W.B a → O a
  new : ∀ a, O a → W.B a ∨ W.H0 a = none
  wf1 : ∀ a, W.B a → ∃ o, W.H0 a = some o
  wf2 : ∀ a, W.io a → W.B a
  old : ∀ a o, W.H0 a = some o → ∃ o', H a = some o'
  pin : ∀ (i : Nat) v, ρ[i]? = some (Sl.pin v) → σ[i]? = some (some v)

/-- what is not one's own stays -/
def Ext (H : Hp) (O : Addr → Prop) (H' : Hp) (O' : Addr → Prop) : Prop := ∀ a o, H a = some o → ¬ O a → H' a = some o ∧ ¬ O' a
theorem Ext.refl (H : Hp) (O : Addr → Prop) : Ext H O H O := fun _ _ h h' => ⟨h, h'⟩
theorem Ext.trans {H H1 H2 : Hp} {O O1 O2 : Addr → Prop} (a : Ext H O H1 O1) (b : Ext H1 O1 H2 O2) : Ext H O H2 O2 := fun x o h n => let ⟨h1, n1⟩ := a x o h n; b x o h1 n1
theorem Ext.sub {H H' : Hp} {O O' : Addr → Prop} (e : Ext H O H' O') : Sub (cut O H) (cut O' H') := fun a o h => by
  obtain ⟨n, h⟩ := cut_some.mp h
  obtain ⟨h1, n1⟩ := e a o h n
  exact cut_some.mpr ⟨n1, h1⟩
theorem Ext.grow {H H' : Hp} {O : Addr → Prop} (e : Sub H H') : Ext H O H' O := fun a o h n => ⟨e a o h, n⟩
theorem cut_grow {H H' : Hp} {O : Addr → Prop} (e : Sub H H') : Sub (cut O H) (cut O H') := (Ext.grow e).sub

section
variable {K : PySem.W.Frag} {W : Wd} {ρ : Rho} {σ : L2.St} {H H' : Hp} {O : Addr → Prop}
theorem Mt.grow (M : Mt K W ρ σ H O) (e : Sub H H') : Mt K W ρ σ H' O where
  len := M.len
  val := fun i d h => let ⟨v, a, b⟩ := M.val i d h; ⟨v, a, dp_mono (cut_grow e) _ _ b⟩
  own := fun i b ds h => let ⟨p, us, a, b, c, d, e1⟩ := M.own i b ds h; ⟨p, us, a, b, e _ _ c, ct_mono (cut_grow e) d, e1⟩
  apart := M.apart
  ios := M.ios
  ex := fun a h => let ⟨o, q⟩ := M.ex a h; ⟨o, e _ _ q⟩
  keep := fun a o h n => e _ _ (M.keep a o h n)
  sub := M.sub
  new := M.new
  wf1 := M.wf1
  wf2 := M.wf2
  old := fun a o h => let ⟨o', q⟩ := M.old a o h; ⟨o', e _ _ q⟩
  pin := M.pin
theorem Mt.fresh (M : Mt K W ρ σ H O) {p : Addr} (h : H p = none) : ¬ O p := fun q => by
  obtain ⟨o, e⟩ := M.ex p q
  rw [h] at e; cases e
end

/-! ### expressions -/
def wE (X : Cx) (e : Expr) : TE := fun σ H Q => ∀ pins s, Inv X pins σ H s → wpAny (model X.prog X.w) X.A (eval e X.env) (EP X pins σ Q) X.xe s
theorem pe_w {X : Cx} {e : Expr} : PE X e (wE X e) := ⟨fun pins s σ H Q I h => h pins s I⟩
theorem _root_.L2.PE.w {X : Cx} {e : Expr} {t : TE} (h : PE X e t) {σ : L2.St} {H : Hp} {Q : VK} (q : t σ H Q) : wE X e σ H Q := fun pins s I => h.run pins s σ H Q I q
def wT (X : Cx) (e : Expr) : TT := fun σ H Q => ∀ pins s, Inv X pins σ H s → wpAny (model X.prog X.w) X.A (isTrue e X.env (eval e X.env)) (TP X pins σ Q) X.xe s
theorem pt_w {X : Cx} {e : Expr} : PT X e (wT X e) := ⟨fun pins s σ H Q I h => h pins s I⟩
theorem _root_.L2.PT.w {X : Cx} {e : Expr} {t : TT} (h : PT X e t) {σ : L2.St} {H : Hp} {Q : Bool → Hp → Prop} (q : t σ H Q) : wT X e σ H Q := fun pins s I => h.run pins s σ H Q I q
def wW (X : Cx) (e : Expr) : TT := fun σ H Q => ∀ whole pins s, Inv X pins σ H s → wpAny (model X.prog X.w) X.A (isTrue e X.env whole) (TP X pins σ Q) X.xe s
theorem pw_w {X : Cx} {e : Expr} : PW X e (wW X e) := ⟨fun whole pins s σ H Q I h => h whole pins s I⟩
theorem _root_.L2.PW.w {X : Cx} {e : Expr} {t : TT} (h : PW X e t) {σ : L2.St} {H : Hp} {Q : Bool → Hp → Prop} (q : t σ H Q) : wW X e σ H Q := fun whole pins s I => h.run whole pins s σ H Q I q
def wA (X : Cx) (es : List Expr) : TA := fun σ H Q => ∀ pos pins s, Inv X pins σ H s → wpAny (model X.prog X.w) X.A (spliced (backTo pos (starEach es X.env))) (AP X pins σ Q) X.xe s
theorem pa_w {X : Cx} {es : List Expr} : PA X es (wA X es) := ⟨fun pos pins s σ H Q I h => h pos pins s I⟩
theorem _root_.L2.PA.w {X : Cx} {es : List Expr} {t : TA} (h : PA X es t) {σ : L2.St} {H : Hp} {Q : List V → Hp → Prop} (q : t σ H Q) : wA X es σ H Q := fun pos pins s I => h.run pos pins s σ H Q I q

def EX (X : Cx) (e : Expr) (ρ : Rho) (k : D → Rho → Prop) : Prop :=
  ∀ W σ H O, Mt X.K W ρ σ H O → ∀ Q : VK, (∀ v d ρ' H' O', Mt X.K W ρ' σ H' O' → Ext H O H' O' → Dp X.K (cut O' H') v d → k d ρ' → Q v H') → wE X e σ H Q
def TX (X : Cx) (e : Expr) (ρ : Rho) (k : Bool → Rho → Prop) : Prop :=
  ∀ W σ H O, Mt X.K W ρ σ H O → ∀ Q : Bool → Hp → Prop, (∀ b ρ' H' O', Mt X.K W ρ' σ H' O' → Ext H O H' O' → k b ρ' → Q b H') → wT X e σ H Q
def WX (X : Cx) (e : Expr) (ρ : Rho) (k : Bool → Rho → Prop) : Prop :=
  ∀ W σ H O, Mt X.K W ρ σ H O → ∀ Q : Bool → Hp → Prop, (∀ b ρ' H' O', Mt X.K W ρ' σ H' O' → Ext H O H' O' → k b ρ' → Q b H') → wW X e σ H Q

section
variable {X : Cx} {ρ : Rho} {k : D → Rho → Prop} {pos : Pos} {a b : Expr}
theorem x_var {i : Nat} {x : Str} {d : D} (hN : X.N[i]? = some x) (hv : Vis X.env.scope x) (hs : ρ[i]? = some (Sl.val d)) (hk : k d ρ)
    (hd : (x == ("__debug__" : Str)) = false := by decide) (hcd : (x == ("__classdict__" : Str)) = false := by decide) : EX X (.Name x pos) ρ k := fun W σ H O M Q q => by
  obtain ⟨v, e, r⟩ := M.val i d hs
  exact (pe_var hN hv hd hcd).w ⟨v, e, q v d ρ H O M (Ext.refl _ _) r hk⟩
theorem x_int {i : Int} {j : Nat} (hk : k (.int i) ρ) : EX X (.Constant (.int i) j pos) ρ k := fun W σ H O M Q q =>
  pe_int.w (q _ _ ρ H O M (Ext.refl _ _) (.int i) hk)
theorem x_bl {i : Bool} {j : Nat} (hk : k (.bool i) ρ) : EX X (.Constant (.bool i) j pos) ρ k := fun W σ H O M Q q =>
  pe_bl.w (q _ _ ρ H O M (Ext.refl _ _) (.bl i) hk)
theorem x_non {j : Nat} (hk : k .none ρ) : EX X (.Constant .none j pos) ρ k := fun W σ H O M Q q =>
  pe_non.w (q _ _ ρ H O M (Ext.refl _ _) .non hk)
theorem x_str {i : Str} {j : Nat} (hk : k (.str i) ρ) : EX X (.Constant (.str i) j pos) ρ k := fun W σ H O M Q q =>
  pe_str.w (q _ _ ρ H O M (Ext.refl _ _) (.str i) hk)
/-- a module's constant -/
theorem x_glob {x : Str} {u : Value} {v : V} {d : D} (hg : Gl X x) (hm : X.mg x = some u) (r : RelV v u) (hd : ∀ H, Dp X.K H v d) (hk : k d ρ) (hdb : (x == ("__debug__" : Str)) = false := by decide) : EX X (.Name x pos) ρ k := fun W σ H O M Q q =>
  (pe_glob hg hm r hdb).w (q v d ρ H O M (Ext.refl _ _) (hd _) hk)

/-! two-place operations, by what they are worth -/
def wOp (X : Cx) (f : Value → Value → Sem Value) : R2 := fun x y H Q => ∀ pins s σ v u, Inv X pins σ H s → RelV x v → RelV y u → wpAny (model X.prog X.w) X.A (f v u) (EP X pins σ Q) X.xe s
theorem op_w {f : Value → Value → Sem Value} : OpR X f (wOp X f) := fun pins s σ H x y v u Q I rx ry h => h pins s σ v u I rx ry
theorem OpRw {f : Value → Value → Sem Value} {r : R2} (h : OpR X f r) {x y : V} {H : Hp} {Q : VK} (q : r x y H Q) : wOp X f x y H Q := fun pins s σ v u I rx ry => h pins s σ H x y v u Q I rx ry q
def OpD (X : Cx) (f : Value → Value → Sem Value) (dx dy dz : D) : Prop :=
  ∀ (H : Hp) (O : Addr → Prop) (x y : V) (Q : VK), (∀ a, O a → ∃ o, H a = some o) → Dp X.K (cut O H) x dx → Dp X.K (cut O H) y dy → (∀ z H', Sub H H' → Dp X.K (cut O H') z dz → Q z H') → wOp X f x y H Q
theorem x_bin {op : Operator} (h : EX X a ρ fun dx ρ1 => EX X b ρ1 fun dy ρ2 => ∃ dz, OpD X (binaryOp op) dx dy dz ∧ k dz ρ2) : EX X (.BinOp a op b pos) ρ k := fun W σ H O M Q q =>
  (pe_op op_w pe_w pe_w).w (h W σ H O M _ fun x dx ρ1 H1 O1 M1 E1 rx h1 => h1 W σ H1 O1 M1 _ fun y dy ρ2 H2 O2 M2 E2 ry h2 => by
    obtain ⟨dz, ho, hk⟩ := h2
    exact ho H2 O2 x y Q M2.ex (dp_mono E2.sub _ _ rx) ry fun z H' hs hz => q z dz ρ2 H' O2 (M2.grow hs) ((E1.trans E2).trans (Ext.grow hs)) hz hk)
theorem x_cmp {op : CmpOp} (hm : behindInMarks op b = false) (h : EX X a ρ fun dx ρ1 => EX X b ρ1 fun dy ρ2 => ∃ dz, OpD X (compareOp op) dx dy dz ∧ k dz ρ2) : EX X (.Compare a [op] [b] pos) ρ k := fun W σ H O M Q q =>
  (pe_cmpR op_w pe_w pe_w hm).w (h W σ H O M _ fun x dx ρ1 H1 O1 M1 E1 rx h1 => h1 W σ H1 O1 M1 _ fun y dy ρ2 H2 O2 M2 E2 ry h2 => by
    obtain ⟨dz, ho, hk⟩ := h2
    exact ho H2 O2 x y Q M2.ex (dp_mono E2.sub _ _ rx) ry fun z H' hs hz => q z dz ρ2 H' O2 (M2.grow hs) ((E1.trans E2).trans (Ext.grow hs)) hz hk)
theorem t_cmp {op : CmpOp} {k : Bool → Rho → Prop} (hm : behindInMarks op b = false) (h : EX X a ρ fun dx ρ1 => EX X b ρ1 fun dy ρ2 => ∃ c, OpD X (compareOp op) dx dy (.bool c) ∧ k c ρ2) : TX X (.Compare a [op] [b] pos) ρ k := fun W σ H O M Q q =>
  (pt_cmpR op_w pe_w pe_w hm).w (h W σ H O M _ fun x dx ρ1 H1 O1 M1 E1 rx h1 => h1 W σ H1 O1 M1 _ fun y dy ρ2 H2 O2 M2 E2 ry h2 => by
    obtain ⟨c, ho, hk⟩ := h2
    refine ho H2 O2 x y _ M2.ex (dp_mono E2.sub _ _ rx) ry fun z H' hs hz => ?_
    cases hz
    exact ⟨c, rfl, q c ρ2 H' O2 (M2.grow hs) ((E1.trans E2).trans (Ext.grow hs)) hk⟩)
theorem od_I0 {f : Value → Value → Sem Value} {g : Int → Int → V} {x y : Int} {dz : D} (h : OpR X f (rI0 g)) (hz : ∀ H, Dp X.K H (g x y) dz) : OpD X f (.int x) (.int y) dz := fun H O v u Q _ hx hy q => by
  cases hx; cases hy
  exact OpRw h ⟨x, y, rfl, rfl, q _ H (Sub.refl H) (hz _)⟩
theorem od_I {f : Value → Value → Sem Value} {C : Int → Int → Prop} {g : Int → Int → V} {x y : Int} {dz : D} (h : OpR X f (rI C g)) (hc : C x y) (hz : ∀ H, Dp X.K H (g x y) dz) : OpD X f (.int x) (.int y) dz := fun H O v u Q _ hx hy q => by
  cases hx; cases hy
  exact OpRw h ⟨x, y, rfl, rfl, hc, q _ H (Sub.refl H) (hz _)⟩
theorem od_add {x y : Int} : OpD X (binaryOp .Add) (.int x) (.int y) (.int (x + y)) := od_I0 op_add fun _ => .int _
theorem od_sub {x y : Int} : OpD X (binaryOp .Sub) (.int x) (.int y) (.int (x - y)) := od_I0 op_sub fun _ => .int _
theorem od_mulL {x y : Int} (h : -(2 ^ 64) < x ∧ x < 2 ^ 64 := by decide) : OpD X (binaryOp .Mult) (.int x) (.int y) (.int (x * y)) := od_I op_mul (.inl h) fun _ => .int _
theorem od_mulR {x y : Int} (h : -(2 ^ 64) < y ∧ y < 2 ^ 64 := by decide) : OpD X (binaryOp .Mult) (.int x) (.int y) (.int (x * y)) := od_I op_mul (.inr h) fun _ => .int _
theorem od_fdiv {x y : Int} (h : CDiv x y) : OpD X (binaryOp .FloorDiv) (.int x) (.int y) (.int (x / y)) := od_I op_fdiv h fun _ => .int _
theorem od_mod {x y : Int} (h : 0 < y) : OpD X (binaryOp .Mod) (.int x) (.int y) (.int (x % y)) := od_I op_mod h fun _ => .int _
theorem od_lt {x y : Int} : OpD X (compareOp .Lt) (.int x) (.int y) (.bool (decide (x < y))) := od_I0 op_lt fun _ => .bl _
theorem od_le {x y : Int} : OpD X (compareOp .LtE) (.int x) (.int y) (.bool (decide (x ≤ y))) := od_I0 op_le fun _ => .bl _
theorem od_gt {x y : Int} : OpD X (compareOp .Gt) (.int x) (.int y) (.bool (decide (y < x))) := od_I0 op_gt fun _ => .bl _
theorem od_ge {x y : Int} : OpD X (compareOp .GtE) (.int x) (.int y) (.bool (decide (y ≤ x))) := od_I0 op_ge fun _ => .bl _
end
end Lk

set_option Elab.async false
set_option linter.all false
set_option maxRecDepth 100000
namespace Lk
open PySem PySem.Spec PyProof.Rows L2

/-! ### changing what is one's own -/
def isIo : Option Sl → Bool
  | some (.own true _) => true
  | _ => false
section
variable {K : PySem.W.Frag} {W : Wd} {ρ : Rho} {σ : L2.St} {H H' : Hp} {O : Addr → Prop}
theorem Mt.noio (M : Mt K W ρ σ H O) {i : Nat} (h : isIo ρ[i]? = false) : ∀ q ∈ W.ioL, q.1 ≠ i := fun q hq e => by
  obtain ⟨_, ds, h2⟩ := M.ios q hq
  rw [e] at h2
  rw [h2] at h
  cases h
theorem Mt.set (M : Mt K W ρ σ H O) {i : Nat} {v : V} {d : D} (h : isIo ρ[i]? = false) (r : Dp K (cut O H) v d) : Mt K W (ρ.set i (.val d)) (σ.set i (some v)) H O where
  len := by simpa using M.len
  val := fun j e hj => by
    by_cases q : i = j
    · subst q
      have hi : i < ρ.length := by
        obtain ⟨q, _⟩ := List.getElem?_eq_some_iff.mp hj
        simpa using q
      rw [List.getElem?_set_self hi] at hj
      cases hj
      exact ⟨v, by rw [List.getElem?_set_self (by rw [M.len]; exact hi)], r⟩
    · rw [List.getElem?_set_ne q] at hj
      obtain ⟨u, a, b⟩ := M.val j e hj
      exact ⟨u, by rw [List.getElem?_set_ne q]; exact a, b⟩
  own := fun j b ds hj => by
    by_cases q : i = j
    · subst q
      have hi : i < ρ.length := by
        obtain ⟨q, _⟩ := List.getElem?_eq_some_iff.mp hj
        simpa using q
      rw [List.getElem?_set_self hi] at hj
      cases hj
    · rw [List.getElem?_set_ne q] at hj ⊢
      exact M.own j b ds hj
  apart := fun j l b c ds es p hn hj hl => by
    by_cases q : i = j
    · subst q
      have hi : i < ρ.length := by
        obtain ⟨q, _⟩ := List.getElem?_eq_some_iff.mp hj
        simpa using q
      rw [List.getElem?_set_self hi] at hj
      cases hj
    · by_cases q2 : i = l
      · subst q2
        have hi : i < ρ.length := by
          obtain ⟨q, _⟩ := List.getElem?_eq_some_iff.mp hl
          simpa using q
        rw [List.getElem?_set_self hi] at hl
        cases hl
      · rw [List.getElem?_set_ne q] at hj ⊢
        rw [List.getElem?_set_ne q2] at hl ⊢
        exact M.apart j l b c ds es p hn hj hl
  ios := fun q hq => by
    have ne := M.noio h q hq
    rw [List.getElem?_set_ne (Ne.symm ne), List.getElem?_set_ne (Ne.symm ne)]
    exact M.ios q hq
  ex := M.ex
  keep := M.keep
  sub := M.sub
  new := M.new
  wf1 := M.wf1
  wf2 := M.wf2
  old := M.old
  pin := fun j e hj => by
    by_cases q : i = j
    · subst q
      have hi : i < ρ.length := by
        obtain ⟨q, _⟩ := List.getElem?_eq_some_iff.mp hj
        simpa using q
      rw [List.getElem?_set_self hi] at hj
      cases hj
    · rw [List.getElem?_set_ne q] at hj ⊢
      exact M.pin j e hj
/-- what is of one's own is given away -/
theorem Mt.freeze (M : Mt K W ρ σ H O) {i : Nat} {ds : List D} {p : Addr} (h : ρ[i]? = some (Sl.own false (.lst ds))) (hp : σ[i]? = some (some (V.ref p))) :
    Mt K W (ρ.set i (.val (.list ds))) σ H (fun a => O a ∧ a ≠ p) ∧ Ext H O H (fun a => O a ∧ a ≠ p) ∧ Dp K (cut (fun a => O a ∧ a ≠ p) H) (.ref p) (.list ds) := by
  obtain ⟨p', ho, e1, e2, e3, e4, e5, _⟩ := M.own i false (.lst ds) h
  rw [hp] at e1
  cases e1
  obtain ⟨us, rfl, e4⟩ := ct_lst e4
  have hx : Ext H O H (fun a => O a ∧ a ≠ p) := fun a o ho hn => ⟨ho, fun z => hn z.1⟩
  have hi : i < ρ.length := (List.getElem?_eq_some_iff.mp h).1
  have rp : Dp K (cut (fun a => O a ∧ a ≠ p) H) (.ref p) (.list ds) :=
    .lst (SqL.of (cut_some.mpr ⟨fun z => z.2 rfl, e3⟩)) (dpa_mono hx.sub _ _ e4)
  refine ⟨⟨by simpa using M.len, fun j d hj => ?_, fun j b es hj => ?_, fun j l b c ds' es q hn hj hl => ?_, fun q hq => ?_, fun a ha => M.ex a ha.1, M.keep, fun a ha => ⟨M.sub a ha, fun z => ?_⟩, fun a ha => M.new a ha.1, M.wf1, M.wf2, M.old, fun j v hj => ?_⟩, hx, rp⟩
  · by_cases q : i = j
    · subst q
      rw [List.getElem?_set_self hi] at hj
      cases hj
      exact ⟨_, hp, rp⟩
    · rw [List.getElem?_set_ne q] at hj
      obtain ⟨u, a, b⟩ := M.val j d hj
      exact ⟨u, a, dp_mono hx.sub _ _ b⟩
  · by_cases q : i = j
    · subst q
      rw [List.getElem?_set_self hi] at hj
      cases hj
    · rw [List.getElem?_set_ne q] at hj
      obtain ⟨p2, us2, f1, f2, f3, f4, f5⟩ := M.own j b es hj
      exact ⟨p2, us2, f1, ⟨f2, fun z => M.apart i j _ _ _ _ p q h hj hp (by rw [f1, z])⟩, f3, ct_mono hx.sub f4, f5⟩
  · by_cases q1 : i = j
    · subst q1
      rw [List.getElem?_set_self hi] at hj
      cases hj
    · by_cases q2 : i = l
      · subst q2
        rw [List.getElem?_set_self hi] at hl
        cases hl
      · rw [List.getElem?_set_ne q1] at hj
        rw [List.getElem?_set_ne q2] at hl
        exact M.apart j l b c ds' es q hn hj hl
  · have ne := M.noio (i := i) (by rw [h]; rfl) q hq
    rw [List.getElem?_set_ne (Ne.symm ne)]
    exact M.ios q hq
  · obtain ⟨o, ho⟩ := M.wf1 a ha
    rw [z, e5 rfl] at ho
    cases ho
  · by_cases q : i = j
    · subst q
      rw [List.getElem?_set_self hi] at hj
      cases hj
    · rw [List.getElem?_set_ne q] at hj
      exact M.pin j v hj
/-- the list of one's own in slot i has changed -/
theorem Mt.mut (M : Mt K W ρ σ H O) {i : Nat} {b : Bool} {ds es : Ct} {p : Addr} {us : HO} (h : ρ[i]? = some (Sl.own b ds)) (hp : σ[i]? = some (some (V.ref p)))
    (kp : ∀ a o, H a = some o → a ≠ p → H' a = some o) (hp' : H' p = some us) (r : CtOk K (cut O H') us es) : Mt K W (ρ.set i (.own b es)) σ H' O ∧ Ext H O H' O := by
  obtain ⟨p', us', e1, e2, e3, e4, e5, e6⟩ := M.own i b ds h
  rw [hp] at e1
  cases e1
  have hx : Ext H O H' O := fun a o ho hn => ⟨kp a o ho (fun z => hn (by rw [z]; exact e2)), hn⟩
  have hi : i < ρ.length := (List.getElem?_eq_some_iff.mp h).1
  refine ⟨⟨by simpa using M.len, fun j d hj => ?_, fun j c fs hj => ?_, fun j l c1 c2 ds' fs q hn hj hl => ?_, fun q hq => ?_, fun a ha => ?_, fun a o ho hn => ?_, M.sub, M.new, M.wf1, M.wf2, fun a o ho => ?_, fun j v hj => ?_⟩, hx⟩
  · by_cases q : i = j
    · subst q
      rw [List.getElem?_set_self hi] at hj
      cases hj
    · rw [List.getElem?_set_ne q] at hj
      obtain ⟨u, a, c⟩ := M.val j d hj
      exact ⟨u, a, dp_mono hx.sub _ _ c⟩
  · by_cases q : i = j
    · subst q
      rw [List.getElem?_set_self hi] at hj
      cases hj
      exact ⟨p, us, hp, e2, hp', r, e5, e6⟩
    · rw [List.getElem?_set_ne q] at hj
      obtain ⟨p2, us2, f1, f2, f3, f4, f5⟩ := M.own j c fs hj
      exact ⟨p2, us2, f1, f2, kp _ _ f3 (fun z => M.apart i j _ _ _ _ p q h hj hp (by rw [f1, z])), ct_mono hx.sub f4, f5⟩
  · by_cases q1 : i = j
    · subst q1
      by_cases q2 : i = l
      · exact absurd q2 hn
      · rw [List.getElem?_set_ne q2] at hl
        intro hj'
        have := M.apart i l b c2 ds fs p q2 h hl hp
        exact fun z => this (by rw [z]; exact (hp.symm.trans hj').symm ▸ rfl)
    · rw [List.getElem?_set_ne q1] at hj
      by_cases q2 : i = l
      · subst q2
        exact M.apart j i c1 b ds' ds q hn hj h
      · rw [List.getElem?_set_ne q2] at hl
        exact M.apart j l c1 c2 ds' fs q hn hj hl
  · obtain ⟨h1, ds1, h2⟩ := M.ios q hq
    refine ⟨h1, ?_⟩
    by_cases z : i = q.1
    · rw [← z] at h2 ⊢
      rw [h] at h2
      cases h2
      exact ⟨es, List.getElem?_set_self hi⟩
    · rw [List.getElem?_set_ne z]
      exact ⟨ds1, h2⟩
  · obtain ⟨o, ho⟩ := M.ex a ha
    by_cases z : a = p
    · rw [z]
      exact ⟨_, hp'⟩
    · exact ⟨o, kp a o ho z⟩
  · refine kp a o (M.keep a o ho hn) fun z => ?_
    subst z
    cases b with
    | false => rw [e5 rfl] at ho; cases ho
    | true => exact hn (e6 rfl)
  · obtain ⟨o', ho'⟩ := M.old a o ho
    by_cases z : a = p
    · rw [z]
      exact ⟨_, hp'⟩
    · exact ⟨o', kp a o' ho' z⟩
  · by_cases q : i = j
    · subst q
      rw [List.getElem?_set_self hi] at hj
      cases hj
    · rw [List.getElem?_set_ne q] at hj
      exact M.pin j v hj
/-- a new list becomes one's own -/
theorem Mt.adopt (M : Mt K W ρ σ H O) {i : Nat} {ds : Ct} {p : Addr} {us : HO} (h : isIo ρ[i]? = false) (hp : O p) (hn : ∀ (j : Nat) b es, ρ[j]? = some (Sl.own b es) → σ[j]? ≠ some (some (V.ref p))) (h0 : W.H0 p = none)
    (hp' : H p = some us) (r : CtOk K (cut O H) us ds) : Mt K W (ρ.set i (.own false ds)) (σ.set i (some (.ref p))) H O := by
  have hl := M.len
  refine ⟨by simpa using M.len, fun j d hj => ?_, fun j c fs hj => ?_, fun j l c1 c2 ds' fs q hne hj hl' => ?_, fun q hq => ?_, M.ex, M.keep, M.sub, M.new, M.wf1, M.wf2, M.old, fun j v hj => ?_⟩
  · by_cases q : i = j
    · subst q
      have hi : i < ρ.length := by
        obtain ⟨q, _⟩ := List.getElem?_eq_some_iff.mp hj
        simpa using q
      rw [List.getElem?_set_self hi] at hj
      cases hj
    · rw [List.getElem?_set_ne q] at hj ⊢
      exact M.val j d hj
  · by_cases q : i = j
    · subst q
      have hi : i < ρ.length := by
        obtain ⟨q, _⟩ := List.getElem?_eq_some_iff.mp hj
        simpa using q
      rw [List.getElem?_set_self hi] at hj
      cases hj
      exact ⟨p, us, List.getElem?_set_self (by omega), hp, hp', r, fun _ => h0, fun z => nomatch z⟩
    · rw [List.getElem?_set_ne q] at hj ⊢
      exact M.own j c fs hj
  · by_cases q1 : i = j
    · subst q1
      have hi : i < ρ.length := by
        obtain ⟨q, _⟩ := List.getElem?_eq_some_iff.mp hj
        simpa using q
      rw [List.getElem?_set_self (by omega)]
      intro z
      cases z
      rw [List.getElem?_set_ne hne] at hl' ⊢
      exact hn l _ _ hl'
    · rw [List.getElem?_set_ne q1] at hj ⊢
      by_cases q2 : i = l
      · subst q2
        have hi : i < ρ.length := by
          obtain ⟨q, _⟩ := List.getElem?_eq_some_iff.mp hl'
          simpa using q
        rw [List.getElem?_set_self (by omega)]
        intro z1 z2
        cases z2
        exact hn j _ _ hj z1
      · rw [List.getElem?_set_ne q2] at hl' ⊢
        exact M.apart j l c1 c2 ds' fs q hne hj hl'
  · have ne := M.noio h q hq
    rw [List.getElem?_set_ne (Ne.symm ne), List.getElem?_set_ne (Ne.symm ne)]
    exact M.ios q hq
  · by_cases q : i = j
    · subst q
      have hi : i < ρ.length := by
        obtain ⟨q, _⟩ := List.getElem?_eq_some_iff.mp hj
        simpa using q
      rw [List.getElem?_set_self hi] at hj
      cases hj
    · rw [List.getElem?_set_ne q] at hj ⊢
      exact M.pin j v hj
end

/-! ### forgetting -/
inductive Weak : Rho → Rho → Prop where
  | nil : Weak [] []
  | keep {s : Sl} {a b : Rho} : Weak a b → Weak (s :: a) (s :: b)
  | drop {s : Sl} {a b : Rho} : isIo (some s) = false → Weak a b → Weak (s :: a) (.non :: b)
theorem Weak.refl : ∀ ρ : Rho, Weak ρ ρ
  | [] => .nil
  | _ :: r => .keep (Weak.refl r)
theorem weak_at : ∀ {ρ : Rho} {i : Nat}, i < ρ.length → isIo ρ[i]? = false → Weak ρ (ρ.set i .non)
  | s :: r, 0, _, h => .drop h (Weak.refl r)
  | s :: r, i + 1, hl, h => .keep (weak_at (by simpa using hl) (by simpa using h))
theorem Weak.len : ∀ {ρ ρ' : Rho}, Weak ρ ρ' → ρ.length = ρ'.length
  | _, _, .nil => rfl
  | _, _, .keep h => by rw [List.length_cons, List.length_cons, h.len]
  | _, _, .drop _ h => by rw [List.length_cons, List.length_cons, h.len]
theorem Weak.at : ∀ {ρ ρ' : Rho}, Weak ρ ρ' → ∀ (i : Nat) (s : Sl), ρ'[i]? = some s → ρ[i]? = some s ∨ (s = .non ∧ isIo ρ[i]? = false)
  | _, _, .nil, i, s, h => by simp at h
  | _, _, .keep q, 0, s, h => .inl h
  | _, _, .keep q, i + 1, s, h => by simpa using q.at i s (by simpa using h)
  | _, _, .drop z q, 0, s, h => by
    simp at h
    exact .inr ⟨h.symm, by simpa using z⟩
  | _, _, .drop z q, i + 1, s, h => by simpa using q.at i s (by simpa using h)
theorem Mt.weak {K : PySem.W.Frag} {W : Wd} {ρ ρ' : Rho} {σ : L2.St} {H : Hp} {O : Addr → Prop} (M : Mt K W ρ σ H O) (w : Weak ρ ρ') : Mt K W ρ' σ H O where
  len := M.len.trans w.len
  val := fun i d h => by
    rcases w.at i _ h with q | ⟨q, _⟩
    · exact M.val i d q
    · cases q
  own := fun i b ds h => by
    rcases w.at i _ h with q | ⟨q, _⟩
    · exact M.own i b ds q
    · cases q
  apart := fun i j b c ds es p hn h1 h2 => by
    rcases w.at i _ h1 with q | ⟨q, _⟩
    · rcases w.at j _ h2 with q2 | ⟨q2, _⟩
      · exact M.apart i j b c ds es p hn q q2
      · cases q2
    · cases q
  ios := fun q hq => by
    obtain ⟨h1, ds, h2⟩ := M.ios q hq
    refine ⟨h1, ds, ?_⟩
    have hi : q.1 < ρ'.length := by rw [← w.len]; exact (List.getElem?_eq_some_iff.mp h2).1
    rcases w.at q.1 _ (List.getElem?_eq_getElem hi) with z | ⟨_, z⟩
    · rw [List.getElem?_eq_getElem hi, ← z, h2]
    · rw [h2] at z; cases z
  ex := M.ex
  keep := M.keep
  sub := M.sub
  new := M.new
  wf1 := M.wf1
  wf2 := M.wf2
  old := M.old
  pin := fun i v h => by
    rcases w.at i _ h with q | ⟨q, _⟩
    · exact M.pin i v q
    · cases q

/-! ### a new list, argument lists -/
def FX (X : Cx) (e : Expr) (ρ : Rho) (k : Ct → Rho → Prop) : Prop :=
  ∀ W σ H O, Mt X.K W ρ σ H O → ∀ Q : VK, (∀ p us ds ρ' H' O', Mt X.K W ρ' σ H' O' → O' p → (∀ (j : Nat) b es, ρ'[j]? = some (Sl.own b es) → σ[j]? ≠ some (some (V.ref p))) → W.H0 p = none → H' p = some us → CtOk X.K (cut O' H') us ds →
    Ext H O H' O' → k ds ρ' → Q (.ref p) H') → wE X e σ H Q
def AX (X : Cx) (es : List Expr) (ρ : Rho) (k : List D → Rho → Prop) : Prop :=
  ∀ W σ H O, Mt X.K W ρ σ H O → ∀ Q : List V → Hp → Prop, (∀ vs ds ρ' H' O', Mt X.K W ρ' σ H' O' → Ext H O H' O' → DpAll X.K (cut O' H') vs ds → k ds ρ' → Q vs H') → wA X es σ H Q

section
variable {X : Cx} {ρ : Rho} {pos : Pos} {a b e : Expr} {es : List Expr}
theorem Mt.new_list {K : PySem.W.Frag} {W : Wd} {σ : L2.St} {H H' : Hp} {O : Addr → Prop} {p : Addr} {us : HO} (M : Mt K W ρ σ H O) (hp : H p = none) (hs : Sub H H') (hp' : H' p = some us) :
    Mt K W ρ σ H' (fun a => O a ∨ a = p) ∧ Ext H O H' (fun a => O a ∨ a = p) ∧ (∀ (j : Nat) b es, ρ[j]? = some (Sl.own b es) → σ[j]? ≠ some (some (V.ref p))) ∧ W.H0 p = none := by
  have hx : Ext H O H' (fun a => O a ∨ a = p) := fun a o ho hn => ⟨hs a o ho, fun z => by
    rcases z with z | z
    · exact hn z
    · rw [z, hp] at ho; cases ho⟩
  have h0 : W.H0 p = none := by
    cases e : W.H0 p with
    | none => rfl
    | some o =>
      obtain ⟨o', q⟩ := M.old p o e
      rw [hp] at q; cases q
  have M' := M.grow hs
  refine ⟨⟨M'.len, fun i d h => ?_, fun i b ds h => ?_, M'.apart, M'.ios, fun a ha => ?_, M'.keep, fun a ha => .inl (M'.sub a ha), fun a ha => ?_, M'.wf1, M'.wf2, M'.old, M'.pin⟩, hx, fun j b es h z => ?_, h0⟩
  · obtain ⟨v, q, r⟩ := M.val i d h
    exact ⟨v, q, dp_mono hx.sub _ _ r⟩
  · obtain ⟨p', us', q1, q2, q3, q4, q5⟩ := M.own i b ds h
    exact ⟨p', us', q1, .inl q2, hs _ _ q3, ct_mono hx.sub q4, q5⟩
  · rcases ha with ha | ha
    · exact M'.ex a ha
    · rw [ha]; exact ⟨_, hp'⟩
  · rcases ha with ha | ha
    · exact M'.new a ha
    · rw [ha]; exact .inr h0
  · obtain ⟨p', us', q1, q2, q3, _⟩ := M.own j b es h
    rw [z] at q1
    cases q1
    rw [hp] at q3; cases q3
/-- a new list as a value -/
theorem x_frL {k : D → Rho → Prop} (h : FX X e ρ fun c ρ1 => ∃ ds, c = .lst ds ∧ k (.list ds) ρ1) : EX X e ρ k := fun W σ H O M Q q =>
  h W σ H O M _ fun p us c ρ' H' O' M' hp hn h0 hl r hx ⟨ds, hc, hk⟩ => by
    subst hc
    obtain ⟨us, rfl, r⟩ := ct_lst r
    have hx2 : Ext H' O' H' (fun a => O' a ∧ a ≠ p) := fun a o ho hn => ⟨ho, fun z => hn z.1⟩
    refine q _ _ ρ' H' (fun a => O' a ∧ a ≠ p) ⟨M'.len, fun i d h => ?_, fun i b ds h => ?_, M'.apart, M'.ios, fun a ha => M'.ex a ha.1, M'.keep, fun a ha => ⟨M'.sub a ha, fun z => ?_⟩, fun a ha => M'.new a ha.1, M'.wf1, M'.wf2, M'.old, M'.pin⟩ (hx.trans hx2)
      (.lst (SqL.of (cut_some.mpr ⟨fun z => z.2 rfl, hl⟩)) (dpa_mono hx2.sub _ _ r)) hk
    · obtain ⟨v, q, r⟩ := M'.val i d h
      exact ⟨v, q, dp_mono hx2.sub _ _ r⟩
    · obtain ⟨p', us', q1, q2, q3, q4, q5⟩ := M'.own i b ds h
      exact ⟨p', us', q1, ⟨q2, fun z => hn i b ds h (by rw [q1, z])⟩, q3, ct_mono hx2.sub q4, q5⟩
    · obtain ⟨o, ho⟩ := M'.wf1 a ha
      rw [z, h0] at ho; cases ho
theorem a_nil {k : List D → Rho → Prop} (hk : k [] ρ) : AX X [] ρ k := fun W σ H O M Q q => pa_nil.w (q [] [] ρ H O M (Ext.refl _ _) .nil hk)
theorem a_cons {k : List D → Rho → Prop} (h : EX X e ρ fun d ρ1 => AX X es ρ1 fun ds ρ2 => k (d :: ds) ρ2) (hs : starEach (e :: es) X.env = (false, eval e X.env) :: starEach es X.env := by rfl) : AX X (e :: es) ρ k := fun W σ H O M Q q =>
  (pa_cons pe_w pa_w hs).w (h W σ H O M _ fun v d ρ1 H1 O1 M1 E1 r1 h1 => h1 W σ H1 O1 M1 _ fun vs ds ρ2 H2 O2 M2 E2 r2 h2 =>
    q (v :: vs) (d :: ds) ρ2 H2 O2 M2 (E1.trans E2) (.cons (dp_mono E2.sub _ _ r1) r2) h2)
/-- (a, b, ..) -/
theorem x_tup {k : D → Rho → Prop} {x1} (h : AX X es ρ fun ds ρ1 => ds.length ≤ 1000 ∧ k (.tuple ds) ρ1) : EX X (.Tuple es x1 pos) ρ k := fun W σ H O M Q q =>
  (pe_tup pa_w).w (h W σ H O M _ fun vs ds ρ1 H1 O1 M1 E1 r1 ⟨hl, hk⟩ => by
    refine ⟨?_, fun p hp => ?_⟩
    · have e := dpa_len r1
      exact Nat.le_of_lt (small1000 (by omega))
    · have hs : Sub H1 (upd H1 p (.tup vs)) := Sub.upd hp
      refine q _ _ ρ1 _ O1 (M1.grow hs) (E1.trans (Ext.grow hs)) (.tup (SqT.of (cut_some.mpr ⟨M1.fresh hp, upd_same⟩)) (dpa_mono (cut_grow hs) _ _ r1)) hk)
/-- [a, b, ..] -/
theorem f_lst {k : Ct → Rho → Prop} (h : AX X es ρ fun ds ρ1 => ds.length ≤ 1000 ∧ k (.lst ds) ρ1) : FX X (.List es pos) ρ k := fun W σ H O M Q q =>
  (pe_lst pa_w).w (h W σ H O M _ fun vs ds ρ1 H1 O1 M1 E1 r1 ⟨hl, hk⟩ => by
    refine ⟨?_, fun p hp => ?_⟩
    · have e := dpa_len r1
      exact Nat.le_of_lt (small1000 (by omega))
    · have hs : Sub H1 (upd H1 p (.lst vs)) := Sub.upd hp
      obtain ⟨M2, E2, n2, h0⟩ := M1.new_list hp hs upd_same
      exact q p (.lst vs) (.lst ds) ρ1 _ _ M2 (.inr rfl) n2 h0 upd_same (dpa_mono E2.sub _ _ r1) (E1.trans E2) hk)
/-- a list of one's own as a value: it is given away -/
theorem x_frz {k : D → Rho → Prop} {i : Nat} {x : Str} {ds : List D} (hN : X.N[i]? = some x) (hv : Vis X.env.scope x) (hs : ρ[i]? = some (Sl.own false (.lst ds))) (hk : k (.list ds) (ρ.set i (.val (.list ds))))
    (hd : (x == ("__debug__" : Str)) = false := by decide) (hcd : (x == ("__classdict__" : Str)) = false := by decide) : EX X (.Name x pos) ρ k := fun W σ H O M Q q => by
  obtain ⟨p, us, e, _⟩ := M.own i false (.lst ds) hs
  obtain ⟨M2, E2, r⟩ := M.freeze hs e
  exact (pe_var hN hv hd hcd).w ⟨_, e, q _ _ _ H _ M2 E2 r hk⟩
end

/-! ### statements -/
def wS (X : Cx) (st : Stmt) : TS := fun Dn σ H => ∀ pins s, Inv X pins σ H s → wpAny (model X.prog X.w) X.A (exec st X.env) (SP X pins Dn) X.xe s
theorem ps_w {X : Cx} {st : Stmt} : PS X st (wS X st) := ⟨fun pins s σ H Dn I h => h pins s I⟩
theorem _root_.L2.PS.w {X : Cx} {st : Stmt} {t : TS} (h : PS X st t) {σ : L2.St} {H : Hp} {Dn : Ends} (q : t Dn σ H) : wS X st Dn σ H := fun pins s I => h.run pins s σ H Dn I q
def wSs (X : Cx) (st : List Stmt) : TS := fun Dn σ H => ∀ pins s, Inv X pins σ H s → wpAny (model X.prog X.w) X.A (execs st X.env) (SP X pins Dn) X.xe s
theorem pss_w {X : Cx} {st : List Stmt} : PSs X st (wSs X st) := ⟨fun pins s σ H Dn I h => h pins s I⟩
theorem _root_.L2.PSs.w {X : Cx} {st : List Stmt} {t : TS} (h : PSs X st t) {σ : L2.St} {H : Hp} {Dn : Ends} (q : t Dn σ H) : wSs X st Dn σ H := fun pins s I => h.run pins s σ H Dn I q

/-- what is wanted behind a statement -/
structure Wish where
  nx : Rho → Prop
  rt : D → Rho → Prop
  bk : Rho → Prop := fun _ => False
  ct : Rho → Prop := fun _ => False
  /-- a new object of one's own is handed back -/
  rf : Ct → Rho → Prop := fun _ _ => False
structure EndsOk (K : PySem.W.Frag) (W : Wd) (H : Hp) (O : Addr → Prop) (N : Wish) (Dn : Ends) : Prop where
  nx : ∀ ρ' σ' H' O', Mt K W ρ' σ' H' O' → Ext H O H' O' → N.nx ρ' → Dn.nx σ' H'
  rt : ∀ v d ρ' σ' H' O', Mt K W ρ' σ' H' O' → Ext H O H' O' → Dp K (cut O' H') v d → N.rt d ρ' → Dn.rt v H'
  bk : ∀ ρ' σ' H' O', Mt K W ρ' σ' H' O' → Ext H O H' O' → N.bk ρ' → Dn.bk σ' H'
  ct : ∀ ρ' σ' H' O', Mt K W ρ' σ' H' O' → Ext H O H' O' → N.ct ρ' → Dn.ct σ' H'
  rf : ∀ p us c ρ' σ' H' O', Mt K W ρ' σ' H' O' → Ext H O H' O' → O' p → (∀ (j : Nat) b es, ρ'[j]? = some (Sl.own b es) → σ'[j]? ≠ some (some (V.ref p))) → W.H0 p = none → H' p = some us → CtOk K (cut O' H') us c → N.rf c ρ' → Dn.rt (.ref p) H'
theorem EndsOk.ext {K : PySem.W.Frag} {W : Wd} {H H1 : Hp} {O O1 : Addr → Prop} {N : Wish} {Dn : Ends} (h : EndsOk K W H O N Dn) (e : Ext H O H1 O1) : EndsOk K W H1 O1 N Dn where
  nx := fun ρ' σ' H' O' M x => h.nx ρ' σ' H' O' M (e.trans x)
  rt := fun v d ρ' σ' H' O' M x => h.rt v d ρ' σ' H' O' M (e.trans x)
  bk := fun ρ' σ' H' O' M x => h.bk ρ' σ' H' O' M (e.trans x)
  ct := fun ρ' σ' H' O' M x => h.ct ρ' σ' H' O' M (e.trans x)
  rf := fun p us c ρ' σ' H' O' M x => h.rf p us c ρ' σ' H' O' M (e.trans x)
def SX (X : Cx) (st : Stmt) (ρ : Rho) (N : Wish) : Prop := ∀ W σ H O, Mt X.K W ρ σ H O → ∀ Dn : Ends, EndsOk X.K W H O N Dn → wS X st Dn σ H
def SXs (X : Cx) (st : List Stmt) (ρ : Rho) (N : Wish) : Prop := ∀ W σ H O, Mt X.K W ρ σ H O → ∀ Dn : Ends, EndsOk X.K W H O N Dn → wSs X st Dn σ H
section
variable {X : Cx} {ρ : Rho} {pos : Pos} {e c : Expr} {st : Stmt} {rest A B : List Stmt} {N : Wish}
theorem ss_nil (h : N.nx ρ) : SXs X [] ρ N := fun W σ H O M Dn q => pss_nil.w (q.nx ρ σ H O M (Ext.refl _ _) h)
theorem ss_cons (h : SX X st ρ { N with nx := fun ρ1 => SXs X rest ρ1 N }) : SXs X (st :: rest) ρ N := fun W σ H O M Dn q =>
  (pss_cons ps_w pss_w).w (h W σ H O M _ ⟨fun ρ' σ' H' O' M' x h' => h' W σ' H' O' M' Dn (q.ext x), q.rt, q.bk, q.ct, q.rf⟩)
/-- behind a statement something is gathered -/
theorem ss_join {P : Rho → Prop} (h : SX X st ρ { N with nx := P }) (h2 : ∀ ρ1, P ρ1 → SXs X rest ρ1 N) : SXs X (st :: rest) ρ N := ss_cons fun W σ H O M Dn q =>
  h W σ H O M Dn ⟨fun ρ' σ' H' O' M' x h' => q.nx ρ' σ' H' O' M' x (h2 ρ' h'), q.rt, q.bk, q.ct, q.rf⟩
theorem ss_weak {ρ' : Rho} (w : Weak ρ ρ') (h : SXs X rest ρ' N) : SXs X rest ρ N := fun W σ H O M Dn q => h W σ H O (M.weak w) Dn q
theorem s_set {i : Nat} {x : Str} {pos' : Pos} (hN : X.N.Nodup) (hi : X.N[i]? = some x) (hx : Loc X.env.scope x) (h : EX X e ρ fun d ρ1 => isIo ρ1[i]? = false ∧ N.nx (ρ1.set i (.val d)))
    (hs : swapsWith e (some (.Name x pos')) pos.line X.env = pure false := by rfl) (hf : X.fn x = true ∨ X.env.scope.names.lookup x = some .local := by first | exact .inl rfl | exact .inr rfl | assumption) :
    SX X (.Assign [.Name x pos'] e pos) ρ N := fun W σ H O M Dn q =>
  (ps_set hN hi hx pe_w hs hf).w (h W σ H O M _ fun v d ρ1 H1 O1 M1 E1 r ⟨h1, hk⟩ => q.nx _ _ H1 O1 (M1.set h1 r) E1 hk)
theorem s_setO {i : Nat} {x : Str} {pos' : Pos} (hN : X.N.Nodup) (hi : X.N[i]? = some x) (hx : Loc X.env.scope x) (h : FX X e ρ fun ds ρ1 => isIo ρ1[i]? = false ∧ N.nx (ρ1.set i (.own false ds)))
    (hs : swapsWith e (some (.Name x pos')) pos.line X.env = pure false := by rfl) (hf : X.fn x = true ∨ X.env.scope.names.lookup x = some .local := by first | exact .inl rfl | exact .inr rfl | assumption) :
    SX X (.Assign [.Name x pos'] e pos) ρ N := fun W σ H O M Dn q =>
  (ps_set hN hi hx pe_w hs hf).w (h W σ H O M _ fun p us ds ρ1 H1 O1 M1 hp hn h0 hl r E1 ⟨h1, hk⟩ => q.nx _ _ H1 O1 (M1.adopt h1 hp hn h0 hl r) E1 hk)
theorem s_ret (h : EX X e ρ N.rt) : SX X (.Return (some e) pos) ρ N := fun W σ H O M Dn q =>
  (ps_ret pe_w).w (h W σ H O M _ fun v d ρ1 H1 O1 M1 E1 r hk => q.rt v d ρ1 σ H1 O1 M1 E1 r hk)
theorem s_retF (h : FX X e ρ N.rf) : SX X (.Return (some e) pos) ρ N := fun W σ H O M Dn q =>
  (ps_ret pe_w).w (h W σ H O M _ fun p us c ρ1 H1 O1 M1 hp hn h0 hl r E1 hk => q.rf p us c ρ1 σ H1 O1 M1 E1 hp hn h0 hl r hk)
/-- a list of one's own is handed back as such -/
theorem s_retO {i : Nat} {x : Str} {py : Pos} {c : Ct} (hN : X.N[i]? = some x) (hv : Vis X.env.scope x) (hs : ρ[i]? = some (Sl.own false c)) (hi : N.rf c (ρ.set i .non))
    (hd : (x == ("__debug__" : Str)) = false := by decide) (hcd : (x == ("__classdict__" : Str)) = false := by decide) : SX X (.Return (some (.Name x py)) pos) ρ N := fun W σ H O M Dn q => by
  obtain ⟨p, us, e1, e2, e3, e4, e5, _⟩ := M.own i false c hs
  have hlt : i < ρ.length := (List.getElem?_eq_some_iff.mp hs).1
  refine (ps_ret (pe_var hN hv hd hcd)).w ⟨_, e1, q.rf p us c (ρ.set i .non) σ H O (M.weak (weak_at hlt (by rw [hs]; rfl))) (Ext.refl _ _) e2 (fun j b es hj z => ?_) (e5 rfl) e3 e4 hi⟩
  by_cases q : i = j
  · subst q
    rw [List.getElem?_set_self hlt] at hj
    cases hj
  · rw [List.getElem?_set_ne q] at hj
    exact M.apart i j _ _ _ _ p q hs hj e1 z
theorem s_if (h : TX X c ρ fun b ρ1 => (b = true → SXs X A ρ1 N) ∧ (b = false → SXs X B ρ1 N)) : SX X (.If c A B pos) ρ N := fun W σ H O M Dn q =>
  (ps_if pt_w pss_w pss_w).w (h W σ H O M _ fun b ρ1 H1 O1 M1 E1 ⟨h1, h2⟩ => by
    cases b with
    | true => exact h1 rfl W σ H1 O1 M1 Dn (q.ext E1)
    | false => exact h2 rfl W σ H1 O1 M1 Dn (q.ext E1))
theorem s_break (h : N.bk ρ) : SX X (.Break pos) ρ N := fun W σ H O M Dn q => ps_break.w (q.bk ρ σ H O M (Ext.refl _ _) h)
theorem s_cont (h : N.ct ρ) : SX X (.Continue pos) ρ N := fun W σ H O M Dn q => ps_continue.w (q.ct ρ σ H O M (Ext.refl _ _) h)
theorem s_pass (h : N.nx ρ) : SX X (.Pass pos) ρ N := fun W σ H O M Dn q => ps_pass.w (q.nx ρ σ H O M (Ext.refl _ _) h)
theorem s_expr (h : EX X e ρ fun _ ρ1 => N.nx ρ1) (hs : swapsWith e none pos.line X.env = pure false := by rfl) : SX X (.Expr e pos) ρ N := fun W σ H O M Dn q =>
  (ps_expr pe_w hs).w (h W σ H O M _ fun v d ρ1 H1 O1 M1 E1 r hk => q.nx ρ1 σ H1 O1 M1 E1 hk)
end

/-! ### what a def promises -/
def SpP (K : PySem.W.Frag) (Rel : List D → D → Prop) : Sp := fun vs H Q _ => ∃ (O : Addr → Prop) (ds : List D) (d : D), DpAll K (cut O H) vs ds ∧ (∀ a, O a → ∃ o, H a = some o) ∧ Rel ds d ∧ ∀ v H', Sub H H' → Dp K (cut O H') v d → Q v H'
def SpO (K : PySem.W.Frag) (Rel : Ct → List D → D → Ct → Prop) : Sp := fun vs H Q _ => ∃ (O : Addr → Prop) (p : Addr) (us : HO) (vr : List V) (d0 : Ct) (ds : List D) (d : D) (d1 : Ct), vs = .ref p :: vr ∧ O p ∧ H p = some us ∧ CtOk K (cut O H) us d0 ∧ DpAll K (cut O H) vr ds ∧
  (∀ a, O a → ∃ o, H a = some o) ∧ Rel d0 ds d d1 ∧ ∀ v H' us', (∀ a o, H a = some o → a ≠ p → H' a = some o) → H' p = some us' → CtOk K (cut O H') us' d1 → Dp K (cut O H') v d → Q v H'
section
variable {P : Program} {w : World} {K : PySem.W.Frag} {mg : Str → Option Value} {base : Heap}
/-- the context of a def's body -/
abbrev bx (P : Program) (w : World) (K : PySem.W.Frag) (mg : Str → Option Value) (base : Heap) (N : List Str) (qual : Str) (st : Stmt) (f : Addr) (cdv : Value) (A : Around) (outer : List Env) (s : Shared) (H : Hp) (E : XK) : Cx :=
  (cxOf CX0 P w K mg base N qual (defScope st) f cdv A outer s H E).nox
theorem start_get {N : List Str} {vs : List V} {i : Nat} {v : V} (h : vs[i]? = some v) : (L2.start N vs)[i]? = some (some v) := by
  unfold L2.start
  have hi : i < vs.length := (List.getElem?_eq_some_iff.mp h).1
  rw [List.getElem?_append_left (by simpa using hi), List.getElem?_map, h]
  rfl
theorem start_len {N : List Str} {vs : List V} (h : vs.length ≤ N.length) : (L2.start N vs).length = N.length := by
  unfold L2.start
  rw [List.length_append, List.length_map, List.length_replicate]
  omega
theorem vals_get {ds : List D} {n i : Nat} {s : Sl} (h : (ds.map Sl.val ++ List.replicate n Sl.non)[i]? = some s) : (∃ d, ds[i]? = some d ∧ s = .val d) ∨ s = .non := by
  by_cases hlt : i < ds.length
  · rw [List.getElem?_append_left (by simpa using hlt), List.getElem?_map] at h
    cases e : ds[i]? with
    | none => rw [e] at h; cases h
    | some d' => rw [e] at h; cases h; exact .inl ⟨d', rfl, rfl⟩
  · rw [List.getElem?_append_right (by simpa using hlt), List.getElem?_replicate] at h
    split at h <;> cases h
    exact .inr rfl
theorem fn_P {x qual : Str} {st : Stmt} {f : Addr} {fd : FuncData} {N ps : List Str} {k : Nat} {Rel : List D → D → Prop} (F : Fun K x qual st f fd) (S : FnScope N ps (defScope st)) (hl : ∀ ds d, Rel ds d → ds.length = ps.length) (hlN : ps.length ≤ N.length)
    (hb : ∀ (cdv : Value) (A : Around) (outer : List Env) (s : Shared) (H : Hp) (E : XK) (ds : List D) (d : D), Room k (A.deeper (envOfC qual (defScope st) s.heap.objs.size f cdv)) → Rel ds d →
      SXs (bx P w K mg base N qual st f cdv A outer s H E) (defBody st) (ds.map Sl.val ++ List.replicate (N.length - ps.length) .non) { nx := fun _ => d = .none, rt := fun d' _ => d' = d }) :
    FnOk P w K mg base CX0 (k + 1) f fd ps (SpP K Rel) := by
  refine F.ok S (fun vs H Q E h => ?_) (fun cdv A outer s H vs Q E hr h => ?_)
  · obtain ⟨O, ds, d, h1, _, h2, _⟩ := h
    rw [dpa_len h1]
    exact hl ds d h2
  · obtain ⟨O, ds, d, h1, h2, h3, q⟩ := h
    have hlen := hl ds d h3
    have hvl := dpa_len h1
    refine ⟨_, pss_w, hb cdv A outer s H E ds d hr h3 ⟨H, O, []⟩ (L2.start N vs) H O ⟨?_, fun i d hi => ?_, fun i b es hi => ?_, fun i j b c ds es p _ hi => ?_, fun q hq => ?_, h2, fun _ _ h _ => h, fun _ h => h, fun _ h => .inl h, h2, fun a ⟨i, hi⟩ => ?_, fun a o h => ⟨o, h⟩, fun i v hi => ?_⟩ _ ⟨?_, ?_, ?_, ?_, ?_⟩⟩
    · rw [start_len (by omega), List.length_append, List.length_map, List.length_replicate]
      omega
    · rcases vals_get hi with ⟨d', e, z⟩ | z
      · cases z
        obtain ⟨v, hv, r⟩ := dpa_get' h1 e
        exact ⟨v, start_get hv, r⟩
      · cases z
    · rcases vals_get hi with ⟨d', e, z⟩ | z <;> cases z
    · rcases vals_get hi with ⟨d', e, z⟩ | z <;> cases z
    · cases hq
    · cases hi
    · rcases vals_get hi with ⟨d', e, z⟩ | z <;> cases z
    · intro ρ' σ' H' O' M x hd
      have hd : d = .none := hd
      subst hd
      exact q _ H' (fun a o h => M.keep a o h (fun ⟨i, z⟩ => nomatch z)) .non
    · intro v d' ρ' σ' H' O' M x r hd
      have hd : d' = d := hd
      subst hd
      refine q v H' (fun a o h => M.keep a o h (fun ⟨i, z⟩ => nomatch z)) (dp_mono (fun a o h => ?_) _ _ r)
      obtain ⟨n, h⟩ := cut_some.mp h
      exact cut_some.mpr ⟨fun z => n (M.sub a z), h⟩
    · intro _ _ _ _ _ _ z; exact z.elim
    · intro _ _ _ _ _ _ z; exact z.elim
    · intro _ _ _ _ _ _ _ _ _ _ _ _ _ _ z; exact z.elim
theorem fn_O {x qual : Str} {st : Stmt} {f : Addr} {fd : FuncData} {N ps : List Str} {k : Nat} {Rel : Ct → List D → D → Ct → Prop} (F : Fun K x qual st f fd) (S : FnScope N ps (defScope st)) (hl : ∀ d0 ds d d1, Rel d0 ds d d1 → ds.length + 1 = ps.length) (hlN : ps.length ≤ N.length)
    (hb : ∀ (cdv : Value) (A : Around) (outer : List Env) (s : Shared) (H : Hp) (E : XK) (d0 : Ct) (ds : List D) (d : D) (d1 : Ct), Room k (A.deeper (envOfC qual (defScope st) s.heap.objs.size f cdv)) → Rel d0 ds d d1 →
      SXs (bx P w K mg base N qual st f cdv A outer s H E) (defBody st) (Sl.own true d0 :: (ds.map Sl.val ++ List.replicate (N.length - ps.length) .non)) { nx := fun ρ' => d = .none ∧ ρ'[0]? = some (.own true d1), rt := fun d' ρ' => d' = d ∧ ρ'[0]? = some (.own true d1) }) :
    FnOk P w K mg base CX0 (k + 1) f fd ps (SpO K Rel) := by
  refine F.ok S (fun vs H Q E h => ?_) (fun cdv A outer s H vs Q E hr h => ?_)
  · obtain ⟨O, p, us, vr, d0, ds, d, d1, rfl, _, _, _, h1, _, h2, _⟩ := h
    rw [List.length_cons, dpa_len h1]
    exact hl d0 ds d d1 h2
  · obtain ⟨O, p, us, vr, d0, ds, d, d1, rfl, hO, hH, h0, h1, h2, h3, q⟩ := h
    have hlen := hl d0 ds d d1 h3
    have hvl := dpa_len h1
    have fin : ∀ {v : V} {d' : D} {ρ' : Rho} {σ' : L2.St} {H' : Hp} {O' : Addr → Prop}, Mt K ⟨H, O, [(0, p)]⟩ ρ' σ' H' O' → Dp K (cut O' H') v d → ρ'[0]? = some (Sl.own true d1) → Q v H' := fun {v d' ρ' σ' H' O'} M r h => by
      obtain ⟨e1, _⟩ := M.ios (0, p) (by simp)
      obtain ⟨p', us', f1, f2, f3, f4, _⟩ := M.own 0 true d1 h
      rw [e1] at f1
      cases f1
      have sb : Sub (cut O' H') (cut O H') := fun a o h => by
        obtain ⟨n, h⟩ := cut_some.mp h
        exact cut_some.mpr ⟨fun z => n (M.sub a z), h⟩
      exact q v H' us' (fun a o h n => M.keep a o h (fun ⟨i, z⟩ => n (by simpa using z : i = 0 ∧ a = p).2)) f3 (ct_mono sb f4) (dp_mono sb _ _ r)
    refine ⟨_, pss_w, hb cdv A outer s H E d0 ds d d1 hr h3 ⟨H, O, [(0, p)]⟩ (L2.start N (.ref p :: vr)) H O ⟨?_, fun i d hi => ?_, fun i b es hi => ?_, fun i j b c ds es p _ hi hj => ?_, fun q hq => ?_, h2, fun _ _ h _ => h, fun _ h => h, fun _ h => .inl h, h2, fun a ⟨i, hi⟩ => ?_, fun a o h => ⟨o, h⟩, fun i v hi => ?_⟩ _ ⟨?_, ?_, ?_, ?_, ?_⟩⟩
    · rw [start_len (by rw [List.length_cons]; omega), List.length_cons, List.length_append, List.length_map, List.length_replicate]
      omega
    · cases i with
      | zero => cases hi
      | succ i =>
        rw [List.getElem?_cons_succ] at hi
        rcases vals_get hi with ⟨d', e, z⟩ | z
        · cases z
          obtain ⟨v, hv, r⟩ := dpa_get' h1 e
          exact ⟨v, start_get (by rw [List.getElem?_cons_succ]; exact hv), r⟩
        · cases z
    · cases i with
      | zero =>
        cases hi
        exact ⟨p, us, start_get rfl, hO, hH, h0, fun z => Bool.noConfusion z, fun _ => ⟨0, by simp⟩⟩
      | succ i =>
        rw [List.getElem?_cons_succ] at hi
        rcases vals_get hi with ⟨d', e, z⟩ | z <;> cases z
    · cases i with
      | zero =>
        cases j with
        | zero => contradiction
        | succ j =>
          rw [List.getElem?_cons_succ] at hj
          rcases vals_get hj with ⟨d', e, z⟩ | z <;> cases z
      | succ i =>
        rw [List.getElem?_cons_succ] at hi
        rcases vals_get hi with ⟨d', e, z⟩ | z <;> cases z
    · have e : q = (0, p) := by simpa using hq
      subst e
      exact ⟨start_get rfl, d0, rfl⟩
    · have e : i = 0 ∧ a = p := by simpa using hi
      rw [e.2]
      exact hO
    · cases i with
      | zero => cases hi
      | succ i =>
        rw [List.getElem?_cons_succ] at hi
        rcases vals_get hi with ⟨d', e, z⟩ | z <;> cases z
    · intro ρ' σ' H' O' M x hd
      obtain ⟨rfl, hd⟩ := hd
      exact fin (v := .non) (d' := .none) M .non hd
    · intro v d' ρ' σ' H' O' M x r hd
      obtain ⟨rfl, hd⟩ := hd
      exact fin (d' := d') M r hd
    · intro _ _ _ _ _ _ z; exact z.elim
    · intro _ _ _ _ _ _ z; exact z.elim
    · intro _ _ _ _ _ _ _ _ _ _ _ _ _ _ z; exact z.elim
/-- a def that hands back a new object -/
def SpF (K : PySem.W.Frag) (Rel : List D → Ct → Prop) : Sp := fun vs H Q _ => ∃ (O : Addr → Prop) (ds : List D) (c : Ct), DpAll K (cut O H) vs ds ∧ (∀ a, O a → ∃ o, H a = some o) ∧ Rel ds c ∧ ∀ p us H', H p = none → Sub H H' → H' p = some us → CtOk K (cut (fun a => O a ∨ a = p) H') us c → Q (.ref p) H'
theorem fn_F {x qual : Str} {st : Stmt} {f : Addr} {fd : FuncData} {N ps : List Str} {k : Nat} {Rel : List D → Ct → Prop} (F : Fun K x qual st f fd) (S : FnScope N ps (defScope st)) (hl : ∀ ds d, Rel ds d → ds.length = ps.length) (hlN : ps.length ≤ N.length)
    (hb : ∀ (cdv : Value) (A : Around) (outer : List Env) (s : Shared) (H : Hp) (E : XK) (ds : List D) (c : Ct), Room k (A.deeper (envOfC qual (defScope st) s.heap.objs.size f cdv)) → Rel ds c →
      SXs (bx P w K mg base N qual st f cdv A outer s H E) (defBody st) (ds.map Sl.val ++ List.replicate (N.length - ps.length) .non) { nx := fun _ => False, rt := fun _ _ => False, rf := fun c' _ => c' = c }) :
    FnOk P w K mg base CX0 (k + 1) f fd ps (SpF K Rel) := by
  refine F.ok S (fun vs H Q E h => ?_) (fun cdv A outer s H vs Q E hr h => ?_)
  · obtain ⟨O, ds, d, h1, _, h2, _⟩ := h
    rw [dpa_len h1]
    exact hl ds d h2
  · obtain ⟨O, ds, d, h1, h2, h3, q⟩ := h
    have hlen := hl ds d h3
    have hvl := dpa_len h1
    refine ⟨_, pss_w, hb cdv A outer s H E ds d hr h3 ⟨H, O, []⟩ (L2.start N vs) H O ⟨?_, fun i d hi => ?_, fun i b es hi => ?_, fun i j b c ds es p _ hi => ?_, fun q hq => ?_, h2, fun _ _ h _ => h, fun _ h => h, fun _ h => .inl h, h2, fun a ⟨i, hi⟩ => ?_, fun a o h => ⟨o, h⟩, fun i v hi => ?_⟩ _ ⟨?_, ?_, ?_, ?_, ?_⟩⟩
    · rw [start_len (by omega), List.length_append, List.length_map, List.length_replicate]
      omega
    · rcases vals_get hi with ⟨d', e, z⟩ | z
      · cases z
        obtain ⟨v, hv, r⟩ := dpa_get' h1 e
        exact ⟨v, start_get hv, r⟩
      · cases z
    · rcases vals_get hi with ⟨d', e, z⟩ | z <;> cases z
    · rcases vals_get hi with ⟨d', e, z⟩ | z <;> cases z
    · cases hq
    · cases hi
    · rcases vals_get hi with ⟨d', e, z⟩ | z <;> cases z
    · intro _ _ _ _ _ _ z; exact z.elim
    · intro _ _ _ _ _ _ _ _ _ z; exact z.elim
    · intro _ _ _ _ _ _ z; exact z.elim
    · intro _ _ _ _ _ _ z; exact z.elim
    · intro p us c' ρ' σ' H' O' M x hp hn h0 hl' r hd
      have hd : c' = d := hd
      subst hd
      refine q p us H' h0 (fun a o h => M.keep a o h (fun ⟨i, z⟩ => nomatch z)) hl' (ct_mono (fun a o h => ?_) r)
      obtain ⟨n, h⟩ := cut_some.mp h
      exact cut_some.mpr ⟨fun z => n (z.elim (M.sub a) (fun e => by rw [e]; exact hp)), h⟩
structure CalF (P : Program) (w : World) (K : PySem.W.Frag) (mg : Str → Option Value) (base : Heap) (x : Str) (n : Nat) (Rel : List D → Ct → Prop) : Prop where
  ex : ∃ f fd ps, FnOk P w K mg base CX0 n f fd ps (SpF K Rel) ∧ mg x = some (.ref f) ∧ PySem.W.keepIn K (.ref f) = true ∧ Binds K fd ps []
/-- what is known of a def of the module: how it is called and what it is worth -/
structure CalP (P : Program) (w : World) (K : PySem.W.Frag) (mg : Str → Option Value) (base : Heap) (x : Str) (n : Nat) (Rel : List D → D → Prop) : Prop where
  ex : ∃ f fd ps, FnOk P w K mg base CX0 n f fd ps (SpP K Rel) ∧ mg x = some (.ref f) ∧ PySem.W.keepIn K (.ref f) = true ∧ Binds K fd ps []
structure CalO (P : Program) (w : World) (K : PySem.W.Frag) (mg : Str → Option Value) (base : Heap) (x : Str) (n : Nat) (Rel : Ct → List D → D → Ct → Prop) : Prop where
  ex : ∃ f fd ps, FnOk P w K mg base CX0 n f fd ps (SpO K Rel) ∧ mg x = some (.ref f) ∧ PySem.W.keepIn K (.ref f) = true ∧ Binds K fd ps []
end
section
variable {X : Cx} {ρ : Rho} {pos p : Pos} {e : Expr} {es : List Expr} {n k : Nat} {x : Str}
theorem x_callP {Rel : List D → D → Prop} {kk : D → Rho → Prop} (C : CalP X.prog X.w X.K X.mg X.base x n Rel) (hr : Room k X.A) (hnk : n ≤ k) (hg : Gl X x) (h : AX X (e :: es) ρ fun ds ρ1 => ∃ d, Rel ds d ∧ kk d ρ1)
    (hdb : (x == ("__debug__" : Str)) = false := by decide) (he : starEach (e :: es) X.env = (false, eval e X.env) :: starEach es X.env := by rfl) (hpl : (backTo pos (starEach es X.env)).any (·.1) = false := by rfl) :
    EX X (.Call (.Name x p) (e :: es) [] pos) ρ kk := fun W σ H O M Q q => by
  obtain ⟨f, fd, ps, F, hm, hk, hb⟩ := C.ex
  refine (pe_call (E := E0) F (hr.mono hnk) hg hm hk hb .nil pass0 pa_w hdb he hpl).w (h W σ H O M _ fun vs ds ρ1 H1 O1 M1 E1 r ⟨d, hR, hkk⟩ => ?_)
  rw [List.append_nil]
  exact ⟨O1, ds, d, r, M1.ex, hR, fun v H' hs rv => q v d ρ1 H' O1 (M1.grow hs) (E1.trans (Ext.grow hs)) rv hkk⟩
/-- the first argument is a list of one's own, which the def may change -/
theorem x_callO {Rel : Ct → List D → D → Ct → Prop} {kk : D → Rho → Prop} {y : Str} {i : Nat} {py : Pos} (C : CalO X.prog X.w X.K X.mg X.base x n Rel) (hr : Room k X.A) (hnk : n ≤ k) (hg : Gl X x)
    (hN : X.N[i]? = some y) (hv : Vis X.env.scope y)
    (h : AX X es ρ fun ds ρ1 => ∃ b d0 d d1, ρ1[i]? = some (Sl.own b d0) ∧ Rel d0 ds d d1 ∧ kk d (ρ1.set i (.own b d1)))
    (hdy : (y == ("__debug__" : Str)) = false := by decide) (hcy : (y == ("__classdict__" : Str)) = false := by decide)
    (hdb : (x == ("__debug__" : Str)) = false := by decide) (he : starEach (.Name y py :: es) X.env = (false, eval (.Name y py) X.env) :: starEach es X.env := by rfl) (hpl : (backTo pos (starEach es X.env)).any (·.1) = false := by rfl) 
    (hw : ∃ b d0, ρ[i]? = some (Sl.own b d0) := by exact ⟨_, _, rfl⟩) :
    EX X (.Call (.Name x p) (.Name y py :: es) [] pos) ρ kk := fun W σ H O M Q q => by
  obtain ⟨f, fd, ps, F, hm, hk, hb⟩ := C.ex
  obtain ⟨b0, d00, hw⟩ := hw
  obtain ⟨p0, _, ep0, _⟩ := M.own i b0 d00 hw
  refine (pe_call (E := E0) F (hr.mono hnk) hg hm hk hb .nil pass0 (pa_cons (pe_var hN hv hdy hcy) pa_w he) hdb he hpl).w ⟨_, ep0, h W σ H O M _ fun vs ds ρ1 H1 O1 M1 E1 r ⟨b, d0, d, d1, hi, hR, hkk⟩ => ?_⟩
  show SpO X.K Rel ((V.ref p0 :: vs) ++ []) H1 Q E0
  rw [List.append_nil]
  obtain ⟨p1, us, f1, f2, f3, f4, f5⟩ := M1.own i b d0 hi
  rw [ep0] at f1
  cases f1
  refine ⟨O1, p0, us, vs, d0, ds, d, d1, rfl, f2, f3, f4, r, M1.ex, hR, fun v H' us' hkp hp' r' rv => ?_⟩
  obtain ⟨M2, E2⟩ := M1.mut hi ep0 hkp hp' r'
  exact q v d _ H' O1 M2 (E1.trans E2) rv hkk
theorem f_callF {Rel : List D → Ct → Prop} {kk : Ct → Rho → Prop} (C : CalF X.prog X.w X.K X.mg X.base x n Rel) (hr : Room k X.A) (hnk : n ≤ k) (hg : Gl X x) (h : AX X (e :: es) ρ fun ds ρ1 => ∃ c, Rel ds c ∧ kk c ρ1)
    (hdb : (x == ("__debug__" : Str)) = false := by decide) (he : starEach (e :: es) X.env = (false, eval e X.env) :: starEach es X.env := by rfl) (hpl : (backTo pos (starEach es X.env)).any (·.1) = false := by rfl) :
    FX X (.Call (.Name x p) (e :: es) [] pos) ρ kk := fun W σ H O M Q q => by
  obtain ⟨f, fd, ps, F, hm, hk, hb⟩ := C.ex
  refine (pe_call (E := E0) F (hr.mono hnk) hg hm hk hb .nil pass0 pa_w hdb he hpl).w (h W σ H O M _ fun vs ds ρ1 H1 O1 M1 E1 r ⟨c, hR, hkk⟩ => ?_)
  rw [List.append_nil]
  refine ⟨O1, ds, c, r, M1.ex, hR, fun p us H' hp hs hl rv => ?_⟩
  obtain ⟨M2, E2, n2, h0⟩ := M1.new_list hp hs hl
  exact q p us c ρ1 H' _ M2 (.inr rfl) n2 h0 hl rv (E1.trans E2) hkk
end
end Lk

set_option Elab.async false
set_option linter.all false
set_option maxRecDepth 100000
namespace Lk
open PySem PySem.Spec PyProof.Rows L2

section
variable {X : Cx} {ρ : Rho} {pos : Pos} {a b c e : Expr} {es : List Expr}
theorem x_mono {k k' : D → Rho → Prop} (h : EX X e ρ k) (m : ∀ d ρ', k d ρ' → k' d ρ') : EX X e ρ k' := fun W σ H O M Q q => h W σ H O M Q fun v d ρ' H' O' M' E' r hk => q v d ρ' H' O' M' E' r (m d ρ' hk)
theorem t_mono {k k' : Bool → Rho → Prop} (h : TX X e ρ k) (m : ∀ d ρ', k d ρ' → k' d ρ') : TX X e ρ k' := fun W σ H O M Q q => h W σ H O M Q fun v ρ' H' O' M' E' hk => q v ρ' H' O' M' E' (m v ρ' hk)
/-- a value that is a bool, as a test -/
theorem t_val {k : Bool → Rho → Prop} (h : EX X e ρ fun d ρ1 => ∃ b, d = .bool b ∧ k b ρ1) (he : ∀ whole, isTrue e X.env whole = (do let v ← whole; standAt e.pos; holding [v] (truthy v)) := by intro _; rfl) : TX X e ρ k := fun W σ H O M Q q =>
  (pt_val pe_w he).w (h W σ H O M _ fun v d ρ1 H1 O1 M1 E1 r ⟨b, hd, hk⟩ => by
    subst hd
    cases r
    exact ⟨b, rfl, q b ρ1 H1 O1 M1 E1 hk⟩)
def truD : D → Option Bool
  | .none => some false
  | .bool b => some b
  | .int i => some (i != 0)
  | .list xs => some (!xs.isEmpty)
  | .tuple xs => some (!xs.isEmpty)
  | _ => none
theorem dpa_empty {K : PySem.W.Frag} {H : Hp} {ds : List D} {vs : List V} (h : DpAll K H vs ds) : vs.isEmpty = ds.isEmpty := by
  cases h <;> rfl
/-- the truth of a value -/
theorem t_tru {k : Bool → Rho → Prop} (h : EX X e ρ fun d ρ1 => ∃ b, truD d = some b ∧ k b ρ1) (he : ∀ whole, isTrue e X.env whole = (do let v ← whole; standAt e.pos; holding [v] (truthy v)) := by intro _; rfl) : TX X e ρ k := fun W σ H O M Q q =>
  (pt_truth pe_w he).w (h W σ H O M _ fun v d ρ1 H1 O1 M1 E1 r ⟨b, hd, hk⟩ => by
    refine ⟨b, ?_, q b ρ1 H1 O1 M1 E1 hk⟩
    cases r with
    | non => cases hd; rfl
    | bl => cases hd; rfl
    | int => cases hd; rfl
    | str => cases hd
    | lst hs ha => cases hd; exact .inl ⟨_, cut_sub.l hs, by rw [dpa_empty ha]⟩
    | tup hs ha => cases hd; exact .inr (.inl ⟨_, cut_sub.t hs, by rw [dpa_empty ha]⟩))
/-- the truth of a list of one's own -/
theorem t_truO {k : Bool → Rho → Prop} {i : Nat} {x : Str} {ds : List D} {b : Bool} (hN : X.N[i]? = some x) (hv : Vis X.env.scope x) (hs : ρ[i]? = some (Sl.own b (.lst ds))) (hk : k (!ds.isEmpty) ρ)
    (hd : (x == ("__debug__" : Str)) = false := by decide) (hcd : (x == ("__classdict__" : Str)) = false := by decide) : TX X (.Name x pos) ρ k := fun W σ H O M Q q => by
  obtain ⟨p, ho, e1, e2, e3, e4, _⟩ := M.own i b (.lst ds) hs
  obtain ⟨us, rfl, e4⟩ := ct_lst e4
  exact (pt_truth (pe_var hN hv hd hcd) (by intro _; rfl)).w ⟨_, e1, _, .inl ⟨us, SqL.of e3, by rw [dpa_empty e4]⟩, q _ ρ H O M (Ext.refl _ _) hk⟩
/-! and, or, not -/
theorem t_not {k : Bool → Rho → Prop} (h : TX X a ρ fun b ρ1 => k (!b) ρ1) : TX X (.UnaryOp .Not a pos) ρ k := fun W σ H O M Q q =>
  (pt_not pt_w).w (h W σ H O M _ fun b ρ1 H1 O1 M1 E1 hk => q _ ρ1 H1 O1 M1 E1 hk)
theorem w_and1 {k : Bool → Rho → Prop} (h : TX X a ρ k) : WX X (.BoolOp .And [a] pos) ρ k := fun W σ H O M Q q => (pw_and1 pt_w).w (h W σ H O M Q q)
theorem w_or1 {k : Bool → Rho → Prop} (h : TX X a ρ k) : WX X (.BoolOp .Or [a] pos) ρ k := fun W σ H O M Q q => (pw_or1 pt_w).w (h W σ H O M Q q)
theorem w_and {k : Bool → Rho → Prop} (h : TX X a ρ fun x ρ1 => (x = true → WX X (.BoolOp .And (b :: es) pos) ρ1 k) ∧ (x = false → k false ρ1)) : WX X (.BoolOp .And (a :: b :: es) pos) ρ k := fun W σ H O M Q q =>
  (pw_and pt_w pw_w).w (h W σ H O M _ fun x ρ1 H1 O1 M1 E1 ⟨h1, h2⟩ => by
    cases x with
    | true => exact h1 rfl W σ H1 O1 M1 Q fun b ρ2 H2 O2 M2 E2 hk => q b ρ2 H2 O2 M2 (E1.trans E2) hk
    | false => exact q false ρ1 H1 O1 M1 E1 (h2 rfl))
theorem w_or {k : Bool → Rho → Prop} (h : TX X a ρ fun x ρ1 => (x = false → WX X (.BoolOp .Or (b :: es) pos) ρ1 k) ∧ (x = true → k true ρ1)) : WX X (.BoolOp .Or (a :: b :: es) pos) ρ k := fun W σ H O M Q q =>
  (pw_or pt_w pw_w).w (h W σ H O M _ fun x ρ1 H1 O1 M1 E1 ⟨h1, h2⟩ => by
    cases x with
    | false => exact h1 rfl W σ H1 O1 M1 Q fun b ρ2 H2 O2 M2 E2 hk => q b ρ2 H2 O2 M2 (E1.trans E2) hk
    | true => exact q true ρ1 H1 O1 M1 E1 (h2 rfl))
theorem t_w {k : Bool → Rho → Prop} (h : WX X e ρ k) : TX X e ρ k := fun W σ H O M Q q => (PW.pt pw_w).w (h W σ H O M Q q)
/-- .. by what both are worth, the second one without effect -/
theorem w_andP {k : Bool → Rho → Prop} (h : TX X a ρ fun x ρ1 => ∃ y, (∀ k' : Bool → Rho → Prop, k' y ρ1 → WX X (.BoolOp .And (b :: es) pos) ρ1 k') ∧ k (x && y) ρ1) : WX X (.BoolOp .And (a :: b :: es) pos) ρ k :=
  w_and (t_mono h fun x ρ1 ⟨y, h1, h2⟩ => ⟨fun e => by subst e; exact h1 _ (by simpa using h2), fun e => by subst e; simpa using h2⟩)
theorem w_orP {k : Bool → Rho → Prop} (h : TX X a ρ fun x ρ1 => ∃ y, (∀ k' : Bool → Rho → Prop, k' y ρ1 → WX X (.BoolOp .Or (b :: es) pos) ρ1 k') ∧ k (x || y) ρ1) : WX X (.BoolOp .Or (a :: b :: es) pos) ρ k :=
  w_or (t_mono h fun x ρ1 ⟨y, h1, h2⟩ => ⟨fun e => by subst e; exact h1 _ (by simpa using h2), fun e => by subst e; simpa using h2⟩)
theorem x_one {op : BoolOp} {k : D → Rho → Prop} (h : EX X a ρ k) : EX X (.BoolOp op [a] pos) ρ k := fun W σ H O M Q q => (pe_one pe_w).w (h W σ H O M Q q)
theorem x_and {k : D → Rho → Prop} (h : EX X a ρ fun d ρ1 => ∃ x, d = .bool x ∧ (x = true → EX X (.BoolOp .And (b :: es) pos) ρ1 k) ∧ (x = false → k (.bool false) ρ1)) : EX X (.BoolOp .And (a :: b :: es) pos) ρ k := fun W σ H O M Q q =>
  (pe_and pe_w pe_w).w (h W σ H O M _ fun v d ρ1 H1 O1 M1 E1 r ⟨x, hd, h1, h2⟩ => by
    subst hd
    cases r
    refine ⟨x, rfl, ?_⟩
    cases x with
    | true => exact iteT (h1 rfl W σ H1 O1 M1 Q fun v d ρ2 H2 O2 M2 E2 r2 hk => q v d ρ2 H2 O2 M2 (E1.trans E2) r2 hk)
    | false => exact iteF (q _ _ ρ1 H1 O1 M1 E1 (.bl false) (h2 rfl)))
theorem x_or {k : D → Rho → Prop} (h : EX X a ρ fun d ρ1 => ∃ x, d = .bool x ∧ (x = false → EX X (.BoolOp .Or (b :: es) pos) ρ1 k) ∧ (x = true → k (.bool true) ρ1)) : EX X (.BoolOp .Or (a :: b :: es) pos) ρ k := fun W σ H O M Q q =>
  (pe_or pe_w pe_w).w (h W σ H O M _ fun v d ρ1 H1 O1 M1 E1 r ⟨x, hd, h1, h2⟩ => by
    subst hd
    cases r
    refine ⟨x, rfl, ?_⟩
    cases x with
    | false => exact iteF (h1 rfl W σ H1 O1 M1 Q fun v d ρ2 H2 O2 M2 E2 r2 hk => q v d ρ2 H2 O2 M2 (E1.trans E2) r2 hk)
    | true => exact iteT (q _ _ ρ1 H1 O1 M1 E1 (.bl true) (h2 rfl)))
theorem x_andP {k : D → Rho → Prop} (h : EX X a ρ fun d ρ1 => ∃ x, d = .bool x ∧ ∃ y, (∀ k' : D → Rho → Prop, k' (.bool y) ρ1 → EX X (.BoolOp .And (b :: es) pos) ρ1 k') ∧ k (.bool (x && y)) ρ1) : EX X (.BoolOp .And (a :: b :: es) pos) ρ k :=
  x_and (x_mono h fun d ρ1 ⟨x, hd, y, h1, h2⟩ => ⟨x, hd, fun e => by subst e; exact h1 _ (by simpa using h2), fun e => by subst e; simpa using h2⟩)
theorem x_orP {k : D → Rho → Prop} (h : EX X a ρ fun d ρ1 => ∃ x, d = .bool x ∧ ∃ y, (∀ k' : D → Rho → Prop, k' (.bool y) ρ1 → EX X (.BoolOp .Or (b :: es) pos) ρ1 k') ∧ k (.bool (x || y)) ρ1) : EX X (.BoolOp .Or (a :: b :: es) pos) ρ k :=
  x_or (x_mono h fun d ρ1 ⟨x, hd, y, h1, h2⟩ => ⟨x, hd, fun e => by subst e; exact h1 _ (by simpa using h2), fun e => by subst e; simpa using h2⟩)
theorem x_not {k : D → Rho → Prop} (h : EX X a ρ fun d ρ1 => ∃ x, d = .bool x ∧ k (.bool (!x)) ρ1) : EX X (.UnaryOp .Not a pos) ρ k := fun W σ H O M Q q =>
  (pe_not pe_w).w (h W σ H O M _ fun v d ρ1 H1 O1 M1 E1 r ⟨x, hd, hk⟩ => by
    subst hd
    cases r
    exact ⟨x, rfl, q _ _ ρ1 H1 O1 M1 E1 (.bl _) hk⟩)
theorem x_neg {k : D → Rho → Prop} (h : EX X a ρ fun d ρ1 => ∃ x, d = .int x ∧ k (.int (-x)) ρ1) : EX X (.UnaryOp .USub a pos) ρ k := fun W σ H O M Q q =>
  (pe_un un_neg pe_w).w (h W σ H O M _ fun v d ρ1 H1 O1 M1 E1 r ⟨x, hd, hk⟩ => by
    subst hd
    cases r
    exact ⟨x, rfl, q _ _ ρ1 H1 O1 M1 E1 (.int _) hk⟩)
theorem x_if {k : D → Rho → Prop} (h : TX X c ρ fun x ρ1 => (x = true → EX X a ρ1 k) ∧ (x = false → EX X b ρ1 k)) : EX X (.IfExp c a b pos) ρ k := fun W σ H O M Q q =>
  (pe_ifExp pt_w pe_w pe_w).w (h W σ H O M _ fun x ρ1 H1 O1 M1 E1 ⟨h1, h2⟩ => by
    cases x with
    | true => exact iteT (h1 rfl W σ H1 O1 M1 Q fun v d ρ2 H2 O2 M2 E2 r2 hk => q v d ρ2 H2 O2 M2 (E1.trans E2) r2 hk)
    | false => exact iteF (h2 rfl W σ H1 O1 M1 Q fun v d ρ2 H2 O2 M2 E2 r2 hk => q v d ρ2 H2 O2 M2 (E1.trans E2) r2 hk))
/-! chains of two comparisons -/
theorem x_chain {op op' : CmpOp} {k : D → Rho → Prop} (h : EX X a ρ fun dx ρ1 => EX X b ρ1 fun dy ρ2 => ∃ x, OpD X (compareOp op) dx dy (.bool x) ∧ (x = true → EX X c ρ2 fun dz ρ3 => ∃ y, OpD X (compareOp op') dy dz (.bool y) ∧ k (.bool y) ρ3) ∧ (x = false → k (.bool false) ρ2))
    (hm : lastMarks [op, op'] [b, c] = false := by with_unfolding_all rfl) : EX X (.Compare a [op, op'] [b, c] pos) ρ k := fun W σ H O M Q q =>
  (pe_chain op_w op_w pe_w pe_w pe_w hm).w (h W σ H O M _ fun v dx ρ1 H1 O1 M1 E1 r1 h1 => h1 W σ H1 O1 M1 _ fun u dy ρ2 H2 O2 M2 E2 r2 ⟨x, ho, h2, h3⟩ => by
    refine ho H2 O2 v u _ M2.ex (dp_mono E2.sub _ _ r1) r2 fun z H' hs hz => ?_
    cases hz
    refine ⟨x, rfl, ?_⟩
    have M3 := M2.grow hs
    have E3 := (E1.trans E2).trans (Ext.grow (O := O2) hs)
    cases x with
    | false => exact iteF (q _ _ ρ2 H' O2 M3 E3 (.bl false) (h3 rfl))
    | true =>
      refine iteT (h2 rfl W σ H' O2 M3 _ fun t dz ρ4 H4 O4 M4 E4 r4 ⟨y, ho', hk⟩ => ?_)
      exact ho' H4 O4 u t Q M4.ex (dp_mono ((Ext.grow hs).trans E4).sub _ _ r2) r4 fun z H' hs hz => q z _ ρ4 H' O4 (M4.grow hs) ((E3.trans E4).trans (Ext.grow hs)) hz hk)
theorem t_chain {op op' : CmpOp} {k : Bool → Rho → Prop} (h : EX X a ρ fun dx ρ1 => EX X b ρ1 fun dy ρ2 => ∃ x, OpD X (compareOp op) dx dy (.bool x) ∧ (x = true → EX X c ρ2 fun dz ρ3 => ∃ y, OpD X (compareOp op') dy dz (.bool y) ∧ k y ρ3) ∧ (x = false → k false ρ2))
    (hm : lastMarks [op, op'] [b, c] = false := by with_unfolding_all rfl) : TX X (.Compare a [op, op'] [b, c] pos) ρ k := fun W σ H O M Q q =>
  (pt_chain op_w op_w pe_w pe_w pe_w hm).w (h W σ H O M _ fun v dx ρ1 H1 O1 M1 E1 r1 h1 => h1 W σ H1 O1 M1 _ fun u dy ρ2 H2 O2 M2 E2 r2 ⟨x, ho, h2, h3⟩ => by
    refine ho H2 O2 v u _ M2.ex (dp_mono E2.sub _ _ r1) r2 fun z H' hs hz => ?_
    cases hz
    refine ⟨x, rfl, ?_⟩
    have M3 := M2.grow hs
    have E3 := (E1.trans E2).trans (Ext.grow (O := O2) hs)
    cases x with
    | false => exact iteF ⟨false, rfl, q _ ρ2 H' O2 M3 E3 (h3 rfl)⟩
    | true =>
      refine iteT (h2 rfl W σ H' O2 M3 _ fun t dz ρ4 H4 O4 M4 E4 r4 ⟨y, ho', hk⟩ => ?_)
      refine ho' H4 O4 u t _ M4.ex (dp_mono ((Ext.grow hs).trans E4).sub _ _ r2) r4 fun z H' hs hz => ?_
      cases hz
      exact ⟨y, rfl, q y ρ4 H' O4 (M4.grow hs) ((E3.trans E4).trans (Ext.grow hs)) hk⟩)
/-- .. the third part without effect -/
theorem x_chainP {op op' : CmpOp} {k : D → Rho → Prop} (h : EX X a ρ fun dx ρ1 => EX X b ρ1 fun dy ρ2 => ∃ x y dz, OpD X (compareOp op) dx dy (.bool x) ∧ (∀ k' : D → Rho → Prop, k' dz ρ2 → EX X c ρ2 k') ∧ OpD X (compareOp op') dy dz (.bool y) ∧ k (.bool (x && y)) ρ2)
    (hm : lastMarks [op, op'] [b, c] = false := by with_unfolding_all rfl) : EX X (.Compare a [op, op'] [b, c] pos) ρ k :=
  x_chain (x_mono h fun dx ρ1 h1 => x_mono h1 fun dy ρ2 ⟨x, y, dz, ho, h2, ho', hk⟩ => ⟨x, ho, fun e => h2 _ ⟨y, ho', by subst e; simpa using hk⟩, fun e => by subst e; simpa using hk⟩) hm
theorem t_chainP {op op' : CmpOp} {k : Bool → Rho → Prop} (h : EX X a ρ fun dx ρ1 => EX X b ρ1 fun dy ρ2 => ∃ x y dz, OpD X (compareOp op) dx dy (.bool x) ∧ (∀ k' : D → Rho → Prop, k' dz ρ2 → EX X c ρ2 k') ∧ OpD X (compareOp op') dy dz (.bool y) ∧ k (x && y) ρ2)
    (hm : lastMarks [op, op'] [b, c] = false := by with_unfolding_all rfl) : TX X (.Compare a [op, op'] [b, c] pos) ρ k :=
  t_chain (x_mono h fun dx ρ1 h1 => x_mono h1 fun dy ρ2 ⟨x, y, dz, ho, h2, ho', hk⟩ => ⟨x, ho, fun e => h2 _ ⟨y, ho', by subst e; simpa using hk⟩, fun e => by subst e; simpa using hk⟩) hm
/-! is None -/
theorem dp_non {K : PySem.W.Frag} {H : Hp} {v : V} {d : D} (r : Dp K H v d) : decide (v = .non) = (match d with | .none => true | _ => false) := by
  cases r <;> simp
def isN : D → Bool
  | .none => true
  | _ => false
theorem x_isN {k : D → Rho → Prop} {j pos'} (h : EX X a ρ fun d ρ1 => k (.bool (isN d)) ρ1) : EX X (.Compare a [.Is] [.Constant .none j pos'] pos) ρ k := fun W σ H O M Q q =>
  (pe_cmp (pc_isN pe_w) rfl).w (h W σ H O M _ fun v d ρ1 H1 O1 M1 E1 r hk => by
    rw [dp_non r]
    exact q _ _ ρ1 H1 O1 M1 E1 (.bl _) (by cases d <;> exact hk))
theorem x_notN {k : D → Rho → Prop} {j pos'} (h : EX X a ρ fun d ρ1 => k (.bool (!isN d)) ρ1) : EX X (.Compare a [.IsNot] [.Constant .none j pos'] pos) ρ k := fun W σ H O M Q q =>
  (pe_cmp (pc_notN pe_w) rfl).w (h W σ H O M _ fun v d ρ1 H1 O1 M1 E1 r hk => by
    rw [dp_non r]
    exact q _ _ ρ1 H1 O1 M1 E1 (.bl _) (by cases d <;> exact hk))
theorem t_isN {k : Bool → Rho → Prop} {j pos'} (h : EX X a ρ fun d ρ1 => k (isN d) ρ1) : TX X (.Compare a [.Is] [.Constant .none j pos'] pos) ρ k := fun W σ H O M Q q =>
  (pt_cmp (pc_isN pe_w) rfl).w (h W σ H O M _ fun v d ρ1 H1 O1 M1 E1 r hk => by
    rw [dp_non r]
    exact ⟨_, rfl, q _ ρ1 H1 O1 M1 E1 (by cases d <;> exact hk)⟩)
theorem t_notN {k : Bool → Rho → Prop} {j pos'} (h : EX X a ρ fun d ρ1 => k (!isN d) ρ1) : TX X (.Compare a [.IsNot] [.Constant .none j pos'] pos) ρ k := fun W σ H O M Q q =>
  (pt_cmp (pc_notN pe_w) rfl).w (h W σ H O M _ fun v d ρ1 H1 O1 M1 E1 r hk => by
    rw [dp_non r]
    exact ⟨_, rfl, q _ ρ1 H1 O1 M1 E1 (by cases d <;> exact hk)⟩)

/-! ### == of data, in -/
theorem od_eqD {x y : D} (hr : ∃ k, Room k X.A) (hx : SeqAt.shaped x = true) (hy : SeqAt.shaped y = true) : OpD X (compareOp .Eq) x y (.bool (PyData.eqv x y)) := fun H O v u Q _ rx ry q => by
  obtain ⟨k, hr⟩ := hr
  exact OpRw (op_eqD hr.units) ⟨x, y, dp_mono cut_sub _ _ rx, dp_mono cut_sub _ _ ry, hx, hy, q _ H (Sub.refl H) (.bl _)⟩
theorem od_neD {x y : D} (hr : ∃ k, Room k X.A) (hx : SeqAt.shaped x = true) (hy : SeqAt.shaped y = true) : OpD X (compareOp .NotEq) x y (.bool (!PyData.eqv x y)) := fun H O v u Q _ rx ry q => by
  obtain ⟨k, hr⟩ := hr
  exact OpRw (op_neD hr.units) ⟨x, y, dp_mono cut_sub _ _ rx, dp_mono cut_sub _ _ ry, hx, hy, q _ H (Sub.refl H) (.bl _)⟩
theorem od_eqI {x y : Int} : OpD X (compareOp .Eq) (.int x) (.int y) (.bool (decide (x = y))) := fun H O v u Q _ rx ry q => by
  cases rx; cases ry
  refine OpRw op_eq ⟨rfl, ?_⟩
  have e : decide (V.int x = V.int y) = decide (x = y) := by simp
  rw [e]
  exact q _ H (Sub.refl H) (.bl _)
theorem od_neI {x y : Int} : OpD X (compareOp .NotEq) (.int x) (.int y) (.bool (!decide (x = y))) := fun H O v u Q _ rx ry q => by
  cases rx; cases ry
  refine OpRw op_ne ⟨rfl, ?_⟩
  have e : decide (V.int x = V.int y) = decide (x = y) := by simp
  rw [e]
  exact q _ H (Sub.refl H) (.bl _)
theorem od_eqB {x y : Bool} : OpD X (compareOp .Eq) (.bool x) (.bool y) (.bool (decide (x = y))) := fun H O v u Q _ rx ry q => by
  cases rx; cases ry
  refine OpRw op_eq ⟨rfl, ?_⟩
  have e : decide (V.bl x = V.bl y) = decide (x = y) := by simp
  rw [e]
  exact q _ H (Sub.refl H) (.bl _)
theorem od_neB {x y : Bool} : OpD X (compareOp .NotEq) (.bool x) (.bool y) (.bool (!decide (x = y))) := fun H O v u Q _ rx ry q => by
  cases rx; cases ry
  refine OpRw op_ne ⟨rfl, ?_⟩
  have e : decide (V.bl x = V.bl y) = decide (x = y) := by simp
  rw [e]
  exact q _ H (Sub.refl H) (.bl _)
theorem od_eqS {x y : Str} : OpD X (compareOp .Eq) (.str x) (.str y) (.bool (decide (x = y))) := fun H O v u Q _ rx ry q => by
  cases rx; cases ry
  refine OpRw op_eq ⟨rfl, ?_⟩
  have e : decide (V.str x = V.str y) = decide (x = y) := by simp
  rw [e]
  exact q _ H (Sub.refl H) (.bl _)
theorem od_neS {x y : Str} : OpD X (compareOp .NotEq) (.str x) (.str y) (.bool (!decide (x = y))) := fun H O v u Q _ rx ry q => by
  cases rx; cases ry
  refine OpRw op_ne ⟨rfl, ?_⟩
  have e : decide (V.str x = V.str y) = decide (x = y) := by simp
  rw [e]
  exact q _ H (Sub.refl H) (.bl _)
theorem od_inSign {c : Nat} {z : Str} : OpD X (compareOp .In) (.str ⟨#[c]⟩) (.str z) (.bool (decide (c ∈ z.cps.toList))) := fun H O v u Q _ rx ry q => by
  cases rx; cases ry
  exact OpRw op_in_sign ⟨c, z, rfl, rfl, q _ H (Sub.refl H) (.bl _)⟩
theorem od_ninSign {c : Nat} {z : Str} : OpD X (compareOp .NotIn) (.str ⟨#[c]⟩) (.str z) (.bool (!decide (c ∈ z.cps.toList))) := fun H O v u Q _ rx ry q => by
  cases rx; cases ry
  exact OpRw op_notIn_sign ⟨c, z, rfl, rfl, q _ H (Sub.refl H) (.bl _)⟩

/-! ### items -/
def wI (X : Cx) : R2 := fun x y H Q => ∀ (value slice : Expr) pins s σ v u, Inv X pins σ H s → RelV x v → RelV y u → subscripted slice false v u = operate [v, u] (getItem v u) → wpAny (model X.prog X.w) X.A (subscriptTail value slice v u) (EP X pins σ Q) X.xe s
theorem ix_w : IxR X (wI X) := fun value slice pins s σ H x y v u Q I rx ry h hs => h value slice pins s σ v u I rx ry hs
def IxD (X : Cx) (dx dy dz : D) : Prop := ∀ (H : Hp) (O : Addr → Prop) (x y : V) (Q : VK), (∀ a, O a → ∃ o, H a = some o) → Dp X.K (cut O H) x dx → Dp X.K (cut O H) y dy → (∀ z H', Sub H H' → Dp X.K (cut O H') z dz → Q z H') → wI X x y H Q
theorem x_ix {k : D → Rho → Prop} (h : EX X a ρ fun dx ρ1 => EX X b ρ1 fun dy ρ2 => ∃ dz, IxD X dx dy dz ∧ k dz ρ2) (hs : PlainIx b := by exact fun _ _ => rfl) : EX X (.Subscript a b pos) ρ k := fun W σ H O M Q q =>
  (pe_ix ix_w pe_w pe_w hs).w (h W σ H O M _ fun x dx ρ1 H1 O1 M1 E1 rx h1 => h1 W σ H1 O1 M1 _ fun y dy ρ2 H2 O2 M2 E2 ry h2 => by
    obtain ⟨dz, ho, hk⟩ := h2
    exact ho H2 O2 x y Q M2.ex (dp_mono E2.sub _ _ rx) ry fun z H' hs hz => q z dz ρ2 H' O2 (M2.grow hs) ((E1.trans E2).trans (Ext.grow hs)) hz hk)
theorem dpa_at {K : PySem.W.Frag} {H : Hp} {ds : List D} {vs : List V} (h : DpAll K H vs ds) {i : Int} {d : D} (e : atI ds i = some d) : ∃ v, atI vs i = some v ∧ Dp K H v d := by
  unfold atI at e ⊢
  rw [← dpa_len h] at e
  cases q : ixN vs.length i with
  | none => rw [q] at e; cases e
  | some j =>
    rw [q] at e
    exact dpa_get' h e
theorem ixd_tup {ds : List D} {i : Int} {d : D} (h : atI ds i = some d) : IxD X (.tuple ds) (.int i) d := fun H O x y Q _ rx ry q value slice pins s σ v u I r1 r2 hs0 => by
  cases ry
  cases rx with
  | tup hs ha =>
    obtain ⟨z, e, r⟩ := dpa_at ha h
    refine ix_tup value slice pins s σ H _ _ v u Q I r1 r2 ⟨_, _, _, _, rfl, rfl, cut_sub.t hs, e, q z H (Sub.refl H) r⟩ hs0
theorem ixd_lst {ds : List D} {i : Int} {d : D} (h : atI ds i = some d) : IxD X (.list ds) (.int i) d := fun H O x y Q _ rx ry q value slice pins s σ v u I r1 r2 hs0 => by
  cases ry
  cases rx with
  | lst hs ha =>
    obtain ⟨z, e, r⟩ := dpa_at ha h
    refine ix_list value slice pins s σ H _ _ v u Q I r1 r2 ⟨_, _, _, _, rfl, rfl, cut_sub.l hs, e, q z H (Sub.refl H) r⟩ hs0
theorem ixd_str {z : Str} {i : Int} {c : Nat} (hl : z.length ≤ sizeLine) (h : atI z.cps.toList i = some c) : IxD X (.str z) (.int i) (.str ⟨#[c]⟩) := fun H O x y Q _ rx ry q value slice pins s σ v u I r1 r2 hs0 => by
  cases ry
  cases rx
  refine ix_str value slice pins s σ H _ _ v u Q I r1 r2 ⟨_, _, _, rfl, rfl, hl, h, q _ H (Sub.refl H) (.str _)⟩ hs0
theorem atI_map {α β : Type} {xs : List α} {f : α → β} {i : Int} {a : α} (h : atI xs i = some a) : atI (xs.map f) i = some (f a) := by
  unfold atI at h ⊢
  rw [List.length_map]
  cases q : ixN xs.length i with
  | none => rw [q] at h; cases h
  | some j =>
    rw [q] at h
    show (xs.map f)[j]? = _
    rw [List.getElem?_map, show xs[j]? = some a from h]
    rfl
/-- an item of a list of one's own -/
theorem x_ixO {k : D → Rho → Prop} {i : Nat} {x : Str} {py : Pos} (hN : X.N[i]? = some x) (hv : Vis X.env.scope x) (h : EX X b ρ fun dy ρ2 => ∃ c ds j d, dy = .int j ∧ ρ2[i]? = some (Sl.own c (.lst ds)) ∧ atI ds j = some d ∧ k d ρ2)
    (hs : PlainIx b := by exact fun _ _ => rfl) (hw : ∃ b d0, ρ[i]? = some (Sl.own b d0) := by exact ⟨_, _, rfl⟩)
    (hd : (x == ("__debug__" : Str)) = false := by decide) (hcd : (x == ("__classdict__" : Str)) = false := by decide) : EX X (.Subscript (.Name x py) b pos) ρ k := fun W σ H O M Q q => by
  obtain ⟨b0, d0, hw⟩ := hw
  obtain ⟨p0, _, ep0, _⟩ := M.own i b0 d0 hw
  refine (pe_ix ix_list (pe_var hN hv hd hcd) pe_w hs).w ⟨_, ep0, h W σ H O M _ fun y dy ρ2 H2 O2 M2 E2 ry ⟨c, ds, j, d, e1, e2, e3, hk⟩ => ?_⟩
  subst e1
  cases ry
  obtain ⟨p, ho, f1, f2, f3, f4, _⟩ := M2.own i c (.lst ds) e2
  rw [ep0] at f1
  cases f1
  obtain ⟨us, rfl, f4⟩ := ct_lst f4
  obtain ⟨z, g1, g2⟩ := dpa_at f4 e3
  exact ⟨p0, us, j, z, rfl, rfl, SqL.of f3, g1, q z d ρ2 H2 O2 M2 E2 g2 hk⟩

/-! ### calls of what is built in -/
def wC (X : Cx) (f : Value) : List V → Hp → VK → Prop := fun vs H Q => ∀ pins s σ us, Inv X pins σ H s → Vals vs us → wpAny (model X.prog X.w) X.A (call f us) (EP X pins σ Q) X.xe s
theorem call_w {f : Value} : CallR X f (wC X f) := fun pins s σ H vs us Q I r h => h pins s σ us I r
theorem CallRw {f : Value} {r : List V → Hp → VK → Prop} (h : CallR X f r) {vs : List V} {H : Hp} {Q : VK} (q : r vs H Q) : wC X f vs H Q := fun pins s σ us I rv => h pins s σ H vs us Q I rv q
def CallD (X : Cx) (f : Value) (ds : List D) (dz : D) : Prop := ∀ (H : Hp) (O : Addr → Prop) (vs : List V) (Q : VK), (∀ a, O a → ∃ o, H a = some o) → DpAll X.K (cut O H) vs ds → (∀ z H', Sub H H' → Dp X.K (cut O H') z dz → Q z H') → wC X f vs H Q
/-- .. a new list -/
def CallF (X : Cx) (f : Value) (ds zs : List D) : Prop := ∀ (H : Hp) (O : Addr → Prop) (vs : List V) (Q : VK), (∀ a, O a → ∃ o, H a = some o) → DpAll X.K (cut O H) vs ds → (∀ p H' us, H p = none → Sub H H' → H' p = some (.lst us) → DpAll X.K (cut O H) us zs → Q (.ref p) H') → wC X f vs H Q
variable {x : Str} {p : Pos} {id T : String}
theorem x_callB {k : D → Rho → Prop} (hg : Gl X x) (hm : X.mg x = none) (hv : bootBuiltins x = some (.builtin id)) (h : AX X (e :: es) ρ fun ds ρ1 => ∃ dz, CallD X (.builtin id) ds dz ∧ k dz ρ1) (hn : x ≠ "__name__" := by decide) (hdb : (x == ("__debug__" : Str)) = false := by decide)
    (he : starEach (e :: es) X.env = (false, eval e X.env) :: starEach es X.env := by rfl) (hpl : (backTo pos (starEach es X.env)).any (·.1) = false := by rfl) : EX X (.Call (.Name x p) (e :: es) [] pos) ρ k := fun W σ H O M Q q =>
  (pe_callB call_w hg hm hv pa_w hn hdb he hpl).w (h W σ H O M _ fun vs ds ρ1 H1 O1 M1 E1 r ⟨dz, hc, hk⟩ => hc H1 O1 vs Q M1.ex r fun z H' hs rz => q z dz ρ1 H' O1 (M1.grow hs) (E1.trans (Ext.grow hs)) rz hk)
theorem x_callT {k : D → Rho → Prop} (hg : Gl X x) (hm : X.mg x = none) (hv : bootBuiltins x = some (.type T)) (h : AX X (e :: es) ρ fun ds ρ1 => ∃ dz, CallD X (.type T) ds dz ∧ k dz ρ1) (hn : x ≠ "__name__" := by decide) (hdb : (x == ("__debug__" : Str)) = false := by decide)
    (he : starEach (e :: es) X.env = (false, eval e X.env) :: starEach es X.env := by rfl) (hpl : (backTo pos (starEach es X.env)).any (·.1) = false := by rfl) : EX X (.Call (.Name x p) (e :: es) [] pos) ρ k := fun W σ H O M Q q =>
  (pe_callTy call_w hg hm hv pa_w hn hdb he hpl).w (h W σ H O M _ fun vs ds ρ1 H1 O1 M1 E1 r ⟨dz, hc, hk⟩ => hc H1 O1 vs Q M1.ex r fun z H' hs rz => q z dz ρ1 H' O1 (M1.grow hs) (E1.trans (Ext.grow hs)) rz hk)
theorem f_callB {k : Ct → Rho → Prop} (hg : Gl X x) (hm : X.mg x = none) (hv : bootBuiltins x = some (.builtin id)) (h : AX X (e :: es) ρ fun ds ρ1 => ∃ zs, CallF X (.builtin id) ds zs ∧ k (.lst zs) ρ1) (hn : x ≠ "__name__" := by decide) (hdb : (x == ("__debug__" : Str)) = false := by decide)
    (he : starEach (e :: es) X.env = (false, eval e X.env) :: starEach es X.env := by rfl) (hpl : (backTo pos (starEach es X.env)).any (·.1) = false := by rfl) : FX X (.Call (.Name x p) (e :: es) [] pos) ρ k := fun W σ H O M Q q =>
  (pe_callB call_w hg hm hv pa_w hn hdb he hpl).w (h W σ H O M _ fun vs ds ρ1 H1 O1 M1 E1 r ⟨zs, hc, hk⟩ => hc H1 O1 vs Q M1.ex r fun p H' us hp hs hl rz => by
    obtain ⟨M2, E2, n2, h0⟩ := M1.new_list hp hs hl
    exact q p (.lst us) (.lst zs) ρ1 H' _ M2 (.inr rfl) n2 h0 hl (dpa_mono E2.sub _ _ rz) (E1.trans E2) hk)
theorem f_callT {k : Ct → Rho → Prop} (hg : Gl X x) (hm : X.mg x = none) (hv : bootBuiltins x = some (.type T)) (h : AX X (e :: es) ρ fun ds ρ1 => ∃ zs, CallF X (.type T) ds zs ∧ k (.lst zs) ρ1) (hn : x ≠ "__name__" := by decide) (hdb : (x == ("__debug__" : Str)) = false := by decide)
    (he : starEach (e :: es) X.env = (false, eval e X.env) :: starEach es X.env := by rfl) (hpl : (backTo pos (starEach es X.env)).any (·.1) = false := by rfl) : FX X (.Call (.Name x p) (e :: es) [] pos) ρ k := fun W σ H O M Q q =>
  (pe_callTy call_w hg hm hv pa_w hn hdb he hpl).w (h W σ H O M _ fun vs ds ρ1 H1 O1 M1 E1 r ⟨zs, hc, hk⟩ => hc H1 O1 vs Q M1.ex r fun p H' us hp hs hl rz => by
    obtain ⟨M2, E2, n2, h0⟩ := M1.new_list hp hs hl
    exact q p (.lst us) (.lst zs) ρ1 H' _ M2 (.inr rfl) n2 h0 hl (dpa_mono E2.sub _ _ rz) (E1.trans E2) hk)
/-- .. of a list of one's own alone, worth a plain value -/
def flatD : D → Bool
  | .none => true | .bool _ => true | .int _ => true | .str _ => true | _ => false
theorem dp_flat {K : PySem.W.Frag} {H H' : Hp} {v : V} {d : D} (f : flatD d = true) (r : Dp K H v d) : Dp K H' v d := by
  cases r with
  | non => exact .non
  | bl b => exact .bl b
  | int i => exact .int i
  | str x => exact .str x
  | lst _ _ => cases f
  | tup _ _ => cases f
theorem own_cut {K : PySem.W.Frag} {W : Wd} {σ : L2.St} {H : Hp} {O : Addr → Prop} {i : Nat} {c : Bool} {ds : List D} (M : Mt K W ρ σ H O) (hs : ρ[i]? = some (Sl.own c (.lst ds))) :
    ∃ p us, σ[i]? = some (some (V.ref p)) ∧ O p ∧ H p = some (HO.lst us) ∧ DpAll K (cut O H) us ds ∧ Dp K (cut (fun a => O a ∧ a ≠ p) H) (.ref p) (.list ds) := by
  obtain ⟨p, ho, e1, e2, e3, e4, _⟩ := M.own i c (.lst ds) hs
  obtain ⟨us, rfl, e4⟩ := ct_lst e4
  have hx : Ext H O H (fun a => O a ∧ a ≠ p) := fun a o ho hn => ⟨ho, fun z => hn z.1⟩
  exact ⟨p, us, e1, e2, e3, e4, .lst (SqL.of (cut_some.mpr ⟨fun z => z.2 rfl, e3⟩)) (dpa_mono hx.sub _ _ e4)⟩
theorem x_callBO {k : D → Rho → Prop} {i : Nat} {y : Str} {py : Pos} {c : Bool} {ds : List D} {dz : D} (hg : Gl X x) (hm : X.mg x = none) (hv : bootBuiltins x = some (.builtin id)) (hN : X.N[i]? = some y) (hvy : Vis X.env.scope y) (hs : ρ[i]? = some (Sl.own c (.lst ds)))
    (hc : CallD X (.builtin id) [.list ds] dz) (hf : flatD dz = true) (hk : k dz ρ) (hn : x ≠ "__name__" := by decide) (hdb : (x == ("__debug__" : Str)) = false := by decide)
    (hdy : (y == ("__debug__" : Str)) = false := by decide) (hcy : (y == ("__classdict__" : Str)) = false := by decide)
    (he : starEach [Expr.Name y py] X.env = (false, eval (.Name y py) X.env) :: starEach [] X.env := by rfl) (hpl : (backTo pos (starEach [] X.env)).any (·.1) = false := by rfl) : EX X (.Call (.Name x p) [.Name y py] [] pos) ρ k := fun W σ H O M Q q => by
  obtain ⟨p, us, e1, e2, e3, e4, r⟩ := own_cut M hs
  refine (pe_callB call_w hg hm hv (pa_cons (pe_var hN hvy hdy hcy) pa_nil he) hn hdb he hpl).w ⟨_, e1, ?_⟩
  exact hc H (fun a => O a ∧ a ≠ p) [.ref p] Q (fun a h => M.ex a h.1) (.cons r .nil) fun z H' hs' rz => q z dz ρ H' O (M.grow hs') (Ext.grow hs') (dp_flat hf rz) hk

/-! what is built in -/
theorem cd_lenT {ds : List D} : CallD X (.builtin "len") [.tuple ds] (.int ds.length) := fun H O vs Q _ r q => by
  cases r with
  | cons r1 r2 =>
    cases r2
    cases r1 with
    | tup hs ha => exact CallRw call_len_seq ⟨_, _, rfl, .inr (cut_sub.t hs), by rw [dpa_len ha]; exact q _ H (Sub.refl H) (.int _)⟩
theorem cd_lenL {ds : List D} : CallD X (.builtin "len") [.list ds] (.int ds.length) := fun H O vs Q _ r q => by
  cases r with
  | cons r1 r2 =>
    cases r2
    cases r1 with
    | lst hs ha => exact CallRw call_len_seq ⟨_, _, rfl, .inl (cut_sub.l hs), by rw [dpa_len ha]; exact q _ H (Sub.refl H) (.int _)⟩
theorem cd_lenS {z : Str} (h : z.length ≤ sizeLine) : CallD X (.builtin "len") [.str z] (.int z.length) := fun H O vs Q _ r q => by
  cases r with
  | cons r1 r2 =>
    cases r2
    cases r1
    exact CallRw call_len_str ⟨_, rfl, h, q _ H (Sub.refl H) (.int _)⟩
theorem cd_abs {i : Int} : CallD X (.builtin "abs") [.int i] (.int (if i < 0 then -i else i)) := fun H O vs Q _ r q => by
  cases r with
  | cons r1 r2 =>
    cases r2; cases r1
    exact CallRw call_abs ⟨_, rfl, q _ H (Sub.refl H) (.int _)⟩
theorem cd_max2 {i j : Int} (hc : X.calm = true) : CallD X (.builtin "max") [.int i, .int j] (.int (if j > i then j else i)) := fun H O vs Q _ r q => by
  cases r with
  | cons r1 r2 =>
    cases r2 with
    | cons r2 r3 =>
      cases r3; cases r1; cases r2
      exact CallRw (call_max2 hc) ⟨_, _, rfl, q _ H (Sub.refl H) (.int _)⟩
theorem cd_min2 {i j : Int} (hc : X.calm = true) : CallD X (.builtin "min") [.int i, .int j] (.int (if j < i then j else i)) := fun H O vs Q _ r q => by
  cases r with
  | cons r1 r2 =>
    cases r2 with
    | cons r2 r3 =>
      cases r3; cases r1; cases r2
      exact CallRw (call_min2 hc) ⟨_, _, rfl, q _ H (Sub.refl H) (.int _)⟩
theorem cd_int {i : Int} : CallD X (.type "int") [.int i] (.int i) := fun H O vs Q _ r q => by
  cases r with
  | cons r1 r2 =>
    cases r2; cases r1
    exact CallRw call_int1 (.inl ⟨_, rfl, q _ H (Sub.refl H) (.int _)⟩)
theorem cd_intB {b : Bool} : CallD X (.type "int") [.bool b] (.int (if b then 1 else 0)) := fun H O vs Q _ r q => by
  cases r with
  | cons r1 r2 =>
    cases r2; cases r1
    exact CallRw call_int1 (.inr ⟨_, rfl, q _ H (Sub.refl H) (.int _)⟩)
theorem cd_divmod {i j : Int} (h : CDiv i j) : CallD X (.builtin "divmod") [.int i, .int j] (.tuple [.int (i / j), .int (i % j)]) := fun H O vs Q ex r q => by
  cases r with
  | cons r1 r2 =>
    cases r2 with
    | cons r2 r3 =>
      cases r3; cases r1; cases r2
      refine CallRw call_divmod ⟨_, _, rfl, h, fun p hp => q _ _ (Sub.upd hp) (.tup (SqT.of (cut_some.mpr ⟨fun z => ?_, upd_same⟩)) (.cons (.int _) (.cons (.int _) .nil)))⟩
      obtain ⟨o, e⟩ := ex p z
      rw [hp] at e; cases e
theorem cf_list {ds : List D} : CallF X (.type "list") [.list ds] ds := fun H O vs Q _ r q => by
  cases r with
  | cons r1 r2 =>
    cases r2
    cases r1 with
    | lst hs ha => exact CallRw call_list_of ⟨_, _, rfl, .inl (cut_sub.l hs), fun l hl => q l _ _ hl (Sub.upd hl) upd_same ha⟩
theorem cf_listT {ds : List D} : CallF X (.type "list") [.tuple ds] ds := fun H O vs Q _ r q => by
  cases r with
  | cons r1 r2 =>
    cases r2
    cases r1 with
    | tup hs ha => exact CallRw call_list_of ⟨_, _, rfl, .inr (cut_sub.t hs), fun l hl => q l _ _ hl (Sub.upd hl) upd_same ha⟩
theorem cd_tuple {ds : List D} : CallD X (.type "tuple") [.list ds] (.tuple ds) := fun H O vs Q ex r q => by
  cases r with
  | cons r1 r2 =>
    cases r2
    cases r1 with
    | lst hs ha =>
      refine CallRw call_tuple_of ⟨_, _, rfl, .inl ⟨cut_sub.l hs, fun l hl => q _ _ (Sub.upd hl) (.tup (SqT.of (cut_some.mpr ⟨fun z => ?_, upd_same⟩)) (dpa_mono (cut_grow (Sub.upd hl)) _ _ ha))⟩⟩
      obtain ⟨o, e⟩ := ex l z
      rw [hl] at e; cases e
theorem cd_tupleT {ds : List D} : CallD X (.type "tuple") [.tuple ds] (.tuple ds) := fun H O vs Q ex r q => by
  cases r with
  | cons r1 r2 =>
    cases r2
    cases r1 with
    | tup hs ha => exact CallRw call_tuple_of ⟨_, _, rfl, .inr ⟨cut_sub.t hs, q _ H (Sub.refl H) (.tup hs ha)⟩⟩
/-- tuple(xs) of a list of one's own -/
theorem x_tupleO {k : D → Rho → Prop} {i : Nat} {y : Str} {py : Pos} {c : Bool} {ds : List D} (hg : Gl X "tuple") (hm : X.mg "tuple" = none) (hN : X.N[i]? = some y) (hvy : Vis X.env.scope y) (hs : ρ[i]? = some (Sl.own c (.lst ds)))
    (hk : k (.tuple ds) ρ) (hdy : (y == ("__debug__" : Str)) = false := by decide) (hcy : (y == ("__classdict__" : Str)) = false := by decide)
    (he : starEach [Expr.Name y py] X.env = (false, eval (.Name y py) X.env) :: starEach [] X.env := by rfl) (hpl : (backTo pos (starEach [] X.env)).any (·.1) = false := by rfl) : EX X (.Call (.Name "tuple" p) [.Name y py] [] pos) ρ k := fun W σ H O M Q q => by
  obtain ⟨p, us, e1, e2, e3, e4, r⟩ := own_cut M hs
  refine (pe_callTy call_tuple_of hg hm (by decide +kernel) (pa_cons (pe_var hN hvy hdy hcy) pa_nil he) (by decide) (by decide) he hpl).w ⟨_, e1, p, us, rfl, .inl ⟨SqL.of e3, fun l hl => ?_⟩⟩
  have sb : Sub H (upd H l (.tup us)) := Sub.upd hl
  exact q _ _ ρ _ O (M.grow sb) (Ext.grow sb) (.tup (SqT.of (cut_some.mpr ⟨M.fresh hl, upd_same⟩)) (dpa_mono (cut_grow sb) _ _ e4)) hk
end
end Lk

set_option Elab.async false
set_option linter.all false
set_option maxRecDepth 100000
namespace Lk
open PySem PySem.Spec PyProof.Rows L2

/-! ### targets, what is walked -/
def wG (X : Cx) (tg : Expr) : TG := fun v σ H Q => ∀ pins s u, Inv X pins σ H s → RelV v u → wpAny (model X.prog X.w) X.A (assign tg X.env u) (fun _ s' => ∃ σ' H', Inv X pins σ' H' s' ∧ Q σ' H') X.xe s
theorem pg_w {X : Cx} {tg : Expr} : PG X tg (wG X tg) := ⟨fun pins s σ H v u Q I r h => h pins s u I r⟩
theorem _root_.L2.PG.w' {X : Cx} {tg : Expr} {t : TG} (h : PG X tg t) {v : V} {σ : L2.St} {H : Hp} {Q : L2.St → Hp → Prop} (q : t v σ H Q) : wG X tg v σ H Q := fun pins s u I r => h.run pins s σ H v u Q I r q
def wIt (X : Cx) (tg iter : Expr) : TI := fun σ H R => ∀ pins s, Inv X pins σ H s → wpAny (model X.prog X.w) X.A (eval iter X.env) (fun v s1 => wpAny (model X.prog X.w) X.A (pyIter v) (PIE X pins σ tg R) X.xe s1) X.xe s
theorem pi_w {X : Cx} {tg iter : Expr} : PI X tg iter (wIt X tg iter) := ⟨fun pins s σ H R I h => h pins s I⟩
theorem _root_.L2.PI.w' {X : Cx} {tg iter : Expr} {t : TI} (h : PI X tg iter t) {σ : L2.St} {H : Hp} {R : It → Hp → Prop} (q : t σ H R) : wIt X tg iter σ H R := fun pins s I => h.run pins s σ H R I q

def GX (X : Cx) (tg : Expr) (d : D) (ρ : Rho) (vs : List Nat) (k : Rho → Prop) : Prop :=
  ∀ W σ H O v, Mt X.K W ρ σ H O → Dp X.K (cut O H) v d → ∀ Q : L2.St → Hp → Prop, (∀ ρ' σ' H' O', Mt X.K W ρ' σ' H' O' → Ext H O H' O' → (σ'.length = σ.length ∧ ∀ i, i ∉ vs → σ'[i]? = σ[i]?) → k ρ' → Q σ' H') → wG X tg v σ H Q
/-- what an iterator yields -/
def ItD (K : PySem.W.Frag) (J : It) (H : Hp) (O : Addr → Prop) (items : List D) : Prop := ∀ H' O', Ext H O H' O' → (∀ a, O' a → ∃ o, H' a = some o) → ∀ i, (∀ d, items[i]? = some d → J.go i H' ∧ ∀ x H'', J.yld i H' x H'' → Sub H' H'' ∧ Dp K (cut O' H'') x d) ∧ (items[i]? = none → J.stop i H')
def IX (X : Cx) (tg iter : Expr) (ρ : Rho) (k : List D → Rho → Prop) : Prop :=
  ∀ W σ H O, Mt X.K W ρ σ H O → ∀ R : It → Hp → Prop, (∀ J items ρ' H' O', Mt X.K W ρ' σ H' O' → Ext H O H' O' → ItD X.K J H' O' items → items.length ≤ sizeLine → k items ρ' → R J H') → wIt X tg iter σ H R
/-- lists and tuples are no longer than the line -/
def Lim (K : PySem.W.Frag) (H : Hp) : Prop := ∀ a xs, (SqL K H a xs ∨ SqT K H a xs) → xs.length ≤ sizeLine
theorem lim_E {X : Cx} {e : Expr} {σ : L2.St} {H : Hp} {Q : VK} (h : wE X e σ H fun v H' => Lim X.K H' → Q v H') : wE X e σ H Q := fun pins s I => thn (h pins s I) fun u s' ⟨v, H', I', r, q⟩ => ⟨v, H', I', r, q fun a xs z => by
  rcases z with z | z
  · obtain ⟨_, _, _, h⟩ := I'.list z; exact h
  · obtain ⟨_, _, _, h⟩ := I'.tuple z; exact h⟩
section
variable {X : Cx} {ρ : Rho} {pos : Pos} {tg e c : Expr} {es : List Expr}
theorem g_name {i : Nat} {x : Str} {d : D} {k : Rho → Prop} (hN : X.N.Nodup) (hi : X.N[i]? = some x) (hx : Loc X.env.scope x) (h : isIo ρ[i]? = false) (hk : k (ρ.set i (.val d)))
    (hf : X.fn x = true ∨ X.env.scope.names.lookup x = some .local := by first | exact .inl rfl | exact .inr rfl | assumption) : GX X (.Name x pos) d ρ [i] k := fun W σ H O v M r Q q =>
  (pg_name hN hi hx hf).w' (q _ _ H O (M.set h r) (Ext.refl _ _) ⟨List.length_set, fun j hj => List.getElem?_set_ne (fun z => hj (by rw [z]; exact List.mem_singleton.mpr rfl))⟩ hk)
def GXs (X : Cx) (ts : List Expr) (ds : List D) (ρ : Rho) (vs : List Nat) (k : Rho → Prop) : Prop :=
  ∀ W σ H O us, Mt X.K W ρ σ H O → DpAll X.K (cut O H) us ds → ∀ Q : L2.St → Hp → Prop, (∀ ρ' σ' H' O', Mt X.K W ρ' σ' H' O' → Ext H O H' O' → (σ'.length = σ.length ∧ ∀ i, i ∉ vs → σ'[i]? = σ[i]?) → k ρ' → Q σ' H') →
    ∀ pins s ws, Inv X pins σ H s → Vals us ws → wpAny (model X.prog X.w) X.A (assignInOrder ((assignEach ts X.env).map (·.2)) ws) (fun _ s' => ∃ σ' H', Inv X pins σ' H' s' ∧ Q σ' H') X.xe s
theorem gs_nil {k : Rho → Prop} (hk : k ρ) : GXs X [] [] ρ [] k := fun W σ H O us M r Q q pins s ws I rv => by
  cases r
  exact pgs_nil.run pins s σ H _ ws Q I rv ⟨rfl, q ρ σ H O M (Ext.refl _ _) ⟨rfl, fun _ _ => rfl⟩ hk⟩
theorem gs_cons {d : D} {ds : List D} {v1 vs : List Nat} {k : Rho → Prop} (h : GX X e d ρ v1 fun ρ1 => GXs X es ds ρ1 vs k) (hs : (assignEach (e :: es) X.env).map (·.2) = assign e X.env :: (assignEach es X.env).map (·.2) := by rfl) :
    GXs X (e :: es) (d :: ds) ρ (v1 ++ vs) k := fun W σ H O us M r Q q pins s ws I rv => by
  cases r with
  | cons r1 r2 =>
    refine (pgs_cons (t := wG X e) (u := fun us σ H Q => ∀ pins s ws, Inv X pins σ H s → Vals us ws → wpAny (model X.prog X.w) X.A (assignInOrder ((assignEach es X.env).map (·.2)) ws) (fun _ s' => ∃ σ' H', Inv X pins σ' H' s' ∧ Q σ' H') X.xe s) pg_w ⟨fun pins s σ H vs us Q I r h => h pins s us I r⟩ hs).run pins s σ H _ ws Q I rv ⟨_, _, rfl, ?_⟩
    exact h W σ H O _ M r1 _ fun ρ1 σ1 H1 O1 M1 E1 s1 h1 => h1 W σ1 H1 O1 _ M1 (dpa_mono E1.sub _ _ r2) Q fun ρ2 σ2 H2 O2 M2 E2 s2 hk =>
      q ρ2 σ2 H2 O2 M2 (E1.trans E2) ⟨s2.1.trans s1.1, fun i hi => (s2.2 i (fun z => hi (List.mem_append_right _ z))).trans (s1.2 i (fun z => hi (List.mem_append_left _ z)))⟩ hk
theorem g_tup {k2 : Nat} {ds : List D} {vs : List Nat} {k : Rho → Prop} (hc : X.calm = true) (hl : ds.length = es.length) (h : GXs X es ds ρ vs k)
    (hn : (assignEach es X.env).length = es.length := by rfl) (hst : (assignEach es X.env).findIdx? (·.1) = none := by rfl) : GX X (.Tuple es k2 pos) (.tuple ds) ρ vs k := fun W σ H O v M r Q q => by
  cases r with
  | tup hs ha =>
    refine (pg_tup hc (t := fun us σ H Q => ∀ pins s ws, Inv X pins σ H s → Vals us ws → wpAny (model X.prog X.w) X.A (assignInOrder ((assignEach es X.env).map (·.2)) ws) (fun _ s' => ∃ σ' H', Inv X pins σ' H' s' ∧ Q σ' H') X.xe s) ⟨fun pins s σ H vs us Q I r h => h pins s us I r⟩ hn hst).w' ⟨_, _, rfl, cut_sub.t hs, by rw [dpa_len ha]; exact hl, ?_⟩
    exact h W σ H O _ M ha Q q
/-- a, b = e -/
theorem s_unp {vs : List Nat} {N : Wish} (h : EX X e ρ fun d ρ1 => GX X tg d ρ1 vs N.nx) (hs : swapsWithSole [tg] e pos.line X.env = pure false := by rfl) (hw : swappedStores [tg] e X.env = pure none := by rfl)
    (h1 : (assignEach [tg] X.env).map (·.2) = [assign tg X.env] := by rfl) : SX X (.Assign [tg] e pos) ρ N := fun W σ H O M Dn q =>
  (ps_asg pe_w pg_w hs hw h1).w (h W σ H O M _ fun v d ρ1 H1 O1 M1 E1 r h2 => h2 W σ H1 O1 v M1 r _ fun ρ2 σ2 H2 O2 M2 E2 _ hk => q.nx ρ2 σ2 H2 O2 M2 (E1.trans E2) hk)

theorem itd_lst {H : Hp} {O : Addr → Prop} {a : Addr} {ds : List D} {us : List V} (hs : SqL X.K (cut O H) a us) (ha : DpAll X.K (cut O H) us ds) : ItD X.K (Itl X.K a) H O ds := fun H' O' E' ex i => by
  have hs' : SqL X.K H' a us := cut_sub.l (E'.sub.l hs)
  have ha' := dpa_mono E'.sub _ _ ha
  refine ⟨fun d e => ?_, fun e => ⟨us, hs', by rw [dpa_len ha]; exact List.getElem?_eq_none_iff.mp e⟩⟩
  obtain ⟨v, e1, r⟩ := dpa_get' ha' e
  refine ⟨⟨us, v, hs', e1⟩, fun x H'' y => ?_⟩
  obtain ⟨rfl, y⟩ := y
  have e2 := y us hs'
  rw [e1] at e2
  cases e2
  exact ⟨Sub.refl _, r⟩
theorem itd_tup {H : Hp} {O : Addr → Prop} {a : Addr} {ds : List D} {us : List V} (hs : SqT X.K (cut O H) a us) (ha : DpAll X.K (cut O H) us ds) : ItD X.K (Itt X.K a) H O ds := fun H' O' E' ex i => by
  have hs' : SqT X.K H' a us := cut_sub.t (E'.sub.t hs)
  have ha' := dpa_mono E'.sub _ _ ha
  refine ⟨fun d e => ?_, fun e => ⟨us, hs', by rw [dpa_len ha]; exact List.getElem?_eq_none_iff.mp e⟩⟩
  obtain ⟨v, e1, r⟩ := dpa_get' ha' e
  refine ⟨⟨us, v, hs', e1⟩, fun x H'' y => ?_⟩
  obtain ⟨rfl, y⟩ := y
  have e2 := y us hs'
  rw [e1] at e2
  cases e2
  exact ⟨Sub.refl _, r⟩
theorem i_lst {k : List D → Rho → Prop} (h : EX X e ρ fun d ρ1 => ∃ ds, d = .list ds ∧ k ds ρ1) : IX X tg e ρ k := fun W σ H O M R q =>
  (pi_list pe_w).w' (lim_E (h W σ H O M _ fun v d ρ1 H1 O1 M1 E1 r ⟨ds, hd, hk⟩ lim => by
    subst hd
    cases r with
    | lst hs ha => exact ⟨_, rfl, ⟨_, cut_sub.l hs⟩, q _ ds ρ1 H1 O1 M1 E1 (itd_lst hs ha) (by rw [← dpa_len ha]; exact lim _ _ (.inl (cut_sub.l hs))) hk⟩))
theorem i_tup {k : List D → Rho → Prop} (h : EX X e ρ fun d ρ1 => ∃ ds, d = .tuple ds ∧ k ds ρ1) : IX X tg e ρ k := fun W σ H O M R q =>
  (pi_tup pe_w).w' (lim_E (h W σ H O M _ fun v d ρ1 H1 O1 M1 E1 r ⟨ds, hd, hk⟩ lim => by
    subst hd
    cases r with
    | tup hs ha => exact ⟨_, rfl, ⟨_, cut_sub.t hs⟩, q _ ds ρ1 H1 O1 M1 E1 (itd_tup hs ha) (by rw [← dpa_len ha]; exact lim _ _ (.inr (cut_sub.t hs))) hk⟩))
/-- lo, lo + 1, .. below hi -/
def rngL (lo hi : Int) : List Int := (List.range (hi - lo).toNat).map fun i => lo + (i : Nat)
def rngOk (lo hi : Int) : Bool := decide (-(2 ^ 62) ≤ lo) && decide (lo < 2 ^ 62) && decide (-(2 ^ 62) ≤ hi) && decide (hi < 2 ^ 62) && decide (hi - lo ≤ 16777216)
theorem itd_rng {H : Hp} {O : Addr → Prop} {lo hi : Int} : ItD X.K (Itr lo (hi - lo).toNat) H O ((rngL lo hi).map PyData.int) := fun H' O' E' ex i => by
  unfold rngL
  rw [List.map_map]
  refine ⟨fun d e => ?_, fun e => ?_⟩
  · rw [List.getElem?_map] at e
    cases q : (List.range (hi - lo).toNat)[i]? with
    | none => rw [q] at e; cases e
    | some j =>
      rw [q] at e
      obtain ⟨h1, h2⟩ := List.getElem?_eq_some_iff.mp q
      rw [List.getElem_range] at h2
      subst h2
      rw [List.length_range] at h1
      cases e
      refine ⟨h1, fun x H'' y => ?_⟩
      obtain ⟨rfl, rfl⟩ := y
      exact ⟨Sub.refl _, .int _⟩
  · have := List.getElem?_eq_none_iff.mp e
    rw [List.length_map, List.length_range] at this
    exact this
theorem rngL_len (lo hi : Int) : (rngL lo hi).length = (hi - lo).toNat := by unfold rngL; rw [List.length_map, List.length_range]
theorem i_rng1 {k : List D → Rho → Prop} {p : Pos} (hg : Gl X "range") (hm : X.mg "range" = none) (h : EX X e ρ fun d ρ1 => ∃ j, d = .int j ∧ rngOk 0 j = true ∧ k ((rngL 0 j).map PyData.int) ρ1)
    (hs0 : starEach (e :: []) X.env = (false, eval e X.env) :: starEach [] X.env := by rfl) (hs : starEach [e] X.env = [(false, eval e X.env)] := by rfl) : IX X tg (.Call (.Name "range" p) [e] [] pos) ρ k := fun W σ H O M R q =>
  (pi_range1 hg hm (pa_cons pe_w pa_nil hs0) hs).w' (h W σ H O M _ fun v d ρ1 H1 O1 M1 E1 r ⟨j, hd, hr, hk⟩ => by
    subst hd
    cases r
    unfold rngOk at hr
    simp only [Bool.and_eq_true, decide_eq_true_eq] at hr
    refine ⟨j, rfl, hr.1.1.2, hr.1.2, ?_⟩
    have e : j.toNat = (j - 0).toNat := by rw [Int.sub_zero]
    rw [e]
    exact q _ _ ρ1 H1 O1 M1 E1 itd_rng (by rw [List.length_map, rngL_len, sizeLine_eq]; omega) hk)
theorem i_rng2 {k : List D → Rho → Prop} {p : Pos} (hg : Gl X "range") (hm : X.mg "range" = none) (h : EX X e ρ fun d ρ1 => ∃ i, d = .int i ∧ EX X c ρ1 fun d ρ2 => ∃ j, d = .int j ∧ rngOk i j = true ∧ k ((rngL i j).map PyData.int) ρ2)
    (hs0 : starEach (e :: [c]) X.env = (false, eval e X.env) :: starEach [c] X.env := by rfl) (hs1 : starEach (c :: []) X.env = (false, eval c X.env) :: starEach [] X.env := by rfl)
    (hs : starEach [e, c] X.env = [(false, eval e X.env), (false, eval c X.env)] := by rfl) (hs2 : starEach [c] X.env = [(false, eval c X.env)] := by rfl) : IX X tg (.Call (.Name "range" p) [e, c] [] pos) ρ k := fun W σ H O M R q =>
  (pi_range2 hg hm (pa_cons pe_w (pa_cons pe_w pa_nil hs1) hs0) hs hs2).w' (h W σ H O M _ fun v d ρ1 H1 O1 M1 E1 r ⟨i, hd, h2⟩ => by
    subst hd
    cases r
    exact h2 W σ H1 O1 M1 _ fun v d ρ2 H2 O2 M2 E2 r ⟨j, hd, hr, hk⟩ => by
      subst hd
      cases r
      unfold rngOk at hr
      simp only [Bool.and_eq_true, decide_eq_true_eq] at hr
      exact ⟨i, j, rfl, ⟨hr.1.1.1.1, hr.1.1.1.2, hr.1.1.2, hr.1.2⟩, q _ _ ρ2 H2 O2 M2 (E1.trans E2) itd_rng (by rw [List.length_map, rngL_len, sizeLine_eq]; omega) hk⟩)

/-! ### for -/
inductive Fl (S R : Type) where
  | nx (s : S) | rt (r : R) | bk (s : S)
def forL {α S R : Type} (step : α → S → Option (Fl S R)) : List α → S → Option (Fl S R)
  | [], s => some (.nx s)
  | x :: xs, s => match step x s with
    | some (.nx s') => forL step xs s'
    | some (.rt r) => some (.rt r)
    | some (.bk s') => some (.bk s')
    | none => none
theorem s_for {α S R' : Type} {body : List Stmt} {r : α → D} {ρS : S → Rho} {vs : List Nat} {N : Wish} (hp : PassesOwn (model X.prog X.w) X.A X.env X.xe) (hc : X.calm = true)
    (h : IX X tg e ρ fun items ρ1 => ∃ (step : α → S → Option (Fl S R')) (xs : List α) (s0 : S) (fl : Fl S R'), items = xs.map r ∧ Weak ρ1 (ρS s0) ∧ forL step xs s0 = some fl ∧
      (∀ x s f1, step x s = some f1 → GX X tg (r x) (ρS s) vs fun ρ2 => SXs X body ρ2 { nx := fun ρ3 => ∃ s', f1 = .nx s' ∧ Weak ρ3 (ρS s'), rt := fun d ρ3 => ∃ rr, f1 = .rt rr ∧ (fl = .rt rr → N.rt d ρ3), bk := fun ρ3 => ∃ s', f1 = .bk s' ∧ Weak ρ3 (ρS s'), ct := fun ρ3 => ∃ s', f1 = .nx s' ∧ Weak ρ3 (ρS s'), rf := fun c ρ3 => ∃ rr, f1 = .rt rr ∧ (fl = .rt rr → N.rf c ρ3) }) ∧
      (∀ s, (fl = .nx s ∨ fl = .bk s) → N.nx (ρS s)))
    (hs : ∀ x, foldedSetIterable e X.env x = pure x := by intro _; rfl) : SX X (.For tg e body [] pos) ρ N := fun W σ H O M Dn q =>
  (ps_for hp hc pi_w pg_w pss_w hs).w (h W σ H O M _ fun J items ρ1 H1 O1 M1 E1 it hlen hk => by
    obtain ⟨step, xs, s0, fl, rfl, w0, hf, turn, fin⟩ := hk
    refine ⟨fun i m σ' H' => m = xs.length - i ∧ i ≤ xs.length ∧ ∃ s O', Mt X.K W (ρS s) σ' H' O' ∧ Ext H1 O1 H' O' ∧ forL step (xs.drop i) s = some fl, ⟨xs.length, by simp, Nat.zero_le _, s0, O1, M1.weak w0, Ext.refl _ _, hf⟩, ?_⟩
    rintro i m σ2 H2 ⟨rfl, hi, s, O2, M2, E2, hf2⟩
    obtain ⟨it1, it2⟩ := it H2 O2 E2 M2.ex i
    by_cases hlt : i < xs.length
    · have hx : xs[i]? = some xs[i] := List.getElem?_eq_getElem hlt
      obtain ⟨go, yl⟩ := it1 (r xs[i]) (by rw [List.getElem?_map, hx]; rfl)
      rw [List.drop_eq_getElem_cons hlt] at hf2
      refine .inr ⟨go, ?_⟩
      cases hst : step xs[i] s with
      | none => exfalso; simp only [forL, hst] at hf2; cases hf2
      | some f1 =>
        refine ⟨fun σ' H' => ∃ s' O', f1 = .nx s' ∧ Mt X.K W (ρS s') σ' H' O' ∧ Ext H1 O1 H' O', fun σ' H' ⟨s', O', e1, M', E'⟩ => ⟨xs.length - (i + 1), by omega, rfl, hlt, s', O', M', E', by subst e1; simpa [forL, hst] using hf2⟩, fun x H' y => ?_⟩
        obtain ⟨sb, rx⟩ := yl x H' y
        have M3 := M2.grow sb
        have E3 : Ext H1 O1 H' O2 := E2.trans (Ext.grow sb)
        refine turn xs[i] s f1 hst W σ2 H' O2 x M3 rx _ fun ρ4 σ4 H4 O4 M4 E4 _ h4 => ?_
        refine h4 W σ4 H4 O4 M4 _ ⟨fun ρ5 σ5 H5 O5 M5 E5 ⟨s', e1, w5⟩ => ⟨s', O5, e1, M5.weak w5, (E3.trans E4).trans E5⟩, fun v d ρ5 σ5 H5 O5 M5 E5 r5 ⟨rr, e1, h5⟩ => ?_, fun ρ5 σ5 H5 O5 M5 E5 ⟨s', e1, w5⟩ => ?_, fun ρ5 σ5 H5 O5 M5 E5 ⟨s', e1, w5⟩ => ⟨s', O5, e1, M5.weak w5, (E3.trans E4).trans E5⟩, fun p us c ρ5 σ5 H5 O5 M5 E5 hp hn h0 hl r5 ⟨rr, e1, h5⟩ => ?_⟩
        · subst e1
          refine q.rt v d ρ5 σ5 H5 O5 M5 (E1.trans ((E3.trans E4).trans E5)) r5 (h5 ?_)
          simpa [forL, hst] using hf2.symm
        · subst e1
          refine q.nx _ σ5 H5 O5 (M5.weak w5) (E1.trans ((E3.trans E4).trans E5)) (fin s' (.inr ?_))
          simpa [forL, hst] using hf2.symm
        · subst e1
          refine q.rf p us c ρ5 σ5 H5 O5 M5 (E1.trans ((E3.trans E4).trans E5)) hp hn h0 hl r5 (h5 ?_)
          simpa [forL, hst] using hf2.symm
    · have e : i = xs.length := by omega
      subst e
      have hn : (xs.map r)[xs.length]? = none := by simp
      refine .inl ⟨it2 hn, ?_⟩
      rw [List.drop_length] at hf2
      have e2 : fl = .nx s := by simpa [forL] using hf2.symm
      exact q.nx _ σ2 H2 O2 M2 (E1.trans E2) (fin s (.inl e2)))
end
end Lk

set_option Elab.async false
set_option linter.all false
set_option maxRecDepth 100000
namespace Lk
open PySem PySem.Spec PyProof.Rows L2

/-! ### comprehensions -/
/-- the slots of the block's own names -/
def blank (ρ : Rho) : List Nat → Rho
  | [] => ρ
  | v :: vs => (blank ρ vs).set v .non
theorem blank_len (ρ : Rho) : ∀ vs, (blank ρ vs).length = ρ.length
  | [] => rfl
  | v :: vs => by unfold blank; rw [List.length_set, blank_len ρ vs]
theorem blank_out {ρ : Rho} {i : Nat} : ∀ {vs : List Nat}, i ∉ vs → (blank ρ vs)[i]? = ρ[i]?
  | [], _ => rfl
  | v :: vs, h => by
    have h1 : v ≠ i := fun e => h (by rw [e]; exact List.mem_cons_self)
    unfold blank
    rw [List.getElem?_set_ne h1]
    exact blank_out fun m => h (List.mem_cons_of_mem _ m)
theorem blank_in {ρ : Rho} {i : Nat} : ∀ {vs : List Nat}, i ∈ vs → i < ρ.length → (blank ρ vs)[i]? = some .non
  | v :: vs, h, hl => by
    unfold blank
    by_cases e : v = i
    · subst e
      rw [List.getElem?_set_self (by rw [blank_len]; exact hl)]
    · rw [List.getElem?_set_ne e]
      exact blank_in ((List.mem_cons.mp h).resolve_left (Ne.symm e)) hl
/-- ρ' is ρ but for the slots vs, of which ρ' knows nothing -/
structure Apart (vs : List Nat) (ρ ρ' : Rho) : Prop where
  len : ρ.length = ρ'.length
  out : ∀ i, i ∉ vs → ρ'[i]? = ρ[i]?
  inn : ∀ i, i ∈ vs → i < ρ'.length → ρ'[i]? = some .non
theorem Apart.of {vs : List Nat} {ρ ρ' : Rho} (h1 : ρ.length = ρ'.length) (h : blank ρ vs = ρ') : Apart vs ρ ρ' := by
  subst h
  exact ⟨h1, fun i hi => blank_out hi, fun i hi hl => blank_in hi (by rw [blank_len] at hl; exact hl)⟩
section
variable {K : PySem.W.Frag} {W : Wd} {ρ ρ' : Rho} {σ σ' : L2.St} {H H' : Hp} {O : Addr → Prop}
theorem Mt.part (M : Mt K W ρ σ H O) {vs : List Nat} (a : Apart vs ρ ρ') (hf : ∀ q ∈ W.ioL, q.1 ∉ vs) (hl : σ'.length = σ.length) (hs : ∀ i, i ∉ vs → σ'[i]? = σ[i]?) : Mt K W ρ' σ' H O := by
  have get : ∀ i s, ρ'[i]? = some s → s ≠ .non → i ∉ vs ∧ ρ[i]? = some s := fun i s h n => by
    by_cases hi : i ∈ vs
    · have hlt : i < ρ'.length := (List.getElem?_eq_some_iff.mp h).1
      rw [a.inn i hi hlt] at h
      cases h
      exact absurd rfl n
    · exact ⟨hi, by rw [← a.out i hi]; exact h⟩
  refine ⟨by rw [hl, M.len, a.len], fun i d h => ?_, fun i b ds h => ?_, fun i j b c ds es p hn h1 h2 => ?_, fun q hq => ?_, M.ex, M.keep, M.sub, M.new, M.wf1, M.wf2, M.old, fun i v h => ?_⟩
  · obtain ⟨n, h⟩ := get i _ h (by intro z; cases z)
    rw [hs i n]
    exact M.val i d h
  · obtain ⟨n, h⟩ := get i _ h (by intro z; cases z)
    rw [hs i n]
    exact M.own i b ds h
  · obtain ⟨n1, h1⟩ := get i _ h1 (by intro z; cases z)
    obtain ⟨n2, h2⟩ := get j _ h2 (by intro z; cases z)
    rw [hs i n1, hs j n2]
    exact M.apart i j b c ds es p hn h1 h2
  · obtain ⟨h1, ds, h2⟩ := M.ios q hq
    have n : q.1 ∉ vs := hf q hq
    exact ⟨by rw [hs q.1 n]; exact h1, ds, by rw [a.out q.1 n]; exact h2⟩
  · obtain ⟨n, h⟩ := get i _ h (by intro z; cases z)
    rw [hs i n]
    exact M.pin i v h
/-- D, of nobody's, is kept, too -/
theorem Mt.prot' (M : Mt K W ρ σ H O) {d : Addr} {o : HO} (h0 : W.H0 d = none) (hd : H d = some o) (hO : O d) (hn : ∀ (j : Nat) b es, ρ[j]? = some (Sl.own b es) → σ[j]? ≠ some (some (V.ref d))) : Mt K ⟨upd W.H0 d o, fun a => W.B a ∨ a = d, W.ioL⟩ ρ σ H O where
  len := M.len
  val := M.val
  own := fun i b ds h => by
    obtain ⟨p, us, e1, e2, e3, e4, e5, e6⟩ := M.own i b ds h
    have np : p ≠ d := fun z => hn i b ds h (by rw [e1, z])
    exact ⟨p, us, e1, e2, e3, e4, fun z => by show upd W.H0 d o p = none; rw [upd_ne np]; exact e5 z, e6⟩
  apart := M.apart
  ios := M.ios
  ex := M.ex
  keep := fun a u h n => by
    by_cases z : a = d
    · subst z
      have h : upd W.H0 a o a = some u := h
      rw [upd_same] at h
      cases h
      exact hd
    · have h : upd W.H0 d o a = some u := h
      rw [upd_ne z] at h
      exact M.keep a u h n
  sub := fun a h => by
    rcases h with h | h
    · exact M.sub a h
    · rw [h]; exact hO
  new := fun a h => by
    by_cases z : a = d
    · exact .inl (.inr z)
    · rcases M.new a h with q | q
      · exact .inl (.inl q)
      · exact .inr (by show upd W.H0 d o a = none; rw [upd_ne z]; exact q)
  wf1 := fun a h => by
    by_cases z : a = d
    · exact ⟨o, by show upd W.H0 d o a = _; rw [z, upd_same]⟩
    · obtain ⟨u, q⟩ := M.wf1 a (h.resolve_right z)
      exact ⟨u, by show upd W.H0 d o a = _; rw [upd_ne z]; exact q⟩
  wf2 := fun a h => .inl (M.wf2 a h)
  old := fun a u h => by
    by_cases z : a = d
    · rw [z]; exact ⟨o, hd⟩
    · have h : upd W.H0 d o a = some u := h
      rw [upd_ne z] at h
      exact M.old a u h
  pin := M.pin
theorem Mt.unprot {d : Addr} {o : HO} {ρ0 : Rho} {σ0 : L2.St} {Hb : Hp} {O0 : Addr → Prop} (M0 : Mt K W ρ0 σ0 Hb O0) (h0 : W.H0 d = none) (M : Mt K ⟨upd W.H0 d o, fun a => W.B a ∨ a = d, W.ioL⟩ ρ σ H O) : Mt K W ρ σ H O where
  len := M.len
  val := M.val
  own := fun i b ds h => by
    obtain ⟨p, us, e1, e2, e3, e4, e5, e6⟩ := M.own i b ds h
    refine ⟨p, us, e1, e2, e3, e4, fun z => ?_, e6⟩
    have q : upd W.H0 d o p = none := e5 z
    by_cases np : p = d
    · rw [np]; exact h0
    · rw [upd_ne np] at q; exact q
  apart := M.apart
  ios := M.ios
  ex := M.ex
  keep := fun a u h n => M.keep a u (by
    show upd W.H0 d o a = _
    have z : a ≠ d := fun z => by rw [z, h0] at h; cases h
    rw [upd_ne z]; exact h) n
  sub := fun a h => M.sub a (.inl h)
  new := fun a h => by
    rcases M.new a h with q | q
    · rcases q with q | q
      · exact .inl q
      · rw [q]; exact .inr h0
    · have q : upd W.H0 d o a = none := q
      by_cases z : a = d
      · rw [z]; exact .inr h0
      · rw [upd_ne z] at q; exact .inr q
  wf1 := M0.wf1
  wf2 := M0.wf2
  old := fun a u h => M.old a u (by
    show upd W.H0 d o a = _
    have z : a ≠ d := fun z => by rw [z, h0] at h; cases h
    rw [upd_ne z]; exact h)
  pin := M.pin
/-- .. the new list is longer -/
theorem Mt.other (M : Mt K W ρ σ H O) {d : Addr} {u : HO} (h0 : W.H0 d = none) (hO : O d) (hn : ∀ (j : Nat) b es, ρ[j]? = some (Sl.own b es) → σ[j]? ≠ some (some (V.ref d))) : Mt K W ρ σ (upd H d u) O ∧ Ext H O (upd H d u) O := by
  have hx : Ext H O (upd H d u) O := fun a o h n => ⟨by rw [upd_ne (fun z => n (by rw [z]; exact hO))]; exact h, n⟩
  refine ⟨⟨M.len, fun i e h => ?_, fun i b ds h => ?_, M.apart, M.ios, fun a h => ?_, fun a o h n => ?_, M.sub, M.new, M.wf1, M.wf2, fun a o h => ?_, M.pin⟩, hx⟩
  · obtain ⟨v, a, r⟩ := M.val i e h
    exact ⟨v, a, dp_mono hx.sub _ _ r⟩
  · obtain ⟨p, us, e1, e2, e3, e4, e5⟩ := M.own i b ds h
    have np : p ≠ d := fun z => hn i b ds h (by rw [e1, z])
    exact ⟨p, us, e1, e2, by rw [upd_ne np]; exact e3, ct_mono hx.sub e4, e5⟩
  · by_cases z : a = d
    · rw [z, upd_same]; exact ⟨_, rfl⟩
    · rw [upd_ne z]; exact M.ex a h
  · rw [upd_ne (fun z => by rw [z, h0] at h; cases h)]; exact M.keep a o h n
  · rw [upd_ne (fun z => by rw [z, h0] at h; cases h)]; exact M.old a o h
end

def wTs (X : Cx) (ifs : List Expr) : TT := fun σ H Q => ∀ pins s, Inv X pins σ H s → wpAny (model X.prog X.w) X.A (forIn ifs true fun c r => if r = true then do let ok ← isTrue c X.env (eval c X.env); pure (ForInStep.yield ok) else pure (ForInStep.yield r)) (TP X pins σ Q) X.xe s
def TsX (X : Cx) (ifs : List Expr) (ρ : Rho) (k : Bool → Rho → Prop) : Prop :=
  ∀ W σ H O, Mt X.K W ρ σ H O → ∀ Q : Bool → Hp → Prop, (∀ b ρ' H' O', Mt X.K W ρ' σ H' O' → Ext H O H' O' → k b ρ' → Q b H') → wTs X ifs σ H Q
theorem ts_nil {X : Cx} {ρ : Rho} {k : Bool → Rho → Prop} (h : k true ρ) : TsX X [] ρ k := fun W σ H O M Q q pins s I => pts_nil.run pins s σ H Q I (q true ρ H O M (Ext.refl _ _) h)
theorem ts_one {X : Cx} {ρ : Rho} {c : Expr} {k : Bool → Rho → Prop} (h : TX X c ρ k) : TsX X [c] ρ k := fun W σ H O M Q q pins s I => (pts_one pt_w).run pins s σ H Q I (h W σ H O M Q q)

abbrev bk (X : Cx) (scope : Scope) (s : Shared) (H : Hp) (C : Addr) (cl : List (Str × Addr)) (fp : List Addr) : Cx := X.blk s H scope (compEnvC scope cl C X.env) fp
def lcL {α β S : Type} (step : α → S → Option (Option β × S)) : List α → S → Option (List β × S)
  | [], s => some ([], s)
  | x :: xs, s => match step x s with
    | none => none
    | some (o, s') => match lcL step xs s' with
      | none => none
      | some (ys, s'') => some (o.toList ++ ys, s'')
def bE (X : Cx) (scope : Scope) (e : Expr) : TE := fun σ H Q => ∀ s0 H0 C cl fp, wE (bk X scope s0 H0 C cl fp) e σ H Q
def bG (X : Cx) (scope : Scope) (e : Expr) : TG := fun v σ H Q => ∀ s0 H0 C cl fp, wG (bk X scope s0 H0 C cl fp) e v σ H Q
def bTs (X : Cx) (scope : Scope) (es : List Expr) : TT := fun σ H Q => ∀ s0 H0 C cl fp, wTs (bk X scope s0 H0 C cl fp) es σ H Q
section
variable {X : Cx} {ρ : Rho} {pos : Pos} {tg iter elt : Expr} {ifs : List Expr} {scope : Scope} {own : List (Str × Nat)}
theorem i_mono {e : Expr} {k k' : List D → Rho → Prop} (h : IX X tg e ρ k) (m : ∀ d ρ', k d ρ' → k' d ρ') : IX X tg e ρ k' := fun W σ H O M R q => h W σ H O M R fun J items ρ' H' O' M' E' it hl hk => q J items ρ' H' O' M' E' it hl (m items ρ' hk)
theorem wipe_out' {σ : L2.St} {i : Nat} {vs : List Nat} (h : i ∉ vs) : (wipe σ vs)[i]? = σ[i]? := wipe_out h
theorem wipe_eq {σ σ' : L2.St} {vs : List Nat} (hl : σ'.length = σ.length) (h : ∀ i, i ∉ vs → σ'[i]? = σ[i]?) : wipe σ' vs = wipe σ vs := by
  apply List.ext_getElem?
  intro i
  by_cases hi : i ∈ vs
  · have key : ∀ (τ : L2.St) (us : List Nat), i ∈ us → i < τ.length → (wipe τ us)[i]? = some none := by
      intro τ us hu hlt
      induction us with
      | nil => cases hu
      | cons v us ih =>
        unfold wipe
        by_cases e : v = i
        · subst e
          rw [List.getElem?_set_self (by rw [wipe_length]; exact hlt)]
        · rw [List.getElem?_set_ne e]
          exact ih ((List.mem_cons.mp hu).resolve_left (Ne.symm e))
    by_cases hlt : i < σ.length
    · rw [key σ' vs hi (by omega), key σ vs hi hlt]
    · rw [List.getElem?_eq_none (by rw [wipe_length]; omega), List.getElem?_eq_none (by rw [wipe_length]; omega)]
  · rw [wipe_out hi, wipe_out hi]
    exact h i hi
/-- what a comprehension asks, by what its turns are worth -/
structure LcOk (X : Cx) (tg : Expr) (ifs : List Expr) (elt : Expr) (scope : Scope) (vs : List Nat) {α β S : Type} (r : α → D) (r' : β → D) (ρS : S → Rho) (step : α → S → Option (Option β × S)) : Prop where
  free : ∀ s, blank (ρS s) vs = ρS s
  len : ∀ s s', (ρS s').length = (ρS s).length
  turn : ∀ x s q, step x s = some q → ∀ s0 H0 C cl fp, GX (bk X scope s0 H0 C cl fp) tg (r x) (ρS s) vs fun ρ2 => ∀ s1 H1 C1 cl1 fp1, TsX (bk X scope s1 H1 C1 cl1 fp1) ifs ρ2 fun b ρ3 =>
    (b = true → ∀ s2 H2 C2 cl2 fp2, EX (bk X scope s2 H2 C2 cl2 fp2) elt ρ3 fun d ρ4 => ∃ y s', q = (some y, s') ∧ d = r' y ∧ blank ρ4 vs = ρS s') ∧ (b = false → ∃ s', q = (none, s') ∧ blank ρ3 vs = ρS s')
theorem lcL_len {α β S : Type} {step : α → S → Option (Option β × S)} : ∀ {xs : List α} {s : S} {ys : List β} {s' : S}, lcL step xs s = some (ys, s') → ys.length ≤ xs.length
  | [], s, ys, s', h => by simp [lcL] at h; simp [← h.1]
  | x :: xs, s, ys, s', h => by
    unfold lcL at h
    cases e : step x s with
    | none => rw [e] at h; cases h
    | some q =>
      obtain ⟨o, s1⟩ := q
      rw [e] at h
      simp only at h
      cases e2 : lcL step xs s1 with
      | none => rw [e2] at h; cases h
      | some q2 =>
        obtain ⟨zs, s2⟩ := q2
        rw [e2] at h
        simp only [Option.some.injEq, Prod.mk.injEq] at h
        rw [← h.1, List.length_append, List.length_cons]
        have := lcL_len e2
        cases o with
        | none => simp; omega
        | some _ => simp; omega
theorem lc_read {α β S : Type} {r : α → D} {r' : β → D} {ρS : S → Rho} {vs : List Nat} {W : Wd} {σ : L2.St} {H : Hp} {O : Addr → Prop} {k : Ct → Rho → Prop} {Q : VK} (M : Mt X.K W ρ σ H O)
    (h : IX X tg iter ρ fun items ρ1 => ∃ (step : α → S → Option (Option β × S)) (xs : List α) (s0 : S) (ys : List β) (s1 : S), items = xs.map r ∧ Weak ρ1 (ρS s0) ∧ lcL step xs s0 = some (ys, s1) ∧ LcOk X tg ifs elt scope vs r r' ρS step ∧ k (.lst (ys.map r')) (ρS s1))
    (q : ∀ p us ds ρ' H' O', Mt X.K W ρ' σ H' O' → O' p → (∀ (j : Nat) b es, ρ'[j]? = some (Sl.own b es) → σ[j]? ≠ some (some (V.ref p))) → W.H0 p = none → H' p = some us → CtOk X.K (cut O' H') us ds → Ext H O H' O' → k ds ρ' → Q (.ref p) H') :
    tLc (wIt X tg iter) (bG X scope tg) (bTs X scope ifs) (bE X scope elt) vs σ H Q := by
  refine h W σ H O M _ fun J items ρ1 H1 O1 M1 E1 it hlen hk => ?_
  obtain ⟨step, xs, s0, ys, s1, rfl, w0, hf, ⟨free, slen, turn⟩, hk⟩ := hk
  intro dd hd
  have sb1 : Sub H1 (upd H1 dd (.lst [])) := Sub.upd hd
  obtain ⟨M2, E2, n2, h0⟩ := M1.new_list hd sb1 upd_same
  rw [List.length_map] at hlen
  refine ⟨fun i m H' => m = xs.length - i ∧ i ≤ xs.length ∧ ∃ s zs us O' ws, Mt X.K W (ρS s) σ H' O' ∧ O' dd ∧ (∀ (j : Nat) b es, (ρS s)[j]? = some (Sl.own b es) → σ[j]? ≠ some (some (V.ref dd))) ∧ H' dd = some (.lst us) ∧ DpAll X.K (cut O' H') us (zs.map r') ∧ Ext H1 O1 H' O' ∧ zs.length ≤ i ∧ lcL step (xs.drop i) s = some (ws, s1) ∧ zs ++ ws = ys,
    ⟨xs.length, by simp, Nat.zero_le _, s0, [], [], _, ys, M2.weak w0, .inr rfl, fun j b es hj => ?_, upd_same, .nil, E2, Nat.le_refl _, hf, rfl⟩, ?_⟩
  · rcases w0.at j _ hj with z | ⟨z, _⟩
    · exact n2 j b es z
    · cases z
  rintro i m H3 ⟨rfl, hi, s, zs, us, O3, ws, M3, hO3, n3, hl3, r3, E3, hz, hf3, hys⟩
  obtain ⟨it1, it2⟩ := it H3 O3 E3 M3.ex i
  by_cases hlt : i < xs.length
  · have hx : xs[i]? = some xs[i] := List.getElem?_eq_getElem hlt
    obtain ⟨go, yl⟩ := it1 (r xs[i]) (by rw [List.getElem?_map, hx]; rfl)
    rw [List.drop_eq_getElem_cons hlt] at hf3
    unfold lcL at hf3
    cases hst : step xs[i] s with
    | none => rw [hst] at hf3; cases hf3
    | some qq =>
      obtain ⟨o, s'⟩ := qq
      rw [hst] at hf3
      simp only at hf3
      cases hrest : lcL step (xs.drop (i + 1)) s' with
      | none => rw [hrest] at hf3; cases hf3
      | some q2 =>
        obtain ⟨ws', sE⟩ := q2
        rw [hrest] at hf3
        simp only [Option.some.injEq, Prod.mk.injEq] at hf3
        obtain ⟨ew, es'⟩ := hf3
        subst es'
        have bl := free s
        have hio : ∀ q ∈ W.ioL, q.1 ∉ vs := fun q hq z => by
          obtain ⟨_, ds, h2⟩ := M3.ios q hq
          have hlj : q.1 < (ρS s).length := (List.getElem?_eq_some_iff.mp h2).1
          have := blank_in (ρ := ρS s) z hlj
          rw [bl, h2] at this
          cases this
        refine .inr ⟨go, fun H' => ∃ zs' us' O', zs' = zs ++ o.toList ∧ Mt X.K W (ρS s') σ H' O' ∧ O' dd ∧ (∀ (j : Nat) b es, (ρS s')[j]? = some (Sl.own b es) → σ[j]? ≠ some (some (V.ref dd))) ∧ H' dd = some (.lst us') ∧ DpAll X.K (cut O' H') us' (zs'.map r') ∧ Ext H1 O1 H' O', fun H' ⟨zs', us', O', e1, M', a1, a2, a3, a4, E'⟩ => ⟨xs.length - (i + 1), by omega, rfl, hlt, s', zs', us', O', ws', M', a1, a2, a3, a4, E', ?_, hrest, ?_⟩, fun x H4 y => ?_⟩
        · rw [e1, List.length_append]
          cases o with
          | none => simp; omega
          | some _ => simp; omega
        · rw [e1, List.append_assoc, ew, hys]
        · obtain ⟨sb4, rx⟩ := yl x H4 y
          have M4 := M3.grow sb4
          have hl4 : H4 dd = some (.lst us) := sb4 _ _ hl3
          have part4 : Mt X.K W (ρS s) (wipe σ vs) H4 O3 := M4.part ⟨rfl, fun _ _ => rfl, fun j hj hl => by
            have := blank_in (ρ := ρS s) hj hl
            rwa [bl] at this⟩ hio (wipe_length σ vs) (fun j hj => wipe_out hj)
          have n4 : ∀ (j : Nat) b es, (ρS s)[j]? = some (Sl.own b es) → (wipe σ vs)[j]? ≠ some (some (V.ref dd)) := fun j b es hj => by
            have nj : j ∉ vs := fun z => by
              have hlj : j < (ρS s).length := (List.getElem?_eq_some_iff.mp hj).1
              have := blank_in (ρ := ρS s) z hlj
              rw [bl, hj] at this
              cases this
            rw [wipe_out nj]
            exact n3 j b es hj
          have prot := part4.prot' h0 hl4 hO3 n4
          have back : ∀ {ρ5 : Rho} {σ5 : L2.St} {H5 : Hp} {O5 : Addr → Prop} {s5 : S}, Mt X.K ⟨upd W.H0 dd (.lst us), fun a => W.B a ∨ a = dd, W.ioL⟩ ρ5 σ5 H5 O5 → (∀ j, j ∉ vs → σ5[j]? = (wipe σ vs)[j]?) → blank ρ5 vs = ρS s5 →
              Mt X.K W (ρS s5) σ H5 O5 ∧ O5 dd ∧ H5 dd = some (.lst us) ∧ ∀ (j : Nat) b es, (ρS s5)[j]? = some (Sl.own b es) → σ[j]? ≠ some (some (V.ref dd)) := fun {ρ5 σ5 H5 O5 s5} M5 hs5 hb => by
            have M6 := Mt.unprot M4 h0 M5
            have hk : H5 dd = some (.lst us) := M5.keep dd _ upd_same (fun z => by
              obtain ⟨o, ho⟩ := M4.wf1 dd (M4.wf2 dd z)
              rw [h0] at ho; cases ho)
            have hlen5 : σ5.length = σ.length := by
              have e1 := M5.len
              have e2 : ρ5.length = (ρS s5).length := by rw [← hb, blank_len]
              have e3 := M4.len
              have e4 := slen s s5
              omega
            refine ⟨M6.part ⟨by rw [← hb, blank_len], fun j hj => by rw [← hb]; exact blank_out hj, fun j hj hl => by rw [← hb] at hl ⊢; rw [blank_len] at hl; exact blank_in hj hl⟩ hio hlen5.symm (fun j hj => by rw [hs5 j hj, wipe_out hj]), M5.sub dd (.inr rfl), hk, fun j b es hj hσ => ?_⟩
            have nj : j ∉ vs := fun z => by
              have hlj : j < (ρS s5).length := (List.getElem?_eq_some_iff.mp hj).1
              rw [← hb] at hj hlj
              rw [blank_len] at hlj
              rw [blank_in z hlj] at hj
              cases hj
            rw [← hb, blank_out nj] at hj
            obtain ⟨p, us', f1, _, _, _, f5, f6⟩ := M5.own j b es hj
            rw [hs5 j nj, wipe_out nj, hσ] at f1
            cases f1
            cases b with
            | false =>
              have z : upd W.H0 dd (.lst us) dd = none := f5 rfl
              rw [upd_same] at z
              cases z
            | true =>
              obtain ⟨o, ho⟩ := M4.wf1 dd (M4.wf2 dd (f6 rfl))
              rw [h0] at ho; cases ho
          have E4 : Ext H1 O1 H4 O3 := E3.trans (Ext.grow sb4)
          intro s0' H0' C cl fp
          refine turn xs[i] s (o, s') hst s0' H0' C cl fp _ _ H4 O3 x prot rx _ fun ρ5 σ5 H5 O5 M5 E5 hs5 h5 => ⟨?_, fun s1' H1' C1 cl1 fp1 => ?_⟩
          · exact wipe_eq (hs5.1.trans (wipe_length σ vs)) fun j hj => by rw [hs5.2 j hj, wipe_out hj]
          · refine h5 s1' H1' C1 cl1 fp1 _ σ5 H5 O5 M5 _ fun b ρ6 H6 O6 M6 E6 ⟨h6, h7⟩ => ?_
            cases b with
            | true =>
              refine iteT fun s2' H2' C2 cl2 fp2 => h6 rfl s2' H2' C2 cl2 fp2 _ σ5 H6 O6 M6 _ fun v d ρ7 H7 O7 M7 E7 r7 ⟨y, s7, e7, ed, hb7⟩ => ?_
              cases e7
              subst ed
              obtain ⟨M8, hO8, hl8, n8⟩ := back M7 hs5.2 hb7
              obtain ⟨M9, E9⟩ := M8.other (u := .lst (us ++ [v])) h0 hO8 n8
              have r9 := dpa_mono ((((Ext.grow sb4).trans E5).trans E6).trans E7).sub _ _ r3
              refine ⟨us, hl8, ?_, zs ++ [y], us ++ [v], O7, rfl, M9, hO8, n8, upd_same, ?_, (((E4.trans E5).trans E6).trans E7).trans E9⟩
              · have := dpa_len r3
                rw [List.length_map] at this
                omega
              · rw [List.map_append]
                exact dpa_app (dpa_mono E9.sub _ _ r9) (.cons (dp_mono E9.sub _ _ r7) .nil)
            | false =>
              obtain ⟨s7, e7, hb7⟩ := h7 rfl
              cases e7
              refine iteF ?_
              obtain ⟨M8, hO8, hl8, n8⟩ := back M6 hs5.2 hb7
              exact ⟨zs, us, O6, by simp, M8, hO8, n8, hl8, dpa_mono (((Ext.grow sb4).trans E5).trans E6).sub _ _ r3, (E4.trans E5).trans E6⟩
  · have e : i = xs.length := by omega
    subst e
    have hn : (xs.map r)[xs.length]? = none := by simp
    refine .inl ⟨it2 hn, ?_⟩
    rw [List.drop_length] at hf3
    simp only [lcL, Option.some.injEq, Prod.mk.injEq] at hf3
    obtain ⟨ew, es'⟩ := hf3
    subst ew es'
    rw [List.append_nil] at hys
    subst hys
    exact q dd (.lst us) (.lst _) _ H3 O3 M3 hO3 n3 h0 hl3 r3 (E1.trans E3) hk
/-- a comprehension over one thing -/
theorem f_lc {α β S : Type} {r : α → D} {r' : β → D} {ρS : S → Rho} {k : Ct → Rho → Prop} (hc : X.calm = true) (hN : X.N.Nodup) (ok : BlkOk X.N X.env.scope scope own)
    (h : IX X tg iter ρ fun items ρ1 => ∃ (step : α → S → Option (Option β × S)) (xs : List α) (s0 : S) (ys : List β) (s1 : S), items = xs.map r ∧ Weak ρ1 (ρS s0) ∧ lcL step xs s0 = some (ys, s1) ∧ LcOk X tg ifs elt scope (own.map (·.2)) r r' ρS step ∧ k (.lst (ys.map r')) (ρS s1))
    (hs : ∀ x, foldedSetIterable iter X.env x = pure x := by intro _; rfl) : FX X (.ListComp elt [⟨tg, iter, ifs, 0⟩] scope pos) ρ k := fun W σ H O M Q q =>
  (pe_lc hc hN pi_w ok (fun _ _ _ _ _ => ⟨fun pins s σ H v u Q I r h => h _ _ _ _ _ pins s u I r⟩) (fun _ _ _ _ _ => ⟨fun pins s σ H Q I h => h _ _ _ _ _ pins s I⟩) (fun _ _ _ _ _ => ⟨fun pins s σ H Q I h => h _ _ _ _ _ pins s I⟩) hs).w (lc_read M h q)
/-- y = [..] on one line -/
theorem s_lc {α β S : Type} {r : α → D} {r' : β → D} {ρS : S → Rho} {N : Wish} {i : Nat} {y : Str} {py spos : Pos} (hc : X.calm = true) (hN : X.N.Nodup) (hy : X.N[i]? = some y) (hyl : X.env.scope.names.lookup y = some .local) (ok : BlkOk X.N X.env.scope scope own)
    (hsw : swapsWith (.ListComp elt [⟨tg, iter, ifs, 0⟩] scope pos) (some (.Name y py)) spos.line X.env = pure true)
    (h : IX X tg iter ρ fun items ρ1 => ∃ (step : α → S → Option (Option β × S)) (xs : List α) (s0 : S) (ys : List β) (s1 : S), items = xs.map r ∧ Weak ρ1 (ρS s0) ∧ lcL step xs s0 = some (ys, s1) ∧ LcOk X tg ifs elt scope (own.map (·.2)) r r' ρS step ∧
      isIo (ρS s1)[i]? = false ∧ N.nx ((ρS s1).set i (.own false (.lst (ys.map r')))))
    (hs : ∀ x, foldedSetIterable iter X.env x = pure x := by intro _; rfl) : SX X (.Assign [.Name y py] (.ListComp elt [⟨tg, iter, ifs, 0⟩] scope pos) spos) ρ N := fun W σ H O M Dn q =>
  (ps_setLc hc hN hy hyl hsw pi_w ok (fun _ _ _ _ _ => ⟨fun pins s σ H v u Q I r h => h _ _ _ _ _ pins s u I r⟩) (fun _ _ _ _ _ => ⟨fun pins s σ H Q I h => h _ _ _ _ _ pins s I⟩) (fun _ _ _ _ _ => ⟨fun pins s σ H Q I h => h _ _ _ _ _ pins s I⟩) hs).w
    (lc_read (k := fun ds ρ1 => isIo ρ1[i]? = false ∧ N.nx (ρ1.set i (.own false ds))) M h fun p us ds ρ' H' O' M' hp hn h0 hl r hx ⟨h1, h2⟩ => q.nx _ _ H' O' (M'.adopt h1 hp hn h0 hl r) hx h2)
/-- .. as a value -/
theorem s_lcV {α β S : Type} {r : α → D} {r' : β → D} {ρS : S → Rho} {N : Wish} {i : Nat} {y : Str} {py spos : Pos} (hc : X.calm = true) (hN : X.N.Nodup) (hy : X.N[i]? = some y) (hyl : X.env.scope.names.lookup y = some .local) (ok : BlkOk X.N X.env.scope scope own)
    (hsw : swapsWith (.ListComp elt [⟨tg, iter, ifs, 0⟩] scope pos) (some (.Name y py)) spos.line X.env = pure true)
    (h : IX X tg iter ρ fun items ρ1 => ∃ (step : α → S → Option (Option β × S)) (xs : List α) (s0 : S) (ys : List β) (s1 : S), items = xs.map r ∧ Weak ρ1 (ρS s0) ∧ lcL step xs s0 = some (ys, s1) ∧ LcOk X tg ifs elt scope (own.map (·.2)) r r' ρS step ∧
      isIo (ρS s1)[i]? = false ∧ i < (ρS s1).length ∧ N.nx ((ρS s1).set i (.val (.list (ys.map r')))))
    (hs : ∀ x, foldedSetIterable iter X.env x = pure x := by intro _; rfl) : SX X (.Assign [.Name y py] (.ListComp elt [⟨tg, iter, ifs, 0⟩] scope pos) spos) ρ N := fun W σ H O M Dn q =>
  (ps_setLc hc hN hy hyl hsw pi_w ok (fun _ _ _ _ _ => ⟨fun pins s σ H v u Q I r h => h _ _ _ _ _ pins s u I r⟩) (fun _ _ _ _ _ => ⟨fun pins s σ H Q I h => h _ _ _ _ _ pins s I⟩) (fun _ _ _ _ _ => ⟨fun pins s σ H Q I h => h _ _ _ _ _ pins s I⟩) hs).w
    (lc_read (k := fun ds ρ1 => isIo ρ1[i]? = false ∧ i < ρ1.length ∧ ∃ zs, ds = .lst zs ∧ N.nx (ρ1.set i (.val (.list zs)))) M (i_mono h fun _ _ ⟨step, xs, s0, ys, s1, a, b, c, d, e, f, g⟩ => ⟨step, xs, s0, ys, s1, a, b, c, d, e, f, _, rfl, g⟩) fun p us c ρ' H' O' M' hp hn h0 hl r hx ⟨h1, h2, ds, hc, h3⟩ => by
      subst hc
      have M2 := M'.adopt (i := i) h1 hp hn h0 hl r
      have hi : i < ρ'.length := h2
      obtain ⟨M3, E3, _⟩ := M2.freeze (i := i) (ds := ds) (p := p) (List.getElem?_set_self hi) (List.getElem?_set_self (by rw [M'.len]; exact hi))
      rw [List.set_set] at M3
      exact q.nx _ _ H' _ M3 (hx.trans E3) h3)
end
end Lk

set_option Elab.async false
set_option linter.all false
set_option maxRecDepth 100000
namespace Lk
open PySem PySem.Spec PyProof.Rows L2

section
variable {X : Cx} {ρ : Rho} {pos : Pos} {a b c e o : Expr} {es : List Expr} {N : Wish}
/-! ### methods of texts -/
def wM (X : Cx) (id : String) : V → List V → Hp → VK → Prop := fun x vs H Q => ∀ pins s σ v us, Inv X pins σ H s → RelV x v → Vals vs us → wpAny (model X.prog X.w) X.A (call (.builtin id) (v :: us)) (EP X pins σ Q) X.xe s
theorem mt_w {id : String} : MtR X id (wM X id) := fun pins s σ H x vs v us Q I r1 r2 h => h pins s σ v us I r1 r2
theorem MtRw {id : String} {r : V → List V → Hp → VK → Prop} (h : MtR X id r) {x : V} {vs : List V} {H : Hp} {Q : VK} (q : r x vs H Q) : wM X id x vs H Q := fun pins s σ v us I r1 r2 => h pins s σ H x vs v us Q I r1 r2 q
def MtD (X : Cx) (id : String) (dx : D) (ds : List D) (dz : D) : Prop := ∀ (H : Hp) (O : Addr → Prop) (x : V) (vs : List V) (Q : VK), (∀ a, O a → ∃ o, H a = some o) → Dp X.K (cut O H) x dx → DpAll X.K (cut O H) vs ds → (∀ z H', Sub H H' → Dp X.K (cut O H') z dz → Q z H') → wM X id x vs H Q
def MtF (X : Cx) (id : String) (dx : D) (ds zs : List D) : Prop := ∀ (H : Hp) (O : Addr → Prop) (x : V) (vs : List V) (Q : VK), (∀ a, O a → ∃ o, H a = some o) → Dp X.K (cut O H) x dx → DpAll X.K (cut O H) vs ds → (∀ p H' us, H p = none → Sub H H' → H' p = some (.lst us) → DpAll X.K (cut O H) us zs → Q (.ref p) H') → wM X id x vs H Q
theorem x_m1 {k : D → Rho → Prop} {name : Str} {apos cpos : Pos} {id : String} (slot : Slot "str" name id) (hty : typeOf (.builtin id) = pure (.type "method_descriptor")) (h : EX X o ρ fun dx ρ1 => ∃ z, dx = .str z ∧ EX X e ρ1 fun dy ρ2 => ∃ dz, MtD X id dx [dy] dz ∧ k dz ρ2)
    (hs : starEach [e] X.env = [(false, eval e X.env)] := by rfl) (hbase : attributeBase o name X.env (eval o X.env) = eval o X.env := by rfl) (hline : (apos.endLine == cpos.line) = true := by rfl) :
    EX X (.Call (.Attribute o name apos) [e] [] cpos) ρ k := fun W σ H O M Q q =>
  (pe_m1 slot hty mt_w pe_w pe_w hs hbase hline).w (h W σ H O M _ fun x dx ρ1 H1 O1 M1 E1 r1 ⟨z, hz, h1⟩ => by
    subst hz
    cases r1
    exact ⟨⟨z, rfl⟩, h1 W σ H1 O1 M1 _ fun y dy ρ2 H2 O2 M2 E2 r2 ⟨dz, hm, hk⟩ => hm H2 O2 _ [y] Q M2.ex (.str z) (.cons r2 .nil) fun v H' hs hv => q v dz ρ2 H' O2 (M2.grow hs) ((E1.trans E2).trans (Ext.grow hs)) hv hk⟩)
theorem f_m1 {k : Ct → Rho → Prop} {name : Str} {apos cpos : Pos} {id : String} (slot : Slot "str" name id) (hty : typeOf (.builtin id) = pure (.type "method_descriptor")) (h : EX X o ρ fun dx ρ1 => ∃ z, dx = .str z ∧ EX X e ρ1 fun dy ρ2 => ∃ zs, MtF X id dx [dy] zs ∧ k (.lst zs) ρ2)
    (hs : starEach [e] X.env = [(false, eval e X.env)] := by rfl) (hbase : attributeBase o name X.env (eval o X.env) = eval o X.env := by rfl) (hline : (apos.endLine == cpos.line) = true := by rfl) :
    FX X (.Call (.Attribute o name apos) [e] [] cpos) ρ k := fun W σ H O M Q q =>
  (pe_m1 slot hty mt_w pe_w pe_w hs hbase hline).w (h W σ H O M _ fun x dx ρ1 H1 O1 M1 E1 r1 ⟨z, hz, h1⟩ => by
    subst hz
    cases r1
    exact ⟨⟨z, rfl⟩, h1 W σ H1 O1 M1 _ fun y dy ρ2 H2 O2 M2 E2 r2 ⟨zs, hm, hk⟩ => hm H2 O2 _ [y] Q M2.ex (.str z) (.cons r2 .nil) fun p H' us hp hs hl rz => by
      obtain ⟨M3, E3, n3, h0⟩ := M2.new_list hp hs hl
      exact q p (.lst us) (.lst zs) ρ2 H' _ M3 (.inr rfl) n3 h0 hl (dpa_mono E3.sub _ _ rz) ((E1.trans E2).trans E3) hk⟩)
theorem md_find {z y : Str} : MtD X "str.find" (.str z) [.str y] (.int (Txt.find z y)) := fun H O x vs Q _ r1 r2 q => by
  cases r1
  cases r2 with
  | cons r2 r3 =>
    cases r3; cases r2
    exact MtRw mt_find ⟨z, y, rfl, rfl, q _ H (Sub.refl H) (.int _)⟩
theorem dpa_strs {K : PySem.W.Frag} {H : Hp} : ∀ {ys : List Str} {vs : List V}, DpAll K H vs (ys.map PyData.str) → vs = ys.map V.str
  | [], _, h => by cases h; rfl
  | _ :: _, _, h => by
    cases h with
    | cons h1 h2 => cases h1; rw [List.map_cons, dpa_strs h2]
theorem dpa_ints {K : PySem.W.Frag} {H : Hp} : ∀ {ys : List Int} {vs : List V}, DpAll K H vs (ys.map PyData.int) → vs = ys.map V.int
  | [], _, h => by cases h; rfl
  | _ :: _, _, h => by
    cases h with
    | cons h1 h2 => cases h1; rw [List.map_cons, dpa_ints h2]
theorem dpa_bls {K : PySem.W.Frag} {H : Hp} : ∀ {ys : List Bool} {vs : List V}, DpAll K H vs (ys.map PyData.bool) → vs = ys.map V.bl
  | [], _, h => by cases h; rfl
  | _ :: _, _, h => by
    cases h with
    | cons h1 h2 => cases h1; rw [List.map_cons, dpa_bls h2]
theorem strs_dpa {K : PySem.W.Frag} {H : Hp} : ∀ (ys : List Str), DpAll K H (ys.map V.str) (ys.map PyData.str)
  | [] => .nil
  | y :: ys => .cons (.str y) (strs_dpa ys)
theorem md_joinL {z : Str} {ys : List Str} (hl : (ys.map (·.length)).sum + ys.length * z.length ≤ 16777216) : MtD X "str.join" (.str z) [.list (ys.map .str)] (.str (Txt.join z ys)) := fun H O x vs Q _ r1 r2 q => by
  cases r1
  cases r2 with
  | cons r2 r3 =>
    cases r3
    cases r2 with
    | lst hs ha =>
      have e := dpa_strs ha
      subst e
      exact MtRw mt_join ⟨z, _, ys, rfl, rfl, .inl (cut_sub.l hs), hl, q _ H (Sub.refl H) (.str _)⟩
theorem md_joinT {z : Str} {ys : List Str} (hl : (ys.map (·.length)).sum + ys.length * z.length ≤ 16777216) : MtD X "str.join" (.str z) [.tuple (ys.map .str)] (.str (Txt.join z ys)) := fun H O x vs Q _ r1 r2 q => by
  cases r1
  cases r2 with
  | cons r2 r3 =>
    cases r3
    cases r2 with
    | tup hs ha =>
      have e := dpa_strs ha
      subst e
      exact MtRw mt_join ⟨z, _, ys, rfl, rfl, .inr (cut_sub.t hs), hl, q _ H (Sub.refl H) (.str _)⟩
theorem mf_split {z y : Str} (h1 : (y.length == 0) = false) (h2 : z.length + 2 ≤ sizeLine) : MtF X "str.split" (.str z) [.str y] ((Txt.split z y).map .str) := fun H O x vs Q _ r1 r2 q => by
  cases r1
  cases r2 with
  | cons r2 r3 =>
    cases r3; cases r2
    exact MtRw mt_split ⟨z, y, rfl, rfl, h1, h2, fun p hp => q p _ _ hp (Sub.upd hp) upd_same (strs_dpa _)⟩

/-! ### what is built in, over lists that are values -/
theorem dp_list {K : PySem.W.Frag} {H : Hp} {vs : List V} {ds : List D} (h : DpAll K H vs [PyData.list ds]) : ∃ p us, vs = [.ref p] ∧ SqL K H p us ∧ DpAll K H us ds := by
  cases h with
  | cons h1 h2 =>
    cases h2
    cases h1 with
    | lst hs ha => exact ⟨_, _, rfl, hs, ha⟩
theorem cd_all {bs : List Bool} (hc : X.calm = true) : CallD X (.builtin "all") [.list (bs.map .bool)] (.bool (bs.all id)) := fun H O vs Q _ r q => by
  obtain ⟨p, us, rfl, hs, ha⟩ := dp_list r
  have e := dpa_bls ha
  subst e
  exact CallRw (cr_all hc) ⟨p, bs, rfl, cut_sub.l hs, q _ H (Sub.refl H) (.bl _)⟩
theorem cd_any {bs : List Bool} (hc : X.calm = true) : CallD X (.builtin "any") [.list (bs.map .bool)] (.bool (bs.any id)) := fun H O vs Q _ r q => by
  obtain ⟨p, us, rfl, hs, ha⟩ := dp_list r
  have e := dpa_bls ha
  subst e
  exact CallRw (cr_any hc) ⟨p, bs, rfl, cut_sub.l hs, q _ H (Sub.refl H) (.bl _)⟩
theorem cd_sum {ns : List Int} (hc : X.calm = true) : CallD X (.builtin "sum") [.list (ns.map .int)] (.int ns.sum) := fun H O vs Q _ r q => by
  obtain ⟨p, us, rfl, hs, ha⟩ := dp_list r
  have e := dpa_ints ha
  subst e
  exact CallRw (cr_sum hc) ⟨p, ns, rfl, cut_sub.l hs, q _ H (Sub.refl H) (.int _)⟩
def maxI : List Int → Option Int
  | [] => none
  | x :: xs => some (xs.foldl max x)
def minI : List Int → Option Int
  | [] => none
  | x :: xs => some (xs.foldl min x)
theorem foldl_max : ∀ (xs : List Int) (x : Int), (xs.foldl max x ∈ x :: xs) ∧ ∀ y ∈ x :: xs, y ≤ xs.foldl max x
  | [], x => ⟨by simp, by simp⟩
  | z :: xs, x => by
    obtain ⟨h1, h2⟩ := foldl_max xs (max x z)
    constructor
    · show xs.foldl max (max x z) ∈ _
      rcases List.mem_cons.mp h1 with e | h
      · rw [e]
        by_cases q : x ≤ z
        · rw [Int.max_eq_right q]; simp
        · rw [Int.max_eq_left (by omega)]; simp
      · exact List.mem_cons_of_mem _ (List.mem_cons_of_mem _ h)
    · intro y hy
      show y ≤ xs.foldl max (max x z)
      have h3 := h2 (max x z) (by simp)
      rcases List.mem_cons.mp hy with e | hy
      · omega
      · rcases List.mem_cons.mp hy with e | hy
        · omega
        · exact h2 y (List.mem_cons_of_mem _ hy)
theorem foldl_min : ∀ (xs : List Int) (x : Int), (xs.foldl min x ∈ x :: xs) ∧ ∀ y ∈ x :: xs, xs.foldl min x ≤ y
  | [], x => ⟨by simp, by simp⟩
  | z :: xs, x => by
    obtain ⟨h1, h2⟩ := foldl_min xs (min x z)
    constructor
    · show xs.foldl min (min x z) ∈ _
      rcases List.mem_cons.mp h1 with e | h
      · rw [e]
        by_cases q : x ≤ z
        · rw [Int.min_eq_left q]; simp
        · rw [Int.min_eq_right (by omega)]; simp
      · exact List.mem_cons_of_mem _ (List.mem_cons_of_mem _ h)
    · intro y hy
      show xs.foldl min (min x z) ≤ y
      have h3 := h2 (min x z) (by simp)
      rcases List.mem_cons.mp hy with e | hy
      · omega
      · rcases List.mem_cons.mp hy with e | hy
        · omega
        · exact h2 y (List.mem_cons_of_mem _ hy)
theorem cd_maxL {ns : List Int} {m : Int} (hc : X.calm = true) (h : maxI ns = some m) : CallD X (.builtin "max") [.list (ns.map .int)] (.int m) := fun H O vs Q _ r q => by
  obtain ⟨p, us, rfl, hs, ha⟩ := dp_list r
  have e := dpa_ints ha
  subst e
  cases ns with
  | nil => cases h
  | cons x xs =>
    have h : some (xs.foldl max x) = some m := h
    cases h
    obtain ⟨h1, h2⟩ := foldl_max xs x
    refine CallRw (cr_max hc) ⟨p, x :: xs, rfl, cut_sub.l hs, by simp, fun m' h3 h4 => ?_⟩
    have e : m' = xs.foldl max x := Int.le_antisymm (h2 m' h3) (h4 _ h1)
    rw [e]
    exact q _ H (Sub.refl H) (.int _)
theorem cd_minL {ns : List Int} {m : Int} (hc : X.calm = true) (h : minI ns = some m) : CallD X (.builtin "min") [.list (ns.map .int)] (.int m) := fun H O vs Q _ r q => by
  obtain ⟨p, us, rfl, hs, ha⟩ := dp_list r
  have e := dpa_ints ha
  subst e
  cases ns with
  | nil => cases h
  | cons x xs =>
    have h : some (xs.foldl min x) = some m := h
    cases h
    obtain ⟨h1, h2⟩ := foldl_min xs x
    refine CallRw (cr_min hc) ⟨p, x :: xs, rfl, cut_sub.l hs, by simp, fun m' h3 h4 => ?_⟩
    have e : m' = xs.foldl min x := Int.le_antisymm (h4 _ h1) (h2 m' h3)
    rw [e]
    exact q _ H (Sub.refl H) (.int _)
/-! isinstance -/
def tyName : D → String
  | .none => "NoneType" | .bool _ => "bool" | .int _ => "int" | .str _ => "str" | .list _ => "list" | .tuple _ => "tuple" | .dict _ => "dict"
theorem sq_tyT {H : Hp} {p : Addr} {us : List V} (h : SqT X.K H p us) : TyX X.K H (.ref p) (.type "tuple") := by
  rcases h with (h | ⟨o, h⟩) | ⟨o, its, n, h, hc, _⟩
  · exact .base (.tup h)
  · exact .fTuple h
  · exact .kTuple h hc
theorem sq_tyL {H : Hp} {p : Addr} {us : List V} (h : SqL X.K H p us) : TyX X.K H (.ref p) (.type "list") := by
  rcases h with (h | ⟨o, h⟩) | ⟨o, its, n, h, hc, _⟩
  · exact .base (.lst h)
  · exact .base (.frz h)
  · exact .kList h hc
theorem dp_ty {H : Hp} {v : V} {d : D} (h : Dp X.K H v d) : TyX X.K H v (.type (tyName d)) := by
  cases h with
  | non => exact .base .non
  | bl b => exact .base (.bl b)
  | int i => exact .base (.int i)
  | str x => exact .base (.str x)
  | lst hs _ => exact sq_tyL hs
  | tup hs _ => exact sq_tyT hs
/-- isinstance(e, T), T a built-in type -/
theorem x_isi {k : D → Rho → Prop} {p p2 : Pos} {T : Str} {U : String} {x : Expr} (hg : Gl X "isinstance") (hm : X.mg "isinstance" = none) (hgT : Gl X T) (hmT : X.mg T = none) (hvT : bootBuiltins T = some (.type U))
    (h : EX X x ρ fun d ρ1 => ∃ r, kitB (tyName d) U = some r ∧ k (.bool r) ρ1) (hnT : T ≠ "__name__" := by decide) (hdT : (T == ("__debug__" : Str)) = false := by decide)
    (he : starEach (x :: [Expr.Name T p2]) X.env = (false, eval x X.env) :: starEach [Expr.Name T p2] X.env := by rfl) (he2 : starEach (Expr.Name T p2 :: []) X.env = (false, eval (Expr.Name T p2) X.env) :: starEach [] X.env := by rfl)
    (hpl : (backTo pos (starEach [Expr.Name T p2] X.env)).any (·.1) = false := by rfl) : EX X (.Call (.Name "isinstance" p) [x, .Name T p2] [] pos) ρ k := fun W σ H O M Q q =>
  (pe_callB call_isi hg hm (by decide +kernel) (pa_cons pe_w (pa_cons (pe_bltn (v := .ty U) hgT hmT hvT rfl hnT hdT) pa_nil he2) he) (by decide) (by decide) he hpl).w (h W σ H O M _ fun v d ρ1 H1 O1 M1 E1 r ⟨rr, hr, hk⟩ =>
    ⟨v, .ty U, _, _, rr, rfl, .ty U, dp_ty (dp_mono cut_sub _ _ r), kit_ty hr, q _ _ ρ1 H1 O1 M1 E1 (.bl _) hk⟩)

/-! ### parts -/
def cutA {α : Type} (xs : List α) (lo hi : Option Int) : List α := (xs.drop (HT.sIx xs.length 0 lo)).take (HT.sIx xs.length xs.length hi - HT.sIx xs.length 0 lo)
theorem cutA_map {α β : Type} (f : α → β) (xs : List α) (lo hi : Option Int) : cutA (xs.map f) lo hi = (cutA xs lo hi).map f := by
  unfold cutA
  rw [List.length_map, List.map_take, List.map_drop]
theorem dpa_cut {K : PySem.W.Frag} {H : Hp} {ds : List D} {vs : List V} (h : DpAll K H vs ds) (lo hi : Option Int) : DpAll K H (cutV vs lo hi) (cutA ds lo hi) := by
  unfold cutV cutA
  rw [dpa_len h]
  exact dpa_take (dpa_drop h _) _
def OX (X : Cx) (e : Option Expr) (ρ : Rho) (k : Option Int → Rho → Prop) : Prop := match e with
  | none => k none ρ
  | some e => EX X e ρ fun d ρ1 => ∃ i, d = .int i ∧ k (some i) ρ1
def wO (X : Cx) (e : Option Expr) : TO := fun σ H Q => ∀ pins s, Inv X pins σ H s → wpAny (model X.prog X.w) X.A (evalPart e X.env) (fun u s' => ∃ o H', Inv X pins σ H' s' ∧ IsPart u o ∧ Q o H') X.xe s
theorem po_w {e : Option Expr} : PO X e (wO X e) := ⟨fun pins s σ H Q I h => h pins s I⟩
theorem ox_w {e : Option Expr} {k : Option Int → Rho → Prop} (h : OX X e ρ k) {W : Wd} {σ : L2.St} {H : Hp} {O : Addr → Prop} (M : Mt X.K W ρ σ H O) {Q : Option Int → Hp → Prop} (q : ∀ o ρ' H' O', Mt X.K W ρ' σ H' O' → Ext H O H' O' → k o ρ' → Q o H') : wO X e σ H Q := by
  cases e with
  | none => exact fun pins s I => po_none.run pins s σ H Q I (q none ρ H O M (Ext.refl _ _) h)
  | some e => exact fun pins s I => (po_some pe_w).run pins s σ H Q I (h W σ H O M _ fun v d ρ1 H1 O1 M1 E1 r ⟨i, hd, hk⟩ => by
      subst hd
      cases r
      exact ⟨i, rfl, q _ ρ1 H1 O1 M1 E1 hk⟩)
/-- t[lo:hi] of a tuple -/
theorem x_slT {k : D → Rho → Prop} {lo hi : Option Expr} {p2 : Pos} (h : EX X e ρ fun d ρ1 => ∃ ds, d = .tuple ds ∧ OX X lo ρ1 fun l ρ2 => OX X hi ρ2 fun u ρ3 => k (.tuple (cutA ds l u)) ρ3) : EX X (.Subscript e (.Slice lo hi none p2) pos) ρ k := fun W σ H O M Q q =>
  (pe_slice sl_tupA pe_w po_w po_w).w (h W σ H O M _ fun v d ρ1 H1 O1 M1 E1 r ⟨ds, hd, h1⟩ => by
    subst hd
    refine ox_w h1 M1 fun l ρ2 H2 O2 M2 E2 h2 => ox_w h2 M2 fun u ρ3 H3 O3 M3 E3 hk => ?_
    have r3 := dp_mono (E2.trans E3).sub _ _ r
    cases r3 with
    | @tup p us ds hs ha =>
      refine ⟨p, us, rfl, cut_sub.t hs, fun z => q _ _ ρ3 H3 O3 M3 ((E1.trans E2).trans E3) ?_ hk, fun _ p2 hp => ?_⟩
      · have e1 : cutA ds l u = ds := by
          unfold cutA
          rw [← dpa_len ha, z.1, z.2, List.drop_zero, Nat.sub_zero, dpa_len ha, List.take_length]
        rw [e1]
        exact .tup hs ha
      · have sb : Sub H3 (upd H3 p2 (.tup (cutV us l u))) := Sub.upd hp
        exact q _ _ ρ3 _ O3 (M3.grow sb) (((E1.trans E2).trans E3).trans (Ext.grow sb)) (.tup (SqT.of (cut_some.mpr ⟨M3.fresh hp, upd_same⟩)) (dpa_mono (cut_grow sb) _ _ (dpa_cut ha l u))) hk)
/-- xs[lo:hi] of a list -/
theorem f_slL {k : Ct → Rho → Prop} {lo hi : Option Expr} {p2 : Pos} (h : EX X e ρ fun d ρ1 => ∃ ds, d = .list ds ∧ OX X lo ρ1 fun l ρ2 => OX X hi ρ2 fun u ρ3 => k (.lst (cutA ds l u)) ρ3) : FX X (.Subscript e (.Slice lo hi none p2) pos) ρ k := fun W σ H O M Q q =>
  (pe_slice sl_list pe_w po_w po_w).w (h W σ H O M _ fun v d ρ1 H1 O1 M1 E1 r ⟨ds, hd, h1⟩ => by
    subst hd
    refine ox_w h1 M1 fun l ρ2 H2 O2 M2 E2 h2 => ox_w h2 M2 fun u ρ3 H3 O3 M3 E3 hk => ?_
    have r3 := dp_mono (E2.trans E3).sub _ _ r
    cases r3 with
    | @lst p us ds hs ha =>
      refine ⟨p, us, rfl, cut_sub.l hs, fun p2 hp => ?_⟩
      have sb : Sub H3 (upd H3 p2 (.lst (cutV us l u))) := Sub.upd hp
      obtain ⟨M4, E4, n4, h0⟩ := M3.new_list hp sb upd_same
      exact q p2 (.lst _) (.lst _) ρ3 _ _ M4 (.inr rfl) n4 h0 upd_same (dpa_mono E4.sub _ _ (dpa_cut ha l u)) (((E1.trans E2).trans E3).trans E4) hk)
/-! ### sums of tuples, of texts -/
theorem od_catT {xs ys : List D} (hl : xs.length + ys.length ≤ 16777216) : OpD X (binaryOp .Add) (.tuple xs) (.tuple ys) (.tuple (xs ++ ys)) := fun H O x y Q ex rx ry q => by
  cases rx with
  | @tup a us _ hs ha =>
    cases ry with
    | @tup b ws _ hs2 ha2 =>
      refine OpRw op_catA ⟨a, b, us, ws, rfl, rfl, cut_sub.t hs, cut_sub.t hs2, by rw [dpa_len ha, dpa_len ha2, sizeLine_eq]; exact hl, fun e => ?_, fun _ e => ?_, fun _ _ p hp => ?_⟩
      · subst e
        cases ha
        exact q _ H (Sub.refl H) (.tup hs2 ha2)
      · subst e
        cases ha2
        rw [List.append_nil] at q
        exact q _ H (Sub.refl H) (.tup hs ha)
      · refine q _ _ (Sub.upd hp) (.tup (SqT.of (cut_some.mpr ⟨fun z => ?_, upd_same⟩)) (dpa_mono (cut_grow (Sub.upd hp)) _ _ (dpa_app ha ha2)))
        obtain ⟨o, e⟩ := ex p z
        rw [hp] at e; cases e
theorem od_catS {x y : Str} (hl : x.length + y.length ≤ 16777216) : OpD X (binaryOp .Add) (.str x) (.str y) (.str (x ++ y)) := fun H O v u Q ex rx ry q => by
  cases rx; cases ry
  exact OpRw op_add_str ⟨x, y, rfl, rfl, by rw [sizeLine_eq]; exact hl, q _ H (Sub.refl H) (.str _)⟩

theorem od_pow {x y : Int} (h : CPow x y) : OpD X (binaryOp .Pow) (.int x) (.int y) (.int (x ^ y.toNat)) := od_I op_pow h fun _ => .int _
theorem od_shl {x y : Int} (h : CPow x y) : OpD X (binaryOp .LShift) (.int x) (.int y) (.int (x * 2 ^ y.toNat)) := od_I op_shl h fun _ => .int _

/-! ### lists of one's own change -/
/-- x.append(e) -/
theorem s_app {i : Nat} {x : Str} {py apos cpos : Pos} (hN : X.N[i]? = some x) (hv : Vis X.env.scope x) (h : EX X e ρ fun d ρ1 => ∃ b ds, ρ1[i]? = some (Sl.own b (.lst ds)) ∧ ds.length < 16777216 ∧ N.nx (ρ1.set i (.own b (.lst (ds ++ [d])))))
    (hw : ∃ b ds, ρ[i]? = some (Sl.own b (.lst ds)) := by exact ⟨_, _, rfl⟩) (hd : (x == ("__debug__" : Str)) = false := by decide) (hcd : (x == ("__classdict__" : Str)) = false := by decide)
    (hsw : swapsWith (.Call (.Attribute (.Name x py) "append" apos) [e] [] cpos) none pos.line X.env = pure false := by rfl)
    (hbase : attributeBase (.Name x py) "append" X.env (eval (.Name x py) X.env) = eval (.Name x py) X.env := by rfl)
    (hfew : ((backTo cpos (starEach (e :: []) X.env)).all (fun x => !x.1) && (backToKw cpos (keywordEach [] X.env)).all (fun x => x.1.isSome)
      && decide ((e :: []).length + ([] : List Keyword).length + (if ([] : List Keyword).isEmpty then 0 else 1) < 30)) = true := by rfl)
    (hline : (apos.endLine == cpos.line) = true := by rfl) (hs : starEach (e :: []) X.env = (false, eval e X.env) :: starEach [] X.env := by rfl) (hplain : (backTo cpos (starEach [] X.env)).any (·.1) = false := by rfl) :
    SX X (.Expr (.Call (.Attribute (.Name x py) "append" apos) [e] [] cpos) pos) ρ N := fun W σ H O M Dn q => by
  obtain ⟨b0, ds0, hw⟩ := hw
  obtain ⟨p0, ho, ep0, _, e3, e4, _⟩ := M.own i b0 _ hw
  obtain ⟨us0, rfl, _⟩ := ct_lst e4
  refine (ps_expr (pe_bm F.plainAttrs_list F.slot_list_append F.type_list_append mt_append (pe_var hN hv hd hcd) (pa_cons pe_w pa_nil hs) hbase hfew hline hs hplain) hsw).w ⟨_, ep0, .inl ⟨rfl, us0, SqL.of e3⟩, ?_⟩
  refine h W σ H O M _ fun v d ρ1 H1 O1 M1 E1 r ⟨b, ds, hi, hl, hk⟩ => ?_
  obtain ⟨p1, ho, f1, f2, f3, f4, _⟩ := M1.own i b _ hi
  rw [ep0] at f1
  cases f1
  obtain ⟨us, rfl, f4⟩ := ct_lst f4
  refine ⟨p0, us, v, rfl, rfl, f3, by rw [dpa_len f4, sizeLine_eq]; exact hl, ?_⟩
  have kp : ∀ a o, H1 a = some o → a ≠ p0 → upd H1 p0 (.lst (us ++ [v])) a = some o := fun a o h n => by rw [upd_ne n]; exact h
  have sb : Sub (cut O1 H1) (cut O1 (upd H1 p0 (.lst (us ++ [v])))) := fun a o h => by
    obtain ⟨n, h⟩ := cut_some.mp h
    exact cut_some.mpr ⟨n, kp a o h fun z => n (by rw [z]; exact f2)⟩
  obtain ⟨M2, E2⟩ := M1.mut (es := .lst (ds ++ [d])) hi ep0 kp upd_same (dpa_app (dpa_mono sb _ _ f4) (.cons (dp_mono sb _ _ r) .nil))
  exact q.nx _ σ _ O1 M2 (E1.trans E2) hk
theorem ixN_lt {n : Nat} {i : Int} {j : Nat} (h : ixN n i = some j) : j < n := (ixN_seq h).2.1
/-- x[a] = e -/
theorem s_item {i : Nat} {x : Str} {py tpos : Pos} (hN : X.N[i]? = some x) (hv : Vis X.env.scope x) (h : EX X e ρ fun d ρ1 => (∃ b ds, ρ1[i]? = some (Sl.own b (.lst ds))) ∧ EX X a ρ1 fun dy ρ2 => ∃ b ds k j, dy = .int k ∧ ρ2[i]? = some (Sl.own b (.lst ds)) ∧ ixN ds.length k = some j ∧ N.nx (ρ2.set i (.own b (.lst (ds.set j d)))))
    (hd : (x == ("__debug__" : Str)) = false := by decide) (hcd : (x == ("__classdict__" : Str)) = false := by decide)
    (ha : ∀ v, assign (.Subscript (.Name x py) a tpos) X.env v = (do
      let ov ← holding [v] (eval (.Name x py) X.env)
      let iv ← holding [v, ov] (eval a X.env)
      standAt tpos
      holding [v, ov, iv] (setItem ov iv v)
      release [v, ov, iv] []) := by intro _; rfl)
    (hs : swapsWithSole [.Subscript (.Name x py) a tpos] e pos.line X.env = pure false := by rfl) (hw : swappedStores [.Subscript (.Name x py) a tpos] e X.env = pure none := by rfl)
    (h1 : (assignEach [.Subscript (.Name x py) a tpos] X.env).map (·.2) = [assign (.Subscript (.Name x py) a tpos) X.env] := by rfl) : SX X (.Assign [.Subscript (.Name x py) a tpos] e pos) ρ N := fun W σ H O M Dn q => by
  refine (ps_asg pe_w (pg_sub (pe_var hN hv hd hcd) pe_w set_list ha) hs hw h1).w (h W σ H O M _ fun v d ρ1 H1 O1 M1 E1 r ⟨⟨b1, ds1, hw1⟩, h2⟩ => ?_)
  obtain ⟨p0, _, ep0, _⟩ := M1.own i b1 _ hw1
  refine ⟨_, ep0, h2 W σ H1 O1 M1 _ fun y dy ρ2 H2 O2 M2 E2 r2 ⟨b, ds, k, j, hy, hi, hx, hk⟩ => ?_⟩
  subst hy
  cases r2
  obtain ⟨p1, ho, f1, f2, f3, f4, _⟩ := M2.own i b _ hi
  rw [ep0] at f1
  cases f1
  obtain ⟨us, rfl, f4⟩ := ct_lst f4
  refine ⟨p0, us, k, j, rfl, rfl, f3, by rw [dpa_len f4]; exact hx, ?_⟩
  have kp : ∀ a o, H2 a = some o → a ≠ p0 → upd H2 p0 (.lst (us.set j v)) a = some o := fun a o h n => by rw [upd_ne n]; exact h
  have sb : Sub (cut O2 H2) (cut O2 (upd H2 p0 (.lst (us.set j v)))) := fun a o h => by
    obtain ⟨n, h⟩ := cut_some.mp h
    exact cut_some.mpr ⟨n, kp a o h fun z => n (by rw [z]; exact f2)⟩
  obtain ⟨M3, E3⟩ := M2.mut (es := .lst (ds.set j d)) hi ep0 kp upd_same (dpa_set (dp_mono (E2.sub.trans sb) _ _ r) (dpa_mono sb _ _ f4) j)
  exact q.nx _ σ _ O2 M3 ((E1.trans E2).trans E3) hk
/-- x += e, ints -/
theorem s_augI {i : Nat} {x : Str} {op : Operator} {g : Int → Int → Int} {n : Int} {pos' : Pos} (hN : X.N.Nodup) (hi : X.N[i]? = some x) (hx : Loc X.env.scope x) (ho : PIp X op (ipI g)) (hs : ρ[i]? = some (.val (.int n)))
    (h : EX X e ρ fun d ρ1 => ∃ m, d = .int m ∧ isIo ρ1[i]? = false ∧ N.nx (ρ1.set i (.val (.int (g n m)))))
    (hf : X.fn x = true ∨ X.env.scope.names.lookup x = some .local := by first | exact .inl rfl | exact .inr rfl | assumption) : SX X (.AugAssign (.Name x pos') op e pos) ρ N := fun W σ H O M Dn q => by
  obtain ⟨v, ev, r⟩ := M.val i _ hs
  cases r
  exact (ps_aug hN hi hx pe_w ho hf).w ⟨_, ev, h W σ H O M _ fun y d ρ1 H1 O1 M1 E1 r1 ⟨m, hd, h1, hk⟩ => by
    subst hd
    cases r1
    exact ⟨n, m, rfl, rfl, q.nx _ _ H1 O1 (M1.set h1 (.int _)) E1 hk⟩⟩
theorem pget_list : PGet X (fun o i H Q => ∃ p xs k v, o = .ref p ∧ i = .int k ∧ SqL X.K H p xs ∧ 0 ≤ k ∧ xs[k.toNat]? = some v ∧ Q v H) := by
  intro pins s σ H o i ov iv Q I ro ri h
  obtain ⟨p, xs, k, v, rfl, rfl, hq, h0, he, q⟩ := h
  cases ro
  obtain ⟨t, rfl⟩ := ri
  obtain ⟨its, r, pl, hz⟩ := I.list hq
  obtain ⟨w, ew, rw'⟩ := r.get he
  have hn := line63
  have hl := (List.getElem?_eq_some_iff.mp he).1
  exact wpAny_getItem_list pl.isList h0 (by omega) (by simpa using ew) ⟨v, H, I, rw', q⟩
/-- x[a] += e, ints -/
theorem s_augItem {i : Nat} {x : Str} {op : Operator} {g : Int → Int → Int} {py tpos : Pos} (hN : X.N[i]? = some x) (hv : Vis X.env.scope x) (ho : PIp X op (ipI g))
    (h : EX X a ρ fun dy ρ1 => ∃ b ds k n, dy = .int k ∧ 0 ≤ k ∧ ρ1[i]? = some (Sl.own b (.lst ds)) ∧ ds[k.toNat]? = some (.int n) ∧ EX X e ρ1 fun d ρ2 => ∃ b ds m, d = .int m ∧ ρ2[i]? = some (Sl.own b (.lst ds)) ∧ k.toNat < ds.length ∧ N.nx (ρ2.set i (.own b (.lst (ds.set k.toNat (.int (g n m)))))))
    (hw : ∃ b ds, ρ[i]? = some (Sl.own b (.lst ds)) := by exact ⟨_, _, rfl⟩) (hd : (x == ("__debug__" : Str)) = false := by decide) (hcd : (x == ("__classdict__" : Str)) = false := by decide)
    (ha : ∀ ov iv new, augStore a ov iv new = (do holding [new, ov, iv] (setItem ov iv new); release [new, ov, iv] []; pure .next) := by intros; rfl) : SX X (.AugAssign (.Subscript (.Name x py) a tpos) op e pos) ρ N := fun W σ H O M Dn q => by
  obtain ⟨b0, ds0, hw⟩ := hw
  obtain ⟨p0, _, ep0, _⟩ := M.own i b0 _ hw
  refine (ps_augS (pe_var hN hv hd hcd) pe_w pget_list pe_w ho set_list ha).w ⟨_, ep0, h W σ H O M _ fun y dy ρ1 H1 O1 M1 E1 r1 ⟨b, ds, k, n, hy, h0, hi, hg, h2⟩ => ?_⟩
  subst hy
  cases r1
  obtain ⟨p1, ho, f1, f2, f3, f4, _⟩ := M1.own i b _ hi
  rw [ep0] at f1
  cases f1
  obtain ⟨us, rfl, f4⟩ := ct_lst f4
  obtain ⟨v, ev, rv⟩ := dpa_get' f4 hg
  cases rv
  refine ⟨p0, us, k, _, rfl, rfl, SqL.of f3, h0, ev, h2 W σ H1 O1 M1 _ fun z d ρ2 H2 O2 M2 E2 r2 ⟨b', ds', m, hd', hi', hlt, hk⟩ => ?_⟩
  subst hd'
  cases r2
  obtain ⟨p1, ho, f1, f2, f3, f4, _⟩ := M2.own i b' _ hi'
  rw [ep0] at f1
  cases f1
  obtain ⟨us', rfl, f4⟩ := ct_lst f4
  refine ⟨n, m, rfl, rfl, p0, us', k, k.toNat, rfl, rfl, f3, ?_, ?_⟩
  · unfold ixN
    rw [if_pos h0, dpa_len f4, if_pos (by omega)]
  have kp : ∀ a o, H2 a = some o → a ≠ p0 → upd H2 p0 (.lst (us'.set k.toNat (.int (g n m)))) a = some o := fun a o h n => by rw [upd_ne n]; exact h
  have sb : Sub (cut O2 H2) (cut O2 (upd H2 p0 (.lst (us'.set k.toNat (.int (g n m)))))) := fun a o h => by
    obtain ⟨n, h⟩ := cut_some.mp h
    exact cut_some.mpr ⟨n, kp a o h fun z => n (by rw [z]; exact f2)⟩
  obtain ⟨M3, E3⟩ := M2.mut (es := .lst (ds'.set k.toNat (.int (g n m)))) hi' ep0 kp upd_same (dpa_set (.int _) (dpa_mono sb _ _ f4) _)
  exact q.nx _ σ _ O2 M3 ((E1.trans E2).trans E3) hk
end
theorem b_int : bootBuiltins "int" = some (.type "int") := by decide +kernel
theorem b_bool : bootBuiltins "bool" = some (.type "bool") := by decide +kernel
theorem b_str : bootBuiltins "str" = some (.type "str") := by decide +kernel
theorem b_tuple : bootBuiltins "tuple" = some (.type "tuple") := by decide +kernel
theorem b_list : bootBuiltins "list" = some (.type "list") := by decide +kernel
theorem b_set : bootBuiltins "set" = some (.type "set") := by decide +kernel
theorem b_dict : bootBuiltins "dict" = some (.type "dict") := by decide +kernel
theorem b_len : bootBuiltins "len" = some (.builtin "len") := by decide +kernel
theorem b_abs : bootBuiltins "abs" = some (.builtin "abs") := by decide +kernel
theorem b_max : bootBuiltins "max" = some (.builtin "max") := by decide +kernel
theorem b_min : bootBuiltins "min" = some (.builtin "min") := by decide +kernel
theorem b_sum : bootBuiltins "sum" = some (.builtin "sum") := by decide +kernel
theorem b_any : bootBuiltins "any" = some (.builtin "any") := by decide +kernel
theorem b_all : bootBuiltins "all" = some (.builtin "all") := by decide +kernel
theorem b_isinstance : bootBuiltins "isinstance" = some (.builtin "isinstance") := by decide +kernel
theorem b_divmod : bootBuiltins "divmod" = some (.builtin "divmod") := by decide +kernel
theorem b_sorted : bootBuiltins "sorted" = some (.builtin "sorted") := by decide +kernel
end Lk

set_option Elab.async false
set_option linter.all false
set_option maxRecDepth 100000
namespace Lk
open PySem PySem.Spec PyProof.Rows L2

/-! ### typed data as data -/
@[reducible] def eT {α : Type} (r : α → D) : List α → D := fun xs => .tuple (xs.map r)
@[reducible] def eL {α : Type} (r : α → D) : List α → D := fun xs => .list (xs.map r)
@[reducible] def eP {α β : Type} (r : α → D) (s : β → D) : α × β → D := fun p => .tuple [r p.1, s p.2]
@[reducible] def eP3 {α β γ : Type} (r : α → D) (s : β → D) (t : γ → D) : α × β × γ → D := fun p => .tuple [r p.1, s p.2.1, t p.2.2]
@[reducible] def eP4 {α β γ δ : Type} (r : α → D) (s : β → D) (t : γ → D) (u : δ → D) : α × β × γ × δ → D := fun p => .tuple [r p.1, s p.2.1, t p.2.2.1, u p.2.2.2]
@[reducible] def eU : Unit → D := fun _ => .none
def eO {α : Type} (r : α → D) : Option α → D
  | none => .none
  | some a => r a
/-- it may be compared: == tells equality -/
structure Enc {α : Type} [DecidableEq α] (r : α → D) (n : Nat) : Prop where
  eq : ∀ a b, PyData.eqv (r a) (r b) = decide (a = b)
  lay : ∀ a, (r a).canLay0 = true
  dep : ∀ a, (r a).depth ≤ n
theorem Enc.shaped {α : Type} [DecidableEq α] {r : α → D} {n : Nat} (h : Enc r n) (hn : n ≤ 64) (a : α) : SeqAt.shaped (r a) = true := by
  unfold SeqAt.shaped
  rw [h.lay a, Bool.true_and]
  exact decide_eq_true (Nat.le_trans (h.dep a) hn)
theorem enc_I : Enc PyData.int 0 := ⟨fun a b => by simp [PyData.eqv, Bool.beq_eq_decide_eq], fun a => by simp [PyData.canLay0], fun a => by simp [PyData.depth]⟩
theorem enc_B : Enc PyData.bool 0 := ⟨fun a b => by simp [PyData.eqv, Bool.beq_eq_decide_eq], fun a => by simp [PyData.canLay0], fun a => by simp [PyData.depth]⟩
theorem enc_all {α : Type} [DecidableEq α] {r : α → D} {n : Nat} (h : Enc r n) : ∀ xs ys : List α, PyData.eqvAll (xs.map r) (ys.map r) = decide (xs = ys)
  | [], [] => by simp [PyData.eqvAll]
  | [], _ :: _ => by simp [PyData.eqvAll]
  | _ :: _, [] => by simp [PyData.eqvAll]
  | x :: xs, y :: ys => by
    rw [List.map_cons, List.map_cons, PyData.eqvAll, h.eq, enc_all h xs ys]
    by_cases h1 : x = y <;> by_cases h2 : xs = ys <;> simp [h1, h2]
theorem lay_all {α : Type} [DecidableEq α] {r : α → D} {n : Nat} (h : Enc r n) : ∀ xs : List α, PyData.canLayAll0 (xs.map r) = true
  | [] => by simp [PyData.canLayAll0]
  | x :: xs => by rw [List.map_cons, PyData.canLayAll0, h.lay, lay_all h xs]; rfl
theorem dep_all {α : Type} [DecidableEq α] {r : α → D} {n : Nat} (h : Enc r n) : ∀ xs : List α, PyData.depthAll (xs.map r) ≤ n
  | [] => by simp [PyData.depthAll]
  | x :: xs => by
    rw [List.map_cons, PyData.depthAll]
    exact Nat.max_le.mpr ⟨h.dep x, dep_all h xs⟩
theorem enc_T {α : Type} [DecidableEq α] {r : α → D} {n : Nat} (h : Enc r n) : Enc (eT r) (n + 1) :=
  ⟨fun a b => by show PyData.eqv (.tuple _) (.tuple _) = _; rw [PyData.eqv]; exact enc_all h a b, fun a => by show PyData.canLay0 (.tuple _) = _; rw [PyData.canLay0]; exact lay_all h a, fun a => by show PyData.depth (.tuple _) ≤ _; rw [PyData.depth]; exact Nat.succ_le_succ (dep_all h a)⟩
theorem enc_L {α : Type} [DecidableEq α] {r : α → D} {n : Nat} (h : Enc r n) : Enc (eL r) (n + 1) :=
  ⟨fun a b => by show PyData.eqv (.list _) (.list _) = _; rw [PyData.eqv]; exact enc_all h a b, fun a => by show PyData.canLay0 (.list _) = _; rw [PyData.canLay0]; exact lay_all h a, fun a => by show PyData.depth (.list _) ≤ _; rw [PyData.depth]; exact Nat.succ_le_succ (dep_all h a)⟩
theorem enc_P {α β : Type} [DecidableEq α] [DecidableEq β] {r : α → D} {s : β → D} {n m : Nat} (h : Enc r n) (g : Enc s m) : Enc (eP r s) (max n m + 1) := by
  refine ⟨fun a b => ?_, fun a => ?_, fun a => ?_⟩
  · show PyData.eqv (.tuple _) (.tuple _) = _
    rw [PyData.eqv, PyData.eqvAll, PyData.eqvAll, PyData.eqvAll, h.eq, g.eq]
    obtain ⟨a1, a2⟩ := a
    obtain ⟨b1, b2⟩ := b
    by_cases h1 : a1 = b1 <;> by_cases h2 : a2 = b2 <;> simp [h1, h2]
  · show PyData.canLay0 (.tuple _) = _
    rw [PyData.canLay0, PyData.canLayAll0, PyData.canLayAll0, PyData.canLayAll0, h.lay, g.lay]
    rfl
  · show PyData.depth (.tuple _) ≤ _
    rw [PyData.depth, PyData.depthAll, PyData.depthAll, PyData.depthAll]
    have h1 := h.dep a.1
    have h2 := g.dep a.2
    omega
theorem enc_P3 {α β γ : Type} [DecidableEq α] [DecidableEq β] [DecidableEq γ] {r : α → D} {s : β → D} {t : γ → D} {n m l : Nat} (h : Enc r n) (g : Enc s m) (f : Enc t l) : Enc (eP3 r s t) (max n (max m l) + 1) := by
  refine ⟨fun a b => ?_, fun a => ?_, fun a => ?_⟩
  · show PyData.eqv (.tuple _) (.tuple _) = _
    rw [PyData.eqv, PyData.eqvAll, PyData.eqvAll, PyData.eqvAll, PyData.eqvAll, h.eq, g.eq, f.eq]
    obtain ⟨a1, a2, a3⟩ := a
    obtain ⟨b1, b2, b3⟩ := b
    by_cases h1 : a1 = b1 <;> by_cases h2 : a2 = b2 <;> by_cases h3 : a3 = b3 <;> simp [h1, h2, h3]
  · show PyData.canLay0 (.tuple _) = _
    rw [PyData.canLay0, PyData.canLayAll0, PyData.canLayAll0, PyData.canLayAll0, PyData.canLayAll0, h.lay, g.lay, f.lay]
    rfl
  · show PyData.depth (.tuple _) ≤ _
    rw [PyData.depth, PyData.depthAll, PyData.depthAll, PyData.depthAll, PyData.depthAll]
    have h1 := h.dep a.1
    have h2 := g.dep a.2.1
    have h3 := f.dep a.2.2
    omega
section
variable {X : Cx} {ρ : Rho} {pos : Pos} {a b c e o : Expr} {es : List Expr} {N : Wish}
theorem od_eqE {α : Type} [DecidableEq α] {r : α → D} {n k : Nat} {x y : α} (h : Enc r n) (hr : Room k X.A) (hn : n ≤ 64 := by decide) : OpD X (compareOp .Eq) (r x) (r y) (.bool (decide (x = y))) := by
  rw [← h.eq]
  exact od_eqD ⟨k, hr⟩ (h.shaped hn x) (h.shaped hn y)
theorem od_neE {α : Type} [DecidableEq α] {r : α → D} {n k : Nat} {x y : α} (h : Enc r n) (hr : Room k X.A) (hn : n ≤ 64 := by decide) : OpD X (compareOp .NotEq) (r x) (r y) (.bool (!decide (x = y))) := by
  rw [← h.eq]
  exact od_neD ⟨k, hr⟩ (h.shaped hn x) (h.shaped hn y)
end

/-! ### for what is printed by the generator -/
def chk (b : Bool) : Option Unit := if b = true then some () else none
theorem chk_some {α : Type} {b : Bool} {f : Unit → Option α} {c : α} (h : (chk b).bind f = some c) : b = true ∧ f () = some c := by
  unfold chk at h
  cases b with
  | true => exact ⟨rfl, h⟩
  | false => cases h
def bd1 {α β : Type} (o : Option α) (f : α → Option β) : Option β := o.bind f
theorem bd1_some {α β : Type} {o : Option α} {f : α → Option β} {c : β} (h : bd1 o f = some c) : ∃ a, o = some a ∧ f a = some c := Option.bind_eq_some_iff.mp h
def bd2 {α β γ : Type} (o : Option (α × β)) (f : α → β → Option γ) : Option γ := o.bind fun q => f q.1 q.2
theorem bd2_some {α β γ : Type} {o : Option (α × β)} {f : α → β → Option γ} {c : γ} (h : bd2 o f = some c) : ∃ a b, o = some (a, b) ∧ f a b = some c := by
  obtain ⟨⟨a, b⟩, h1, h2⟩ := Option.bind_eq_some_iff.mp h
  exact ⟨a, b, h1, h2⟩
theorem ift {α : Type} {b : Bool} {x y : Option α} {c : α} (h : (if b = true then x else y) = some c) (hb : b = true) : x = some c := by
  rw [if_pos hb] at h; exact h
theorem iff_ {α : Type} {b : Bool} {x y : Option α} {c : α} (h : (if b = true then x else y) = some c) (hb : b = false) : y = some c := by
  rw [if_neg (by rw [hb]; exact Bool.false_ne_true)] at h; exact h
def afterL {S R γ : Type} (o : Option (Fl S R)) (k : S → Option γ) (kr : R → Option γ) : Option γ := match o with
  | some (.nx s) => k s
  | some (.bk s) => k s
  | some (.rt r) => kr r
  | none => none
theorem afterL_some {S R γ : Type} {o : Option (Fl S R)} {k : S → Option γ} {kr : R → Option γ} {c : γ} (h : afterL o k kr = some c) : ∃ fl, o = some fl ∧ ((∃ s, (fl = .nx s ∨ fl = .bk s) ∧ k s = some c) ∨ ∃ r, fl = .rt r ∧ kr r = some c) := by
  cases o with
  | none => cases h
  | some fl =>
    refine ⟨fl, rfl, ?_⟩
    cases fl with
    | nx s => exact .inl ⟨s, .inl rfl, h⟩
    | bk s => exact .inl ⟨s, .inr rfl, h⟩
    | rt r => exact .inr ⟨r, rfl, h⟩
theorem ret_step {S R γ : Type} {fl : Fl S R} {k : S → Option γ} {kr : R → Option γ} {c : γ} {rr : R} (h : (∃ s, (fl = .nx s ∨ fl = .bk s) ∧ k s = some c) ∨ ∃ r, fl = .rt r ∧ kr r = some c) (e : fl = .rt rr) : kr rr = some c := by
  rcases h with ⟨s, h1, _⟩ | ⟨r, h1, h2⟩
  · rw [e] at h1
    rcases h1 with h1 | h1 <;> cases h1
  · rw [e] at h1
    cases h1
    exact h2
theorem nx_step {S R γ : Type} {fl : Fl S R} {k : S → Option γ} {kr : R → Option γ} {c : γ} {s : S} (h : (∃ s, (fl = .nx s ∨ fl = .bk s) ∧ k s = some c) ∨ ∃ r, fl = .rt r ∧ kr r = some c) (e : fl = .nx s ∨ fl = .bk s) : k s = some c := by
  rcases h with ⟨s', h1, h2⟩ | ⟨r, h1, h2⟩
  · rcases e with e | e <;> rw [e] at h1 <;> rcases h1 with h1 | h1 <;> cases h1 <;> exact h2
  · rcases e with e | e <;> rw [e] at h1 <;> cases h1
def app1 {α : Type} (xs : List α) (x : α) : Option (List α) := if xs.length < 16777216 then some (xs ++ [x]) else none
theorem app1_some {α : Type} {xs ys : List α} {x : α} (h : app1 xs x = some ys) : xs.length < 16777216 ∧ ys = xs ++ [x] := by
  unfold app1 at h
  split at h
  · cases h; exact ⟨by assumption, rfl⟩
  · cases h
def cat2 {α : Type} (xs ys : List α) : Option (List α) := if xs.length + ys.length ≤ 16777216 then some (xs ++ ys) else none
theorem cat2_some {α : Type} {xs ys zs : List α} (h : cat2 xs ys = some zs) : xs.length + ys.length ≤ 16777216 ∧ zs = xs ++ ys := by
  unfold cat2 at h
  split at h
  · cases h; exact ⟨by assumption, rfl⟩
  · cases h
def catS2 (xs ys : Str) : Option Str := if xs.length + ys.length ≤ 16777216 then some (xs ++ ys) else none
theorem catS2_some {xs ys zs : Str} (h : catS2 xs ys = some zs) : xs.length + ys.length ≤ 16777216 ∧ zs = xs ++ ys := by
  unfold catS2 at h
  split at h
  · cases h; exact ⟨by assumption, rfl⟩
  · cases h
def rng1 (lo hi : Int) : Option (List Int) := if rngOk lo hi = true then some (rngL lo hi) else none
theorem rng1_some {lo hi : Int} {xs : List Int} (h : rng1 lo hi = some xs) : rngOk lo hi = true ∧ xs = rngL lo hi := by
  unfold rng1 at h
  split at h
  · cases h; exact ⟨by assumption, rfl⟩
  · cases h
def atS (z : Str) (i : Int) : Option Str := if z.length ≤ 16777216 then (atI z.cps.toList i).map fun c => ⟨#[c]⟩ else none
theorem atS_some {z y : Str} {i : Int} (h : atS z i = some y) : ∃ c, z.length ≤ sizeLine ∧ atI z.cps.toList i = some c ∧ y = ⟨#[c]⟩ := by
  unfold atS at h
  split at h
  · obtain ⟨c, h1, h2⟩ := Option.map_eq_some_iff.mp h
    exact ⟨c, by rw [sizeLine_eq]; assumption, h1, h2.symm⟩
  · cases h
def joinS (z : Str) (ys : List Str) : Option Str := if (ys.map (·.length)).sum + ys.length * z.length ≤ 16777216 then some (Txt.join z ys) else none
theorem joinS_some {z y : Str} {ys : List Str} (h : joinS z ys = some y) : (ys.map (·.length)).sum + ys.length * z.length ≤ 16777216 ∧ y = Txt.join z ys := by
  unfold joinS at h
  split at h
  · cases h; exact ⟨by assumption, rfl⟩
  · cases h
def setI {α : Type} (xs : List α) (i : Int) (x : α) : Option (List α) := (ixN xs.length i).map fun j => xs.set j x
theorem setI_some {α : Type} {xs ys : List α} {i : Int} {x : α} (h : setI xs i x = some ys) : ∃ j, ixN xs.length i = some j ∧ ys = xs.set j x := by
  obtain ⟨j, h1, h2⟩ := Option.map_eq_some_iff.mp h
  exact ⟨j, h1, h2.symm⟩
def fdiv (x y : Int) : Option Int := if 0 < y ∧ y < 1073741824 then some (x / y) else none
theorem fdiv_some {x y z : Int} (h : fdiv x y = some z) : CDiv x y ∧ z = x / y := by
  unfold fdiv at h
  split at h
  · cases h; exact ⟨by assumption, rfl⟩
  · cases h
def fmod (x y : Int) : Option Int := if 0 < y then some (x % y) else none
theorem fmod_some {x y z : Int} (h : fmod x y = some z) : 0 < y ∧ z = x % y := by
  unfold fmod at h
  split at h
  · cases h; exact ⟨by assumption, rfl⟩
  · cases h
def imul (x y : Int) : Option Int := if (-(2 ^ 64) < x ∧ x < 2 ^ 64) then some (x * y) else none
theorem imul_some {x y z : Int} (h : imul x y = some z) : (-(2 ^ 64) < x ∧ x < 2 ^ 64) ∧ z = x * y := by
  unfold imul at h
  split at h
  · cases h; exact ⟨by assumption, rfl⟩
  · cases h
/-- the state of the draws -/
structure Dr where
  cells : List Int
  at_ : Int
  hi : Int
  seed : Int
def drC (s : Dr) : Ct := .lst [.list (s.cells.map .int), .int s.at_, .int s.hi, .int s.seed]
def sizeAt (s : Dr) : Option Int := if s.at_ < (s.cells.length : Int) then (atI s.cells s.at_).map fun c => 2 * (if c < 0 then -c else c) + (if c < 0 then 1 else 0) else some 0
def dpull (s : Dr) (many : Int) : Option (Int × Dr) :=
  if 0 < many ∧ many < 1073741824 then
    if 0 < s.hi then some (s.hi % many, { s with hi := s.hi / many })
    else (sizeAt s).bind fun size =>
      if size ≥ 2 * 10 ^ 18 then some (size / 2 % 2 ^ 6000 % many, { s with at_ := s.at_ + 1, hi := size / 2 % 2 ^ 6000 / many })
      else some ((s.seed * 48271 + size % 2147483629 * 16807 + (s.at_ + 1) * 69621 + 11) % 2147483647 / 16 % many, { s with at_ := s.at_ + 1, seed := (s.seed * 48271 + size % 2147483629 * 16807 + (s.at_ + 1) * 69621 + 11) % 2147483647 })
  else none
def relDraw (c0 : Ct) (ds : List D) (d : D) (c1 : Ct) : Prop := ∃ s many r s', c0 = drC s ∧ ds = [.int many] ∧ dpull s many = some (r, s') ∧ d = .int r ∧ c1 = drC s'
end Lk

set_option Elab.async false
set_option linter.all false
set_option maxRecDepth 100000
namespace Lk
open PySem PySem.Spec PyProof.Rows L2
/-! rules with their side conditions filled -/
section
variable {X : Cx} {ρ : Rho} {pos : Pos} {a b c e o tg iter elt : Expr} {es ifs : List Expr} {N : Wish} {scope : Scope} {own : List (Str × Nat)}
theorem v_ (i : Nat) {x : Str} {d : D} {k : D → Rho → Prop} (hs : ρ[i]? = some (.val d)) (hk : k d ρ) (hN : X.N[i]? = some x := by rfl)
    (hv : Vis X.env.scope x := by first | exact Or.inl rfl | exact Or.inr (Or.inl rfl) | exact Or.inr (Or.inr rfl)) (hd : (x == ("__debug__" : Str)) = false := by decide) (hcd : (x == ("__classdict__" : Str)) = false := by decide) : EX X (.Name x pos) ρ k := x_var hN hv hs hk hd hcd
theorem vf_ (i : Nat) {x : Str} {ds : List D} {k : D → Rho → Prop} (hs : ρ[i]? = some (Sl.own false (.lst ds))) (hk : k (.list ds) (ρ.set i (.val (.list ds)))) (hN : X.N[i]? = some x := by rfl)
    (hv : Vis X.env.scope x := by first | exact Or.inl rfl | exact Or.inr (Or.inl rfl) | exact Or.inr (Or.inr rfl)) (hd : (x == ("__debug__" : Str)) = false := by decide) (hcd : (x == ("__classdict__" : Str)) = false := by decide) : EX X (.Name x pos) ρ k := x_frz hN hv hs hk hd hcd
theorem set_ (i : Nat) {x : Str} {pos' : Pos} (hN : X.N.Nodup) (h : EX X e ρ fun d ρ1 => isIo ρ1[i]? = false ∧ N.nx (ρ1.set i (.val d))) (hi : X.N[i]? = some x := by rfl) (hx : Loc X.env.scope x := by first | exact .inl rfl | exact .inr rfl)
    (hs : swapsWith e (some (.Name x pos')) pos.line X.env = pure false := by rfl) (hf : X.fn x = true ∨ X.env.scope.names.lookup x = some .local := by first | exact .inl rfl | exact .inr rfl | assumption) :
    SX X (.Assign [.Name x pos'] e pos) ρ N := s_set hN hi hx h hs hf
theorem setO_ (i : Nat) {x : Str} {pos' : Pos} (hN : X.N.Nodup) (h : FX X e ρ fun ds ρ1 => isIo ρ1[i]? = false ∧ N.nx (ρ1.set i (.own false ds))) (hi : X.N[i]? = some x := by rfl) (hx : Loc X.env.scope x := by first | exact .inl rfl | exact .inr rfl)
    (hs : swapsWith e (some (.Name x pos')) pos.line X.env = pure false := by rfl) (hf : X.fn x = true ∨ X.env.scope.names.lookup x = some .local := by first | exact .inl rfl | exact .inr rfl | assumption) :
    SX X (.Assign [.Name x pos'] e pos) ρ N := s_setO hN hi hx h hs hf
theorem gn_ (i : Nat) {x : Str} {d : D} {k : Rho → Prop} (hN : X.N.Nodup) (h : isIo ρ[i]? = false) (hk : k (ρ.set i (.val d))) (hi : X.N[i]? = some x := by rfl) (hx : Loc X.env.scope x := by first | exact .inl rfl | exact .inr rfl)
    (hf : X.fn x = true ∨ X.env.scope.names.lookup x = some .local := by first | exact .inl rfl | exact .inr rfl | assumption) : GX X (.Name x pos) d ρ [i] k := g_name hN hi hx h hk hf
theorem ixO_ (i : Nat) {x : Str} {py : Pos} {k : D → Rho → Prop} (h : EX X b ρ fun dy ρ2 => ∃ c ds j d, dy = .int j ∧ ρ2[i]? = some (Sl.own c (.lst ds)) ∧ atI ds j = some d ∧ k d ρ2) (hw : ∃ b d0, ρ[i]? = some (Sl.own b d0) := by exact ⟨_, _, rfl⟩)
    (hN : X.N[i]? = some x := by rfl) (hv : Vis X.env.scope x := by first | exact Or.inl rfl | exact Or.inr (Or.inl rfl) | exact Or.inr (Or.inr rfl)) (hs : PlainIx b := by exact fun _ _ => rfl)
    (hd : (x == ("__debug__" : Str)) = false := by decide) (hcd : (x == ("__classdict__" : Str)) = false := by decide) : EX X (.Subscript (.Name x py) b pos) ρ k := x_ixO hN hv h hs hw hd hcd
theorem app_ (i : Nat) {x : Str} {py apos cpos : Pos} (h : EX X e ρ fun d ρ1 => ∃ b ds, ρ1[i]? = some (Sl.own b (.lst ds)) ∧ ds.length < 16777216 ∧ N.nx (ρ1.set i (.own b (.lst (ds ++ [d])))))
    (hN : X.N[i]? = some x := by rfl) (hv : Vis X.env.scope x := by first | exact Or.inl rfl | exact Or.inr (Or.inl rfl) | exact Or.inr (Or.inr rfl))
    (hw : ∃ b ds, ρ[i]? = some (Sl.own b (.lst ds)) := by exact ⟨_, _, rfl⟩) (hd : (x == ("__debug__" : Str)) = false := by decide) (hcd : (x == ("__classdict__" : Str)) = false := by decide)
    (hsw : swapsWith (.Call (.Attribute (.Name x py) "append" apos) [e] [] cpos) none pos.line X.env = pure false := by rfl)
    (hbase : attributeBase (.Name x py) "append" X.env (eval (.Name x py) X.env) = eval (.Name x py) X.env := by rfl)
    (hfew : ((backTo cpos (starEach (e :: []) X.env)).all (fun x => !x.1) && (backToKw cpos (keywordEach [] X.env)).all (fun x => x.1.isSome)
      && decide ((e :: []).length + ([] : List Keyword).length + (if ([] : List Keyword).isEmpty then 0 else 1) < 30)) = true := by rfl)
    (hline : (apos.endLine == cpos.line) = true := by rfl) (hs : starEach (e :: []) X.env = (false, eval e X.env) :: starEach [] X.env := by rfl) (hplain : (backTo cpos (starEach [] X.env)).any (·.1) = false := by rfl) :
    SX X (.Expr (.Call (.Attribute (.Name x py) "append" apos) [e] [] cpos) pos) ρ N := s_app hN hv h hw hd hcd hsw hbase hfew hline hs hplain
theorem tupO_ (i : Nat) {y : Str} {py p : Pos} {c : Bool} {ds : List D} {k : D → Rho → Prop} (hm : X.mg "tuple" = none) (hs : ρ[i]? = some (Sl.own c (.lst ds))) (hk : k (.tuple ds) ρ) (hg : Gl X "tuple" := by rfl) (hN : X.N[i]? = some y := by rfl)
    (hvy : Vis X.env.scope y := by first | exact Or.inl rfl | exact Or.inr (Or.inl rfl) | exact Or.inr (Or.inr rfl)) (hdy : (y == ("__debug__" : Str)) = false := by decide) (hcy : (y == ("__classdict__" : Str)) = false := by decide)
    (he : starEach [Expr.Name y py] X.env = (false, eval (.Name y py) X.env) :: starEach [] X.env := by rfl) (hpl : (backTo pos (starEach [] X.env)).any (·.1) = false := by rfl) : EX X (.Call (.Name "tuple" p) [.Name y py] [] pos) ρ k := x_tupleO hg hm hN hvy hs hk hdy hcy he hpl
theorem lenO_ (i : Nat) {y : Str} {py p : Pos} {c : Bool} {ds : List D} {k : D → Rho → Prop} (hm : X.mg "len" = none) (hs : ρ[i]? = some (Sl.own c (.lst ds))) (hk : k (.int ds.length) ρ) (hg : Gl X "len" := by rfl) (hN : X.N[i]? = some y := by rfl)
    (hvy : Vis X.env.scope y := by first | exact Or.inl rfl | exact Or.inr (Or.inl rfl) | exact Or.inr (Or.inr rfl)) (hdy : (y == ("__debug__" : Str)) = false := by decide) (hcy : (y == ("__classdict__" : Str)) = false := by decide)
    (he : starEach [Expr.Name y py] X.env = (false, eval (.Name y py) X.env) :: starEach [] X.env := by rfl) (hpl : (backTo pos (starEach [] X.env)).any (·.1) = false := by rfl) : EX X (.Call (.Name "len" p) [.Name y py] [] pos) ρ k :=
  x_callBO hg hm b_len hN hvy hs cd_lenL rfl hk (by decide) (by decide) hdy hcy he hpl
theorem callO_ (i : Nat) {p py : Pos} {n k : Nat} {x y : Str} {Rel : Ct → List D → D → Ct → Prop} {kk : D → Rho → Prop} (C : CalO X.prog X.w X.K X.mg X.base x n Rel) (hr : Room k X.A) (hnk : n ≤ k)
    (h : AX X es ρ fun ds ρ1 => ∃ b d0 d d1, ρ1[i]? = some (Sl.own b d0) ∧ Rel d0 ds d d1 ∧ kk d (ρ1.set i (.own b d1))) (hg : Gl X x := by rfl)
    (hN : X.N[i]? = some y := by rfl) (hv : Vis X.env.scope y := by first | exact Or.inl rfl | exact Or.inr (Or.inl rfl) | exact Or.inr (Or.inr rfl))
    (hdy : (y == ("__debug__" : Str)) = false := by decide) (hcy : (y == ("__classdict__" : Str)) = false := by decide)
    (hdb : (x == ("__debug__" : Str)) = false := by decide) (he : starEach (.Name y py :: es) X.env = (false, eval (.Name y py) X.env) :: starEach es X.env := by rfl) (hpl : (backTo pos (starEach es X.env)).any (·.1) = false := by rfl) 
    (hw : ∃ b d0, ρ[i]? = some (Sl.own b d0) := by exact ⟨_, _, rfl⟩) :
    EX X (.Call (.Name x p) (.Name y py :: es) [] pos) ρ kk := x_callO C hr hnk hg hN hv h hdy hcy hdb he hpl hw
theorem call_ {p : Pos} {n k : Nat} {x : Str} {Rel : List D → D → Prop} {kk : D → Rho → Prop} (C : CalP X.prog X.w X.K X.mg X.base x n Rel) (hr : Room k X.A) (hnk : n ≤ k) (h : AX X (e :: es) ρ fun ds ρ1 => ∃ d, Rel ds d ∧ kk d ρ1) (hg : Gl X x := by rfl)
    (hdb : (x == ("__debug__" : Str)) = false := by decide) (he : starEach (e :: es) X.env = (false, eval e X.env) :: starEach es X.env := by rfl) (hpl : (backTo pos (starEach es X.env)).any (·.1) = false := by rfl) :
    EX X (.Call (.Name x p) (e :: es) [] pos) ρ kk := x_callP C hr hnk hg h hdb he hpl
/-- a def without arguments -/
theorem call0_ {p : Pos} {n k : Nat} {x : Str} {Rel : List D → D → Prop} {kk : D → Rho → Prop} (C : CalP X.prog X.w X.K X.mg X.base x n Rel) (hr : Room k X.A) (hnk : n ≤ k) (h : ∃ d, Rel [] d ∧ kk d ρ) (hg : Gl X x := by rfl)
    (hdb : (x == ("__debug__" : Str)) = false := by decide) : EX X (.Call (.Name x p) [] [] pos) ρ kk := fun W σ H O M Q q => by
  obtain ⟨f, fd, ps, F, hm, hk, hb⟩ := C.ex
  obtain ⟨d, hR, hkk⟩ := h
  refine (pe_call0 (E := E0) F (hr.mono hnk) hg hm hk hb .nil pass0 hdb).w ?_
  show SpP X.K Rel ([] ++ []) H Q E0
  rw [List.append_nil]
  exact ⟨O, [], d, .nil, M.ex, hR, fun v H' hs rv => q v d ρ H' O (M.grow hs) (Ext.grow hs) rv hkk⟩
theorem callFr_ {p : Pos} {n k : Nat} {x : Str} {Rel : List D → Ct → Prop} {kk : Ct → Rho → Prop} (C : CalF X.prog X.w X.K X.mg X.base x n Rel) (hr : Room k X.A) (hnk : n ≤ k) (h : AX X (e :: es) ρ fun ds ρ1 => ∃ c, Rel ds c ∧ kk c ρ1) (hg : Gl X x := by rfl)
    (hdb : (x == ("__debug__" : Str)) = false := by decide) (he : starEach (e :: es) X.env = (false, eval e X.env) :: starEach es X.env := by rfl) (hpl : (backTo pos (starEach es X.env)).any (·.1) = false := by rfl) :
    FX X (.Call (.Name x p) (e :: es) [] pos) ρ kk := f_callF C hr hnk hg h hdb he hpl
theorem bl_ {p : Pos} {x : Str} {id : String} {k : D → Rho → Prop} (hv : bootBuiltins x = some (.builtin id)) (hm : X.mg x = none) (h : AX X (e :: es) ρ fun ds ρ1 => ∃ dz, CallD X (.builtin id) ds dz ∧ k dz ρ1) (hg : Gl X x := by rfl) (hn : x ≠ "__name__" := by decide) (hdb : (x == ("__debug__" : Str)) = false := by decide)
    (he : starEach (e :: es) X.env = (false, eval e X.env) :: starEach es X.env := by rfl) (hpl : (backTo pos (starEach es X.env)).any (·.1) = false := by rfl) : EX X (.Call (.Name x p) (e :: es) [] pos) ρ k := x_callB hg hm hv h hn hdb he hpl
theorem ty_ {p : Pos} {x : Str} {id : String} {k : D → Rho → Prop} (hv : bootBuiltins x = some (.type id)) (hm : X.mg x = none) (h : AX X (e :: es) ρ fun ds ρ1 => ∃ dz, CallD X (.type id) ds dz ∧ k dz ρ1) (hg : Gl X x := by rfl) (hn : x ≠ "__name__" := by decide) (hdb : (x == ("__debug__" : Str)) = false := by decide)
    (he : starEach (e :: es) X.env = (false, eval e X.env) :: starEach es X.env := by rfl) (hpl : (backTo pos (starEach es X.env)).any (·.1) = false := by rfl) : EX X (.Call (.Name x p) (e :: es) [] pos) ρ k := x_callT hg hm hv h hn hdb he hpl
theorem tyF_ {p : Pos} {x : Str} {id : String} {k : Ct → Rho → Prop} (hv : bootBuiltins x = some (.type id)) (hm : X.mg x = none) (h : AX X (e :: es) ρ fun ds ρ1 => ∃ zs, CallF X (.type id) ds zs ∧ k (.lst zs) ρ1) (hg : Gl X x := by rfl) (hn : x ≠ "__name__" := by decide) (hdb : (x == ("__debug__" : Str)) = false := by decide)
    (he : starEach (e :: es) X.env = (false, eval e X.env) :: starEach es X.env := by rfl) (hpl : (backTo pos (starEach es X.env)).any (·.1) = false := by rfl) : FX X (.Call (.Name x p) (e :: es) [] pos) ρ k := f_callT hg hm hv h hn hdb he hpl
theorem blF_ {p : Pos} {x : Str} {id : String} {k : Ct → Rho → Prop} (hv : bootBuiltins x = some (.builtin id)) (hm : X.mg x = none) (h : AX X (e :: es) ρ fun ds ρ1 => ∃ zs, CallF X (.builtin id) ds zs ∧ k (.lst zs) ρ1) (hg : Gl X x := by rfl) (hn : x ≠ "__name__" := by decide) (hdb : (x == ("__debug__" : Str)) = false := by decide)
    (he : starEach (e :: es) X.env = (false, eval e X.env) :: starEach es X.env := by rfl) (hpl : (backTo pos (starEach es X.env)).any (·.1) = false := by rfl) : FX X (.Call (.Name x p) (e :: es) [] pos) ρ k := f_callB hg hm hv h hn hdb he hpl
theorem r1_ {k : List D → Rho → Prop} {p : Pos} (hm : X.mg "range" = none) (h : EX X e ρ fun d ρ1 => ∃ j, d = .int j ∧ rngOk 0 j = true ∧ k ((rngL 0 j).map PyData.int) ρ1) (hg : Gl X "range" := by rfl)
    (hs0 : starEach (e :: []) X.env = (false, eval e X.env) :: starEach [] X.env := by rfl) (hs : starEach [e] X.env = [(false, eval e X.env)] := by rfl) : IX X tg (.Call (.Name "range" p) [e] [] pos) ρ k := i_rng1 hg hm h hs0 hs
theorem r2_ {k : List D → Rho → Prop} {p : Pos} (hm : X.mg "range" = none) (h : EX X e ρ fun d ρ1 => ∃ i, d = .int i ∧ EX X c ρ1 fun d ρ2 => ∃ j, d = .int j ∧ rngOk i j = true ∧ k ((rngL i j).map PyData.int) ρ2) (hg : Gl X "range" := by rfl)
    (hs0 : starEach (e :: [c]) X.env = (false, eval e X.env) :: starEach [c] X.env := by rfl) (hs1 : starEach (c :: []) X.env = (false, eval c X.env) :: starEach [] X.env := by rfl)
    (hs : starEach [e, c] X.env = [(false, eval e X.env), (false, eval c X.env)] := by rfl) (hs2 : starEach [c] X.env = [(false, eval c X.env)] := by rfl) : IX X tg (.Call (.Name "range" p) [e, c] [] pos) ρ k := i_rng2 hg hm h hs0 hs1 hs hs2
theorem isi_ {k : D → Rho → Prop} {p p2 : Pos} {T : Str} {U : String} {x : Expr} (hvT : bootBuiltins T = some (.type U)) (hm : X.mg "isinstance" = none) (hmT : X.mg T = none)
    (h : EX X x ρ fun d ρ1 => ∃ r, kitB (tyName d) U = some r ∧ k (.bool r) ρ1) (hg : Gl X "isinstance" := by rfl) (hgT : Gl X T := by rfl) (hnT : T ≠ "__name__" := by decide) (hdT : (T == ("__debug__" : Str)) = false := by decide)
    (he : starEach (x :: [Expr.Name T p2]) X.env = (false, eval x X.env) :: starEach [Expr.Name T p2] X.env := by rfl) (he2 : starEach (Expr.Name T p2 :: []) X.env = (false, eval (Expr.Name T p2) X.env) :: starEach [] X.env := by rfl)
    (hpl : (backTo pos (starEach [Expr.Name T p2] X.env)).any (·.1) = false := by rfl) : EX X (.Call (.Name "isinstance" p) [x, .Name T p2] [] pos) ρ k := x_isi hg hm hgT hmT hvT h hnT hdT he he2 hpl
end
end Lk

set_option Elab.async false
set_option linter.all false
set_option maxRecDepth 100000
namespace Lk
open PySem PySem.Spec PyProof.Rows L2 RZ
section
variable {X : Cx} {ρ : Rho} {pos p tpos : Pos} {tg e e2 : Expr} {elts : List Expr} {kk : Nat}
/-! ### walks of a text, of zip, of enumerate -/
def signsD (z : Str) : List D := z.cps.toList.map fun c => .str ⟨#[c]⟩
theorem itd_str {H : Hp} {O : Addr → Prop} {z : Str} : ItD X.K (Its z) H O (signsD z) := fun H' O' E' ex i => by
  unfold signsD
  refine ⟨fun d e => ?_, fun e => ?_⟩
  · rw [List.getElem?_map] at e
    cases q : z.cps.toList[i]? with
    | none => rw [q] at e; cases e
    | some c =>
      rw [q] at e
      cases e
      have h1 := (List.getElem?_eq_some_iff.mp q).1
      refine ⟨(by simpa using h1 : i < z.cps.size), fun x H'' y => ?_⟩
      obtain ⟨rfl, c', hc, rfl⟩ := y
      rw [Array.getElem?_toList] at q
      rw [q] at hc
      cases hc
      exact ⟨Sub.refl _, .str _⟩
  · have := List.getElem?_eq_none_iff.mp e
    rw [List.length_map, Array.length_toList] at this
    exact this
theorem i_str {k : List D → Rho → Prop} (h : EX X e ρ fun d ρ1 => ∃ z, d = .str z ∧ z.length ≤ sizeLine ∧ k (signsD z) ρ1) : IX X tg e ρ k := fun W σ H O M R q =>
  (pi_str pe_w).w' (h W σ H O M _ fun v d ρ1 H1 O1 M1 E1 r ⟨z, hd, hl, hk⟩ => by
    subst hd
    cases r
    exact ⟨z, rfl, q _ _ ρ1 H1 O1 M1 E1 itd_str (by unfold signsD; rw [List.length_map, Array.length_toList]; exact hl) hk⟩)
def zipD (xs ys : List D) : List D := List.zipWith (fun x y => .tuple [x, y]) xs ys
theorem zip_get {xs ys : List D} {i : Nat} {d : D} (h : (zipD xs ys)[i]? = some d) : ∃ x y, xs[i]? = some x ∧ ys[i]? = some y ∧ d = .tuple [x, y] := by
  unfold zipD at h
  rw [List.getElem?_zipWith] at h
  cases e1 : xs[i]? with
  | none => rw [e1] at h; cases h
  | some x =>
    cases e2 : ys[i]? with
    | none => rw [e1, e2] at h; cases h
    | some y => rw [e1, e2] at h; cases h; exact ⟨x, y, rfl, rfl, rfl⟩
theorem zip_none {xs ys : List D} {i : Nat} (h : (zipD xs ys)[i]? = none) : xs.length ≤ i ∨ ys.length ≤ i := by
  have := List.getElem?_eq_none_iff.mp h
  unfold zipD at this
  rw [List.length_zipWith] at this
  omega
theorem pair_dp {H : Hp} {O : Addr → Prop} {T : Addr} {vx vy : V} {x y : D} (ex : ∀ a, O a → ∃ o, H a = some o) (hT : H T = none) (rx : Dp X.K (cut O H) vx x) (ry : Dp X.K (cut O H) vy y) :
    Sub H (upd H T (.tup [vx, vy])) ∧ Dp X.K (cut O (upd H T (.tup [vx, vy]))) (.ref T) (.tuple [x, y]) := by
  have s1 : Sub H (upd H T (.tup [vx, vy])) := Sub.upd hT
  have hO : ¬ O T := fun z => by
    obtain ⟨o, e⟩ := ex T z
    rw [hT] at e; cases e
  exact ⟨s1, .tup (SqT.of (cut_some.mpr ⟨hO, upd_same⟩)) (.cons (dp_mono (cut_grow s1) _ _ rx) (.cons (dp_mono (cut_grow s1) _ _ ry) .nil))⟩
theorem itd_zip {H : Hp} {O : Addr → Prop} {a b : Addr} {xs ys : List D} {us ws : List V} (ha : SqL X.K (cut O H) a us) (hb : SqL X.K (cut O H) b ws) (da : DpAll X.K (cut O H) us xs) (db : DpAll X.K (cut O H) ws ys) : ItD X.K (Itz X.K a b) H O (zipD xs ys) := fun H' O' E' ex i => by
  have ha' : SqL X.K H' a us := cut_sub.l (E'.sub.l ha)
  have hb' : SqL X.K H' b ws := cut_sub.l (E'.sub.l hb)
  have da' := dpa_mono E'.sub _ _ da
  have db' := dpa_mono E'.sub _ _ db
  refine ⟨fun d e => ?_, fun e => ⟨us, ws, ha', hb', by rw [dpa_len da, dpa_len db]; exact zip_none e⟩⟩
  obtain ⟨x, y, e1, e2, rfl⟩ := zip_get e
  obtain ⟨vx, f1, rx⟩ := dpa_get' da' e1
  obtain ⟨vy, f2, ry⟩ := dpa_get' db' e2
  refine ⟨⟨us, ws, vx, vy, ha', hb', f1, f2⟩, fun z H'' q => ?_⟩
  obtain ⟨T, x', y', rfl, hT, rfl, g1, g2⟩ := q
  have g1 := g1 us ha'
  have g2 := g2 ws hb'
  rw [f1] at g1
  rw [f2] at g2
  cases g1; cases g2
  exact pair_dp ex hT rx ry
theorem itd_zipT {H : Hp} {O : Addr → Prop} {a b : Addr} {xs ys : List D} {us ws : List V} (ha : SqT X.K (cut O H) a us) (hb : SqT X.K (cut O H) b ws) (da : DpAll X.K (cut O H) us xs) (db : DpAll X.K (cut O H) ws ys) : ItD X.K (ItzT X.K a b) H O (zipD xs ys) := fun H' O' E' ex i => by
  have ha' : SqT X.K H' a us := cut_sub.t (E'.sub.t ha)
  have hb' : SqT X.K H' b ws := cut_sub.t (E'.sub.t hb)
  have da' := dpa_mono E'.sub _ _ da
  have db' := dpa_mono E'.sub _ _ db
  refine ⟨fun d e => ?_, fun e => ⟨us, ws, ha', hb', by rw [dpa_len da, dpa_len db]; exact zip_none e⟩⟩
  obtain ⟨x, y, e1, e2, rfl⟩ := zip_get e
  obtain ⟨vx, f1, rx⟩ := dpa_get' da' e1
  obtain ⟨vy, f2, ry⟩ := dpa_get' db' e2
  refine ⟨⟨us, ws, vx, vy, ha', hb', f1, f2⟩, fun z H'' q => ?_⟩
  obtain ⟨T, x', y', rfl, hT, rfl, g1, g2⟩ := q
  have g1 := g1 us ha'
  have g2 := g2 ws hb'
  rw [f1] at g1
  rw [f2] at g2
  cases g1; cases g2
  exact pair_dp ex hT rx ry
theorem i_zip {k : List D → Rho → Prop} (hg : Gl X "zip") (hm : X.mg "zip" = none) (h : AX X [e, e2] ρ fun ds ρ1 => ∃ xs ys, (ds = [.list xs, .list ys] ∨ ds = [.tuple xs, .tuple ys]) ∧ xs.length ≤ sizeLine ∧ k (zipD xs ys) ρ1)
    (hs : starEach [e, e2] X.env = (false, eval e X.env) :: starEach [e2] X.env := by rfl) (hpl : (backTo pos (starEach [e2] X.env)).any (·.1) = false := by rfl) : IX X (.Tuple elts kk tpos) (.Call (.Name "zip" p) [e, e2] [] pos) ρ k := fun W σ H O M R q =>
  (pi_zipA hg hm pa_w hs hpl).w' (h W σ H O M _ fun vs ds ρ1 H1 O1 M1 E1 r ⟨xs, ys, hd, hl, hk⟩ => by
    have hl2 : (zipD xs ys).length ≤ sizeLine := by
      unfold zipD
      rw [List.length_zipWith]
      exact Nat.le_trans (Nat.min_le_left _ _) hl
    rcases hd with hd | hd
    · subst hd
      cases r with
      | cons r1 r2 =>
        cases r2 with
        | cons r2 r3 =>
          cases r3
          cases r1 with
          | lst ha da =>
            cases r2 with
            | lst hb db => exact ⟨_, _, _, _, rfl, .inl ⟨cut_sub.l ha, cut_sub.l hb, q _ _ ρ1 H1 O1 M1 E1 (itd_zip ha hb da db) hl2 hk⟩⟩
    · subst hd
      cases r with
      | cons r1 r2 =>
        cases r2 with
        | cons r2 r3 =>
          cases r3
          cases r1 with
          | tup ha da =>
            cases r2 with
            | tup hb db => exact ⟨_, _, _, _, rfl, .inr ⟨cut_sub.t ha, cut_sub.t hb, q _ _ ρ1 H1 O1 M1 E1 (itd_zipT ha hb da db) hl2 hk⟩⟩)
def enumD (xs : List D) : List D := xs.mapIdx fun i x => .tuple [.int (i : Nat), x]
theorem itd_enum {H : Hp} {O : Addr → Prop} {a : Addr} {xs : List D} {us : List V} (ha : SqL X.K (cut O H) a us) (da : DpAll X.K (cut O H) us xs) : ItD X.K (Ite X.K a) H O (enumD xs) := fun H' O' E' ex i => by
  have ha' : SqL X.K H' a us := cut_sub.l (E'.sub.l ha)
  have da' := dpa_mono E'.sub _ _ da
  unfold enumD
  refine ⟨fun d e => ?_, fun e => ⟨us, ha', by
    have := List.getElem?_eq_none_iff.mp e
    rw [List.length_mapIdx] at this
    rw [dpa_len da]; exact this⟩⟩
  rw [List.getElem?_mapIdx] at e
  obtain ⟨x, e1, rfl⟩ := Option.map_eq_some_iff.mp e
  obtain ⟨vx, f1, rx⟩ := dpa_get' da' e1
  refine ⟨⟨us, vx, ha', f1⟩, fun z H'' q => ?_⟩
  obtain ⟨T, x', rfl, hT, rfl, g1⟩ := q
  have g1 := g1 us ha'
  rw [f1] at g1
  cases g1
  exact pair_dp ex hT (.int _) rx
theorem i_enum {k : List D → Rho → Prop} (hg : Gl X "enumerate") (hm : X.mg "enumerate" = none) (h : EX X e ρ fun d ρ1 => ∃ xs, d = .list xs ∧ xs.length ≤ sizeLine ∧ k (enumD xs) ρ1)
    (hs0 : starEach (e :: []) X.env = (false, eval e X.env) :: starEach [] X.env := by rfl) (hs : starEach [e] X.env = [(false, eval e X.env)] := by rfl) : IX X (.Tuple elts kk tpos) (.Call (.Name "enumerate" p) [e] [] pos) ρ k := fun W σ H O M R q =>
  (pi_enum hg hm (pa_cons pe_w pa_nil hs0) hs).w' (h W σ H O M _ fun v d ρ1 H1 O1 M1 E1 r ⟨xs, hd, hl, hk⟩ => by
    subst hd
    cases r with
    | lst ha da => exact ⟨_, _, rfl, cut_sub.l ha, q _ _ ρ1 H1 O1 M1 E1 (itd_enum ha da) (by unfold enumD; rw [List.length_mapIdx]; exact hl) hk⟩)
end
end Lk

set_option Elab.async false
set_option linter.all false
set_option maxRecDepth 100000
namespace Lk
open PySem PySem.Spec PyProof.Rows L2 RZ
section
variable {X : Cx} {ρ : Rho} {pos p tpos : Pos} {tg e e2 : Expr} {elts : List Expr} {kk : Nat}
/-! ### the order of data -/
theorem min_dep {A : Around} {x y : D} (hu : A.units + 64 < cLine) (hd : x.depth ≤ 64) : A.units + min x.depth y.depth < cLine := by
  have h2 : min x.depth y.depth ≤ x.depth := Nat.min_le_left _ _
  omega
theorem od_ltD {x y : D} (hr : ∃ k, Room k X.A) (h : W.alike x y = true) (hn : x ≠ .none) (hd : x.depth ≤ 64) : OpD X (compareOp .Lt) x y (.bool (W.dataLt x y)) := fun H O v u Q _ rx ry q pins s σ va ua I r1 r2 => by
  obtain ⟨k, hr⟩ := hr
  obtain ⟨as, ra⟩ := Dp.reads I x v va (dp_mono cut_sub _ _ rx) r1
  obtain ⟨bs, rb⟩ := Dp.reads I y u ua (dp_mono cut_sub _ _ ry) r2
  exact W.lt_data ra rb h hn (min_dep hr.units hd) ⟨.bl _, H, I, rfl, q _ H (Sub.refl H) (.bl _)⟩
theorem od_gtD {x y : D} (hr : ∃ k, Room k X.A) (h : W.alike x y = true) (hn : x ≠ .none) (hd : x.depth ≤ 64) : OpD X (compareOp .Gt) x y (.bool (W.dataLt y x)) := fun H O v u Q _ rx ry q pins s σ va ua I r1 r2 => by
  obtain ⟨k, hr⟩ := hr
  obtain ⟨as, ra⟩ := Dp.reads I x v va (dp_mono cut_sub _ _ rx) r1
  obtain ⟨bs, rb⟩ := Dp.reads I y u ua (dp_mono cut_sub _ _ ry) r2
  exact W.gt_data ra rb h hn (min_dep hr.units hd) ⟨.bl _, H, I, rfl, q _ H (Sub.refl H) (.bl _)⟩
theorem od_leD {x y : D} (hr : ∃ k, Room k X.A) (h : W.alike x y = true) (hn : x ≠ .none) (hd : x.depth ≤ 64) : OpD X (compareOp .LtE) x y (.bool (!W.dataLt y x)) := fun H O v u Q _ rx ry q pins s σ va ua I r1 r2 => by
  obtain ⟨k, hr⟩ := hr
  obtain ⟨as, ra⟩ := Dp.reads I x v va (dp_mono cut_sub _ _ rx) r1
  obtain ⟨bs, rb⟩ := Dp.reads I y u ua (dp_mono cut_sub _ _ ry) r2
  exact W.le_data ra rb h hn (min_dep hr.units hd) ⟨.bl _, H, I, rfl, q _ H (Sub.refl H) (.bl _)⟩
theorem od_geD {x y : D} (hr : ∃ k, Room k X.A) (h : W.alike x y = true) (hn : x ≠ .none) (hd : x.depth ≤ 64) : OpD X (compareOp .GtE) x y (.bool (!W.dataLt x y)) := fun H O v u Q _ rx ry q pins s σ va ua I r1 r2 => by
  obtain ⟨k, hr⟩ := hr
  obtain ⟨as, ra⟩ := Dp.reads I x v va (dp_mono cut_sub _ _ rx) r1
  obtain ⟨bs, rb⟩ := Dp.reads I y u ua (dp_mono cut_sub _ _ ry) r2
  exact W.ge_data ra rb h hn (min_dep hr.units hd) ⟨.bl _, H, I, rfl, q _ H (Sub.refl H) (.bl _)⟩

/-! ### sorted -/
def sortD (ds : List D) : List D := ds.mergeSort (W.dataLe false id)
def isTup : D → Bool
  | .tuple _ => true
  | _ => false
def isOth : D → Bool
  | .none => false
  | .tuple _ => false
  | _ => true
def sortB (ds : List D) : Bool := (ds.all fun x => ds.all fun y => W.alike x y) && (ds.all isTup || ds.all isOth) && ds.all fun x => decide (x.depth ≤ 64)
theorem sortB_ok {ds : List D} (h : sortB ds = true) : W.AllAlike (ds.map id) ∧ ((∀ d ∈ ds.map id, ∃ xs, d = .tuple xs) ∨ W.Sortable (ds.map id)) ∧ ∀ d ∈ ds, d.depth ≤ 64 := by
  unfold sortB at h
  rw [Bool.and_eq_true, Bool.and_eq_true, Bool.or_eq_true, List.all_eq_true, List.all_eq_true, List.all_eq_true, List.all_eq_true] at h
  obtain ⟨⟨h1, h2⟩, h3⟩ := h
  rw [List.map_id]
  refine ⟨fun d hd d' hd' => List.all_eq_true.mp (h1 d hd) d' hd', ?_, fun d hd => of_decide_eq_true (h3 d hd)⟩
  rcases h2 with h2 | h2
  · refine .inl fun d hd => ?_
    have := h2 d hd
    unfold isTup at this
    split at this
    · exact ⟨_, rfl⟩
    · cases this
  · refine .inr (.inr fun d hd => ?_)
    have := h2 d hd
    constructor
    · intro e; subst e; cases this
    · intro xs e; subst e; cases this
theorem dpa_rel {K : PySem.W.Frag} {H : Hp} : ∀ {us : List V} {ds : List D} {its : List Value}, DpAll K H us ds → Vals us its → W.EachIs (fun v b => ∃ x, RelV x v ∧ Dp K H x b) its ds
  | _, _, _, .nil, .nil => .nil
  | _, _, _, .cons h1 h2, .cons r1 r2 => .cons ⟨_, r1, h1⟩ (dpa_rel h2 r2)
theorem rel_dpa {K : PySem.W.Frag} {H : Hp} : ∀ {ds : List D} {its : List Value}, W.EachIs (fun v b => ∃ x, RelV x v ∧ Dp K H x b) its ds → ∃ us, DpAll K H us ds ∧ Vals us its
  | _, _, .nil => ⟨[], .nil, .nil⟩
  | _, _, .cons ⟨x, r, h⟩ t => by
    obtain ⟨us, h1, h2⟩ := rel_dpa t
    exact ⟨x :: us, .cons h h1, .cons r h2⟩
theorem each_mono {α β : Type} {R S : α → β → Prop} (m : ∀ a b, R a b → S a b) : ∀ {as : List α} {bs : List β}, W.EachIs R as bs → W.EachIs S as bs
  | _, _, .nil => .nil
  | _, _, .cons h t => .cons (m _ _ h) (each_mono m t)
theorem cf_sorted {ds : List D} (hr : ∃ k, Room k X.A) (hB : sortB ds = true) : CallF X (.builtin "sorted") [.list ds] (sortD ds) := fun H O vs Q ex hd q pins s σ us I rv => by
  obtain ⟨k, hr⟩ := hr
  obtain ⟨h1, h2, h3⟩ := sortB_ok hB
  cases hd with
  | cons r1 r2 =>
    cases r2
    cases r1 with
    | @lst p ws _ hs ha =>
      obtain ⟨u, rfl, ru⟩ := vals1 rv
      obtain rfl : u = Value.ref p := ru
      have hs' : SqL X.K H p ws := cut_sub.l hs
      obtain ⟨its, rvs, hl, hz⟩ := I.list hs'
      have e0 := dpa_rel ha rvs
      have er : W.EachIs (fun v b => ∃ as, Reads s.heap v (id b) as) its ds := each_mono (fun v b ⟨x, r, h⟩ => Dp.reads I b x v (dp_mono cut_sub _ _ h) r) e0
      have hdep : ∀ b ∈ ds, X.A.units + 2 + (id b : D).depth < cLine := fun b hb => by
        have := h3 b hb
        have := hr.un
        show _ + 2 + b.depth < _
        omega
      have fin : ∀ out : List Value, out.length = ds.length → W.EachIs (fun v b => ∃ x, RelV x v ∧ Dp X.K (cut O H) x b) out (ds.mergeSort (W.dataLe false id)) → EP X pins σ Q (.ref (s.heap.objs.size + 1)) { s with heap := sortedAll s.heap its (List.toArray out) } := fun out hlen eo => by
        obtain ⟨ys, g1, g2⟩ := rel_dpa eo
        obtain ⟨n, hn⟩ := PyProof.Rows.sortedAll_at s.heap its out.toArray
        have fresh := I.hok.fresh (a := s.heap.objs.size + 1) (Nat.le_succ _)
        refine ⟨.ref (s.heap.objs.size + 1), upd H (s.heap.objs.size + 1) (.lst ys), I.laid (t' := s.toks) (fun b o e => PyProof.Rows.sortedAll_old e) (Nat.le_succ _) ⟨?_, out, n, g2, hn⟩, rfl, ?_⟩
        · rw [g2.length, hlen, ← dpa_len ha]; exact hz
        · exact q _ _ ys fresh (Sub.upd fresh) upd_same g1
      rcases h2 with h2 | h2
      · exact W.sorted_tupsE (enc := id) hl.isList e0 er h1 h2 (by rw [← dpa_len ha]; exact hz) hdep fin
      · exact W.sorted_data (enc := id) hl.isList e0 er h1 h2 (by rw [← dpa_len ha]; exact hz) hdep fin
end
section
variable {X : Cx} {ρ : Rho} {pos p tpos : Pos} {a b e e2 : Expr}
/-! ### operators that make a new list -/
def OpF (X : Cx) (f : Value → Value → Sem Value) (dx dy : D) (zs : List D) : Prop :=
  ∀ (H : Hp) (O : Addr → Prop) (x y : V) (Q : VK), (∀ a, O a → ∃ o, H a = some o) → Dp X.K (cut O H) x dx → Dp X.K (cut O H) y dy → (∀ p H' us, H p = none → Sub H H' → H' p = some (.lst us) → DpAll X.K (cut O H) us zs → Q (.ref p) H') → wOp X f x y H Q
theorem f_bin {op : Operator} {k : Ct → Rho → Prop} (h : EX X a ρ fun dx ρ1 => EX X b ρ1 fun dy ρ2 => ∃ zs, OpF X (binaryOp op) dx dy zs ∧ k (.lst zs) ρ2) : FX X (.BinOp a op b pos) ρ k := fun W σ H O M Q q =>
  (pe_op op_w pe_w pe_w).w (h W σ H O M _ fun x dx ρ1 H1 O1 M1 E1 rx h1 => h1 W σ H1 O1 M1 _ fun y dy ρ2 H2 O2 M2 E2 ry h2 => by
    obtain ⟨zs, ho, hk⟩ := h2
    refine ho H2 O2 x y Q M2.ex (dp_mono E2.sub _ _ rx) ry fun p H' us hp hs hl rz => ?_
    obtain ⟨M3, E3, n3, h0⟩ := M2.new_list hp hs hl
    exact q p (.lst us) (.lst zs) ρ2 H' _ M3 (.inr rfl) n3 h0 hl (dpa_mono E3.sub _ _ rz) ((E1.trans E2).trans E3) hk)
theorem of_cat {xs ys : List D} (hl : xs.length + ys.length ≤ sizeLine) : OpF X (binaryOp .Add) (.list xs) (.list ys) (xs ++ ys) := fun H O x y Q ex rx ry q pins s σ v u I r1 r2 => by
  cases rx with
  | @lst l us _ hs ha =>
    cases ry with
    | @lst b ws _ hs2 ha2 =>
      obtain rfl : v = Value.ref l := r1
      obtain rfl : u = Value.ref b := r2
      obtain ⟨its, rv, pl, hz⟩ := I.list (cut_sub.l hs)
      obtain ⟨its2, rv2, pl2, hz2⟩ := I.list (cut_sub.l hs2)
      obtain ⟨⟨cls, dd, data, sl⟩, ho, hc, n, hd⟩ := pl.isList
      obtain ⟨⟨cls2, dd2, data2, sl2⟩, ho2, hc2, n2, hd2⟩ := pl2.isList
      simp only at hc hd hc2 hd2
      subst hc hd hc2 hd2
      have e : its.toArray ++ its2.toArray = (its ++ its2).toArray := by simp
      have hlen : its.length + its2.length ≤ sizeLine := by rw [← rv.length, ← rv2.length, dpa_len ha, dpa_len ha2]; exact hl
      refine concat_meets ⟨_, ho, rfl⟩ ⟨_, ho2, rfl⟩ noFill_list_add seq_list_add PySem.F.slot_list_add PySem.F.entry_list_add (PySem.F.args_list_add_2 _ _) (PyProof.Rows.list_addW l b its.toArray its2.toArray n n2 dd dd2 sl sl2 (by simpa using hlen)) ⟨ho, ho2, ?_⟩
      rw [e]
      have fresh := I.fresh
      exact ⟨.ref _, _, I.lnew (t' := s.toks) (rv.append rv2) (by rw [List.length_append, dpa_len ha, dpa_len ha2]; exact hl), rfl, q _ _ _ fresh (Sub.upd fresh) upd_same (dpa_app ha ha2)⟩

/-! ### list(range(..)) -/
theorem prg_x {X : Cx} {e : Expr} {t : L2.St → Hp → (Int → Int → Hp → Prop) → Prop} (h : PRg X e t) (hc : X.calm = true) (hg : Gl X "list") (hm : X.mg "list" = none) {pos p : Pos} (na : starEach [e] X.env = (false, eval e X.env) :: starEach [] X.env) {σ : L2.St} {H : Hp} {Q : VK}
    (q : t σ H fun a b H1 => RgOk a b ∧ ∀ r, H1 r = none → Q (.ref r) (upd H1 r (.lst (rgV a b)))) : wE X (.Call (.Name "list" p) [e] [] pos) σ H Q := (pe_listRg hc hg hm h na).w q
theorem dpa_rg {H : Hp} (a b : Int) : DpAll X.K H (rgV a b) ((rngL a b).map PyData.int) := by
  have : ∀ xs : List Nat, DpAll X.K H (xs.map fun i => V.int (a + (i : Nat))) ((xs.map fun i => a + ((i : Nat) : Int)).map PyData.int) := fun xs => by
    induction xs with
    | nil => exact .nil
    | cons x xs ih => exact .cons (.int _) ih
  exact this _
theorem rgOk_of {a b : Int} (h : rngOk a b = true) : RgOk a b := by
  unfold rngOk at h
  simp only [Bool.and_eq_true, decide_eq_true_eq] at h
  exact ⟨h.1.1.1.1, h.1.1.1.2, h.1.1.2, h.1.2, by omega⟩
theorem f_listR1 {p2 pos2 : Pos} {k : Ct → Rho → Prop} (hc : X.calm = true) (hg : Gl X "list") (hm : X.mg "list" = none) (hg2 : Gl X "range") (hm2 : X.mg "range" = none) (h : EX X e ρ fun d ρ1 => ∃ j, d = .int j ∧ rngOk 0 j = true ∧ k (.lst ((rngL 0 j).map PyData.int)) ρ1)
    (hs : starEach [e] X.env = (false, eval e X.env) :: starEach [] X.env := by rfl) : FX X (.Call (.Name "list" p) [.Call (.Name "range" p2) [e] [] pos2] [] pos) ρ k := fun W σ H O M Q q =>
  prg_x (prg_1 hg2 hm2 pe_w hs) hc hg hm rfl (h W σ H O M _ fun v d ρ1 H1 O1 M1 E1 r ⟨j, hd, hr, hk⟩ => by
    subst hd
    cases r
    refine ⟨j, rfl, rgOk_of hr, fun r hr0 => ?_⟩
    obtain ⟨M2, E2, n2, h0⟩ := M1.new_list hr0 (Sub.upd hr0) upd_same
    exact q r _ (.lst _) ρ1 _ _ M2 (.inr rfl) n2 h0 upd_same (dpa_rg 0 j) (E1.trans E2) hk)
theorem f_listR2 {p2 pos2 : Pos} {k : Ct → Rho → Prop} (hc : X.calm = true) (hg : Gl X "list") (hm : X.mg "list" = none) (hg2 : Gl X "range") (hm2 : X.mg "range" = none)
    (h : EX X e ρ fun d ρ1 => ∃ i, d = .int i ∧ EX X e2 ρ1 fun d ρ2 => ∃ j, d = .int j ∧ rngOk i j = true ∧ k (.lst ((rngL i j).map PyData.int)) ρ2)
    (hs0 : starEach [e, e2] X.env = (false, eval e X.env) :: starEach [e2] X.env := by rfl) (hs : starEach [e2] X.env = (false, eval e2 X.env) :: starEach [] X.env := by rfl) (hp : (backTo pos2 (starEach [e2] X.env)).any (·.1) = false := by rfl) : FX X (.Call (.Name "list" p) [.Call (.Name "range" p2) [e, e2] [] pos2] [] pos) ρ k := fun W σ H O M Q q =>
  prg_x (prg_2 hg2 hm2 pe_w pe_w hs0 hs hp) hc hg hm rfl (h W σ H O M _ fun v d ρ1 H1 O1 M1 E1 r ⟨i, hd, h2⟩ => by
    subst hd
    cases r
    exact h2 W σ H1 O1 M1 _ fun v d ρ2 H2 O2 M2 E2 r ⟨j, hd, hr, hk⟩ => by
      subst hd
      cases r
      refine ⟨i, j, rfl, rfl, rgOk_of hr, fun r hr0 => ?_⟩
      obtain ⟨M3, E3, n3, h0⟩ := M2.new_list hr0 (Sub.upd hr0) upd_same
      exact q r _ (.lst _) ρ2 _ _ M3 (.inr rfl) n3 h0 upd_same (dpa_rg i j) ((E1.trans E2).trans E3) hk)

/-! ### pop -/
theorem dpa_erase {K : PySem.W.Frag} {H : Hp} : ∀ {ds : List D} {vs : List V}, DpAll K H vs ds → ∀ (i : Nat), DpAll K H (vs.eraseIdx i) (ds.eraseIdx i)
  | [], _, h, i => by cases h; exact .nil
  | d :: ds, _, h, 0 => by
    cases h with
    | cons h1 h2 => exact h2
  | d :: ds, _, h, i + 1 => by
    cases h with
    | cons h1 h2 => exact .cons h1 (dpa_erase h2 i)
theorem x_popAt {i : Nat} {x : Str} {py apos cpos : Pos} {k : D → Rho → Prop} (hN : X.N[i]? = some x) (hv : Vis X.env.scope x) (h : EX X e ρ fun dy ρ1 => ∃ b ds j n d, dy = .int j ∧ ρ1[i]? = some (Sl.own b (.lst ds)) ∧ -(2 ^ 63) ≤ j ∧ j < 2 ^ 63 ∧ ixN ds.length j = some n ∧ ds[n]? = some d ∧ k d (ρ1.set i (.own b (.lst (ds.eraseIdx n)))))
    (hw : ∃ b ds, ρ[i]? = some (Sl.own b (.lst ds)) := by exact ⟨_, _, rfl⟩) (hd : (x == ("__debug__" : Str)) = false := by decide) (hcd : (x == ("__classdict__" : Str)) = false := by decide)
    (hbase : attributeBase (.Name x py) "pop" X.env (eval (.Name x py) X.env) = eval (.Name x py) X.env := by rfl)
    (hfew : ((backTo cpos (starEach (e :: []) X.env)).all (fun x => !x.1) && (backToKw cpos (keywordEach [] X.env)).all (fun x => x.1.isSome)
      && decide ((e :: []).length + ([] : List Keyword).length + (if ([] : List Keyword).isEmpty then 0 else 1) < 30)) = true := by rfl)
    (hline : (apos.endLine == cpos.line) = true := by rfl) (hs : starEach (e :: []) X.env = (false, eval e X.env) :: starEach [] X.env := by rfl) (hplain : (backTo cpos (starEach [] X.env)).any (·.1) = false := by rfl) :
    EX X (.Call (.Attribute (.Name x py) "pop" apos) [e] [] cpos) ρ k := fun W σ H O M Q q => by
  obtain ⟨b0, ds0, hw⟩ := hw
  obtain ⟨p0, ho, ep0, _, e3, e4, _⟩ := M.own i b0 _ hw
  obtain ⟨us0, rfl, _⟩ := ct_lst e4
  refine (pe_bm F.plainAttrs_list F.slot_list_pop F.type_list_pop mt_popAt (pe_var hN hv hd hcd) (pa_cons pe_w pa_nil hs) hbase hfew hline hs hplain).w ⟨_, ep0, .inl ⟨rfl, us0, SqL.of e3⟩, ?_⟩
  refine h W σ H O M _ fun v d ρ1 H1 O1 M1 E1 r ⟨b, ds, j, n, d1, hj, hi, l1, l2, hx, hg, hk⟩ => ?_
  subst hj
  cases r
  obtain ⟨p1, ho, f1, f2, f3, f4, _⟩ := M1.own i b _ hi
  rw [ep0] at f1
  cases f1
  obtain ⟨us, rfl, f4⟩ := ct_lst f4
  obtain ⟨y, hy, ry⟩ := dpa_get' f4 hg
  have kp : ∀ a o, H1 a = some o → a ≠ p0 → upd H1 p0 (.lst (us.eraseIdx n)) a = some o := fun a o h m => by rw [upd_ne m]; exact h
  have sb : Sub (cut O1 H1) (cut O1 (upd H1 p0 (.lst (us.eraseIdx n)))) := fun a o h => by
    obtain ⟨m, h⟩ := cut_some.mp h
    exact cut_some.mpr ⟨m, kp a o h fun z => m (by rw [z]; exact f2)⟩
  obtain ⟨M2, E2⟩ := M1.mut (es := .lst (ds.eraseIdx n)) hi ep0 kp upd_same (dpa_erase (dpa_mono sb _ _ f4) n)
  exact ⟨p0, us, j, n, y, rfl, rfl, f3, l1, l2, by rw [dpa_len f4]; exact (ixN_seq hx).1, hy, q _ _ _ _ O1 M2 (E1.trans E2) (dp_mono sb _ _ ry) hk⟩
end
end Lk

set_option Elab.async false
set_option linter.all false
set_option maxRecDepth 100000
namespace Lk
open PySem PySem.Spec PyProof.Rows L2 RZ
/-! ### comprehensions with two walks -/
def NotAt (ρ : Rho) (σ : L2.St) (dd : Addr) : Prop := ∀ (j : Nat) b es, ρ[j]? = some (Sl.own b es) → σ[j]? ≠ some (some (V.ref dd))
def Wd.prot (W : Wd) (dd : Addr) (o : HO) : Wd := ⟨upd W.H0 dd o, fun a => W.B a ∨ a = dd, W.ioL⟩
section
variable {K : PySem.W.Frag} {W : Wd} {σ σ5 σ4 : L2.St} {H H4 H5 : Hp} {O O4 O5 : Addr → Prop} {ρ ρ4 ρ5 : Rho} {dd : Addr} {o : HO} {vs : List Nat}
/-- behind what kept the object at dd -/
theorem unp (M4 : Mt K W ρ4 σ4 H4 O4) (h0 : W.H0 dd = none) (M5 : Mt K (W.prot dd o) ρ5 σ5 H5 O5) : Mt K W ρ5 σ5 H5 O5 ∧ O5 dd ∧ H5 dd = some o ∧ NotAt ρ5 σ5 dd := by
  have nio : ¬ W.io dd := fun z => by
    obtain ⟨u, ho⟩ := M4.wf1 dd (M4.wf2 dd z)
    rw [h0] at ho; cases ho
  refine ⟨Mt.unprot M4 h0 M5, M5.sub dd (.inr rfl), M5.keep dd _ upd_same nio, fun j b es hj hσ => ?_⟩
  obtain ⟨p, us', f1, _, _, _, f5, f6⟩ := M5.own j b es hj
  rw [hσ] at f1
  cases f1
  cases b with
  | false =>
    have z : upd W.H0 dd o dd = none := f5 rfl
    rw [upd_same] at z
    cases z
  | true => exact nio (f6 rfl)
/-- the block's own names forgotten -/
theorem bkw (M5 : Mt K W ρ5 σ5 H5 O5) (n5 : NotAt ρ5 σ5 dd) (hio : ∀ q ∈ W.ioL, q.1 ∉ vs) (hl : σ5.length = σ.length) (hs5 : ∀ j, j ∉ vs → σ5[j]? = (wipe σ vs)[j]?) (hb : blank ρ5 vs = ρ) : Mt K W ρ σ H5 O5 ∧ NotAt ρ σ dd := by
  refine ⟨M5.part ⟨by rw [← hb, blank_len], fun j hj => by rw [← hb]; exact blank_out hj, fun j hj hl => by rw [← hb] at hl ⊢; rw [blank_len] at hl; exact blank_in hj hl⟩ hio hl.symm (fun j hj => by rw [hs5 j hj, wipe_out hj]), fun j b es hj hσ => ?_⟩
  have nj : j ∉ vs := fun z => by
    have hlj : j < ρ.length := (List.getElem?_eq_some_iff.mp hj).1
    rw [← hb] at hj hlj
    rw [blank_len] at hlj
    rw [blank_in z hlj] at hj
    cases hj
  rw [← hb, blank_out nj] at hj
  exact n5 j b es hj (by rw [hs5 j nj, wipe_out nj]; exact hσ)
theorem hio_of (M3 : Mt K W ρ σ H O) (bl : blank ρ vs = ρ) : ∀ q ∈ W.ioL, q.1 ∉ vs := fun q hq z => by
  obtain ⟨_, ds, h2⟩ := M3.ios q hq
  have hlj : q.1 < ρ.length := (List.getElem?_eq_some_iff.mp h2).1
  have := blank_in (ρ := ρ) z hlj
  rw [bl, h2] at this
  cases this
theorem part_w (M4 : Mt K W ρ σ H O) (bl : blank ρ vs = ρ) : Mt K W ρ (wipe σ vs) H O :=
  M4.part ⟨rfl, fun _ _ => rfl, fun j hj hl => by
    have := blank_in (ρ := ρ) hj hl
    rwa [bl] at this⟩ (hio_of M4 bl) (wipe_length σ vs) (fun j hj => wipe_out hj)
theorem not_w (n3 : NotAt ρ σ dd) (bl : blank ρ vs = ρ) : NotAt ρ (wipe σ vs) dd := fun j b es hj => by
  have nj : j ∉ vs := fun z => by
    have hlj : j < ρ.length := (List.getElem?_eq_some_iff.mp hj).1
    have := blank_in (ρ := ρ) z hlj
    rw [bl, hj] at this
    cases this
  rw [wipe_out nj]
  exact n3 j b es hj
end
section
variable {X : Cx} {ρ : Rho} {pos : Pos} {tg tg1 iter iter1 elt : Expr} {ifs ifs1 : List Expr} {scope : Scope} {own : List (Str × Nat)}
/-- one walk that puts items behind the list at dd -/
theorem acc_loop {α β S : Type} {r : α → D} {r' : β → D} {ρS : S → Rho} {vs : List Nat} {W : Wd} {σ : L2.St} {H1 : Hp} {O1 : Addr → Prop} {J : It} {dd : Addr} {us0 : List V} {zs0 : List β} {step : α → S → Option (Option β × S)} {xs : List α} {s0 s1 : S} {ys : List β} {Fin : Hp → Prop}
    (M1 : Mt X.K W (ρS s0) σ H1 O1) (hO : O1 dd) (hn : NotAt (ρS s0) σ dd) (h0 : W.H0 dd = none) (hl : H1 dd = some (.lst us0)) (ra : DpAll X.K (cut O1 H1) us0 (zs0.map r')) (it : ItD X.K J H1 O1 (xs.map r)) (hlen : zs0.length + ys.length ≤ sizeLine)
    (hf : lcL step xs s0 = some (ys, s1)) (ok : LcOk X tg ifs elt scope vs r r' ρS step)
    (fin : ∀ H' O' us, Mt X.K W (ρS s1) σ H' O' → O' dd → NotAt (ρS s1) σ dd → H' dd = some (.lst us) → DpAll X.K (cut O' H') us ((zs0 ++ ys).map r') → Ext H1 O1 H' O' → Fin H') :
    ∃ W1 : Nat → Nat → Hp → Prop, (∃ m, W1 0 m H1) ∧ ∀ i m H, W1 i m H → (J.stop i H ∧ Fin H) ∨ (J.go i H ∧ ∃ Nx : Hp → Prop, (∀ H', Nx H' → ∃ m', m' < m ∧ W1 (i + 1) m' H') ∧ ∀ x H', J.yld i H x H' →
      bG X scope tg x (wipe σ vs) H' fun σ2 H2 => wipe σ2 vs = wipe σ vs ∧ bTs X scope ifs σ2 H2 fun b H3 => if b = true then bE X scope elt σ2 H3 fun y H4 => ∃ acc, H4 dd = some (.lst acc) ∧ acc.length < sizeLine ∧ Nx (upd H4 dd (.lst (acc ++ [y]))) else Nx H3) := by
  obtain ⟨free, slen, turn⟩ := ok
  refine ⟨fun i m H' => m = xs.length - i ∧ i ≤ xs.length ∧ ∃ s zs us O' ws, Mt X.K W (ρS s) σ H' O' ∧ O' dd ∧ NotAt (ρS s) σ dd ∧ H' dd = some (.lst us) ∧ DpAll X.K (cut O' H') us ((zs0 ++ zs).map r') ∧ Ext H1 O1 H' O' ∧ zs.length ≤ i ∧ lcL step (xs.drop i) s = some (ws, s1) ∧ zs ++ ws = ys,
    ⟨xs.length, by simp, Nat.zero_le _, s0, [], us0, O1, ys, M1, hO, hn, hl, by rw [List.append_nil]; exact ra, Ext.refl _ _, Nat.le_refl _, hf, rfl⟩, ?_⟩
  rintro i m H3 ⟨rfl, hi, s, zs, us, O3, ws, M3, hO3, n3, hl3, r3, E3, hz, hf3, hys⟩
  obtain ⟨it1, it2⟩ := it H3 O3 E3 M3.ex i
  by_cases hlt : i < xs.length
  · have hx : xs[i]? = some xs[i] := List.getElem?_eq_getElem hlt
    obtain ⟨go, yl⟩ := it1 (r xs[i]) (by rw [List.getElem?_map, hx]; rfl)
    rw [List.drop_eq_getElem_cons hlt] at hf3
    unfold lcL at hf3
    cases hst : step xs[i] s with
    | none => rw [hst] at hf3; cases hf3
    | some qq =>
      obtain ⟨o, s'⟩ := qq
      rw [hst] at hf3
      simp only at hf3
      cases hrest : lcL step (xs.drop (i + 1)) s' with
      | none => rw [hrest] at hf3; cases hf3
      | some q2 =>
        obtain ⟨ws', sE⟩ := q2
        rw [hrest] at hf3
        simp only [Option.some.injEq, Prod.mk.injEq] at hf3
        obtain ⟨ew, es'⟩ := hf3
        subst es'
        have bl := free s
        have hio := hio_of M3 bl
        refine .inr ⟨go, fun H' => ∃ zs' us' O', zs' = zs ++ o.toList ∧ Mt X.K W (ρS s') σ H' O' ∧ O' dd ∧ NotAt (ρS s') σ dd ∧ H' dd = some (.lst us') ∧ DpAll X.K (cut O' H') us' ((zs0 ++ zs').map r') ∧ Ext H1 O1 H' O', fun H' ⟨zs', us', O', e1, M', a1, a2, a3, a4, E'⟩ => ⟨xs.length - (i + 1), by omega, rfl, hlt, s', zs', us', O', ws', M', a1, a2, a3, a4, E', ?_, hrest, ?_⟩, fun x H4 y => ?_⟩
        · rw [e1, List.length_append]
          cases o with
          | none => simp; omega
          | some _ => simp; omega
        · rw [e1, List.append_assoc, ew, hys]
        · obtain ⟨sb4, rx⟩ := yl x H4 y
          have M4 := M3.grow sb4
          have hl4 : H4 dd = some (.lst us) := sb4 _ _ hl3
          have prot : Mt X.K (W.prot dd (.lst us)) (ρS s) (wipe σ vs) H4 O3 := (part_w M4 bl).prot' h0 hl4 hO3 (not_w n3 bl)
          have E4 : Ext H1 O1 H4 O3 := E3.trans (Ext.grow sb4)
          intro s0' H0' C cl fp
          refine turn xs[i] s (o, s') hst s0' H0' C cl fp _ _ H4 O3 x prot rx _ fun ρ5 σ5 H5 O5 M5 E5 hs5 h5 => ⟨?_, fun s1' H1' C1 cl1 fp1 => ?_⟩
          · exact wipe_eq (hs5.1.trans (wipe_length σ vs)) fun j hj => by rw [hs5.2 j hj, wipe_out hj]
          · have hl5 : σ5.length = σ.length := hs5.1.trans (wipe_length σ vs)
            refine h5 s1' H1' C1 cl1 fp1 _ σ5 H5 O5 M5 _ fun b ρ6 H6 O6 M6 E6 ⟨h6, h7⟩ => ?_
            cases b with
            | true =>
              refine iteT fun s2' H2' C2 cl2 fp2 => h6 rfl s2' H2' C2 cl2 fp2 _ σ5 H6 O6 M6 _ fun v d ρ7 H7 O7 M7 E7 r7 ⟨y, s7, e7, ed, hb7⟩ => ?_
              cases e7
              subst ed
              obtain ⟨M7', hO8, hl8, n7⟩ := unp M4 h0 M7
              obtain ⟨M8, n8⟩ := bkw M7' n7 hio hl5 hs5.2 hb7
              obtain ⟨M9, E9⟩ := M8.other (u := .lst (us ++ [v])) h0 hO8 n8
              have r9 := dpa_mono ((((Ext.grow sb4).trans E5).trans E6).trans E7).sub _ _ r3
              refine ⟨us, hl8, ?_, zs ++ [y], us ++ [v], O7, rfl, M9, hO8, n8, upd_same, ?_, (((E4.trans E5).trans E6).trans E7).trans E9⟩
              · have := dpa_len r3
                rw [List.length_map, List.length_append] at this
                have h8 := congrArg List.length hys
                rw [← ew, List.length_append, List.length_append] at h8
                have h9 : ([y] : List β).length = 1 := rfl
                have h10 : (Option.toList (some y)).length = 1 := rfl
                omega
              · rw [← List.append_assoc, List.map_append]
                exact dpa_app (dpa_mono E9.sub _ _ r9) (.cons (dp_mono E9.sub _ _ r7) .nil)
            | false =>
              obtain ⟨s7, e7, hb7⟩ := h7 rfl
              cases e7
              refine iteF ?_
              obtain ⟨M7', hO8, hl8, n7⟩ := unp M4 h0 M6
              obtain ⟨M8, n8⟩ := bkw M7' n7 hio hl5 hs5.2 hb7
              exact ⟨zs, us, O6, by simp, M8, hO8, n8, hl8, dpa_mono (((Ext.grow sb4).trans E5).trans E6).sub _ _ r3, (E4.trans E5).trans E6⟩
  · have e : i = xs.length := by omega
    subst e
    have hn : (xs.map r)[xs.length]? = none := by simp
    refine .inl ⟨it2 hn, ?_⟩
    rw [List.drop_length] at hf3
    simp only [lcL, Option.some.injEq, Prod.mk.injEq] at hf3
    obtain ⟨ew, es'⟩ := hf3
    subst ew es'
    rw [List.append_nil] at hys
    subst hys
    exact fin H3 O3 us M3 hO3 n3 hl3 r3 E3
/-- a turn of the outer walk gives a list -/
def lcM {α β S : Type} (step : α → S → Option (List β × S)) : List α → S → Option (List β × S)
  | [], s => some ([], s)
  | x :: xs, s => match step x s with
    | none => none
    | some (zs, s') => match lcM step xs s' with
      | none => none
      | some (ys, s'') => some (zs ++ ys, s'')
structure Lc2Ok (X : Cx) (tg : Expr) (ifs : List Expr) (tg1 iter1 : Expr) (ifs1 : List Expr) (elt : Expr) (scope : Scope) (vs vs1 : List Nat) {α α1 β S S1 : Type} (r : α → D) (r1 : α1 → D) (r' : β → D) (ρS : S → Rho) (ρS1 : S1 → Rho) (step : α → S → Option (List β × S)) (step1 : α1 → S1 → Option (Option β × S1)) : Prop where
  free : ∀ s, blank (ρS s) vs = ρS s
  len : ∀ s s', (ρS s').length = (ρS s).length
  inn : LcOk X tg1 ifs1 elt scope vs1 r1 r' ρS1 step1
  turn : ∀ x s q, step x s = some q → ∀ s0 H0 C cl fp, GX (bk X scope s0 H0 C cl fp) tg (r x) (ρS s) vs fun ρ2 => ∀ s1 H1 C1 cl1 fp1, TsX (bk X scope s1 H1 C1 cl1 fp1) ifs ρ2 fun b ρ3 =>
    (b = true → ∀ s2 H2 C2 cl2 fp2, IX (bk X scope s2 H2 C2 cl2 fp2) tg1 iter1 ρ3 fun items ρ4 => ∃ (xs1 : List α1) (s10 : S1) (ys1 : List β) (s11 : S1), items = xs1.map r1 ∧ Weak ρ4 (ρS1 s10) ∧ lcL step1 xs1 s10 = some (ys1, s11) ∧ ∃ s', q = (ys1, s') ∧ blank (ρS1 s11) vs = ρS s') ∧
    (b = false → ∃ s', q = ([], s') ∧ blank ρ3 vs = ρS s')
def bI (X : Cx) (scope : Scope) (tg1 iter1 : Expr) : TI := fun σ H R => ∀ s0 H0 C cl fp, wIt (bk X scope s0 H0 C cl fp) tg1 iter1 σ H R
theorem lc2_read {α α1 β S S1 : Type} {r : α → D} {r1 : α1 → D} {r' : β → D} {ρS : S → Rho} {ρS1 : S1 → Rho} {vs vs1 : List Nat} {W : Wd} {σ : L2.St} {H : Hp} {O : Addr → Prop} {k : Ct → Rho → Prop} {Q : VK} (M : Mt X.K W ρ σ H O)
    (h : IX X tg iter ρ fun items ρ1 => ∃ (step : α → S → Option (List β × S)) (step1 : α1 → S1 → Option (Option β × S1)) (xs : List α) (s0 : S) (ys : List β) (s1 : S), items = xs.map r ∧ Weak ρ1 (ρS s0) ∧ lcM step xs s0 = some (ys, s1) ∧ Lc2Ok X tg ifs tg1 iter1 ifs1 elt scope vs vs1 r r1 r' ρS ρS1 step step1 ∧ ys.length ≤ sizeLine ∧ k (.lst (ys.map r')) (ρS s1))
    (q : ∀ p us ds ρ' H' O', Mt X.K W ρ' σ H' O' → O' p → (∀ (j : Nat) b es, ρ'[j]? = some (Sl.own b es) → σ[j]? ≠ some (some (V.ref p))) → W.H0 p = none → H' p = some us → CtOk X.K (cut O' H') us ds → Ext H O H' O' → k ds ρ' → Q (.ref p) H') :
    tLc2 (wIt X tg iter) (bG X scope tg) (bTs X scope ifs) (bI X scope tg1 iter1) (bG X scope tg1) (bTs X scope ifs1) (bE X scope elt) vs vs1 σ H Q := by
  refine h W σ H O M _ fun J items ρ1 H1 O1 M1 E1 it _ hk => ?_
  obtain ⟨step, step1, xs, s0, ys, s1, rfl, w0, hf, ⟨free, slen, inn, turn⟩, hlen, hk⟩ := hk
  intro dd hd
  have sb1 : Sub H1 (upd H1 dd (.lst [])) := Sub.upd hd
  obtain ⟨M2, E2, n2, h0⟩ := M1.new_list hd sb1 upd_same
  refine ⟨fun i m H' => m = xs.length - i ∧ i ≤ xs.length ∧ ∃ s zs us O' ws, Mt X.K W (ρS s) σ H' O' ∧ O' dd ∧ NotAt (ρS s) σ dd ∧ H' dd = some (.lst us) ∧ DpAll X.K (cut O' H') us (zs.map r') ∧ Ext H1 O1 H' O' ∧ lcM step (xs.drop i) s = some (ws, s1) ∧ zs ++ ws = ys,
    ⟨xs.length, by simp, Nat.zero_le _, s0, [], [], _, ys, M2.weak w0, .inr rfl, fun j b es hj => ?_, upd_same, .nil, E2, hf, rfl⟩, ?_⟩
  · rcases w0.at j _ hj with z | ⟨z, _⟩
    · exact n2 j b es z
    · cases z
  rintro i m H3 ⟨rfl, hi, s, zs, us, O3, ws, M3, hO3, n3, hl3, r3, E3, hf3, hys⟩
  obtain ⟨it1, it2⟩ := it H3 O3 E3 M3.ex i
  by_cases hlt : i < xs.length
  · have hx : xs[i]? = some xs[i] := List.getElem?_eq_getElem hlt
    obtain ⟨go, yl⟩ := it1 (r xs[i]) (by rw [List.getElem?_map, hx]; rfl)
    rw [List.drop_eq_getElem_cons hlt] at hf3
    unfold lcM at hf3
    cases hst : step xs[i] s with
    | none => rw [hst] at hf3; cases hf3
    | some qq =>
      obtain ⟨o, s'⟩ := qq
      rw [hst] at hf3
      simp only at hf3
      cases hrest : lcM step (xs.drop (i + 1)) s' with
      | none => rw [hrest] at hf3; cases hf3
      | some q2 =>
        obtain ⟨ws', sE⟩ := q2
        rw [hrest] at hf3
        simp only [Option.some.injEq, Prod.mk.injEq] at hf3
        obtain ⟨ew, es'⟩ := hf3
        subst es'
        have bl := free s
        have hio := hio_of M3 bl
        refine .inr ⟨go, fun H' => ∃ us' O', Mt X.K W (ρS s') σ H' O' ∧ O' dd ∧ NotAt (ρS s') σ dd ∧ H' dd = some (.lst us') ∧ DpAll X.K (cut O' H') us' ((zs ++ o).map r') ∧ Ext H1 O1 H' O', fun H' ⟨us', O', M', a1, a2, a3, a4, E'⟩ => ⟨xs.length - (i + 1), by omega, rfl, hlt, s', zs ++ o, us', O', ws', M', a1, a2, a3, a4, E', hrest, ?_⟩, fun x H4 y => ?_⟩
        · rw [List.append_assoc, ew, hys]
        · obtain ⟨sb4, rx⟩ := yl x H4 y
          have M4 := M3.grow sb4
          have hl4 : H4 dd = some (.lst us) := sb4 _ _ hl3
          have prot : Mt X.K (W.prot dd (.lst us)) (ρS s) (wipe σ vs) H4 O3 := (part_w M4 bl).prot' h0 hl4 hO3 (not_w n3 bl)
          have E4 : Ext H1 O1 H4 O3 := E3.trans (Ext.grow sb4)
          intro s0' H0' C cl fp
          refine turn xs[i] s (o, s') hst s0' H0' C cl fp _ _ H4 O3 x prot rx _ fun ρ5 σ5 H5 O5 M5 E5 hs5 h5 => ⟨?_, fun s1' H1' C1 cl1 fp1 => ?_⟩
          · exact wipe_eq (hs5.1.trans (wipe_length σ vs)) fun j hj => by rw [hs5.2 j hj, wipe_out hj]
          · have hl5 : σ5.length = σ.length := hs5.1.trans (wipe_length σ vs)
            refine h5 s1' H1' C1 cl1 fp1 _ σ5 H5 O5 M5 _ fun b ρ6 H6 O6 M6 E6 ⟨h6, h7⟩ => ?_
            cases b with
            | true =>
              refine iteT fun s2' H2' C2 cl2 fp2 => h6 rfl s2' H2' C2 cl2 fp2 _ σ5 H6 O6 M6 _ fun J1 items1 ρ7 H7 O7 M7 E7 itd _ ⟨xs1, s10, ys1, s11, e1, w1, hf1, s7, e7, hb7⟩ => ?_
              subst e1
              cases e7
              obtain ⟨M7', hO8, hl8, n7⟩ := unp M4 h0 M7
              have r7 := dpa_mono ((((Ext.grow sb4).trans E5).trans E6).trans E7).sub _ _ r3
              refine acc_loop (zs0 := zs) (M7'.weak w1) hO8 (fun j b es hj => ?_) h0 hl8 r7 itd ?_ hf1 inn fun H' O' us' M9 g1 g2 g3 g4 g5 => ?_
              · rcases w1.at j _ hj with z | ⟨z, _⟩
                · exact n7 j b es z
                · cases z
              · have h8 := congrArg List.length hys
                rw [← ew, List.length_append, List.length_append] at h8
                omega
              · obtain ⟨M10, n10⟩ := bkw M9 g2 hio hl5 hs5.2 hb7
                exact ⟨us', O', M10, g1, n10, g3, g4, (((E4.trans E5).trans E6).trans E7).trans g5⟩
            | false =>
              obtain ⟨s7, e7, hb7⟩ := h7 rfl
              cases e7
              refine iteF ?_
              obtain ⟨M7', hO8, hl8, n7⟩ := unp M4 h0 M6
              obtain ⟨M8, n8⟩ := bkw M7' n7 hio hl5 hs5.2 hb7
              exact ⟨us, O6, M8, hO8, n8, hl8, by rw [List.append_nil]; exact dpa_mono (((Ext.grow sb4).trans E5).trans E6).sub _ _ r3, (E4.trans E5).trans E6⟩
  · have e : i = xs.length := by omega
    subst e
    have hn : (xs.map r)[xs.length]? = none := by simp
    refine .inl ⟨it2 hn, ?_⟩
    rw [List.drop_length] at hf3
    simp only [lcM, Option.some.injEq, Prod.mk.injEq] at hf3
    obtain ⟨ew, es'⟩ := hf3
    subst ew es'
    rw [List.append_nil] at hys
    subst hys
    exact q dd (.lst us) (.lst _) _ H3 O3 M3 hO3 n3 h0 hl3 r3 (E1.trans E3) hk
theorem f_lc2 {α α1 β S S1 : Type} {r : α → D} {r1 : α1 → D} {r' : β → D} {ρS : S → Rho} {ρS1 : S1 → Rho} {vs1 : List Nat} {k : Ct → Rho → Prop} (hc : X.calm = true) (hN : X.N.Nodup) (ok : BlkOk X.N X.env.scope scope own) (hv : ∀ i ∈ vs1, i ∈ own.map (·.2))
    (h : IX X tg iter ρ fun items ρ1 => ∃ (step : α → S → Option (List β × S)) (step1 : α1 → S1 → Option (Option β × S1)) (xs : List α) (s0 : S) (ys : List β) (s1 : S), items = xs.map r ∧ Weak ρ1 (ρS s0) ∧ lcM step xs s0 = some (ys, s1) ∧ Lc2Ok X tg ifs tg1 iter1 ifs1 elt scope (own.map (·.2)) vs1 r r1 r' ρS ρS1 step step1 ∧ ys.length ≤ sizeLine ∧ k (.lst (ys.map r')) (ρS s1))
    (hs : ∀ x, foldedSetIterable iter X.env x = pure x := by intro _; rfl) (hs1 : ∀ env x, foldedSetIterable iter1 env x = pure x := by intro _ _; rfl) : FX X (.ListComp elt [⟨tg, iter, ifs, 0⟩, ⟨tg1, iter1, ifs1, 0⟩] scope pos) ρ k := fun W σ H O M Q q =>
  (pe_lc2 hc hN pi_w ok hv (fun _ _ _ _ _ => ⟨fun pins s σ H v u Q I r h => h _ _ _ _ _ pins s u I r⟩) (fun _ _ _ _ _ => ⟨fun pins s σ H Q I h => h _ _ _ _ _ pins s I⟩) (fun _ _ _ _ _ => ⟨fun pins s σ H R I h => h _ _ _ _ _ pins s I⟩)
    (fun _ _ _ _ _ => ⟨fun pins s σ H v u Q I r h => h _ _ _ _ _ pins s u I r⟩) (fun _ _ _ _ _ => ⟨fun pins s σ H Q I h => h _ _ _ _ _ pins s I⟩) (fun _ _ _ _ _ => ⟨fun pins s σ H Q I h => h _ _ _ _ _ pins s I⟩) hs hs1).w (lc2_read M h q)
/-- y = [.. for .. for ..] on one line -/
theorem s_lc2 {α α1 β S S1 : Type} {r : α → D} {r1 : α1 → D} {r' : β → D} {ρS : S → Rho} {ρS1 : S1 → Rho} {vs1 : List Nat} {N : Wish} {i : Nat} {y : Str} {py spos : Pos} (hc : X.calm = true) (hN : X.N.Nodup) (hy : X.N[i]? = some y) (hyl : X.env.scope.names.lookup y = some .local) (ok : BlkOk X.N X.env.scope scope own) (hv : ∀ i ∈ vs1, i ∈ own.map (·.2))
    (hsw : swapsWith (.ListComp elt [⟨tg, iter, ifs, 0⟩, ⟨tg1, iter1, ifs1, 0⟩] scope pos) (some (.Name y py)) spos.line X.env = pure true)
    (h : IX X tg iter ρ fun items ρ1 => ∃ (step : α → S → Option (List β × S)) (step1 : α1 → S1 → Option (Option β × S1)) (xs : List α) (s0 : S) (ys : List β) (s1 : S), items = xs.map r ∧ Weak ρ1 (ρS s0) ∧ lcM step xs s0 = some (ys, s1) ∧ Lc2Ok X tg ifs tg1 iter1 ifs1 elt scope (own.map (·.2)) vs1 r r1 r' ρS ρS1 step step1 ∧ ys.length ≤ sizeLine ∧
      isIo (ρS s1)[i]? = false ∧ N.nx ((ρS s1).set i (.own false (.lst (ys.map r')))))
    (hs : ∀ x, foldedSetIterable iter X.env x = pure x := by intro _; rfl) (hs1 : ∀ env x, foldedSetIterable iter1 env x = pure x := by intro _ _; rfl) : SX X (.Assign [.Name y py] (.ListComp elt [⟨tg, iter, ifs, 0⟩, ⟨tg1, iter1, ifs1, 0⟩] scope pos) spos) ρ N := fun W σ H O M Dn q =>
  (ps_setLc2 hc hN hy hyl hsw pi_w ok hv (fun _ _ _ _ _ => ⟨fun pins s σ H v u Q I r h => h _ _ _ _ _ pins s u I r⟩) (fun _ _ _ _ _ => ⟨fun pins s σ H Q I h => h _ _ _ _ _ pins s I⟩) (fun _ _ _ _ _ => ⟨fun pins s σ H R I h => h _ _ _ _ _ pins s I⟩)
    (fun _ _ _ _ _ => ⟨fun pins s σ H v u Q I r h => h _ _ _ _ _ pins s u I r⟩) (fun _ _ _ _ _ => ⟨fun pins s σ H Q I h => h _ _ _ _ _ pins s I⟩) (fun _ _ _ _ _ => ⟨fun pins s σ H Q I h => h _ _ _ _ _ pins s I⟩) hs hs1).w
    (lc2_read (k := fun ds ρ1 => isIo ρ1[i]? = false ∧ N.nx (ρ1.set i (.own false ds))) M h fun p us ds ρ' H' O' M' hp hn h0 hl r hx ⟨h1, h2⟩ => q.nx _ _ H' O' (M'.adopt h1 hp hn h0 hl r) hx h2)
end
end Lk

set_option Elab.async false
set_option linter.all false
set_option maxRecDepth 100000
namespace Lk
open PySem PySem.Spec PyProof.Rows L2 RZ
/-! ### dicts of one's own: keys ints and texts -/
def keyD : Key → D
  | .inl i => .int i
  | .inr x => .str x
def toKey : D → Option Key
  | .int i => some (.inl i)
  | .str x => some (.inr x)
  | _ => none
theorem toKey_ok {d : D} {k : Key} (h : toKey d = some k) : d = keyD k := by
  unfold toKey at h
  split at h <;> cases h <;> rfl
theorem kV_of {K : PySem.W.Frag} {H : Hp} {v : V} {k : Key} (h : Dp K H v (keyD k)) : v = kV k := by
  cases k with
  | inl i => cases h; rfl
  | inr x => cases h; rfl
def valD (kvs : List (Key × D)) (k : Key) : Option D := (kvs.find? fun kv => decide (kv.1 = k)).map (·.2)
def putD (kvs : List (Key × D)) (k : Key) (v : D) : List (Key × D) :=
  if (kvs.any fun kv => decide (kv.1 = k)) = true then kvs.map (fun kv => if kv.1 = k then (kv.1, v) else kv) else kvs ++ [(k, v)]
def mergeD (kvs more : List (Key × D)) : List (Key × D) := more.foldl (fun acc kv => putD acc kv.1 kv.2) kvs
section
variable {K : PySem.W.Frag} {H : Hp}
theorem kv_len : ∀ {a : List (Key × V)} {b : List (Key × D)}, KvOk K H a b → a.length = b.length
  | [], [], _ => rfl
  | (_, _) :: r, (_, _) :: s, h => congrArg (· + 1) (kv_len h.2.2)
  | [], _ :: _, h => h.elim
  | _ :: _, [], h => h.elim
theorem kv_val : ∀ {a : List (Key × V)} {b : List (Key × D)}, KvOk K H a b → ∀ k : Key, (valD b k = none ∧ valV a k = none) ∨ ∃ v d, valD b k = some d ∧ valV a k = some v ∧ Dp K H v d
  | [], [], _, k => .inl ⟨rfl, rfl⟩
  | (x, v) :: r, (y, d) :: s, h, k => by
    obtain ⟨rfl, h1, h2⟩ := h
    by_cases e : x = k
    · exact .inr ⟨v, d, by simp [valD, List.find?_cons, e], by simp [valV, List.find?_cons, e], h1⟩
    · rcases kv_val h2 k with ⟨g1, g2⟩ | ⟨v', d', g1, g2, g3⟩
      · exact .inl ⟨by simpa [valD, List.find?_cons, e] using g1, by simpa [valV, List.find?_cons, e] using g2⟩
      · exact .inr ⟨v', d', by simpa [valD, List.find?_cons, e] using g1, by simpa [valV, List.find?_cons, e] using g2, g3⟩
  | [], _ :: _, h, _ => h.elim
  | _ :: _, [], h, _ => h.elim
theorem kv_any : ∀ {a : List (Key × V)} {b : List (Key × D)}, KvOk K H a b → ∀ k : Key, (a.any fun kv => decide (kv.1 = k)) = b.any fun kv => decide (kv.1 = k)
  | [], [], _, k => rfl
  | (x, v) :: r, (y, d) :: s, h, k => by
    obtain ⟨rfl, h1, h2⟩ := h
    rw [List.any_cons, List.any_cons, kv_any h2 k]
  | [], _ :: _, h, _ => h.elim
  | _ :: _, [], h, _ => h.elim
theorem kv_map {w : V} {e : D} (q : Dp K H w e) (k : Key) : ∀ {a : List (Key × V)} {b : List (Key × D)}, KvOk K H a b → KvOk K H (a.map fun kv => if kv.1 = k then (kv.1, w) else kv) (b.map fun kv => if kv.1 = k then (kv.1, e) else kv)
  | [], [], _ => trivial
  | (x, v) :: r, (y, d) :: s, h => by
    obtain ⟨rfl, h1, h2⟩ := h
    rw [List.map_cons, List.map_cons]
    by_cases hx : x = k
    · rw [if_pos hx, if_pos hx]
      exact ⟨rfl, q, kv_map q k h2⟩
    · rw [if_neg hx, if_neg hx]
      exact ⟨rfl, h1, kv_map q k h2⟩
  | [], _ :: _, h => h.elim
  | _ :: _, [], h => h.elim
theorem kv_app {w : V} {e : D} (q : Dp K H w e) (k : Key) : ∀ {a : List (Key × V)} {b : List (Key × D)}, KvOk K H a b → KvOk K H (a ++ [(k, w)]) (b ++ [(k, e)])
  | [], [], _ => ⟨rfl, q, trivial⟩
  | (x, v) :: r, (y, d) :: s, h => ⟨h.1, h.2.1, kv_app q k h.2.2⟩
  | [], _ :: _, h => h.elim
  | _ :: _, [], h => h.elim
theorem kv_put {w : V} {e : D} (q : Dp K H w e) (k : Key) {a : List (Key × V)} {b : List (Key × D)} (h : KvOk K H a b) : KvOk K H (putK a k w) (putD b k e) := by
  unfold putK putD
  rw [kv_any h k]
  split
  · exact kv_map q k h
  · exact kv_app q k h
theorem kv_merge : ∀ {m : List (Key × V)} {n : List (Key × D)} {a : List (Key × V)} {b : List (Key × D)}, KvOk K H m n → KvOk K H a b → KvOk K H (mergeK a m) (mergeD b n)
  | [], [], _, _, _, h => h
  | (x, v) :: r, (y, d) :: s, a, b, h, g => by
    obtain ⟨rfl, h1, h2⟩ := h
    show KvOk K H (mergeK (putK a x v) r) (mergeD (putD b x d) s)
    exact kv_merge h2 (kv_put h1 x g)
  | [], _ :: _, _, _, h, _ => h.elim
  | _ :: _, [], _, _, h, _ => h.elim
theorem ct_dK {o : HO} {kvs : List (Key × D)} (h : CtOk K H o (.dK kvs)) : ∃ us, o = .dK us ∧ KvOk K H us kvs := by
  cases o <;> first | exact ⟨_, rfl, h⟩ | exact h.elim
end
section
variable {X : Cx} {ρ : Rho} {pos p : Pos} {a b e f : Expr} {es : List Expr} {N : Wish}
/-- the pairs of a display -/
def DX (X : Cx) : List (Option Expr) → List Expr → Rho → (List (Key × D) → Rho → Prop) → Prop
  | [], [], ρ, k => k [] ρ
  | some kx :: ks, vx :: vs, ρ, k => EX X kx ρ fun d ρ1 => ∃ key, toKey d = some key ∧ EX X vx ρ1 fun e ρ2 => DX X ks vs ρ2 fun kvs ρ3 => k ((key, e) :: kvs) ρ3
  | _, _, _, _ => False
def dTs (X : Cx) : List (Option Expr) → List Expr → List (TE × TE)
  | some kx :: ks, vx :: vs => (wE X kx, wE X vx) :: dTs X ks vs
  | _, _ => []
def dOk : List (Option Expr) → List Expr → Bool
  | [], [] => true
  | some _ :: ks, _ :: vs => dOk ks vs
  | _, _ => false
theorem dpps : ∀ {ks : List (Option Expr)} {vs : List Expr}, dOk ks vs = true → PPs X pos ks vs (dTs X ks vs) ∧ ks.length = vs.length ∧ ks.all (·.isSome) = true
  | [], [], _ => ⟨pps_nil, rfl, rfl⟩
  | some kx :: ks, vx :: vs, h => by
    obtain ⟨h1, h2, h3⟩ := dpps (ks := ks) (vs := vs) h
    exact ⟨pps_cons pe_w pe_w h1, congrArg (· + 1) h2, by rw [List.all_cons, h3]; rfl⟩
  | [], _ :: _, h => by cases h
  | none :: _, [], h => by cases h
  | none :: _, _ :: _, h => by cases h
  | some _ :: _, [], h => by cases h
theorem dx_read : ∀ {ks : List (Option Expr)} {vs : List Expr} {ρ : Rho} {k : List (Key × D) → Rho → Prop} {W : Wd} {σ : L2.St} {H : Hp} {O : Addr → Prop} {Q : List (V × V) → Hp → Prop}, DX X ks vs ρ k → Mt X.K W ρ σ H O →
    (∀ (us : List (Key × V)) (kvs : List (Key × D)) ρ' H' O', Mt X.K W ρ' σ H' O' → Ext H O H' O' → KvOk X.K (cut O' H') us kvs → k kvs ρ' → Q (us.map fun kv => (kV kv.1, kv.2)) H') → tPairs (dTs X ks vs) σ H Q
  | [], [], ρ, k, W, σ, H, O, Q, h, M, q => q [] [] ρ H O M (Ext.refl _ _) trivial h
  | some kx :: ks, vx :: vs, ρ, k, W, σ, H, O, Q, h, M, q => by
    refine h W σ H O M _ fun v d ρ1 H1 O1 M1 E1 r1 ⟨key, hk, h2⟩ => h2 W σ H1 O1 M1 _ fun w e ρ2 H2 O2 M2 E2 r2 h3 => dx_read h3 M2 fun us kvs ρ3 H3 O3 M3 E3 hkv hk3 => ?_
    have r1' := r1
    rw [toKey_ok hk] at r1'
    rw [kV_of r1']
    exact q ((key, w) :: us) ((key, e) :: kvs) ρ3 H3 O3 M3 ((E1.trans E2).trans E3) ⟨rfl, dp_mono E3.sub _ _ r2, hkv⟩ hk3
  | [], _ :: _, _, _, _, _, _, _, _, h, _, _ => h.elim
  | none :: _, [], _, _, _, _, _, _, _, h, _, _ => h.elim
  | none :: _, _ :: _, _, _, _, _, _, _, _, h, _, _ => h.elim
  | some _ :: _, [], _, _, _, _, _, _, _, h, _, _ => h.elim
theorem f_disp {ks : List (Option Expr)} {vs : List Expr} {k : Ct → Rho → Prop} (hd : dOk ks vs = true) (h0 : ks ≠ []) (h15 : ks.length ≤ 15) (h : DX X ks vs ρ fun kvs ρ1 => kvs.length ≤ 15 ∧ k (.dK (mergeD [] kvs)) ρ1) : FX X (.Dict ks vs pos) ρ k := fun W σ H O M Q q => by
  obtain ⟨h1, h2, h3⟩ := dpps (X := X) (pos := pos) hd
  refine (pe_disp h1 h3 h2 h0 h15).w fun pp hp => ?_
  obtain ⟨M2, E2, n2, hz⟩ := M.new_list (us := .dK []) hp (Sub.upd hp) upd_same
  have prot : Mt X.K (W.prot pp (.dK [])) ρ σ _ _ := M2.prot' hz upd_same (.inr rfl) n2
  refine dx_read h prot fun us kvs ρ3 H3 O3 M3 E3 hkv ⟨hl, hk⟩ => ?_
  obtain ⟨M4, hO, hH, n4⟩ := unp M2 hz M3
  refine ⟨hH, us, rfl, by rw [kv_len hkv]; exact hl, ?_⟩
  obtain ⟨M5, E5⟩ := M4.other (u := .dK (mergeK [] us)) hz hO n4
  exact q pp _ (.dK (mergeD [] kvs)) ρ3 _ O3 M5 hO n4 hz upd_same (kv_mono E5.sub (kv_merge hkv trivial)) ((E2.trans E3).trans E5) hk
theorem own_dK {K : PySem.W.Frag} {W : Wd} {σ : L2.St} {H : Hp} {O : Addr → Prop} {i : Nat} {c : Bool} {kvs : List (Key × D)} (M : Mt K W ρ σ H O) (hs : ρ[i]? = some (Sl.own c (.dK kvs))) : ∃ p us, σ[i]? = some (some (V.ref p)) ∧ O p ∧ H p = some (HO.dK us) ∧ KvOk K (cut O H) us kvs := by
  obtain ⟨p, u, h1, h2, h3, h4, _⟩ := M.own i c _ hs
  obtain ⟨us, rfl, h5⟩ := ct_dK h4
  exact ⟨p, us, h1, h2, h3, h5⟩
/-- d[k] -/
theorem x_dget {i : Nat} {x : Str} {py : Pos} {k : D → Rho → Prop} (hr : ∃ k, Room k X.A) (hN : X.N[i]? = some x) (hv : Vis X.env.scope x) (h : EX X b ρ fun dy ρ2 => ∃ c kvs key d, toKey dy = some key ∧ ρ2[i]? = some (Sl.own c (.dK kvs)) ∧ valD kvs key = some d ∧ k d ρ2)
    (hs : NoSl b) (hw : ∃ c kvs, ρ[i]? = some (Sl.own c (.dK kvs))) (hd : (x == ("__debug__" : Str)) = false) (hcd : (x == ("__classdict__" : Str)) = false) : EX X (.Subscript (.Name x py) b pos) ρ k := fun W σ H O M Q q => by
  obtain ⟨n, hr⟩ := hr
  obtain ⟨c0, kv0, hw⟩ := hw
  obtain ⟨p0, u0, e0, _⟩ := own_dK M hw
  refine (pe_dget (hu_of hr) (pe_var hN hv hd hcd) pe_w hs).w ⟨_, e0, h W σ H O M _ fun y dy ρ2 H2 O2 M2 E2 r ⟨c, kvs, key, d, hk, hi, hg, hk2⟩ => ?_⟩
  obtain ⟨p1, us, f1, f2, f3, f4⟩ := own_dK M2 hi
  rw [e0] at f1
  cases f1
  rw [toKey_ok hk] at r
  rcases kv_val f4 key with ⟨g1, _⟩ | ⟨v, d', g1, g2, g3⟩
  · rw [hg] at g1; cases g1
  · rw [hg] at g1
    cases g1
    exact ⟨p0, v, rfl, .inl ⟨us, key, .of f3, kV_of r, g2.symm⟩, q v d ρ2 H2 O2 M2 E2 g3 hk2⟩
/-- k in d -/
theorem x_din {i : Nat} {x : Str} {py : Pos} (hr : ∃ k, Room k X.A) (hN : X.N[i]? = some x) (hv : Vis X.env.scope x) {b : Bool} {dy : D} {ρ2 : Rho} {key : Key} {c : Bool} {kvs : List (Key × D)} (h : ∀ k : D → Rho → Prop, k dy ρ2 → EX X a ρ k) (hk : toKey dy = some key) (hi : ρ2[i]? = some (Sl.own c (.dK kvs)))
    (hd : (x == ("__debug__" : Str)) = false) (hcd : (x == ("__classdict__" : Str)) = false) :
    (∀ k : D → Rho → Prop, k (.bool (valD kvs key).isSome) ρ2 → EX X (.Compare a [.In] [.Name x py] pos) ρ k) ∧ (∀ k : Bool → Rho → Prop, k (valD kvs key).isSome ρ2 → TX X (.Compare a [.In] [.Name x py] pos) ρ k) ∧
    (∀ k : D → Rho → Prop, k (.bool (!(valD kvs key).isSome)) ρ2 → EX X (.Compare a [.NotIn] [.Name x py] pos) ρ k) ∧ (∀ k : Bool → Rho → Prop, k (!(valD kvs key).isSome) ρ2 → TX X (.Compare a [.NotIn] [.Name x py] pos) ρ k) := by
  obtain ⟨n, hr⟩ := hr
  have core : ∀ {W : Wd} {σ : L2.St} {H : Hp} {O : Addr → Prop}, Mt X.K W ρ2 σ H O → ∀ {y : V}, Dp X.K (cut O H) y dy → ∃ p o, σ[i]? = some (some (V.ref p)) ∧ DGet H p y o ∧ o.isSome = (valD kvs key).isSome := fun {W σ H O} M {y} r => by
    obtain ⟨p1, us, f1, f2, f3, f4⟩ := own_dK M hi
    rw [toKey_ok hk] at r
    rcases kv_val f4 key with ⟨g1, g2⟩ | ⟨v, d', g1, g2, g3⟩
    · exact ⟨p1, none, f1, .inl ⟨us, key, .of f3, kV_of r, g2.symm⟩, by rw [g1]; rfl⟩
    · exact ⟨p1, some v, f1, .inl ⟨us, key, .of f3, kV_of r, g2.symm⟩, by rw [g1]; rfl⟩
  refine ⟨fun k hk2 W σ H O M Q q => ?_, fun k hk2 W σ H O M Q q => ?_, fun k hk2 W σ H O M Q q => ?_, fun k hk2 W σ H O M Q q => ?_⟩
  · refine (pe_cmp (pc_din (hu_of hr) pe_w (pe_var hN hv hd hcd)) rfl).w (h (fun d' ρ' => d' = dy ∧ ρ' = ρ2) ⟨rfl, rfl⟩ W σ H O M _ fun y d' ρ' H2 O2 M2 E2 r ⟨e1, e2⟩ => ?_)
    subst e1 e2
    obtain ⟨p1, o, f1, f2, f3⟩ := core M2 r
    exact ⟨_, f1, p1, o, rfl, f2, by rw [f3]; exact q _ _ _ H2 O2 M2 E2 (.bl _) hk2⟩
  · refine (pt_cmp (pc_din (hu_of hr) pe_w (pe_var hN hv hd hcd)) rfl).w (h (fun d' ρ' => d' = dy ∧ ρ' = ρ2) ⟨rfl, rfl⟩ W σ H O M _ fun y d' ρ' H2 O2 M2 E2 r ⟨e1, e2⟩ => ?_)
    subst e1 e2
    obtain ⟨p1, o, f1, f2, f3⟩ := core M2 r
    exact ⟨_, f1, p1, o, rfl, f2, _, rfl, by rw [f3]; exact q _ _ H2 O2 M2 E2 hk2⟩
  · refine (pe_cmp (pc_dnotin (hu_of hr) pe_w (pe_var hN hv hd hcd)) rfl).w (h (fun d' ρ' => d' = dy ∧ ρ' = ρ2) ⟨rfl, rfl⟩ W σ H O M _ fun y d' ρ' H2 O2 M2 E2 r ⟨e1, e2⟩ => ?_)
    subst e1 e2
    obtain ⟨p1, o, f1, f2, f3⟩ := core M2 r
    exact ⟨_, f1, p1, o, rfl, f2, by rw [f3]; exact q _ _ _ H2 O2 M2 E2 (.bl _) hk2⟩
  · refine (pt_cmp (pc_dnotin (hu_of hr) pe_w (pe_var hN hv hd hcd)) rfl).w (h (fun d' ρ' => d' = dy ∧ ρ' = ρ2) ⟨rfl, rfl⟩ W σ H O M _ fun y d' ρ' H2 O2 M2 E2 r ⟨e1, e2⟩ => ?_)
    subst e1 e2
    obtain ⟨p1, o, f1, f2, f3⟩ := core M2 r
    exact ⟨_, f1, p1, o, rfl, f2, _, rfl, by rw [f3]; exact q _ _ H2 O2 M2 E2 hk2⟩
end
end Lk

set_option Elab.async false
set_option linter.all false
set_option maxRecDepth 100000
namespace Lk
open PySem PySem.Spec PyProof.Rows L2 RZ
/-! ### a dict of the module, read by get -/
structure GDk (P : Program) (w : World) (K : PySem.W.Frag) (a : Addr) (kvs : List (Key × D)) : Prop where
  ex : ∃ (o : Obj) (es : Array DictEntry) (ep : Nat) (vs : List (Key × Value)), K.lookup a = some o ∧ o.ExactDict ∧ o.dict = none ∧ o.data = .dict es ep ∧ PySem.KeysOf (mixKind P w) es ∧ PySem.Pairs (mixKind P w) es.toList vs ∧ (vs.map (·.1)).Nodup ∧ (a == sysModules) = false ∧
    ∀ k, (valueAt vs k = none ∧ valD kvs k = none) ∨ ∃ v d r, valueAt vs k = some v ∧ valD kvs k = some d ∧ RelV r v ∧ ∀ H, Dp K H r d
section
variable {X : Cx} {ρ : Rho} {e f : Expr} {x : Str} {p apos cpos : Pos}
theorem x_gget {a : Addr} {kvs : List (Key × D)} {k : D → Rho → Prop} (G : GDk X.prog X.w X.K a kvs) (hg : Gl X x) (hm : X.mg x = some (.ref a)) (m : M2 X (.Name x p) "get" apos e f cpos) (hdb : (x == ("__debug__" : Str)) = false)
    (h : EX X e ρ fun d ρ1 => ∃ key, toKey d = some key ∧ EX X f ρ1 fun z ρ2 => k ((valD kvs key).getD z) ρ2) : EX X (.Call (.Attribute (.Name x p) "get" apos) [e, f] [] cpos) ρ k := fun W σ H O M Q q pins s I => by
  obtain ⟨o, es, ep, vs, lk, hx, hdict, hdat, hk, hp, hn, hsys, hval⟩ := G.ex
  have dd : ∀ {s' : Shared} {H' : Hp}, Inv X pins σ H' s' → s'.heap.DictOf (mixKind X.prog X.w) a vs := fun {s' H'} I' => ⟨o, es, ep, I'.kIn a o lk, hx, hdat, hk, hp, hn⟩
  refine wpAny_Call_method m.base m.few m.line PySem.F.plainAttrs_dict PySem.F.slot_dict_get PySem.F.type_dict_get (ld_glob I hg hm ?_ hdb)
  refine ⟨(dd I).typeIs, fun b q => ?_, ?_⟩
  · cases q
    exact ⟨o, I.kIn a o lk, hdict⟩
  rw [m.trees]
  refine Calls.callWith_builtin rfl (Calls.evalArgs_plain (Calls.spliced_cons (thn (h W σ H O M (fun y H2 => True ∧ ∃ key ρ1 O1, Mt X.K W ρ1 σ H2 O1 ∧ Ext H O H2 O1 ∧ y = kV key ∧ EX X f ρ1 fun z ρ2 => k ((valD kvs key).getD z) ρ2) ?_ pins s I) fun iv s2 ⟨y, H2, I2, ry, _, key, ρ1, O1, M1, E1, ey, h2⟩ =>
    Calls.spliced_cons (thn (h2 W σ H2 O1 M1 (fun z H3 => ∃ d ρ2 O2, Mt X.K W ρ2 σ H3 O2 ∧ Ext H2 O1 H3 O2 ∧ Dp X.K (cut O2 H3) z d ∧ k ((valD kvs key).getD d) ρ2) (fun z d ρ2 H3 O2 M2 E2 r2 hk2 => ⟨d, ρ2, O2, M2, E2, r2, hk2⟩) pins s2 I2) fun fv s3 ⟨z, H3, I3, rz, d, ρ2, O2, M2, E2, r2, hk2⟩ => Calls.spliced_nil ?_))))
  · intro v d ρ1 H1 O1 M1 E1 r ⟨key, hkey, h2⟩
    rw [toKey_ok hkey] at r
    exact ⟨trivial, key, ρ1, O1, M1, E1, kV_of r, h2⟩
  · subst ey
    refine call_meetsIn PySem.F.slot_dict_get (dd I3).typeIs PySem.F.entry_dict_get (PySem.F.args_dict_get_3 _ _ _) (meets_dict_get_default (mixKind X.prog X.w) a (kV_is ry) hsys fv) ⟨_, (dd I3).mapOf, ?_⟩
    rcases hval key with ⟨g1, g2⟩ | ⟨v, d', r, g1, g2, g3, g4⟩
    · rw [g2] at hk2
      refine ⟨z, H3, I3.tok _, ?_, q z d ρ2 H3 O2 M2 (E1.trans E2) r2 hk2⟩
      rw [g1]; exact rz
    · rw [g2] at hk2
      refine ⟨r, H3, I3.tok _, ?_, q r d' ρ2 H3 O2 M2 (E1.trans E2) (g4 _) hk2⟩
      rw [g1]; exact g3
end
section
variable {X : Cx}
theorem cf_listS {z : Str} (hc : ∃ k, Room k X.A) (hl : z.length ≤ sizeLine) : CallF X (.type "list") [.str z] (signsD z) := fun H O vs Q ex hd q pins s σ us I rv => by
  obtain ⟨k, hr⟩ := hc
  cases hd with
  | cons r1 r2 =>
    cases r2
    cases r1
    obtain ⟨u, rfl, ru⟩ := vals1 rv
    obtain ⟨t, rfl⟩ := ru
    have hlen : z.cps.size = z.cps.toList.length := by rw [Array.length_toList]
    refine call_list_str hr.hd z t (fun h' tk acc c' hk hS hacc => ?_) hl
    have fresh := I.hok.fresh (a := s.heap.objs.size) (Nat.le_refl _)
    have hv : Vals (z.cps.toList.map fun c => V.str ⟨#[c]⟩) acc.toList := by
      refine vals_of_at ?_ fun j x u hx hu => ?_
      · rw [List.length_map, Array.length_toList, Array.length_toList]; exact hacc.1.symm
      · obtain ⟨c, u', hc, rfl⟩ := hacc.2 j u (by rw [← hu, Array.getElem?_toList])
        rw [List.getElem?_map] at hx
        rw [← Array.getElem?_toList] at hc
        rw [hc] at hx
        cases hx
        exact ⟨u', rfl⟩
    have hd : ∀ H', DpAll X.K H' (z.cps.toList.map fun c => V.str ⟨#[c]⟩) (signsD z) := fun H' => by
      unfold signsD
      generalize z.cps.toList = l
      induction l with
      | nil => exact .nil
      | cons c l ih => exact .cons (.str _) ih
    refine ⟨.ref s.heap.objs.size, upd H s.heap.objs.size (.lst _), I.laid (t' := tk) hk (Nat.le_refl _) ⟨?_, acc.toList, c', hv, by rw [Array.toArray_toList]; exact hS⟩, rfl, q _ _ _ fresh (Sub.upd fresh) upd_same (hd _)⟩
    rw [List.length_map, ← hlen]; exact hl
end
section
variable {X : Cx}
theorem od_addIB {i : Int} {b : Bool} : OpD X (binaryOp .Add) (.int i) (.bool b) (.int (i + if b = true then 1 else 0)) := fun H O v u Q _ hx hy q => by
  cases hx; cases hy
  exact OpRw op_add_ib ⟨i, b, rfl, rfl, q _ H (Sub.refl H) (.int _)⟩
theorem op_sub_ib : OpR X (binaryOp .Sub) (fun x y H Q => ∃ i k, x = .int i ∧ y = .bl k ∧ Q (.int (i - if k = true then (1 : Int) else 0)) H) := by
  intro pins s σ H x y v u Q I rx ry h
  obtain ⟨i, k, rfl, rfl, q⟩ := h
  obtain ⟨t, rfl⟩ := rx
  cases ry
  exact PySem.IntBool.sub_int_bool ⟨.int (i - if k = true then (1 : Int) else 0), H, I.tok _, ⟨_, rfl⟩, q⟩
theorem od_subIB {i : Int} {b : Bool} : OpD X (binaryOp .Sub) (.int i) (.bool b) (.int (i - if b = true then 1 else 0)) := fun H O v u Q _ hx hy q => by
  cases hx; cases hy
  exact OpRw op_sub_ib ⟨i, b, rfl, rfl, q _ H (Sub.refl H) (.int _)⟩
theorem cd_ord {z : Str} (h : z.length = 1) : CallD X (.builtin "ord") [.str z] (.int (z.cps.getD 0 0 : Nat)) := fun H O vs Q _ r q => by
  cases r with
  | cons r1 r2 =>
    cases r2; cases r1
    exact CallRw call_ord ⟨_, rfl, h, q _ H (Sub.refl H) (.int _)⟩
theorem cd_intS {z : Str} {n : Int} (h : PySem.intText? z = some n) (hl : z.length ≤ 640) : CallD X (.type "int") [.str z] (.int n) := fun H O vs Q _ r q => by
  cases r with
  | cons r1 r2 =>
    cases r2; cases r1
    exact CallRw call_int_str ⟨_, n, rfl, h, hl, q _ H (Sub.refl H) (.int _)⟩
theorem b_ord : bootBuiltins "ord" = some (.builtin "ord") := by decide +kernel
/-- z[lo:hi] of a text -/
theorem cutS_A (z : Str) (lo hi : Option Int) : cutS z lo hi = ⟨(cutA z.cps.toList lo hi).toArray⟩ := by
  unfold cutS cutA
  rw [Array.length_toList]
  rfl
theorem x_slS {ρ : Rho} {e : Expr} {pos : Pos} {k : D → Rho → Prop} {lo hi : Option Expr} {p2 : Pos} (h : EX X e ρ fun d ρ1 => ∃ z, d = .str z ∧ z.length ≤ sizeLine ∧ OX X lo ρ1 fun l ρ2 => OX X hi ρ2 fun u ρ3 => k (.str ⟨(cutA z.cps.toList l u).toArray⟩) ρ3) : EX X (.Subscript e (.Slice lo hi none p2) pos) ρ k := fun W σ H O M Q q =>
  (pe_slice sl_str pe_w po_w po_w).w (h W σ H O M _ fun v d ρ1 H1 O1 M1 E1 r ⟨z, hd, hz, h1⟩ => by
    subst hd
    refine ox_w h1 M1 fun l ρ2 H2 O2 M2 E2 h2 => ox_w h2 M2 fun u ρ3 H3 O3 M3 E3 hk => ?_
    cases r
    exact ⟨z, rfl, hz, q _ _ ρ3 H3 O3 M3 ((E1.trans E2).trans E3) (cutS_A z l u ▸ .str _) hk⟩)
end
end Lk

set_option Elab.async false
set_option linter.all false
set_option maxRecDepth 100000
namespace Lk
open PySem PySem.Spec PyProof.Rows L2
/-! ### a list times an int, whatever else the list's object bears -/
theorem int_rmul_listW (a : Int) (t : Tok) (l : Addr) (items : Array Value) (n : Nat) (dd : Option Addr) (sl : Array (Option Value)) :
    Meets (Builtin.«int.__rmul__» ⟨[.int a t, .ref l], []⟩) (fun _ R s => s.heap.get? l = some { cls := .type "list", dict := dd, data := .seq items n, slots := sl } ∧ R (.ok (.ret Value.notImplemented)) s) :=
  .of_wp fun prog w A R s h => by obtain ⟨hp, g, d, tk, os⟩ := s; obtain ⟨hl, h⟩ := h; wp_walk using wpAny_loadPart' hl; exact ⟨_, rfl, h⟩
theorem list_mulW (l : Addr) (items : Array Value) (n : Nat) (dd : Option Addr) (sl : Array (Option Value)) (x : Int) (u : Tok) (hc0 : ¬(!Builtin.List.listFitsIndex x) = true) (hc1 : ¬items.size * x.toNat > (2 ^ 63 - 1) / 8) (hc2 : ¬Builtin.List.listTooLong (items.size * x.toNat) = true)
    (hsz : (List.foldl (fun x1 x2 => x1 ++ x2) #[] (List.replicate (if items.isEmpty = true then 0 else x.toNat) items)).size ≤ sizeLine) :
    Meets (Builtin.«list.__mul__» ⟨[.ref l, .int x u], []⟩) (fun _ R s => s.heap.get? l = some { cls := .type "list", dict := dd, data := .seq items n, slots := sl } ∧ R (.ok (.ret (Value.ref s.heap.objs.size))) { s with heap := s.heap.push { cls := Value.type "list", data := Data.seq (List.foldl (fun x1 x2 => x1 ++ x2) #[] (List.replicate (if items.isEmpty = true then 0 else x.toNat) items)) }, toks := s.toks }) :=
  .of_wp fun prog w A R s h => by
    obtain ⟨hp, g, d, tk, os⟩ := s; obtain ⟨hl, h⟩ := h
    wp_walk using wpAny_loadPart' hl; refine wpAny_ite_false (decide_eq_false (Nat.not_lt.mpr hsz)) ?_; wp_walk using wpAny_loadPart' hl; exact ⟨_, rfl, h⟩
theorem dpa_rep {K : PySem.W.Frag} {H : Hp} {us : List V} {ds : List D} (h : DpAll K H us ds) : ∀ n : Nat, DpAll K H (List.replicate n us).flatten (List.replicate n ds).flatten
  | 0 => .nil
  | n + 1 => by
    rw [List.replicate_succ, List.replicate_succ, List.flatten_cons, List.flatten_cons]
    exact dpa_app h (dpa_rep h n)
section
variable {X : Cx}
theorem of_rep {xs : List D} {k : Int} (h1 : -(2 ^ 63) ≤ k) (h2 : k < 2 ^ 63) (hz0 : xs.length * k.toNat ≤ sizeLine) : OpF X (binaryOp .Mult) (.list xs) (.int k) (List.replicate k.toNat xs).flatten := fun H O x y Q ex rx ry q pins s σ v u I r1 r2 => by
  cases rx with
  | @lst l us _ hs ha =>
    cases ry
    obtain rfl : v = Value.ref l := r1
    obtain ⟨t, rfl⟩ := r2
    obtain ⟨its, rv, pl, hz3⟩ := I.list (cut_sub.l hs)
    obtain ⟨⟨cls, dd, data, sl⟩, ho, hc, n, hd⟩ := pl.isList
    simp only at hc hd
    subst hc hd
    have hll : its.length = xs.length := by rw [← rv.length, dpa_len ha]
    have hlen : its.toArray.size * k.toNat ≤ sizeLine := by rw [List.size_toArray, hll]; exact hz0
    have hcap : ¬ its.toArray.size * k.toNat > (2 ^ 63 - 1) / 8 := by
      have : (sizeLine : Nat) ≤ (2 ^ 63 - 1) / 8 := by decide
      omega
    have hfit : ¬ (!Builtin.List.listFitsIndex k) = true := by
      rw [fitsIndex_both h1 h2]
      exact Bool.false_ne_true
    have hlong : ¬ Builtin.List.listTooLong (its.toArray.size * k.toNat) = true := by
      rw [notLongL hlen]
      exact Bool.false_ne_true
    have hnew : List.foldl (fun x1 x2 => x1 ++ x2) #[] (List.replicate (if its.toArray.isEmpty = true then 0 else k.toNat) its.toArray) = (List.replicate k.toNat its).flatten.toArray := by
      have f0 : ∀ m : Nat, List.foldl (fun x1 x2 => x1 ++ x2) #[] (List.replicate m its.toArray) = (List.replicate m its).flatten.toArray := fun m => by
        have := foldl_rep its m []
        rw [List.nil_append] at this
        exact this
      rw [f0]
      cases its with
      | nil => simp
      | cons a r' => rw [if_neg (by simp)]
    have hsz : (List.foldl (fun x1 x2 => x1 ++ x2) #[] (List.replicate (if its.toArray.isEmpty = true then 0 else k.toNat) its.toArray)).size ≤ sizeLine := by
      rw [hnew, List.size_toArray, PyProof.Rows.lm_len_rep_flat, Nat.mul_comm, hll]; exact hz0
    refine wpAny_binaryOp_repeat_ref (T := "list") (U := "int") (by decide) ⟨_, ho, rfl⟩ (fun s' => typeIs_int s' k t) noFill_list_mul PySem.F.fills_int_mul PySem.F.slot_int_rmul repeat_list PySem.F.slot_int_index.lookup
      (call_meets PySem.F.slot_int_rmul (typeIs_int s k t) PySem.F.entry_int_rmul (PySem.F.args_int_rmul_2 _ _) (int_rmul_listW k t l its.toArray n dd sl)
        ⟨ho, rfl, ⟨_, ho, rfl⟩, call_meets PySem.F.slot_list_mul ⟨_, ho, rfl⟩ PySem.F.entry_list_mul (PySem.F.args_list_mul_2 _ _) (list_mulW l its.toArray n dd sl k t hfit hcap hlong hsz) ⟨ho, ?_⟩⟩)
    rw [hnew]
    have fresh := I.fresh
    exact ⟨.ref _, _, I.lnew (t' := s.toks) (rv.rep k.toNat) (by rw [PyProof.Rows.lm_len_rep_flat, Nat.mul_comm, dpa_len ha]; exact hz0), rfl, q _ _ _ fresh (Sub.upd fresh) upd_same (dpa_rep ha k.toNat)⟩
end
end Lk

set_option Elab.async false
set_option linter.all false
set_option maxRecDepth 100000
namespace Lk
open PySem PySem.Spec PyProof.Rows L2

/-! ### sets of ints, for as long as an expression lasts -/
/-- e is worth a new set of ints -/
def ZX (X : Cx) (e : Expr) (ρ : Rho) (k : List Int → Rho → Prop) : Prop :=
  ∀ W σ H O, Mt X.K W ρ σ H O → ∀ Q : VK, (∀ p ns ρ' H' O', Mt X.K W ρ' σ H' O' → Ext H O H' O' → IsSet X.w H' p ns → ¬ O' p → (∀ a o, H a = some o → ¬ O a → a ≠ p) → k ns ρ' → Q (.ref p) H') → wE X e σ H Q
theorem isSet_ext {w : World} {H H' : Hp} {O O' : Addr → Prop} {p : Addr} {ns : List Int} (h : IsSet w H p ns) (n : ¬ O p) (e : Ext H O H' O') : IsSet w H' p ns ∧ ¬ O' p := by
  obtain ⟨S, n', h1, h2⟩ := h
  obtain ⟨h3, h4⟩ := e p _ h1 n
  exact ⟨⟨S, n', h3, h2⟩, h4⟩
section
variable {X : Cx} {ρ : Rho} {pos p p2 : Pos} {a b e : Expr}
theorem dp_ints {K : PySem.W.Frag} {H : Hp} {v : V} {ns : List Int} (h : Dp K H v (.list (ns.map .int)) ∨ Dp K H v (.tuple (ns.map .int))) : ∃ l, v = .ref l ∧ (SqL K H l (ns.map V.int) ∨ SqT K H l (ns.map V.int)) := by
  rcases h with h | h
  · cases h with
    | lst hs ha => rw [dpa_ints ha] at hs; exact ⟨_, rfl, .inl hs⟩
  · cases h with
    | tup hs ha => rw [dpa_ints ha] at hs; exact ⟨_, rfl, .inr hs⟩
theorem z_new {W : Wd} {σ : L2.St} {H H1 : Hp} {O O1 : Addr → Prop} {ρ1 : Rho} {k : List Int → Rho → Prop} {Q : VK} (q : ∀ p ns ρ' H' O', Mt X.K W ρ' σ H' O' → Ext H O H' O' → IsSet X.w H' p ns → ¬ O' p → (∀ a o, H a = some o → ¬ O a → a ≠ p) → k ns ρ' → Q (.ref p) H')
    (M1 : Mt X.K W ρ1 σ H1 O1) (E1 : Ext H O H1 O1) {p : Addr} {S : Int → Bool} {n : Nat} {ns : List Int} (hp : H1 p = none) (hs : SetIs S n ns) (hk : k ns ρ1) : Q (.ref p) (upd H1 p (SetO X.w p S n)) := by
  have sb : Sub H1 (upd H1 p (SetO X.w p S n)) := Sub.upd hp
  refine q p ns ρ1 _ O1 (M1.grow sb) (E1.trans (Ext.grow sb)) ⟨S, n, upd_same, hs⟩ (M1.fresh hp) (fun a o h z e => ?_) hk
  have := (E1 a o h z).1
  rw [e, hp] at this
  cases this
/-- set(a) -/
theorem z_set {k : List Int → Rho → Prop} (hc : X.calm = true) (hg : Gl X "set") (hm : X.mg "set" = none) (h : EX X a ρ fun d ρ1 => ∃ ns : List Int, (d = .list (ns.map .int) ∨ d = .tuple (ns.map .int)) ∧ ns.length ≤ 4000 ∧ k (sdd ns) ρ1)
    (he : starEach [a] X.env = (false, eval a X.env) :: starEach [] X.env) : ZX X (.Call (.Name "set" p) [a] [] pos) ρ k := fun W σ H O M Q q =>
  (pe_callTy (cr_setI hc) hg hm b_set (pa_cons pe_w pa_nil he) (by decide) (by decide) he rfl).w (h W σ H O M _ fun v d ρ1 H1 O1 M1 E1 r ⟨ns, hd, hl, hk⟩ => by
    obtain ⟨l, rfl, hq⟩ := dp_ints (K := X.K) (H := cut O1 H1) (v := v) (ns := ns) (hd.elim (fun e => .inl (e ▸ r)) fun e => .inr (e ▸ r))
    exact ⟨l, ns, rfl, hq.elim (fun z => .inl (cut_sub.l z)) fun z => .inr (cut_sub.t z), hl, fun p S n hp hs => z_new q M1 E1 hp hs hk⟩)
/-- set(x), x a list of one's own -/
theorem z_setO {k : List Int → Rho → Prop} {i : Nat} {y : Str} {py : Pos} {c : Bool} {ns : List Int} (hc : X.calm = true) (hg : Gl X "set") (hm : X.mg "set" = none) (hN : X.N[i]? = some y) (hv : Vis X.env.scope y) (hs : ρ[i]? = some (Sl.own c (.lst (ns.map .int)))) (hl : ns.length ≤ 4000) (hk : k (sdd ns) ρ)
    (hd : (y == ("__debug__" : Str)) = false) (hcd : (y == ("__classdict__" : Str)) = false) (he : starEach [Expr.Name y py] X.env = (false, eval (.Name y py) X.env) :: starEach [] X.env) : ZX X (.Call (.Name "set" p) [.Name y py] [] pos) ρ k := fun W σ H O M Q q => by
  obtain ⟨l, us, e1, e2, e3, e4, r⟩ := own_cut M hs
  refine (pe_callTy (cr_setI hc) hg hm b_set (pa_cons (pe_var hN hv hd hcd) pa_nil he) (by decide) (by decide) he rfl).w ⟨_, e1, ?_⟩
  rw [dpa_ints e4] at e3
  exact ⟨l, ns, rfl, .inl (SqL.of e3), hl, fun p S n hp hs => z_new q M (Ext.refl _ _) hp hs hk⟩
theorem z_sub {k : List Int → Rho → Prop} (h : ZX X a ρ fun ns ρ1 => ZX X b ρ1 fun ms ρ2 => ns.length / 4 ≤ ms.length ∧ k (ns.filter fun j => !decide (j ∈ ms)) ρ2) : ZX X (.BinOp a .Sub b pos) ρ k := fun W σ H O M Q q =>
  (pe_op op_setSubR pe_w pe_w).w (h W σ H O M _ fun p1 ns ρ1 H1 O1 M1 E1 s1 n1 d1 h1 => h1 W σ H1 O1 M1 _ fun p2 ms ρ2 H2 O2 M2 E2 s2 n2 d2 ⟨hsz, hk⟩ => by
    obtain ⟨s1', n1'⟩ := isSet_ext s1 n1 E2
    exact ⟨p1, p2, ns, ms, rfl, rfl, s1', s2, hsz, fun p S n hp hs => z_new q M2 (E1.trans E2) hp hs hk⟩)
theorem z_and {k : List Int → Rho → Prop} (h : ZX X a ρ fun ns ρ1 => ZX X b ρ1 fun ms ρ2 => k (ns.filter fun j => decide (j ∈ ms)) ρ2) : ZX X (.BinOp a .BitAnd b pos) ρ k := fun W σ H O M Q q =>
  (pe_op op_setAndR pe_w pe_w).w (h W σ H O M _ fun p1 ns ρ1 H1 O1 M1 E1 s1 n1 d1 h1 => h1 W σ H1 O1 M1 _ fun p2 ms ρ2 H2 O2 M2 E2 s2 n2 d2 hk => by
    obtain ⟨s1', n1'⟩ := isSet_ext s1 n1 E2
    obtain ⟨S, n, e1, _⟩ := s1
    exact ⟨p1, p2, ns, ms, rfl, rfl, d2 _ _ e1 n1, s1', s2, fun p S n hp hs => z_new q M2 (E1.trans E2) hp hs hk⟩)
theorem dpa_I {K : PySem.W.Frag} {H : Hp} : ∀ ns : List Int, DpAll K H (ns.map V.int) (ns.map PyData.int)
  | [] => .nil
  | n :: ns => .cons (.int n) (dpa_I ns)
/-- sorted(..) of a set -/
theorem f_sortedZ {k : Ct → Rho → Prop} (hc : X.calm = true) (hg : Gl X "sorted") (hm : X.mg "sorted" = none) (h : ZX X e ρ fun ns ρ1 => k (.lst (ns.map .int)) ρ1) (he : starEach [e] X.env = (false, eval e X.env) :: starEach [] X.env) : FX X (.Call (.Name "sorted" p) [e] [] pos) ρ k := fun W σ H O M Q q =>
  (pe_callB (cr_sortSet hc) hg hm b_sorted (pa_cons pe_w pa_nil he) (by decide) (by decide) he rfl).w (h W σ H O M _ fun p1 ns ρ1 H1 O1 M1 E1 s1 n1 d1 hk => ⟨p1, ns, rfl, s1, fun p hp => by
    obtain ⟨M2, E2, n2, h0⟩ := M1.new_list hp (Sub.upd hp) upd_same
    exact q p (.lst (ns.map V.int)) (.lst (ns.map .int)) ρ1 _ _ M2 (.inr rfl) n2 h0 upd_same (dpa_I ns) (E1.trans E2) hk⟩)
/-- len(..) of a set -/
theorem x_lenZ {k : D → Rho → Prop} (hg : Gl X "len") (hm : X.mg "len" = none) (h : ZX X e ρ fun ns ρ1 => k (.int ns.length) ρ1) (he : starEach [e] X.env = (false, eval e X.env) :: starEach [] X.env) : EX X (.Call (.Name "len" p) [e] [] pos) ρ k := fun W σ H O M Q q =>
  (pe_callB cr_lenSet hg hm b_len (pa_cons pe_w pa_nil he) (by decide) (by decide) he rfl).w (h W σ H O M _ fun p1 ns ρ1 H1 O1 M1 E1 s1 n1 d1 hk => ⟨p1, ns, rfl, s1, q _ _ ρ1 H1 O1 M1 E1 (.int _) hk⟩)
end

/-! ### tuple(range(..)) -/
section
variable {X : Cx} {ρ : Rho} {pos p : Pos} {e e2 : Expr}
theorem tup_new {W : Wd} {σ : L2.St} {H : Hp} {O : Addr → Prop} {H1 : Hp} {O1 : Addr → Prop} {ρ1 : Rho} {k : D → Rho → Prop} {Q : VK} (q : ∀ v d ρ' H' O', Mt X.K W ρ' σ H' O' → Ext H O H' O' → Dp X.K (cut O' H') v d → k d ρ' → Q v H') (M1 : Mt X.K W ρ1 σ H1 O1) (E1 : Ext H O H1 O1) {r : Addr} (hr : H1 r = none) (a b : Int)
    (hk : k (.tuple ((rngL a b).map PyData.int)) ρ1) : Q (.ref r) (upd H1 r (.tup (rgV a b))) := by
  have sb : Sub H1 (upd H1 r (.tup (rgV a b))) := Sub.upd hr
  exact q _ _ ρ1 _ O1 (M1.grow sb) (E1.trans (Ext.grow sb)) (.tup (SqT.of (cut_some.mpr ⟨M1.fresh hr, upd_same⟩)) (dpa_rg a b)) hk
theorem x_tupR1 {p2 pos2 : Pos} {k : D → Rho → Prop} (hc : X.calm = true) (hg : Gl X "tuple") (hm : X.mg "tuple" = none) (hg2 : Gl X "range") (hm2 : X.mg "range" = none) (h : EX X e ρ fun d ρ1 => ∃ j, d = .int j ∧ rngOk 0 j = true ∧ k (.tuple ((rngL 0 j).map PyData.int)) ρ1)
    (hs : starEach [e] X.env = (false, eval e X.env) :: starEach [] X.env) : EX X (.Call (.Name "tuple" p) [.Call (.Name "range" p2) [e] [] pos2] [] pos) ρ k := fun W σ H O M Q q =>
  (pe_tupRg hc hg hm (prg_1 hg2 hm2 pe_w hs) rfl).w (h W σ H O M _ fun v d ρ1 H1 O1 M1 E1 r ⟨j, hd, hr, hk⟩ => by
    subst hd
    cases r
    exact ⟨j, rfl, rgOk_of hr, fun r hr0 => tup_new q M1 E1 hr0 0 j hk⟩)
theorem x_tupR2 {p2 pos2 : Pos} {k : D → Rho → Prop} (hc : X.calm = true) (hg : Gl X "tuple") (hm : X.mg "tuple" = none) (hg2 : Gl X "range") (hm2 : X.mg "range" = none)
    (h : EX X e ρ fun d ρ1 => ∃ i, d = .int i ∧ EX X e2 ρ1 fun d ρ2 => ∃ j, d = .int j ∧ rngOk i j = true ∧ k (.tuple ((rngL i j).map PyData.int)) ρ2)
    (hs0 : starEach [e, e2] X.env = (false, eval e X.env) :: starEach [e2] X.env) (hs : starEach [e2] X.env = (false, eval e2 X.env) :: starEach [] X.env) (hp : (backTo pos2 (starEach [e2] X.env)).any (·.1) = false) : EX X (.Call (.Name "tuple" p) [.Call (.Name "range" p2) [e, e2] [] pos2] [] pos) ρ k := fun W σ H O M Q q =>
  (pe_tupRg hc hg hm (prg_2 hg2 hm2 pe_w pe_w hs0 hs hp) rfl).w (h W σ H O M _ fun v d ρ1 H1 O1 M1 E1 r ⟨i, hd, h1⟩ => by
    subst hd
    cases r
    exact h1 W σ H1 O1 M1 _ fun v d ρ2 H2 O2 M2 E2 r ⟨j, hd, hr, hk⟩ => by
      subst hd
      cases r
      exact ⟨i, j, rfl, rfl, rgOk_of hr, fun r hr0 => tup_new q M2 (E1.trans E2) hr0 i j hk⟩)
end

/-! ### x in a list of one's own -/
section
variable {X : Cx} {ρ : Rho} {pos : Pos} {a : Expr}
theorem x_inO {i : Nat} {x : Str} {py : Pos} (hr : ∃ k, Room k X.A) (hN : X.N[i]? = some x) (hv : Vis X.env.scope x) {dy : D} {ρ2 : Rho} {c : Bool} {ds : List D} (h : ∀ k : D → Rho → Prop, k dy ρ2 → EX X a ρ k) (hi : ρ2[i]? = some (Sl.own c (.lst ds)))
    (sd : SeqAt.shaped dy = true) (se : SeqAt.shaped (.list ds) = true) (hw : ∃ b d0, ρ[i]? = some (Sl.own b d0)) (hd : (x == ("__debug__" : Str)) = false) (hcd : (x == ("__classdict__" : Str)) = false) :
    (∀ k : D → Rho → Prop, k (.bool (ds.any fun z => PyData.eqv z dy)) ρ2 → EX X (.Compare a [.In] [.Name x py] pos) ρ k) ∧ (∀ k : Bool → Rho → Prop, k (ds.any fun z => PyData.eqv z dy) ρ2 → TX X (.Compare a [.In] [.Name x py] pos) ρ k) ∧
    (∀ k : D → Rho → Prop, k (.bool (!ds.any fun z => PyData.eqv z dy)) ρ2 → EX X (.Compare a [.NotIn] [.Name x py] pos) ρ k) ∧ (∀ k : Bool → Rho → Prop, k (!ds.any fun z => PyData.eqv z dy) ρ2 → TX X (.Compare a [.NotIn] [.Name x py] pos) ρ k) := by
  have core : ∀ {W : Wd} {σ : L2.St} {H : Hp} {O : Addr → Prop}, Mt X.K W ρ2 σ H O → ∀ {y : V}, Dp X.K (cut O H) y dy → ∃ u, σ[i]? = some (some u) ∧ (∀ Q : VK, Q (.bl (ds.any fun z => PyData.eqv z dy)) H → wOp X (compareOp .In) y u H Q) ∧ (∀ Q : VK, Q (.bl (!ds.any fun z => PyData.eqv z dy)) H → wOp X (compareOp .NotIn) y u H Q) := fun {W σ H O} M {y} r => by
    obtain ⟨l, us, e1, e2, e3, e4, r2⟩ := own_cut M hi
    obtain ⟨n, hr⟩ := hr
    have rl : Dp X.K H (.ref l) (.list ds) := .lst (SqL.of e3) (dpa_mono cut_sub _ _ e4)
    exact ⟨_, e1, fun Q q => OpRw (op_inD (by have := hr.un; omega)) ⟨dy, ds, dp_mono cut_sub _ _ r, rl, sd, se, q⟩, fun Q q => OpRw (op_notInD (by have := hr.un; omega)) ⟨dy, ds, dp_mono cut_sub _ _ r, rl, sd, se, q⟩⟩
  refine ⟨fun k hk2 W σ H O M Q q => ?_, fun k hk2 W σ H O M Q q => ?_, fun k hk2 W σ H O M Q q => ?_, fun k hk2 W σ H O M Q q => ?_⟩
  · refine (pe_cmpR op_w pe_w (pe_var hN hv hd hcd) rfl).w (h (fun d' ρ' => d' = dy ∧ ρ' = ρ2) ⟨rfl, rfl⟩ W σ H O M _ fun y d' ρ' H2 O2 M2 E2 r ⟨e1, e2⟩ => ?_)
    subst e1 e2
    obtain ⟨u, f1, f2, f3⟩ := core M2 r
    exact ⟨_, f1, f2 _ (q _ _ _ H2 O2 M2 E2 (.bl _) hk2)⟩
  · refine (pt_cmpR op_w pe_w (pe_var hN hv hd hcd) rfl).w (h (fun d' ρ' => d' = dy ∧ ρ' = ρ2) ⟨rfl, rfl⟩ W σ H O M _ fun y d' ρ' H2 O2 M2 E2 r ⟨e1, e2⟩ => ?_)
    subst e1 e2
    obtain ⟨u, f1, f2, f3⟩ := core M2 r
    exact ⟨_, f1, f2 _ ⟨_, rfl, q _ _ H2 O2 M2 E2 hk2⟩⟩
  · refine (pe_cmpR op_w pe_w (pe_var hN hv hd hcd) rfl).w (h (fun d' ρ' => d' = dy ∧ ρ' = ρ2) ⟨rfl, rfl⟩ W σ H O M _ fun y d' ρ' H2 O2 M2 E2 r ⟨e1, e2⟩ => ?_)
    subst e1 e2
    obtain ⟨u, f1, f2, f3⟩ := core M2 r
    exact ⟨_, f1, f3 _ (q _ _ _ H2 O2 M2 E2 (.bl _) hk2)⟩
  · refine (pt_cmpR op_w pe_w (pe_var hN hv hd hcd) rfl).w (h (fun d' ρ' => d' = dy ∧ ρ' = ρ2) ⟨rfl, rfl⟩ W σ H O M _ fun y d' ρ' H2 O2 M2 E2 r ⟨e1, e2⟩ => ?_)
    subst e1 e2
    obtain ⟨u, f1, f2, f3⟩ := core M2 r
    exact ⟨_, f1, f3 _ ⟨_, rfl, q _ _ H2 O2 M2 E2 hk2⟩⟩
end

/-! ### while -/
/-- as often as the fuel lasts -/
def whL {S R : Type} (step : S → Option (Fl S R)) : Nat → S → Option (Fl S R)
  | 0, _ => none
  | n + 1, s => match step s with
    | some (.nx s') => whL step n s'
    | some (.rt r) => some (.rt r)
    | some (.bk s') => some (.bk s')
    | none => none
theorem s_while {X : Cx} {ρ : Rho} {pos : Pos} {test : Expr} {S R' : Type} {body : List Stmt} {ρS : S → Rho} {N : Wish} (hp : PassesOwn (model X.prog X.w) X.A X.env X.xe)
    {step : S → Option (Fl S R')} {n : Nat} {s0 : S} {fl : Fl S R'} (w0 : Weak ρ (ρS s0)) (hf : whL step n s0 = some fl)
    (turn : ∀ s f1, step s = some f1 → TX X test (ρS s) fun b ρ1 => (b = true → SXs X body ρ1 { nx := fun ρ3 => ∃ s', f1 = .nx s' ∧ Weak ρ3 (ρS s'), rt := fun d ρ3 => ∃ rr, f1 = .rt rr ∧ (fl = .rt rr → N.rt d ρ3), bk := fun ρ3 => ∃ s', f1 = .bk s' ∧ Weak ρ3 (ρS s'), ct := fun ρ3 => ∃ s', f1 = .nx s' ∧ Weak ρ3 (ρS s'), rf := fun c ρ3 => ∃ rr, f1 = .rt rr ∧ (fl = .rt rr → N.rf c ρ3) }) ∧
      (b = false → ∃ s', f1 = .bk s' ∧ Weak ρ1 (ρS s')))
    (fin : ∀ s, fl = .bk s → N.nx (ρS s)) : SX X (.While test body [] pos) ρ N := fun W σ H O M Dn q =>
  (ps_while hp pt_w pss_w).w ⟨fun m σ' H' => ∃ s O', Mt X.K W (ρS s) σ' H' O' ∧ Ext H O H' O' ∧ whL step m s = some fl, ⟨n, s0, O, M.weak w0, Ext.refl _ _, hf⟩, fun m σ2 H2 ⟨s, O2, M2, E2, hf2⟩ => by
    cases m with
    | zero => cases hf2
    | succ m =>
      cases hst : step s with
      | none => exfalso; simp only [whL, hst] at hf2; cases hf2
      | some f1 =>
        refine turn s f1 hst W σ2 H2 O2 M2 _ fun b ρ3 H3 O3 M3 E3 ⟨ht, hfl⟩ => ?_
        cases b with
        | false =>
          obtain ⟨s', e1, w1⟩ := hfl rfl
          subst e1
          have e2 : fl = .bk s' := by simpa [whL, hst] using hf2.symm
          rw [if_neg (by simp)]
          exact q.nx _ σ2 H3 O3 (M3.weak w1) (E2.trans E3) (fin s' e2)
        | true =>
          rw [if_pos rfl]
          refine ⟨fun σ' H' => ∃ s' O', f1 = .nx s' ∧ Mt X.K W (ρS s') σ' H' O' ∧ Ext H O H' O', fun σ' H' ⟨s', O', e1, M', E'⟩ => ⟨m, Nat.lt_succ_self m, s', O', M', E', by subst e1; simpa [whL, hst] using hf2⟩, ?_⟩
          have E4 := E2.trans E3
          refine ht rfl W σ2 H3 O3 M3 _ ⟨fun ρ5 σ5 H5 O5 M5 E5 ⟨s', e1, w5⟩ => ⟨s', O5, e1, M5.weak w5, E4.trans E5⟩, fun v d ρ5 σ5 H5 O5 M5 E5 r5 ⟨rr, e1, h5⟩ => ?_, fun ρ5 σ5 H5 O5 M5 E5 ⟨s', e1, w5⟩ => ?_, fun ρ5 σ5 H5 O5 M5 E5 ⟨s', e1, w5⟩ => ⟨s', O5, e1, M5.weak w5, E4.trans E5⟩, fun p us c ρ5 σ5 H5 O5 M5 E5 hp hn h0 hl r5 ⟨rr, e1, h5⟩ => ?_⟩
          · subst e1
            refine q.rt v d ρ5 σ5 H5 O5 M5 (E4.trans E5) r5 (h5 ?_)
            simpa [whL, hst] using hf2.symm
          · subst e1
            refine q.nx _ σ5 H5 O5 (M5.weak w5) (E4.trans E5) (fin s' ?_)
            simpa [whL, hst] using hf2.symm
          · subst e1
            refine q.rf p us c ρ5 σ5 H5 O5 M5 (E4.trans E5) hp hn h0 hl r5 (h5 ?_)
            simpa [whL, hst] using hf2.symm⟩
end Lk

set_option Elab.async false
set_option linter.all false
set_option maxRecDepth 100000
namespace Ev
open PySem PySem.Spec PyProof.Rows L2 Lk

/-! ### a frame, what is called, what comes out -/
structure Fm where
  N : List Str
  sc : Scope
  fnl : Bool
structure Cs where
  P : Str → Option (List D → Option D)
  O : Str → Option (Ct → List D → Option (D × Ct))
  F : Str → Option (List D → Option Ct)
  G : Str → Option D
  GD : Str → Option (List (Key × D))
  B : Str → Bool
inductive Rs where
  | nx (ρ : Rho)
  | rt (d : D) (ρ : Rho)
  | rf (c : Ct) (ρ : Rho)
  | bk (ρ : Rho)
  | ct (ρ : Rho)
structure Agr (X : Cx) (fm : Fm) : Prop where
  N : X.N = fm.N
  sc : X.env.scope = fm.sc
  fn : fm.fnl = true → ∀ x, X.fn x = true
  nd : X.N.Nodup
  kind : X.env.scope.kind = .function
  calm : X.calm = true
  xe : X.xe = fun _ _ => False
structure CsOk (X : Cx) (cs : Cs) : Prop where
  room : ∃ k, Room k X.A
  P : ∀ x f, cs.P x = some f → ∃ n k, n ≤ k ∧ Room k X.A ∧ CalP X.prog X.w X.K X.mg X.base x n (fun ds d => f ds = some d)
  O : ∀ x f, cs.O x = some f → ∃ n k, n ≤ k ∧ Room k X.A ∧ CalO X.prog X.w X.K X.mg X.base x n (fun c ds d c' => f c ds = some (d, c'))
  F : ∀ x f, cs.F x = some f → ∃ n k, n ≤ k ∧ Room k X.A ∧ CalF X.prog X.w X.K X.mg X.base x n (fun ds c => f ds = some c)
  G : ∀ x d, cs.G x = some d → ∃ u v, X.mg x = some u ∧ RelV v u ∧ ∀ H, Dp X.K H v d
  GD : ∀ x kvs, cs.GD x = some kvs → ∃ a, X.mg x = some (.ref a) ∧ GDk X.prog X.w X.K a kvs
  B : ∀ x, cs.B x = true → X.mg x = none
structure Evs where
  E : Fm → Expr → Rho → Option (D × Rho)
  F : Fm → Expr → Rho → Option (Ct × Rho)
  T : Fm → Expr → Rho → Option (Bool × Rho)
  S : Fm → Stmt → Rho → Option Rs
def Fits (N : Wish) : Rs → Prop
  | .nx ρ => N.nx ρ
  | .rt d ρ => N.rt d ρ
  | .rf c ρ => N.rf c ρ
  | .bk ρ => N.bk ρ
  | .ct ρ => N.ct ρ
structure Snd (X : Cx) (fm : Fm) (r : Evs) : Prop where
  E : ∀ e ρ d ρ' (k : D → Rho → Prop), r.E fm e ρ = some (d, ρ') → k d ρ' → EX X e ρ k
  F : ∀ e ρ c ρ' (k : Ct → Rho → Prop), r.F fm e ρ = some (c, ρ') → k c ρ' → FX X e ρ k
  T : ∀ e ρ b ρ' (k : Bool → Rho → Prop), r.T fm e ρ = some (b, ρ') → k b ρ' → TX X e ρ k
  S : ∀ st ρ rs (N : Wish), r.S fm st ρ = some rs → Fits N rs → SX X st ρ N

/-! ### what is to be looked at in the text -/
def notStar : Expr → Bool
  | .Starred .. => false
  | _ => true
theorem star_cons {e : Expr} {es : List Expr} {env : Env} (h : notStar e = true) : starEach (e :: es) env = (false, eval e env) :: starEach es env := by
  cases e <;> first | rfl | (cases h)
theorem star_one {e : Expr} {env : Env} (h : notStar e = true) : starEach [e] env = [(false, eval e env)] := star_cons h
theorem star_plain {pos : Pos} {env : Env} : ∀ {es : List Expr}, es.all notStar = true → (backTo pos (starEach es env)).any (·.1) = false
  | [], _ => rfl
  | e :: es, h => by
    rw [List.all_cons, Bool.and_eq_true] at h
    rw [star_cons h.1]
    show (false || (backTo pos (starEach es env)).any (·.1)) = false
    rw [star_plain h.2]; rfl
def notComp : Expr → Bool
  | .ListComp .. => false
  | .SetComp .. => false
  | .DictComp .. => false
  | _ => true
theorem swap_false {e : Expr} {t : Option Expr} {l : Nat} {env : Env} (h : notComp e = true) : swapsWith e t l env = pure false := by
  cases e <;> first | rfl | (cases h)
def plainT : Expr → Bool
  | .BoolOp .. => false
  | .UnaryOp .. => false
  | .Compare .. => false
  | .NamedExpr .. => false
  | .IfExp .. => false
  | .Constant .. => false
  | _ => true
theorem tru_plain {e : Expr} {env : Env} (h : plainT e = true) : ∀ whole, isTrue e env whole = (do let v ← whole; standAt e.pos; holding [v] (truthy v)) := by
  intro whole
  cases e <;> first | rfl | (cases h)
def notIx : Expr → Bool
  | .Slice .. => false
  | _ => true
theorem plain_ix {e : Expr} (h : notIx e = true) : PlainIx e := fun o i => by
  cases e <;> first | rfl | (cases h)
def notSet : Expr → Bool
  | .Set .. => false
  | _ => true
theorem fold_plain {e : Expr} {env : Env} (h : notSet e = true) : ∀ x, foldedSetIterable e env x = pure x := by
  intro x
  cases e <;> first | rfl | (cases h)
def notCall : Expr → Bool
  | .Call .. => false
  | _ => true
theorem base_plain {o : Expr} {name : Str} {env : Env} {w : Sem Value} (h : notCall o = true) : attributeBase o name env w = w := by
  cases o <;> first | rfl | (cases h)
def okName (x : Str) : Bool := !(x == ("__debug__" : Str)) && !(x == ("__classdict__" : Str)) && decide (x ≠ "__name__")
theorem okName_d {x : Str} (h : okName x = true) : (x == ("__debug__" : Str)) = false := by
  unfold okName at h
  cases e : (x == ("__debug__" : Str)) <;> simp [e] at h ⊢
theorem okName_c {x : Str} (h : okName x = true) : (x == ("__classdict__" : Str)) = false := by
  unfold okName at h
  cases e : (x == ("__classdict__" : Str)) <;> simp [e] at h ⊢
theorem okName_n {x : Str} (h : okName x = true) : x ≠ "__name__" := by
  unfold okName at h
  rw [Bool.and_eq_true] at h
  exact of_decide_eq_true h.2
def visB (sc : Scope) (x : Str) : Bool := match sc.names.lookup x with
  | some .local => true
  | some .cell => true
  | some .free => true
  | _ => false
theorem visB_ok {sc : Scope} {x : Str} (h : visB sc x = true) : Vis sc x := by
  unfold visB at h
  split at h
  · exact .inl (by assumption)
  · exact .inr (.inl (by assumption))
  · exact .inr (.inr (by assumption))
  · cases h
def locB (sc : Scope) (x : Str) : Bool := match sc.names.lookup x with
  | some .local => true
  | some .cell => true
  | _ => false
theorem locB_ok {sc : Scope} {x : Str} (h : locB sc x = true) : Loc sc x := by
  unfold locB at h
  split at h
  · exact .inl (by assumption)
  · exact .inr (by assumption)
  · cases h
def localB (sc : Scope) (x : Str) : Bool := match sc.names.lookup x with
  | some .local => true
  | _ => false
theorem localB_ok {sc : Scope} {x : Str} (h : localB sc x = true) : sc.names.lookup x = some .local := by
  unfold localB at h
  split at h
  · assumption
  · cases h
def glB (sc : Scope) (x : Str) : Bool := match sc.names.lookup x with
  | some .globalImplicit => true
  | _ => false
theorem glB_ok {X : Cx} {fm : Fm} (a : Agr X fm) {x : Str} (h : glB fm.sc x = true) : Gl X x := by
  show X.env.scope.names.lookup x = _
  rw [a.sc]
  unfold glB at h
  split at h
  · assumption
  · cases h
def ixOf : List Str → Str → Option Nat
  | [], _ => none
  | y :: ys, x => if y = x then some 0 else (ixOf ys x).map (· + 1)
theorem ixOf_ok : ∀ {N : List Str} {x : Str} {i : Nat}, ixOf N x = some i → N[i]? = some x
  | [], _, _, h => by cases h
  | y :: ys, x, i, h => by
    unfold ixOf at h
    split at h
    · rename_i e
      cases h
      rw [e]; rfl
    · obtain ⟨j, h1, rfl⟩ := Option.map_eq_some_iff.mp h
      rw [List.getElem?_cons_succ]
      exact ixOf_ok h1
/-- the place of a local -/
def slot (fm : Fm) (x : Str) : Option Nat := if (visB fm.sc x && okName x) = true then ixOf fm.N x else none
theorem slot_ok {X : Cx} {fm : Fm} (a : Agr X fm) {x : Str} {i : Nat} (h : slot fm x = some i) : X.N[i]? = some x ∧ Vis X.env.scope x ∧ (x == ("__debug__" : Str)) = false ∧ (x == ("__classdict__" : Str)) = false := by
  unfold slot at h
  split at h
  · rename_i e
    rw [Bool.and_eq_true] at e
    rw [a.N, a.sc]
    exact ⟨ixOf_ok h, visB_ok e.1, okName_d e.2, okName_c e.2⟩
  · cases h

/-! ### operators -/
def binD : Operator → D → D → Option D
  | .Add, .int x, .int y => some (.int (x + y))
  | .Add, .tuple x, .tuple y => if x.length + y.length ≤ 16777216 then some (.tuple (x ++ y)) else none
  | .Add, .str x, .str y => if x.length + y.length ≤ 16777216 then some (.str (x ++ y)) else none
  | .Sub, .int x, .int y => some (.int (x - y))
  | .Add, .int x, .bool b => some (.int (x + if b = true then 1 else 0))
  | .Sub, .int x, .bool b => some (.int (x - if b = true then 1 else 0))
  | .Mult, .int x, .int y => if (-(2 ^ 64) < x ∧ x < 2 ^ 64) ∨ (-(2 ^ 64) < y ∧ y < 2 ^ 64) then some (.int (x * y)) else none
  | .FloorDiv, .int x, .int y => if 0 < y ∧ y < 1073741824 then some (.int (x / y)) else none
  | .Mod, .int x, .int y => if 0 < y then some (.int (x % y)) else none
  | .Pow, .int x, .int y => if 0 ≤ y ∧ y ≤ 1000000 ∧ x.natAbs < 2 ^ 64 then some (.int (x ^ y.toNat)) else none
  | .LShift, .int x, .int y => if 0 ≤ y ∧ y ≤ 1000000 ∧ x.natAbs < 2 ^ 64 then some (.int (x * 2 ^ y.toNat)) else none
  | _, _, _ => none
theorem binD_ok {X : Cx} {op : Operator} {x y z : D} (h : binD op x y = some z) : OpD X (binaryOp op) x y z := by
  unfold binD at h
  split at h
  · cases h; exact od_add
  · split at h
    · cases h; exact od_catT (by assumption)
    · cases h
  · split at h
    · cases h; exact od_catS (by assumption)
    · cases h
  · cases h; exact od_sub
  · cases h; exact od_addIB
  · cases h; exact od_subIB
  · split at h
    · rename_i hc
      cases h
      rcases hc with hc | hc
      · exact od_mulL hc
      · exact od_mulR hc
    · cases h
  · split at h
    · cases h; exact od_fdiv (by assumption)
    · cases h
  · split at h
    · cases h; exact od_mod (by assumption)
    · cases h
  · split at h
    · cases h; exact od_pow (by assumption)
    · cases h
  · split at h
    · cases h; exact od_shl (by assumption)
    · cases h
  · cases h
theorem units65 {k : Nat} {A : Around} (r : Room k A) : A.units + 65 < cLine := by have := r.un; omega
theorem room_in_sh {A : Around} {xs : List PyData} {d : PyData} (hd : SeqAt.shaped d = true) (hu : A.units + 65 < cLine) : A.units + 1 + min (PyData.depthAll xs) d.depth < cLine := by
  have h1 := SeqAt.depth_of_shaped hd
  have h2 : min (PyData.depthAll xs) d.depth ≤ d.depth := Nat.min_le_right _ _
  omega
section
variable {X : Cx}
theorem op_inDT (hu : X.A.units + 65 < cLine) {x y : V} {d : D} {ds : List D} {H : Hp} {Q : VK} (hd : Dp X.K H x d) (he : Dp X.K H y (.tuple ds)) (sd : SeqAt.shaped d = true) (se : SeqAt.shaped (.list ds) = true) (q : Q (.bl (ds.any fun z => PyData.eqv z d)) H) : wOp X (compareOp .In) x y H Q := fun pins s σ v u I rx ry => by
  obtain ⟨as, r1⟩ := Dp.reads I d x v hd rx
  obtain ⟨bs, r2⟩ := Dp.reads I (.tuple ds) y u he ry
  exact SeqAt.in_tuple_reads r2 r1 (SeqAt.canLay_of_shaped se) (SeqAt.canLay_of_shaped sd) (room_in_sh sd hu) ⟨.bl _, H, I, rfl, q⟩
theorem op_notInDT (hu : X.A.units + 65 < cLine) {x y : V} {d : D} {ds : List D} {H : Hp} {Q : VK} (hd : Dp X.K H x d) (he : Dp X.K H y (.tuple ds)) (sd : SeqAt.shaped d = true) (se : SeqAt.shaped (.list ds) = true) (q : Q (.bl (!ds.any fun z => PyData.eqv z d)) H) : wOp X (compareOp .NotIn) x y H Q := fun pins s σ v u I rx ry => by
  obtain ⟨as, r1⟩ := Dp.reads I d x v hd rx
  obtain ⟨bs, r2⟩ := Dp.reads I (.tuple ds) y u he ry
  exact SeqAt.notIn_tuple_reads r2 r1 (SeqAt.canLay_of_shaped se) (SeqAt.canLay_of_shaped sd) (room_in_sh sd hu) ⟨.bl _, H, I, rfl, q⟩
theorem od_inT {d : D} {ds : List D} (hr : ∃ k, Room k X.A) (sd : SeqAt.shaped d = true) (se : SeqAt.shaped (.list ds) = true) : OpD X (compareOp .In) d (.tuple ds) (.bool (ds.any fun z => PyData.eqv z d)) := fun H O v u Q _ rx ry q => by
  obtain ⟨k, hr⟩ := hr
  exact op_inDT (units65 hr) (dp_mono cut_sub _ _ rx) (dp_mono cut_sub _ _ ry) sd se (q _ H (Sub.refl H) (.bl _))
theorem od_ninT {d : D} {ds : List D} (hr : ∃ k, Room k X.A) (sd : SeqAt.shaped d = true) (se : SeqAt.shaped (.list ds) = true) : OpD X (compareOp .NotIn) d (.tuple ds) (.bool (!ds.any fun z => PyData.eqv z d)) := fun H O v u Q _ rx ry q => by
  obtain ⟨k, hr⟩ := hr
  exact op_notInDT (units65 hr) (dp_mono cut_sub _ _ rx) (dp_mono cut_sub _ _ ry) sd se (q _ H (Sub.refl H) (.bl _))
theorem od_inL {d : D} {ds : List D} (hr : ∃ k, Room k X.A) (sd : SeqAt.shaped d = true) (se : SeqAt.shaped (.list ds) = true) : OpD X (compareOp .In) d (.list ds) (.bool (ds.any fun z => PyData.eqv z d)) := fun H O v u Q _ rx ry q => by
  obtain ⟨k, hr⟩ := hr
  exact OpRw (op_inD (units65 hr)) ⟨d, ds, dp_mono cut_sub _ _ rx, dp_mono cut_sub _ _ ry, sd, se, q _ H (Sub.refl H) (.bl _)⟩
theorem od_ninL {d : D} {ds : List D} (hr : ∃ k, Room k X.A) (sd : SeqAt.shaped d = true) (se : SeqAt.shaped (.list ds) = true) : OpD X (compareOp .NotIn) d (.list ds) (.bool (!ds.any fun z => PyData.eqv z d)) := fun H O v u Q _ rx ry q => by
  obtain ⟨k, hr⟩ := hr
  exact OpRw (op_notInD (units65 hr)) ⟨d, ds, dp_mono cut_sub _ _ rx, dp_mono cut_sub _ _ ry, sd, se, q _ H (Sub.refl H) (.bl _)⟩
end
/-- x == y -/
def eqD : D → D → Option Bool
  | .int x, .int y => some (decide (x = y))
  | .str x, .str y => some (decide (x = y))
  | .bool x, .bool y => some (decide (x = y))
  | x, y => if (SeqAt.shaped x && SeqAt.shaped y) = true then some (PyData.eqv x y) else none
theorem str_one {x : Str} {c : Nat} (e : x.cps.toList = [c]) : x = ⟨#[c]⟩ := by
  obtain ⟨⟨l⟩⟩ := x
  exact congrArg (fun l => Str.mk ⟨l⟩) e
/-- x in y -/
def inD : D → D → Option Bool
  | .str x, .str z => match x.cps.toList with
    | [c] => some (decide (c ∈ z.cps.toList))
    | _ => none
  | x, .tuple ds => if (SeqAt.shaped x && SeqAt.shaped (.list ds)) = true then some (ds.any fun z => PyData.eqv z x) else none
  | x, .list ds => if (SeqAt.shaped x && SeqAt.shaped (.list ds)) = true then some (ds.any fun z => PyData.eqv z x) else none
  | _, _ => none
def ordD : CmpOp → Int → Int → Option Bool
  | .Lt, x, y => some (decide (x < y))
  | .LtE, x, y => some (decide (x ≤ y))
  | .Gt, x, y => some (decide (y < x))
  | .GtE, x, y => some (decide (y ≤ x))
  | _, _, _ => none
def ordB (op : CmpOp) (x y : D) : Option Bool := match op with
  | .Lt => some (W.dataLt x y)
  | .LtE => some (!W.dataLt y x)
  | .Gt => some (W.dataLt y x)
  | .GtE => some (!W.dataLt x y)
  | _ => none
def cmpD : CmpOp → D → D → Option Bool
  | .Eq, x, y => eqD x y
  | .NotEq, x, y => (eqD x y).map (!·)
  | .In, x, y => inD x y
  | .NotIn, x, y => (inD x y).map (!·)
  | op, .int x, .int y => ordD op x y
  | op, x, y => if (W.alike x y && !isN x && decide (x.depth ≤ 64)) = true then ordB op x y else none
theorem ordB_ok {X : Cx} (hr : ∃ k, Room k X.A) {op : CmpOp} {x y : D} {b : Bool} (hg : (W.alike x y && !isN x && decide (x.depth ≤ 64)) = true) (h : ordB op x y = some b) : OpD X (compareOp op) x y (.bool b) := by
  rw [Bool.and_eq_true, Bool.and_eq_true] at hg
  obtain ⟨⟨h1, h2⟩, h3⟩ := hg
  have hn : x ≠ .none := fun e => by subst e; cases h2
  have hd := of_decide_eq_true h3
  unfold ordB at h
  split at h <;> cases h
  · exact od_ltD hr h1 hn hd
  · exact od_leD hr h1 hn hd
  · exact od_gtD hr h1 hn hd
  · exact od_geD hr h1 hn hd
theorem eqD_ok {X : Cx} (hr : ∃ k, Room k X.A) {x y : D} {b : Bool} (h : eqD x y = some b) : OpD X (compareOp .Eq) x y (.bool b) ∧ OpD X (compareOp .NotEq) x y (.bool (!b)) := by
  unfold eqD at h
  split at h
  · cases h; exact ⟨od_eqI, od_neI⟩
  · cases h; exact ⟨od_eqS, od_neS⟩
  · cases h; exact ⟨od_eqB, od_neB⟩
  · split at h
    · rename_i e
      rw [Bool.and_eq_true] at e
      cases h
      exact ⟨od_eqD hr e.1 e.2, od_neD hr e.1 e.2⟩
    · cases h
theorem inD_ok {X : Cx} (hr : ∃ k, Room k X.A) {x y : D} {b : Bool} (h : inD x y = some b) : OpD X (compareOp .In) x y (.bool b) ∧ OpD X (compareOp .NotIn) x y (.bool (!b)) := by
  unfold inD at h
  split at h
  · split at h
    · rename_i c e
      cases h
      rw [str_one e]
      exact ⟨od_inSign, od_ninSign⟩
    · cases h
  · split at h
    · rename_i e
      rw [Bool.and_eq_true] at e
      cases h
      exact ⟨od_inT hr e.1 e.2, od_ninT hr e.1 e.2⟩
    · cases h
  · split at h
    · rename_i e
      rw [Bool.and_eq_true] at e
      cases h
      exact ⟨od_inL hr e.1 e.2, od_ninL hr e.1 e.2⟩
    · cases h
  · cases h
theorem ordD_ok {X : Cx} {op : CmpOp} {x y : Int} {b : Bool} (h : ordD op x y = some b) : OpD X (compareOp op) (.int x) (.int y) (.bool b) := by
  unfold ordD at h
  split at h <;> cases h
  · exact od_lt
  · exact od_le
  · exact od_gt
  · exact od_ge
theorem cmpD_ok {X : Cx} (hr : ∃ k, Room k X.A) {op : CmpOp} {x y : D} {b : Bool} (h : cmpD op x y = some b) : OpD X (compareOp op) x y (.bool b) := by
  unfold cmpD at h
  split at h
  · exact (eqD_ok hr h).1
  · obtain ⟨c, h1, rfl⟩ := Option.map_eq_some_iff.mp h
    exact (eqD_ok hr h1).2
  · exact (inD_ok hr h).1
  · obtain ⟨c, h1, rfl⟩ := Option.map_eq_some_iff.mp h
    exact (inD_ok hr h1).2
  · exact ordD_ok h
  · split at h <;> try (cases h; done)
    exact ordB_ok hr (by assumption) h
end Ev

set_option Elab.async false
set_option linter.all false
set_option maxRecDepth 100000
namespace Ev
open PySem PySem.Spec PyProof.Rows L2 Lk

/-! ### built-in functions -/
def intsOf : List D → Option (List Int)
  | [] => some []
  | .int i :: r => (intsOf r).map (i :: ·)
  | _ :: _ => none
def boolsOf : List D → Option (List Bool)
  | [] => some []
  | .bool i :: r => (boolsOf r).map (i :: ·)
  | _ :: _ => none
def strsOf : List D → Option (List Str)
  | [] => some []
  | .str i :: r => (strsOf r).map (i :: ·)
  | _ :: _ => none
theorem intsOf_ok : ∀ {ds : List D} {xs : List Int}, intsOf ds = some xs → ds = xs.map .int
  | [], xs, h => by cases h; rfl
  | d :: r, xs, h => by
    cases d <;> first | (cases h; done) | skip
    obtain ⟨ys, h1, rfl⟩ := Option.map_eq_some_iff.mp h
    rw [intsOf_ok h1]; rfl
theorem boolsOf_ok : ∀ {ds : List D} {xs : List Bool}, boolsOf ds = some xs → ds = xs.map .bool
  | [], xs, h => by cases h; rfl
  | d :: r, xs, h => by
    cases d <;> first | (cases h; done) | skip
    obtain ⟨ys, h1, rfl⟩ := Option.map_eq_some_iff.mp h
    rw [boolsOf_ok h1]; rfl
theorem strsOf_ok : ∀ {ds : List D} {xs : List Str}, strsOf ds = some xs → ds = xs.map .str
  | [], xs, h => by cases h; rfl
  | d :: r, xs, h => by
    cases d <;> first | (cases h; done) | skip
    obtain ⟨ys, h1, rfl⟩ := Option.map_eq_some_iff.mp h
    rw [strsOf_ok h1]; rfl
theorem intsOf_map : ∀ (xs : List Int), intsOf (xs.map .int) = some xs
  | [] => rfl
  | x :: xs => by show (intsOf (xs.map .int)).map _ = _; rw [intsOf_map xs]; rfl
theorem boolsOf_map : ∀ (xs : List Bool), boolsOf (xs.map .bool) = some xs
  | [] => rfl
  | x :: xs => by show (boolsOf (xs.map .bool)).map _ = _; rw [boolsOf_map xs]; rfl
theorem strsOf_map : ∀ (xs : List Str), strsOf (xs.map .str) = some xs
  | [] => rfl
  | x :: xs => by show (strsOf (xs.map .str)).map _ = _; rw [strsOf_map xs]; rfl
def lenD : List D → Option D
  | [.tuple xs] => some (.int xs.length)
  | [.list xs] => some (.int xs.length)
  | [.str z] => if z.length ≤ 16777216 then some (.int z.length) else none
  | _ => none
def absD : List D → Option D
  | [.int i] => some (.int (if i < 0 then -i else i))
  | _ => none
def maxD : List D → Option D
  | [.int i, .int j] => some (.int (if j > i then j else i))
  | [.list ds] => (intsOf ds).bind fun xs => (maxI xs).map .int
  | _ => none
def minD : List D → Option D
  | [.int i, .int j] => some (.int (if j < i then j else i))
  | [.list ds] => (intsOf ds).bind fun xs => (minI xs).map .int
  | _ => none
def sumD : List D → Option D
  | [.list ds] => (intsOf ds).map fun xs => .int xs.sum
  | _ => none
def allD : List D → Option D
  | [.list ds] => (boolsOf ds).map fun xs => .bool (xs.all id)
  | _ => none
def anyD : List D → Option D
  | [.list ds] => (boolsOf ds).map fun xs => .bool (xs.any id)
  | _ => none
def divmodD : List D → Option D
  | [.int i, .int j] => if 0 < j ∧ j < 1073741824 then some (.tuple [.int (i / j), .int (i % j)]) else none
  | _ => none
def intDD : List D → Option D
  | [.int i] => some (.int i)
  | [.bool b] => some (.int (if b then 1 else 0))
  | [.str z] => if z.length ≤ 640 then (PySem.intText? z).map .int else none
  | _ => none
def ordO : List D → Option D
  | [.str z] => if z.length = 1 then some (.int (z.cps.getD 0 0 : Nat)) else none
  | _ => none
def tupleD : List D → Option D
  | [.list ds] => some (.tuple ds)
  | [.tuple ds] => some (.tuple ds)
  | _ => none
def listD : List D → Option (List D)
  | [.list ds] => some ds
  | [.tuple ds] => some ds
  | [.str z] => if z.length ≤ 16777216 then some (signsD z) else none
  | _ => none
def bltB (x : Str) (ds : List D) : Option D :=
  if x = "len" then lenD ds else if x = "abs" then absD ds else if x = "max" then maxD ds else if x = "min" then minD ds
  else if x = "sum" then sumD ds else if x = "all" then allD ds else if x = "any" then anyD ds else if x = "divmod" then divmodD ds else if x = "ord" then ordO ds else none
def bltT (x : Str) (ds : List D) : Option D :=
  if x = "int" then intDD ds else if x = "tuple" then tupleD ds else none
section
variable {X : Cx} {x : Str} {ds : List D} {d : D}
theorem bltB_ok (hc : X.calm = true) (h : bltB x ds = some d) : ∃ id, bootBuiltins x = some (.builtin id) ∧ CallD X (.builtin id) ds d := by
  unfold bltB at h
  split at h
  · rename_i e; subst e
    refine ⟨_, b_len, ?_⟩
    unfold lenD at h
    split at h <;> try (cases h; done)
    · cases h; exact cd_lenT
    · cases h; exact cd_lenL
    · split at h
      · cases h; exact cd_lenS (by rw [sizeLine_eq]; assumption)
      · cases h
  split at h
  · rename_i e; subst e
    refine ⟨_, b_abs, ?_⟩
    unfold absD at h
    split at h <;> cases h
    exact cd_abs
  split at h
  · rename_i e; subst e
    refine ⟨_, b_max, ?_⟩
    unfold maxD at h
    split at h <;> try (cases h; done)
    · cases h; exact cd_max2 hc
    · obtain ⟨xs, h1, h2⟩ := Option.bind_eq_some_iff.mp h
      obtain ⟨m, h3, rfl⟩ := Option.map_eq_some_iff.mp h2
      rw [intsOf_ok h1]
      exact cd_maxL hc h3
  split at h
  · rename_i e; subst e
    refine ⟨_, b_min, ?_⟩
    unfold minD at h
    split at h <;> try (cases h; done)
    · cases h; exact cd_min2 hc
    · obtain ⟨xs, h1, h2⟩ := Option.bind_eq_some_iff.mp h
      obtain ⟨m, h3, rfl⟩ := Option.map_eq_some_iff.mp h2
      rw [intsOf_ok h1]
      exact cd_minL hc h3
  split at h
  · rename_i e; subst e
    refine ⟨_, b_sum, ?_⟩
    unfold sumD at h
    split at h <;> try (cases h; done)
    obtain ⟨xs, h1, rfl⟩ := Option.map_eq_some_iff.mp h
    rw [intsOf_ok h1]
    exact cd_sum hc
  split at h
  · rename_i e; subst e
    refine ⟨_, b_all, ?_⟩
    unfold allD at h
    split at h <;> try (cases h; done)
    obtain ⟨xs, h1, rfl⟩ := Option.map_eq_some_iff.mp h
    rw [boolsOf_ok h1]
    exact cd_all hc
  split at h
  · rename_i e; subst e
    refine ⟨_, b_any, ?_⟩
    unfold anyD at h
    split at h <;> try (cases h; done)
    obtain ⟨xs, h1, rfl⟩ := Option.map_eq_some_iff.mp h
    rw [boolsOf_ok h1]
    exact cd_any hc
  split at h
  · rename_i e; subst e
    refine ⟨_, b_divmod, ?_⟩
    unfold divmodD at h
    split at h <;> try (cases h; done)
    split at h <;> cases h
    exact cd_divmod (by assumption)
  split at h
  · rename_i e; subst e
    refine ⟨_, b_ord, ?_⟩
    unfold ordO at h
    split at h <;> try (cases h; done)
    split at h <;> cases h
    exact cd_ord (by assumption)
  · cases h
theorem bltT_ok (h : bltT x ds = some d) : ∃ id, bootBuiltins x = some (.type id) ∧ CallD X (.type id) ds d := by
  unfold bltT at h
  split at h
  · rename_i e; subst e
    refine ⟨_, b_int, ?_⟩
    unfold intDD at h
    split at h <;> try (cases h; done)
    · cases h; exact cd_int
    · cases h; exact cd_intB
    · split at h <;> try (cases h; done)
      obtain ⟨n, h1, rfl⟩ := Option.map_eq_some_iff.mp h
      exact cd_intS h1 (by assumption)
  split at h
  · rename_i e; subst e
    refine ⟨_, b_tuple, ?_⟩
    unfold tupleD at h
    split at h <;> cases h
    · exact cd_tuple
    · exact cd_tupleT
  · cases h
end
/-- a type's name, for isinstance -/
def tyOf (T : Str) : Option String :=
  if T = "int" then some "int" else if T = "bool" then some "bool" else if T = "str" then some "str" else if T = "tuple" then some "tuple" else if T = "list" then some "list" else none
theorem tyOf_ok {T : Str} {U : String} (h : tyOf T = some U) : bootBuiltins T = some (.type U) := by
  unfold tyOf at h
  split at h
  · rename_i e; subst e; cases h; exact b_int
  split at h
  · rename_i e; subst e; cases h; exact b_bool
  split at h
  · rename_i e; subst e; cases h; exact b_str
  split at h
  · rename_i e; subst e; cases h; exact b_tuple
  split at h
  · rename_i e; subst e; cases h; exact b_list
  · cases h

/-! ### methods of texts -/
def strM (name : Str) (z : Str) (dy : D) : Option D :=
  if name = "find" then (match dy with | .str y => some (.int (Txt.find z y)) | _ => none)
  else if name = "join" then (match dy with
    | .list ds => (strsOf ds).bind fun ys => if (ys.map (·.length)).sum + ys.length * z.length ≤ 16777216 then some (.str (Txt.join z ys)) else none
    | .tuple ds => (strsOf ds).bind fun ys => if (ys.map (·.length)).sum + ys.length * z.length ≤ 16777216 then some (.str (Txt.join z ys)) else none
    | _ => none)
  else none
theorem strM_ok {X : Cx} {name z : Str} {dy dz : D} (h : strM name z dy = some dz) : ∃ id, Slot "str" name id ∧ typeOf (.builtin id) = pure (.type "method_descriptor") ∧ MtD X id (.str z) [dy] dz := by
  unfold strM at h
  split at h
  · rename_i e; subst e
    refine ⟨_, F.slot_str_find, F.type_str_find, ?_⟩
    split at h <;> cases h
    exact md_find
  split at h
  · rename_i e; subst e
    refine ⟨_, F.slot_str_join, F.type_str_join, ?_⟩
    split at h <;> try (cases h; done)
    · obtain ⟨ys, h1, h2⟩ := Option.bind_eq_some_iff.mp h
      split at h2 <;> cases h2
      rw [strsOf_ok h1]
      exact md_joinL (by assumption)
    · obtain ⟨ys, h1, h2⟩ := Option.bind_eq_some_iff.mp h
      split at h2 <;> cases h2
      rw [strsOf_ok h1]
      exact md_joinT (by assumption)
  · cases h

/-! ### sets of ints -/
def set1 : Expr → Option Expr
  | .Call (.Name x _) [a] [] _ => if x = "set" then some a else none
  | _ => none
def isSet : Expr → Bool
  | .Call (.Name x _) [_] [] _ => decide (x = "set")
  | .BinOp a _ b _ => (set1 a).isSome && (set1 b).isSome
  | _ => false
/-- tuple of a range? -/
def tupR (x : Str) : Expr → Option (List Expr)
  | .Call (.Name y _) es [] _ => if x = "tuple" ∧ y = "range" then some es else none
  | _ => none
theorem tupR_ok {x : Str} {e : Expr} {es : List Expr} (h : tupR x e = some es) : x = "tuple" ∧ ∃ p pos, e = .Call (.Name "range" p) es [] pos := by
  unfold tupR at h
  split at h
  · split at h <;> cases h
    rename_i hx
    obtain ⟨rfl, rfl⟩ := hx
    exact ⟨rfl, _, _, rfl⟩
  · cases h
/-- len of a set? -/
def lenSet (x : Str) : Expr → Bool
  | .Call f as ks p => decide (x = "len") && isSet (.Call f as ks p)
  | .BinOp a op b p => decide (x = "len") && isSet (.BinOp a op b p)
  | _ => false
def seqI : D → Option (List Int)
  | .list ds => intsOf ds
  | .tuple ds => intsOf ds
  | _ => none
def opZ : Operator → List Int → List Int → Option (List Int)
  | .Sub, xs, ys => if xs.length / 4 ≤ ys.length then some (xs.filter fun j => !decide (j ∈ ys)) else none
  | .BitAnd, xs, ys => some (xs.filter fun j => decide (j ∈ ys))
  | _, _, _ => none
/-- a set of ints as a sorted list -/
def mkZ (ns : List Int) (ρ : Rho) : Option (List Int × Rho) := if ns.length ≤ 4000 then some (sdd ns, ρ) else none
theorem mkZ_ok {ns ms : List Int} {ρ ρ' : Rho} (h : mkZ ns ρ = some (ms, ρ')) : ns.length ≤ 4000 ∧ ms = sdd ns ∧ ρ' = ρ := by
  unfold mkZ at h
  split at h <;> cases h
  exact ⟨by assumption, rfl, rfl⟩

/-! ### expressions, one step -/
section
variable (cs : Cs) (r : Evs) (fm : Fm)
def argsE : List Expr → Rho → Option (List D × Rho)
  | [], ρ => some ([], ρ)
  | e :: es, ρ => if notStar e = true then bd2 (r.E fm e ρ) fun d ρ1 => bd2 (argsE es ρ1) fun ds ρ2 => some (d :: ds, ρ2) else none
def boolE (op : BoolOp) : List Expr → Rho → Option (D × Rho)
  | [], _ => none
  | [a], ρ => r.E fm a ρ
  | a :: b :: es, ρ => bd2 (r.E fm a ρ) fun d ρ1 => match d, op with
    | .bool x, .And => if x = true then boolE op (b :: es) ρ1 else some (.bool false, ρ1)
    | .bool x, .Or => if x = true then some (.bool true, ρ1) else boolE op (b :: es) ρ1
    | _, _ => none
def boolT (op : BoolOp) : List Expr → Rho → Option (Bool × Rho)
  | [], _ => none
  | [a], ρ => r.T fm a ρ
  | a :: b :: es, ρ => bd2 (r.T fm a ρ) fun x ρ1 => match op with
    | .And => if x = true then boolT op (b :: es) ρ1 else some (false, ρ1)
    | .Or => if x = true then some (true, ρ1) else boolT op (b :: es) ρ1
def isNone : Expr → Bool
  | .Constant .none _ _ => true
  | _ => false
def nameE (x : Str) (ρ : Rho) : Option (D × Rho) := match slot fm x with
  | some i => (match ρ[i]? with
    | some (.val d) => some (d, ρ)
    | some (.own false (.lst ds)) => some (.list ds, ρ.set i (.val (.list ds)))
    | _ => none)
  | none => if (glB fm.sc x && okName x) = true then (cs.G x).map fun d => (d, ρ) else none
def constE : Const → Option D
  | .int i => some (.int i)
  | .bool b => some (.bool b)
  | .none => some .none
  | .str z => some (.str z)
  | _ => none
def partE (e : Option Expr) (ρ : Rho) : Option (Option Int × Rho) := match e with
  | none => some (none, ρ)
  | some e => bd2 (r.E fm e ρ) fun d ρ1 => match d with
    | .int i => some (some i, ρ1)
    | _ => none
def ixE : D → D → Option D
  | .tuple ds, .int i => atI ds i
  | .list ds, .int i => atI ds i
  | .str z, .int i => if z.length ≤ 16777216 then (atI z.cps.toList i).map fun c => .str ⟨#[c]⟩ else none
  | _, _ => none
/-- is it a name of an own list? -/
def ownAt (fm : Fm) (a : Expr) (ρ : Rho) : Option (Nat × Bool × List D) := match a with
  | .Name x _ => (slot fm x).bind fun i => match ρ[i]? with
    | some (.own b (.lst ds)) => some (i, b, ds)
    | _ => none
  | _ => none
/-- is it a name of an own dict? -/
def ownD (fm : Fm) (a : Expr) (ρ : Rho) : Option (Nat × List (Key × D)) := match a with
  | .Name x _ => (slot fm x).bind fun i => match ρ[i]? with
    | some (.own _ (.dK kvs)) => some (i, kvs)
    | _ => none
  | _ => none
def cmp1 (a : Expr) (op : CmpOp) (b : Expr) (ρ : Rho) : Option (Bool × Rho) := if behindInMarks op b = false then bd2 (r.E fm a ρ) fun dx ρ1 => bd2 (r.E fm b ρ1) fun dy ρ2 => bd1 (cmpD op dx dy) fun c => some (c, ρ2) else none
/-- y in x, x a list of one's own -/
def inOwn (dy : D) (i : Nat) (ρ : Rho) : Option (Bool × Rho) := match ρ[i]? with
  | some (.own _ (.lst ds)) => if (SeqAt.shaped dy && SeqAt.shaped (.list ds)) = true then some (ds.any fun z => PyData.eqv z dy, ρ) else none
  | _ => none
/-- a comparison, as a bool -/
def cmpE (a : Expr) (ops : List CmpOp) (bs : List Expr) (ρ : Rho) : Option (Bool × Rho) := match ops, bs with
  | [.Is], [b] => if isNone b = true then bd2 (r.E fm a ρ) fun d ρ1 => some (isN d, ρ1) else none
  | [.IsNot], [b] => if isNone b = true then bd2 (r.E fm a ρ) fun d ρ1 => some (!isN d, ρ1) else none
  | [.In], [b] => (match ownD fm b ρ with
    | some (i, _) => bd2 (r.E fm a ρ) fun dy ρ1 => bd1 (toKey dy) fun key => (match ρ1[i]? with
      | some (.own _ (.dK kvs)) => some ((valD kvs key).isSome, ρ1)
      | _ => none)
    | none => (match ownAt fm b ρ with
      | some (i, _, _) => bd2 (r.E fm a ρ) fun dy ρ1 => inOwn dy i ρ1
      | none => cmp1 r fm a .In b ρ))
  | [.NotIn], [b] => (match ownD fm b ρ with
    | some (i, _) => bd2 (r.E fm a ρ) fun dy ρ1 => bd1 (toKey dy) fun key => (match ρ1[i]? with
      | some (.own _ (.dK kvs)) => some (!(valD kvs key).isSome, ρ1)
      | _ => none)
    | none => (match ownAt fm b ρ with
      | some (i, _, _) => bd2 (r.E fm a ρ) fun dy ρ1 => bd2 (inOwn dy i ρ1) fun c ρ2 => some (!c, ρ2)
      | none => cmp1 r fm a .NotIn b ρ))
  | [op], [b] => cmp1 r fm a op b ρ
  | [op, op'], [b, c] => if lastMarks [op, op'] [b, c] = false then bd2 (r.E fm a ρ) fun dx ρ1 => bd2 (r.E fm b ρ1) fun dy ρ2 => bd1 (cmpD op dx dy) fun x =>
      if x = true then bd2 (r.E fm c ρ2) fun dz ρ3 => bd1 (cmpD op' dy dz) fun y => some (y, ρ3) else some (false, ρ2) else none
  | _, _ => none
def subE (a b : Expr) (ρ : Rho) : Option (D × Rho) := match b with
  | .Slice lo hi none _ => bd2 (r.E fm a ρ) fun d ρ1 => bd2 (partE r fm lo ρ1) fun l ρ2 => bd2 (partE r fm hi ρ2) fun u ρ3 => (match d with
    | .tuple ds => some (.tuple (cutA ds l u), ρ3)
    | .list ds => some (.list (cutA ds l u), ρ3)
    | .str z => if z.length ≤ 16777216 then some (.str ⟨(cutA z.cps.toList l u).toArray⟩, ρ3) else none
    | _ => none)
  | .Slice _ _ (some _) _ => none
  | b => if notIx b = true then match ownAt fm a ρ with
    | some (i, _, _) => bd2 (r.E fm b ρ) fun dy ρ2 => (match dy, ρ2[i]? with
      | .int j, some (.own _ (.lst ds)) => (atI ds j).map fun d => (d, ρ2)
      | _, _ => none)
    | none => match ownD fm a ρ with
      | some (i, _) => bd2 (r.E fm b ρ) fun dy ρ2 => bd1 (toKey dy) fun key => (match ρ2[i]? with
        | some (.own _ (.dK kvs)) => bd1 (valD kvs key) fun d => some (d, ρ2)
        | _ => none)
      | none => bd2 (r.E fm a ρ) fun dx ρ1 => bd2 (r.E fm b ρ1) fun dy ρ2 => bd1 (ixE dx dy) fun d => some (d, ρ2)
    else none
def setE1 (e : Expr) (ρ : Rho) : Option (List Int × Rho) := match set1 e with
  | some a => if (glB fm.sc "set" && cs.B "set" && notStar a) = true then (match ownAt fm a ρ with
      | some (_, _, ds) => bd1 (intsOf ds) fun ns => mkZ ns ρ
      | none => bd2 (r.E fm a ρ) fun d ρ1 => bd1 (seqI d) fun ns => mkZ ns ρ1) else none
  | none => none
def setE (e : Expr) (ρ : Rho) : Option (List Int × Rho) := match e with
  | .BinOp a op b _ => bd2 (setE1 cs r fm a ρ) fun xs ρ1 => bd2 (setE1 cs r fm b ρ1) fun ys ρ2 => bd1 (opZ op xs ys) fun zs => some (zs, ρ2)
  | e => setE1 cs r fm e ρ
/-- a built-in function -/
def bltE0 (x : Str) (args : List Expr) (ρ : Rho) : Option (D × Rho) :=
  match (match args with | [a] => ownAt fm a ρ | _ => none) with
  | some (_, _, ds) => if x = "tuple" then some (.tuple ds, ρ) else bd1 (bltB x [.list ds]) fun d => if flatD d = true then some (d, ρ) else none
  | none => if x = "isinstance" then (match args with
      | [e, .Name T _] => if (cs.B T && glB fm.sc T && okName T) = true then bd2 (r.E fm e ρ) fun d ρ1 => bd1 (tyOf T) fun U => bd1 (kitB (tyName d) U) fun c => some (.bool c, ρ1) else none
      | _ => none)
    else bd2 (argsE r fm args ρ) fun ds ρ1 => match bltB x ds with
      | some d => some (d, ρ1)
      | none => (bltT x ds).map fun d => (d, ρ1)
def rngE (es : List Expr) (ρ : Rho) : Option (D × Rho) := match es with
  | [e1] => if (glB fm.sc "range" && cs.B "range" && notStar e1) = true then bd2 (r.E fm e1 ρ) fun d ρ1 => (match d with
    | .int j => if rngOk 0 j = true then some (.tuple ((rngL 0 j).map .int), ρ1) else none
    | _ => none) else none
  | [e1, e2] => if (glB fm.sc "range" && cs.B "range" && notStar e1 && notStar e2) = true then bd2 (r.E fm e1 ρ) fun d ρ1 => (match d with
    | .int i => bd2 (r.E fm e2 ρ1) fun d ρ2 => (match d with
      | .int j => if rngOk i j = true then some (.tuple ((rngL i j).map .int), ρ2) else none
      | _ => none)
    | _ => none) else none
  | _ => none
def bltE (x : Str) (args : List Expr) (ρ : Rho) : Option (D × Rho) := match args with
  | [e] => if lenSet x e = true then bd2 (setE cs r fm e ρ) fun ns ρ1 => some (.int ns.length, ρ1) else (match tupR x e with
    | some es => rngE cs r fm es ρ
    | none => bltE0 cs r fm x [e] ρ)
  | args => bltE0 cs r fm x args ρ
def callE (x : Str) (args : List Expr) (ρ : Rho) : Option (D × Rho) :=
  if (glB fm.sc x && okName x && args.all notStar) = true then match cs.P x with
    | some f => bd2 (argsE r fm args ρ) fun ds ρ1 => bd1 (f ds) fun d => some (d, ρ1)
    | none => match cs.O x with
      | some f => (match args with
        | .Name y py :: es => (match slot fm y with
          | some i => (match ρ[i]? with
            | some (.own _ _) => bd2 (argsE r fm es ρ) fun ds ρ1 => (match ρ1[i]? with
              | some (.own b d0) => bd2 (f d0 ds) fun d d1 => some (d, ρ1.set i (.own b d1))
              | _ => none)
            | _ => none)
          | none => none)
        | _ => none)
      | none => if cs.B x = true then bltE cs r fm x args ρ else none
  else none
def catD : Operator → D → D → Option (List D)
  | .Add, .list x, .list y => if x.length + y.length ≤ 16777216 then some (x ++ y) else none
  | .Mult, .list x, .int k => if -(2 ^ 63) ≤ k ∧ k < 2 ^ 63 ∧ x.length * k.toNat ≤ 16777216 then some (List.replicate k.toNat x).flatten else none
  | _, _, _ => none
def popE (o : Expr) (name : Str) (apos cpos : Pos) (e : Expr) (ρ : Rho) : Option (D × Rho) :=
  if (decide (name = "pop") && notStar e && (apos.endLine == cpos.line)) = true then match ownAt fm o ρ with
    | some (i, _, _) => bd2 (r.E fm e ρ) fun dy ρ1 => (match dy, ρ1[i]? with
      | .int j, some (.own b (.lst ds)) => if -(2 ^ 63) ≤ j ∧ j < 2 ^ 63 then (match ixN ds.length j with
        | some n => (match ds[n]? with
          | some d => some (d, ρ1.set i (.own b (.lst (ds.eraseIdx n))))
          | none => none)
        | none => none) else none
      | _, _ => none)
    | none => none else none
def methE (o : Expr) (name : Str) (apos cpos : Pos) (e : Expr) (ρ : Rho) : Option (D × Rho) :=
  if (notStar e && notCall o && (apos.endLine == cpos.line)) = true then bd2 (r.E fm o ρ) fun dx ρ1 => match dx with
    | .str z => bd2 (r.E fm e ρ1) fun dy ρ2 => bd1 (strM name z dy) fun dz => some (dz, ρ2)
    | _ => none
  else none
/-- get of a dict of the module -/
def getE (x name : Str) (apos cpos : Pos) (e f : Expr) (ρ : Rho) : Option (D × Rho) :=
  if (decide (name = "get") && glB fm.sc x && okName x && notStar e && notStar f && (apos.endLine == cpos.line)) = true then bd1 (cs.GD x) fun kvs => bd2 (r.E fm e ρ) fun d ρ1 => bd1 (toKey d) fun key => bd2 (r.E fm f ρ1) fun z ρ2 => some ((valD kvs key).getD z, ρ2) else none
/-- does it make a new list? -/
def freshB (e : Expr) : Bool := match e with
  | .List .. => true
  | .ListComp .. => true
  | .Dict .. => true
  | .Call (.Name x _) _ _ _ => decide (x = "list") || decide (x = "sorted") || (cs.F x).isSome
  | .Call (.Attribute _ n _) _ _ _ => decide (n = "split")
  | _ => false
def stepE (e : Expr) (ρ : Rho) : Option (D × Rho) :=
  if freshB cs e = true then bd2 (r.F fm e ρ) fun c ρ1 => (match c with
    | .lst ds => some (.list ds, ρ1)
    | _ => none)
  else match e with
  | .Name x _ => nameE cs fm x ρ
  | .Constant c _ _ => (constE c).map fun d => (d, ρ)
  | .BinOp a op b _ => bd2 (r.E fm a ρ) fun dx ρ1 => bd2 (r.E fm b ρ1) fun dy ρ2 => (match catD op dx dy with
    | some zs => some (.list zs, ρ2)
    | none => bd1 (binD op dx dy) fun dz => some (dz, ρ2))
  | .UnaryOp .Not a _ => bd2 (r.E fm a ρ) fun d ρ1 => (match d with
    | .bool x => some (.bool (!x), ρ1)
    | _ => none)
  | .UnaryOp .USub a _ => bd2 (r.E fm a ρ) fun d ρ1 => (match d with
    | .int x => some (.int (-x), ρ1)
    | _ => none)
  | .BoolOp op es _ => boolE r fm op es ρ
  | .IfExp c a b _ => bd2 (r.T fm c ρ) fun x ρ1 => if x = true then r.E fm a ρ1 else r.E fm b ρ1
  | .Compare a ops bs _ => bd2 (cmpE r fm a ops bs ρ) fun c ρ1 => some (.bool c, ρ1)
  | .Tuple es _ _ => bd2 (argsE r fm es ρ) fun ds ρ1 => if ds.length ≤ 1000 then some (.tuple ds, ρ1) else none
  | .Subscript a b _ => subE r fm a b ρ
  | .Call (.Name x _) args [] _ => callE cs r fm x args ρ
  | .Call (.Attribute (.Name x _) name apos) [e, f] [] cpos => getE cs r fm x name apos cpos e f ρ
  | .Call (.Attribute o name apos) [e] [] cpos => if name = "pop" then popE r fm o name apos cpos e ρ else methE r fm o name apos cpos e ρ
  | _ => none
def stepT (e : Expr) (ρ : Rho) : Option (Bool × Rho) := match e with
  | .UnaryOp .Not a _ => bd2 (r.T fm a ρ) fun b ρ1 => some (!b, ρ1)
  | .BoolOp op es _ => boolT r fm op es ρ
  | .Compare a ops bs _ => cmpE r fm a ops bs ρ
  | e => if plainT e = true then (match ownAt fm e ρ with
      | some (_, _, ds) => some (!ds.isEmpty, ρ)
      | none => bd2 (r.E fm e ρ) fun d ρ1 => bd1 (truD d) fun b => some (b, ρ1))
    else none
end
section
variable {X : Cx} {cs : Cs} {r : Evs} {fm : Fm} (a : Agr X fm) (c : CsOk X cs) (h : Snd X fm r)
include h in
theorem args_ok : ∀ {es : List Expr} {ρ ρ' : Rho} {ds : List D} {k : List D → Rho → Prop}, argsE r fm es ρ = some (ds, ρ') → k ds ρ' → AX X es ρ k
  | [], ρ, ρ', ds, k, q, hk => by cases q; exact a_nil hk
  | e :: es, ρ, ρ', ds, k, q, hk => by
    unfold argsE at q
    split at q
    case isFalse => cases q
    rename_i hs
    obtain ⟨d, ρ1, h1, q⟩ := bd2_some q
    obtain ⟨ds2, ρ2, h2, q⟩ := bd2_some q
    cases q
    exact a_cons (h.E _ _ _ _ _ h1 (args_ok h2 hk)) (star_cons hs)
include h in
theorem boolE_ok {op : BoolOp} {pos : Pos} : ∀ {es : List Expr} {ρ ρ' : Rho} {d : D} {k : D → Rho → Prop}, boolE r fm op es ρ = some (d, ρ') → k d ρ' → EX X (.BoolOp op es pos) ρ k
  | [], ρ, ρ', d, k, q, hk => by cases q
  | [a], ρ, ρ', d, k, q, hk => x_one (h.E _ _ _ _ _ q hk)
  | a :: b :: es, ρ, ρ', d, k, q, hk => by
    unfold boolE at q
    obtain ⟨d1, ρ1, h1, q⟩ := bd2_some q
    split at q
    · refine x_and (h.E _ _ _ _ _ h1 ⟨_, rfl, fun hx => ?_, fun hx => ?_⟩)
      · exact boolE_ok (ift q hx) hk
      · have q := iff_ q hx
        cases q; exact hk
    · refine x_or (h.E _ _ _ _ _ h1 ⟨_, rfl, fun hx => ?_, fun hx => ?_⟩)
      · exact boolE_ok (iff_ q hx) hk
      · have q := ift q hx
        cases q; exact hk
    · cases q
include h in
theorem boolW_ok {op : BoolOp} {pos : Pos} : ∀ {es : List Expr} {ρ ρ' : Rho} {d : Bool} {k : Bool → Rho → Prop}, boolT r fm op es ρ = some (d, ρ') → k d ρ' → WX X (.BoolOp op es pos) ρ k
  | [], ρ, ρ', d, k, q, hk => by cases q
  | [a], ρ, ρ', d, k, q, hk => by
    cases op
    · exact w_and1 (h.T _ _ _ _ _ q hk)
    · exact w_or1 (h.T _ _ _ _ _ q hk)
  | a :: b :: es, ρ, ρ', d, k, q, hk => by
    unfold boolT at q
    obtain ⟨d1, ρ1, h1, q⟩ := bd2_some q
    cases op
    · refine w_and (h.T _ _ _ _ _ h1 ⟨fun hx => ?_, fun hx => ?_⟩)
      · exact boolW_ok (ift q hx) hk
      · have q := iff_ q hx
        cases q; exact hk
    · refine w_or (h.T _ _ _ _ _ h1 ⟨fun hx => ?_, fun hx => ?_⟩)
      · exact boolW_ok (iff_ q hx) hk
      · have q := ift q hx
        cases q; exact hk
theorem isNone_ok {b : Expr} (e : isNone b = true) : ∃ j p, b = .Constant .none j p := by
  unfold isNone at e
  split at e
  · exact ⟨_, _, rfl⟩
  · cases e
include a in
theorem ownD_ok {e : Expr} {ρ : Rho} {i : Nat} {kvs : List (Key × D)} (q : ownD fm e ρ = some (i, kvs)) : ∃ x p b, e = .Name x p ∧ X.N[i]? = some x ∧ Vis X.env.scope x ∧ (x == ("__debug__" : Str)) = false ∧ (x == ("__classdict__" : Str)) = false ∧ ρ[i]? = some (.own b (.dK kvs)) := by
  unfold ownD at q
  split at q
  · obtain ⟨j, h1, h2⟩ := Option.bind_eq_some_iff.mp q
    split at h2 <;> cases h2
    obtain ⟨g1, g2, g3, g4⟩ := slot_ok a h1
    exact ⟨_, _, _, rfl, g1, g2, g3, g4, by assumption⟩
  · cases q
include c h in
theorem cmp1_ok {pos : Pos} {e b : Expr} {op : CmpOp} {ρ ρ' : Rho} {z : Bool} (q : cmp1 r fm e op b ρ = some (z, ρ')) : (∀ k : D → Rho → Prop, k (.bool z) ρ' → EX X (.Compare e [op] [b] pos) ρ k) ∧ (∀ k : Bool → Rho → Prop, k z ρ' → TX X (.Compare e [op] [b] pos) ρ k) := by
  unfold cmp1 at q
  split at q <;> try (cases q; done)
  rename_i hm
  obtain ⟨dx, ρ1, h1, q⟩ := bd2_some q
  obtain ⟨dy, ρ2, h2, q⟩ := bd2_some q
  obtain ⟨z, h3, q⟩ := bd1_some q
  cases q
  exact ⟨fun k hk => x_cmp hm (h.E _ _ _ _ _ h1 (h.E _ _ _ _ _ h2 ⟨_, cmpD_ok c.room h3, hk⟩)), fun k hk => t_cmp hm (h.E _ _ _ _ _ h1 (h.E _ _ _ _ _ h2 ⟨_, cmpD_ok c.room h3, hk⟩))⟩
include a in
theorem ownAt_ok {e : Expr} {ρ : Rho} {i : Nat} {b : Bool} {ds : List D} (q : ownAt fm e ρ = some (i, b, ds)) : ∃ x p, e = .Name x p ∧ X.N[i]? = some x ∧ Vis X.env.scope x ∧ (x == ("__debug__" : Str)) = false ∧ (x == ("__classdict__" : Str)) = false ∧ ρ[i]? = some (.own b (.lst ds)) := by
  unfold ownAt at q
  split at q
  · obtain ⟨j, h1, h2⟩ := Option.bind_eq_some_iff.mp q
    split at h2 <;> cases h2
    obtain ⟨g1, g2, g3, g4⟩ := slot_ok a h1
    exact ⟨_, _, rfl, g1, g2, g3, g4, by assumption⟩
  · cases q
theorem inOwn_ok {dy : D} {i : Nat} {ρ ρ' : Rho} {z : Bool} (q : inOwn dy i ρ = some (z, ρ')) : ∃ b ds, ρ[i]? = some (.own b (.lst ds)) ∧ SeqAt.shaped dy = true ∧ SeqAt.shaped (.list ds) = true ∧ z = (ds.any fun z => PyData.eqv z dy) ∧ ρ' = ρ := by
  unfold inOwn at q
  split at q <;> try (cases q; done)
  rename_i hs
  split at q <;> cases q
  rename_i hb
  rw [Bool.and_eq_true] at hb
  exact ⟨_, _, hs, hb.1, hb.2, rfl, rfl⟩
include a c h in
theorem cmpE_ok {pos : Pos} {e : Expr} {ops : List CmpOp} {bs : List Expr} {ρ ρ' : Rho} {b : Bool} (q : cmpE r fm e ops bs ρ = some (b, ρ')) : (∀ k : D → Rho → Prop, k (.bool b) ρ' → EX X (.Compare e ops bs pos) ρ k) ∧ (∀ k : Bool → Rho → Prop, k b ρ' → TX X (.Compare e ops bs pos) ρ k) := by
  unfold cmpE at q
  split at q
  · split at q <;> try (cases q; done)
    rename_i hn
    obtain ⟨j, p, rfl⟩ := isNone_ok hn
    obtain ⟨d, ρ1, h1, q⟩ := bd2_some q
    cases q
    exact ⟨fun k hk => x_isN (h.E _ _ _ _ _ h1 hk), fun k hk => t_isN (h.E _ _ _ _ _ h1 hk)⟩
  · split at q <;> try (cases q; done)
    rename_i hn
    obtain ⟨j, p, rfl⟩ := isNone_ok hn
    obtain ⟨d, ρ1, h1, q⟩ := bd2_some q
    cases q
    exact ⟨fun k hk => x_notN (h.E _ _ _ _ _ h1 hk), fun k hk => t_notN (h.E _ _ _ _ _ h1 hk)⟩
  · split at q
    · rename_i ho
      obtain ⟨x, p, b0, rfl, g1, g2, g3, g4, g5⟩ := ownD_ok a ho
      obtain ⟨dy, ρ1, h1, q⟩ := bd2_some q
      obtain ⟨key, h2, q⟩ := bd1_some q
      split at q <;> try (cases q; done)
      rename_i hs
      cases q
      have := x_din (pos := pos) (py := p) (b := true) c.room g1 g2 (fun k hk => h.E _ _ _ _ k h1 hk) h2 hs g3 g4
      exact ⟨this.1, this.2.1⟩
    · split at q
      · rename_i ho
        obtain ⟨x, p, rfl, g1, g2, g3, g4, g5⟩ := ownAt_ok a ho
        obtain ⟨dy, ρ1, h1, q⟩ := bd2_some q
        obtain ⟨b1, ds, e1, e2, e3, e4, e5⟩ := inOwn_ok q
        subst e4 e5
        have := x_inO (pos := pos) (py := p) c.room g1 g2 (fun k hk => h.E _ _ _ _ k h1 hk) e1 e2 e3 ⟨_, _, g5⟩ g3 g4
        exact ⟨this.1, this.2.1⟩
      · exact cmp1_ok c h q
  · split at q
    · rename_i ho
      obtain ⟨x, p, b0, rfl, g1, g2, g3, g4, g5⟩ := ownD_ok a ho
      obtain ⟨dy, ρ1, h1, q⟩ := bd2_some q
      obtain ⟨key, h2, q⟩ := bd1_some q
      split at q <;> try (cases q; done)
      rename_i hs
      cases q
      have := x_din (pos := pos) (py := p) (b := true) c.room g1 g2 (fun k hk => h.E _ _ _ _ k h1 hk) h2 hs g3 g4
      exact ⟨this.2.2.1, this.2.2.2⟩
    · split at q
      · rename_i ho
        obtain ⟨x, p, rfl, g1, g2, g3, g4, g5⟩ := ownAt_ok a ho
        obtain ⟨dy, ρ1, h1, q⟩ := bd2_some q
        obtain ⟨c1, ρ2, h2, q⟩ := bd2_some q
        cases q
        obtain ⟨b1, ds, e1, e2, e3, e4, e5⟩ := inOwn_ok h2
        subst e4 e5
        have := x_inO (pos := pos) (py := p) c.room g1 g2 (fun k hk => h.E _ _ _ _ k h1 hk) e1 e2 e3 ⟨_, _, g5⟩ g3 g4
        exact ⟨this.2.2.1, this.2.2.2⟩
      · exact cmp1_ok c h q
  · exact cmp1_ok c h q
  · split at q <;> try (cases q; done)
    rename_i hm
    obtain ⟨dx, ρ1, h1, q⟩ := bd2_some q
    obtain ⟨dy, ρ2, h2, q⟩ := bd2_some q
    obtain ⟨z, h3, q⟩ := bd1_some q
    refine ⟨fun k hk => x_chain (h.E _ _ _ _ _ h1 (h.E _ _ _ _ _ h2 ⟨_, cmpD_ok c.room h3, fun hz => ?_, fun hz => ?_⟩)) hm, fun k hk => t_chain (h.E _ _ _ _ _ h1 (h.E _ _ _ _ _ h2 ⟨_, cmpD_ok c.room h3, fun hz => ?_, fun hz => ?_⟩)) hm⟩
    · obtain ⟨dz, ρ3, h4, q⟩ := bd2_some (ift q hz)
      obtain ⟨y, h5, q⟩ := bd1_some q
      cases q
      exact h.E _ _ _ _ _ h4 ⟨_, cmpD_ok c.room h5, hk⟩
    · have q := iff_ q hz
      cases q; exact hk
    · obtain ⟨dz, ρ3, h4, q⟩ := bd2_some (ift q hz)
      obtain ⟨y, h5, q⟩ := bd1_some q
      cases q
      exact h.E _ _ _ _ _ h4 ⟨_, cmpD_ok c.room h5, hk⟩
    · have q := iff_ q hz
      cases q; exact hk
  · cases q
include a c in
theorem nameE_ok {x : Str} {pos : Pos} {ρ ρ' : Rho} {d : D} {k : D → Rho → Prop} (q : nameE cs fm x ρ = some (d, ρ')) (hk : k d ρ') : EX X (.Name x pos) ρ k := by
  unfold nameE at q
  split at q
  · rename_i i hi
    obtain ⟨h1, h2, h3, h4⟩ := slot_ok a hi
    split at q <;> try (cases q; done)
    · rename_i hs
      cases q
      exact x_var h1 h2 hs hk h3 h4
    · rename_i hs
      cases q
      exact x_frz h1 h2 hs hk h3 h4
  · split at q <;> try (cases q; done)
    rename_i hg
    rw [Bool.and_eq_true] at hg
    obtain ⟨d1, h1, h2⟩ := Option.map_eq_some_iff.mp q
    cases h2
    obtain ⟨u, v, h3, h4, h5⟩ := c.G _ _ h1
    exact x_glob (glB_ok a hg.1) h3 h4 h5 hk (okName_d hg.2)
theorem constE_ok {v : Const} {j : Nat} {pos : Pos} {ρ : Rho} {d : D} {k : D → Rho → Prop} (q : constE v = some d) (hk : k d ρ) : EX X (.Constant v j pos) ρ k := by
  unfold constE at q
  split at q <;> cases q
  · exact x_int hk
  · exact x_bl hk
  · exact x_non hk
  · exact x_str hk
include h in
theorem partE_ok {e : Option Expr} {ρ ρ' : Rho} {o : Option Int} {k : Option Int → Rho → Prop} (q : partE r fm e ρ = some (o, ρ')) (hk : k o ρ') : OX X e ρ k := by
  unfold partE at q
  split at q
  · cases q; exact hk
  · obtain ⟨d, ρ1, h1, q⟩ := bd2_some q
    split at q <;> cases q
    exact h.E _ _ _ _ _ h1 ⟨_, rfl, hk⟩
theorem ixE_ok {x y z : D} (q : ixE x y = some z) : IxD X x y z := by
  unfold ixE at q
  split at q
  · exact ixd_tup q
  · exact ixd_lst q
  · split at q <;> try (cases q; done)
    obtain ⟨c, h1, h2⟩ := Option.map_eq_some_iff.mp q
    cases h2
    exact ixd_str (by rw [sizeLine_eq]; assumption) h1
  · cases q
include a c h in
theorem subE_ok {e b : Expr} {pos : Pos} {ρ ρ' : Rho} {d : D} {k : D → Rho → Prop} (q : subE r fm e b ρ = some (d, ρ')) (hk : k d ρ') : EX X (.Subscript e b pos) ρ k := by
  unfold subE at q
  split at q
  · obtain ⟨d1, ρ1, h1, q⟩ := bd2_some q
    obtain ⟨l, ρ2, h2, q⟩ := bd2_some q
    obtain ⟨u, ρ3, h3, q⟩ := bd2_some q
    split at q <;> try (cases q; done)
    · cases q; exact x_slT (h.E _ _ _ _ _ h1 ⟨_, rfl, partE_ok h h2 (partE_ok h h3 hk)⟩)
    · cases q; exact x_frL (f_slL (h.E _ _ _ _ _ h1 ⟨_, rfl, partE_ok h h2 (partE_ok h h3 ⟨_, rfl, hk⟩)⟩))
    · split at q <;> cases q
      exact x_slS (h.E _ _ _ _ _ h1 ⟨_, rfl, by rw [sizeLine_eq]; assumption, partE_ok h h2 (partE_ok h h3 hk)⟩)
  · cases q
  · split at q <;> try (cases q; done)
    rename_i hb
    split at q
    · rename_i ho
      obtain ⟨x, p, rfl, g1, g2, g3, g4, g5⟩ := ownAt_ok a ho
      obtain ⟨dy, ρ2, h1, q⟩ := bd2_some q
      split at q <;> try (cases q; done)
      rename_i hs
      obtain ⟨d1, h2, h3⟩ := Option.map_eq_some_iff.mp q
      cases h3
      exact x_ixO g1 g2 (h.E _ _ _ _ _ h1 ⟨_, _, _, _, rfl, hs, h2, hk⟩) (plain_ix hb) ⟨_, _, g5⟩ g3 g4
    · split at q
      · rename_i ho
        obtain ⟨x, p, b0, rfl, g1, g2, g3, g4, g5⟩ := ownD_ok a ho
        obtain ⟨dy, ρ2, h1, q⟩ := bd2_some q
        obtain ⟨key, h2, q⟩ := bd1_some q
        split at q <;> try (cases q; done)
        rename_i hs
        obtain ⟨dz, h3, q⟩ := bd1_some q
        cases q
        exact x_dget c.room g1 g2 (h.E _ _ _ _ _ h1 ⟨_, _, _, _, h2, hs, h3, hk⟩) (plain_ix hb) ⟨_, _, g5⟩ g3 g4
      · obtain ⟨dx, ρ1, h1, q⟩ := bd2_some q
        obtain ⟨dy, ρ2, h2, q⟩ := bd2_some q
        obtain ⟨dz, h3, q⟩ := bd1_some q
        cases q
        exact x_ix (h.E _ _ _ _ _ h1 (h.E _ _ _ _ _ h2 ⟨_, ixE_ok h3, hk⟩)) (plain_ix hb)
theorem set1_ok {e a : Expr} (h : set1 e = some a) : ∃ p pos, e = .Call (.Name "set" p) [a] [] pos := by
  unfold set1 at h
  split at h
  · split at h <;> cases h
    rename_i hx
    subst hx
    exact ⟨_, _, rfl⟩
  · cases h
theorem seqI_ok {d : D} {ns : List Int} (h : seqI d = some ns) : d = .list (ns.map .int) ∨ d = .tuple (ns.map .int) := by
  unfold seqI at h
  split at h
  · exact .inl (by rw [intsOf_ok h])
  · exact .inr (by rw [intsOf_ok h])
  · cases h
include a c h in
theorem setE1_ok {e : Expr} {ρ ρ' : Rho} {ns : List Int} {k : List Int → Rho → Prop} (q : setE1 cs r fm e ρ = some (ns, ρ')) (hk : k ns ρ') : ZX X e ρ k := by
  unfold setE1 at q
  split at q <;> try (cases q; done)
  rename_i e1 he
  obtain ⟨p, pos, rfl⟩ := set1_ok he
  split at q <;> try (cases q; done)
  rename_i hg
  rw [Bool.and_eq_true, Bool.and_eq_true] at hg
  obtain ⟨⟨g1, g2⟩, g3⟩ := hg
  split at q
  · rename_i ho
    obtain ⟨y, py, rfl, f1, f2, f3, f4, f5⟩ := ownAt_ok a ho
    obtain ⟨ms, h1, q⟩ := bd1_some q
    obtain ⟨h2, e1, e2⟩ := mkZ_ok q
    subst e1 e2
    rw [intsOf_ok h1] at f5
    exact z_setO a.calm (glB_ok a g1) (c.B _ g2) f1 f2 f5 h2 hk f3 f4 (star_cons g3)
  · obtain ⟨d, ρ1, h0, q⟩ := bd2_some q
    obtain ⟨ms, h1, q⟩ := bd1_some q
    obtain ⟨h2, e1, e2⟩ := mkZ_ok q
    subst e1 e2
    exact z_set a.calm (glB_ok a g1) (c.B _ g2) (h.E _ _ _ _ _ h0 ⟨ms, seqI_ok h1, h2, hk⟩) (star_cons g3)
include a c h in
theorem setE_ok {e : Expr} {ρ ρ' : Rho} {ns : List Int} {k : List Int → Rho → Prop} (q : setE cs r fm e ρ = some (ns, ρ')) (hk : k ns ρ') : ZX X e ρ k := by
  unfold setE at q
  split at q
  · obtain ⟨xs, ρ1, h1, q⟩ := bd2_some q
    obtain ⟨ys, ρ2, h2, q⟩ := bd2_some q
    obtain ⟨zs, h3, q⟩ := bd1_some q
    cases q
    unfold opZ at h3
    split at h3 <;> try (cases h3; done)
    · split at h3 <;> cases h3
      exact z_sub (setE1_ok a c h h1 (setE1_ok a c h h2 ⟨by assumption, hk⟩))
    · cases h3
      exact z_and (setE1_ok a c h h1 (setE1_ok a c h h2 hk))
  · exact setE1_ok a c h q hk
include a c h in
theorem bltE0_ok {x : Str} {args : List Expr} {p pos : Pos} {ρ ρ' : Rho} {d : D} {k : D → Rho → Prop} (hg : Gl X x) (ho : okName x = true) (hb : cs.B x = true) (ha : args.all notStar = true) (q : bltE0 cs r fm x args ρ = some (d, ρ')) (hk : k d ρ') : EX X (.Call (.Name x p) args [] pos) ρ k := by
  unfold bltE0 at q
  split at q
  · rename_i i b ds hm
    have hm2 : ∃ e, args = [e] ∧ ownAt fm e ρ = some (i, b, ds) := by
      split at hm
      · exact ⟨_, rfl, hm⟩
      · cases hm
    obtain ⟨e, rfl, hm⟩ := hm2
    obtain ⟨y, py, rfl, g1, g2, g3, g4, g5⟩ := ownAt_ok a hm
    split at q
    · rename_i e; subst e
      cases q
      exact x_tupleO hg (c.B _ hb) g1 g2 g5 hk g3 g4
    · obtain ⟨d1, h1, q⟩ := bd1_some q
      split at q <;> cases q
      obtain ⟨id, hv, hcd⟩ := bltB_ok a.calm h1
      exact x_callBO hg (c.B _ hb) hv g1 g2 g5 hcd (by assumption) hk (okName_n ho) (okName_d ho) g3 g4
  · split at q
    · rename_i e; subst e
      split at q <;> try (cases q; done)
      split at q <;> try (cases q; done)
      rename_i T p2 hT
      rw [Bool.and_eq_true, Bool.and_eq_true] at hT
      obtain ⟨d1, ρ1, h1, q⟩ := bd2_some q
      obtain ⟨U, h2, q⟩ := bd1_some q
      obtain ⟨z, h3, q⟩ := bd1_some q
      cases q
      rw [List.all_cons, Bool.and_eq_true] at ha
      exact x_isi hg (c.B _ hb) (glB_ok a hT.1.2) (c.B _ hT.1.1) (tyOf_ok h2) (h.E _ _ _ _ _ h1 ⟨_, h3, hk⟩) (okName_n hT.2) (okName_d hT.2) (star_cons ha.1) rfl rfl
    · obtain ⟨ds, ρ1, h1, q2⟩ := bd2_some q; clear q; have q := q2; clear q2
      cases args with
      | nil =>
        cases h1
        exfalso
        have e1 : bltB x [] = none := by unfold bltB; repeat' split <;> try rfl
        have e2 : bltT x [] = none := by unfold bltT; repeat' split <;> try rfl
        rw [e1, e2] at q
        cases q
      | cons e es =>
        rw [List.all_cons, Bool.and_eq_true] at ha
        split at q
        · rename_i d1 hd
          cases q
          obtain ⟨id, hv, hcd⟩ := bltB_ok a.calm hd
          exact x_callB hg (c.B _ hb) hv (args_ok h h1 ⟨_, hcd, hk⟩) (okName_n ho) (okName_d ho) (star_cons ha.1) (star_plain ha.2)
        · obtain ⟨d1, h2, h3⟩ := Option.map_eq_some_iff.mp q
          cases h3
          obtain ⟨id, hv, hcd⟩ := bltT_ok (X := X) h2
          exact x_callT hg (c.B _ hb) hv (args_ok h h1 ⟨_, hcd, hk⟩) (okName_n ho) (okName_d ho) (star_cons ha.1) (star_plain ha.2)
theorem lenSet_ok {x : Str} {e : Expr} (h : lenSet x e = true) : x = "len" := by
  unfold lenSet at h
  split at h <;> try (cases h; done)
  all_goals
    rw [Bool.and_eq_true] at h
    exact of_decide_eq_true h.1
include a c h in
theorem bltE_ok {x : Str} {args : List Expr} {p pos : Pos} {ρ ρ' : Rho} {d : D} {k : D → Rho → Prop} (hg : Gl X x) (ho : okName x = true) (hb : cs.B x = true) (ha : args.all notStar = true) (q : bltE cs r fm x args ρ = some (d, ρ')) (hk : k d ρ') : EX X (.Call (.Name x p) args [] pos) ρ k := by
  unfold bltE at q
  split at q
  · split at q
    · rename_i hl
      have hx := lenSet_ok hl
      subst hx
      obtain ⟨ns, ρ1, h1, q⟩ := bd2_some q
      cases q
      rw [List.all_cons, Bool.and_eq_true] at ha
      exact x_lenZ hg (c.B _ hb) (setE_ok a c h h1 hk) (star_cons ha.1)
    · split at q
      · rename_i hr
        obtain ⟨rfl, p1, pp1, rfl⟩ := tupR_ok hr
        unfold rngE at q
        split at q <;> try (cases q; done)
        · split at q <;> try (cases q; done)
          rename_i hgr
          rw [Bool.and_eq_true, Bool.and_eq_true] at hgr
          obtain ⟨d1, ρ1, h1, q⟩ := bd2_some q
          split at q <;> try (cases q; done)
          split at q <;> cases q
          exact x_tupR1 a.calm hg (c.B _ hb) (glB_ok a hgr.1.1) (c.B _ hgr.1.2) (h.E _ _ _ _ _ h1 ⟨_, rfl, by assumption, hk⟩) (star_cons hgr.2)
        · split at q <;> try (cases q; done)
          rename_i hgr
          rw [Bool.and_eq_true, Bool.and_eq_true, Bool.and_eq_true] at hgr
          obtain ⟨d1, ρ1, h1, q⟩ := bd2_some q
          split at q <;> try (cases q; done)
          obtain ⟨d2, ρ2, h2, q⟩ := bd2_some q
          split at q <;> try (cases q; done)
          split at q <;> cases q
          exact x_tupR2 a.calm hg (c.B _ hb) (glB_ok a hgr.1.1.1) (c.B _ hgr.1.1.2) (h.E _ _ _ _ _ h1 ⟨_, rfl, h.E _ _ _ _ _ h2 ⟨_, rfl, by assumption, hk⟩⟩) (star_cons hgr.1.2) (star_cons hgr.2) (star_plain (by rw [List.all_cons, hgr.2]; rfl))
      · exact bltE0_ok a c h hg ho hb ha q hk
  · exact bltE0_ok a c h hg ho hb ha q hk
include a c h in
theorem callE_ok {x : Str} {args : List Expr} {p pos : Pos} {ρ ρ' : Rho} {d : D} {k : D → Rho → Prop} (q : callE cs r fm x args ρ = some (d, ρ')) (hk : k d ρ') : EX X (.Call (.Name x p) args [] pos) ρ k := by
  unfold callE at q
  split at q <;> try (cases q; done)
  rename_i hx
  rw [Bool.and_eq_true, Bool.and_eq_true] at hx
  obtain ⟨⟨hg, ho⟩, ha⟩ := hx
  have hg := glB_ok a hg
  split at q
  · rename_i f hf
    obtain ⟨ds, ρ1, h1, q⟩ := bd2_some q
    obtain ⟨d1, h2, q⟩ := bd1_some q
    cases q
    obtain ⟨n, m, hnm, hr, C⟩ := c.P _ _ hf
    cases args with
    | nil =>
      cases h1
      exact call0_ C hr hnm ⟨_, h2, hk⟩ hg (okName_d ho)
    | cons e es =>
      rw [List.all_cons, Bool.and_eq_true] at ha
      exact x_callP C hr hnm hg (args_ok h h1 ⟨_, h2, hk⟩) (okName_d ho) (star_cons ha.1) (star_plain ha.2)
  · split at q
    · rename_i f hf
      split at q <;> try (cases q; done)
      rename_i y py es
      split at q <;> try (cases q; done)
      rename_i i hi
      obtain ⟨g1, g2, g3, g4⟩ := slot_ok a hi
      split at q <;> try (cases q; done)
      rename_i hs
      obtain ⟨ds, ρ1, h1, q⟩ := bd2_some q
      split at q <;> try (cases q; done)
      rename_i hs2
      obtain ⟨d1, d2, h2, q⟩ := bd2_some q
      cases q
      obtain ⟨n, m, hnm, hr, C⟩ := c.O _ _ hf
      rw [List.all_cons, Bool.and_eq_true] at ha
      exact x_callO C hr hnm hg g1 g2 (args_ok h h1 ⟨_, _, _, _, hs2, h2, hk⟩) g3 g4 (okName_d ho) (star_cons ha.1) (star_plain ha.2) ⟨_, _, hs⟩
    · split at q <;> try (cases q; done)
      exact bltE_ok a c h hg ho (by assumption) ha q hk
include h in
theorem methE_ok {o e : Expr} {name : Str} {apos cpos : Pos} {ρ ρ' : Rho} {d : D} {k : D → Rho → Prop} (q : methE r fm o name apos cpos e ρ = some (d, ρ')) (hk : k d ρ') : EX X (.Call (.Attribute o name apos) [e] [] cpos) ρ k := by
  unfold methE at q
  split at q <;> try (cases q; done)
  rename_i hx
  rw [Bool.and_eq_true, Bool.and_eq_true] at hx
  obtain ⟨dx, ρ1, h1, q⟩ := bd2_some q
  split at q <;> try (cases q; done)
  obtain ⟨dy, ρ2, h2, q⟩ := bd2_some q
  obtain ⟨dz, h3, q⟩ := bd1_some q
  cases q
  obtain ⟨id, sl, ty, hm⟩ := strM_ok (X := X) h3
  exact x_m1 sl ty (h.E _ _ _ _ _ h1 ⟨_, rfl, h.E _ _ _ _ _ h2 ⟨_, hm, hk⟩⟩) (star_one hx.1.1) (base_plain hx.1.2) hx.2
theorem catD_ok {op : Operator} {x y : D} {zs : List D} (q : catD op x y = some zs) : OpF X (binaryOp op) x y zs := by
  unfold catD at q
  split at q
  · split at q <;> cases q
    exact of_cat (by rw [sizeLine_eq]; assumption)
  · split at q <;> try (cases q; done)
    rename_i hc
    cases q
    exact of_rep hc.1 hc.2.1 (by rw [sizeLine_eq]; exact hc.2.2)
  · cases q
include a h in
theorem popE_ok {o e : Expr} {name : Str} {apos cpos : Pos} {ρ ρ' : Rho} {d : D} {k : D → Rho → Prop} (q : popE r fm o name apos cpos e ρ = some (d, ρ')) (hk : k d ρ') : EX X (.Call (.Attribute o name apos) [e] [] cpos) ρ k := by
  unfold popE at q
  split at q <;> try (cases q; done)
  rename_i hx
  rw [Bool.and_eq_true, Bool.and_eq_true] at hx
  obtain ⟨⟨hn, hst⟩, hl⟩ := hx
  have hn := of_decide_eq_true hn
  subst hn
  split at q <;> try (cases q; done)
  rename_i ho
  obtain ⟨x, py, rfl, g1, g2, g3, g4, g5⟩ := ownAt_ok a ho
  obtain ⟨dy, ρ1, h1, q⟩ := bd2_some q
  split at q <;> try (cases q; done)
  rename_i hs
  split at q <;> try (cases q; done)
  rename_i hj
  split at q <;> try (cases q; done)
  rename_i hi
  split at q <;> try (cases q; done)
  rename_i hd
  cases q
  refine x_popAt g1 g2 (h.E _ _ _ _ _ h1 ⟨_, _, _, _, _, rfl, hs, hj.1, hj.2, hi, hd, hk⟩) ⟨_, _, g5⟩ g3 g4 (base_plain rfl) ?_ hl (star_cons hst) rfl
  rw [star_cons hst]
  rfl
include a c h in
theorem getE_ok {x name : Str} {p apos cpos : Pos} {e f : Expr} {ρ ρ' : Rho} {d : D} {k : D → Rho → Prop} (q : getE cs r fm x name apos cpos e f ρ = some (d, ρ')) (hk : k d ρ') : EX X (.Call (.Attribute (.Name x p) name apos) [e, f] [] cpos) ρ k := by
  unfold getE at q
  split at q <;> try (cases q; done)
  rename_i hg
  rw [Bool.and_eq_true, Bool.and_eq_true, Bool.and_eq_true, Bool.and_eq_true, Bool.and_eq_true] at hg
  obtain ⟨⟨⟨⟨⟨hn, g1⟩, g2⟩, g3⟩, g4⟩, g5⟩ := hg
  have hn := of_decide_eq_true hn
  subst hn
  obtain ⟨kvs, h0, q⟩ := bd1_some q
  obtain ⟨d1, ρ1, h1, q⟩ := bd2_some q
  obtain ⟨key, h2, q⟩ := bd1_some q
  obtain ⟨z, ρ2, h3, q⟩ := bd2_some q
  cases q
  obtain ⟨ad, hm, G⟩ := c.GD _ _ h0
  refine x_gget G (glB_ok a g1) hm ⟨base_plain rfl, ?_, g5, ?_⟩ (okName_d g2) (h.E _ _ _ _ _ h1 ⟨key, h2, h.E _ _ _ _ _ h3 hk⟩)
  · rw [star_cons g3, star_one g4]; rfl
  · rw [star_cons g3, star_one g4]; rfl
include a c h in
theorem stepE_ok {e : Expr} {ρ ρ' : Rho} {d : D} {k : D → Rho → Prop} (q : stepE cs r fm e ρ = some (d, ρ')) (hk : k d ρ') : EX X e ρ k := by
  unfold stepE at q
  split at q
  · obtain ⟨ct, ρ1, h1, q⟩ := bd2_some q
    split at q <;> cases q
    exact x_frL (h.F _ _ _ _ _ h1 ⟨_, rfl, hk⟩)
  split at q
  · exact nameE_ok a c q hk
  · obtain ⟨d1, h1, h2⟩ := Option.map_eq_some_iff.mp q
    cases h2
    exact constE_ok h1 hk
  · obtain ⟨dx, ρ1, h1, q⟩ := bd2_some q
    obtain ⟨dy, ρ2, h2, q⟩ := bd2_some q
    split at q
    · rename_i hz
      cases q
      exact x_frL (f_bin (h.E _ _ _ _ _ h1 (h.E _ _ _ _ _ h2 ⟨_, catD_ok hz, _, rfl, hk⟩)))
    · obtain ⟨dz, h3, q⟩ := bd1_some q
      cases q
      exact x_bin (h.E _ _ _ _ _ h1 (h.E _ _ _ _ _ h2 ⟨_, binD_ok h3, hk⟩))
  · obtain ⟨dx, ρ1, h1, q⟩ := bd2_some q
    split at q <;> cases q
    exact x_not (h.E _ _ _ _ _ h1 ⟨_, rfl, hk⟩)
  · obtain ⟨dx, ρ1, h1, q⟩ := bd2_some q
    split at q <;> cases q
    exact x_neg (h.E _ _ _ _ _ h1 ⟨_, rfl, hk⟩)
  · exact boolE_ok h q hk
  · obtain ⟨x, ρ1, h1, q⟩ := bd2_some q
    exact x_if (h.T _ _ _ _ _ h1 ⟨fun hx => h.E _ _ _ _ _ (ift q hx) hk, fun hx => h.E _ _ _ _ _ (iff_ q hx) hk⟩)
  · obtain ⟨x, ρ1, h1, q⟩ := bd2_some q
    cases q
    exact (cmpE_ok a c h h1).1 _ hk
  · obtain ⟨ds, ρ1, h1, q⟩ := bd2_some q
    split at q <;> cases q
    exact x_tup (args_ok h h1 ⟨by assumption, hk⟩)
  · exact subE_ok a c h q hk
  · exact callE_ok a c h q hk
  · exact getE_ok a c h q hk
  · split at q
    · exact popE_ok a h q hk
    · exact methE_ok h q hk
  · cases q
include a c h in
theorem stepT_ok {e : Expr} {ρ ρ' : Rho} {b : Bool} {k : Bool → Rho → Prop} (q : stepT r fm e ρ = some (b, ρ')) (hk : k b ρ') : TX X e ρ k := by
  unfold stepT at q
  split at q
  · obtain ⟨x, ρ1, h1, q⟩ := bd2_some q
    cases q
    exact t_not (h.T _ _ _ _ _ h1 hk)
  · exact t_w (boolW_ok h q hk)
  · exact (cmpE_ok a c h q).2 _ hk
  · split at q <;> try (cases q; done)
    rename_i hp
    split at q
    · rename_i ho
      cases q
      obtain ⟨x, p, rfl, g1, g2, g3, g4, g5⟩ := ownAt_ok a ho
      exact t_truO g1 g2 g5 hk g3 g4
    · obtain ⟨d, ρ1, h1, q⟩ := bd2_some q
      obtain ⟨z, h2, q⟩ := bd1_some q
      cases q
      exact t_tru (h.E _ _ _ _ _ h1 ⟨_, h2, hk⟩) (tru_plain hp)
end
end Ev

set_option Elab.async false
set_option linter.all false
set_option maxRecDepth 100000
namespace Ev
open PySem PySem.Spec PyProof.Rows L2 Lk

/-! ### targets -/
def slotL (fm : Fm) (x : Str) : Option Nat := if (locB fm.sc x && (fm.fnl || localB fm.sc x)) = true then ixOf fm.N x else none
theorem slotL_ok {X : Cx} {fm : Fm} (a : Agr X fm) {x : Str} {i : Nat} (h : slotL fm x = some i) : X.N[i]? = some x ∧ Loc X.env.scope x ∧ (X.fn x = true ∨ X.env.scope.names.lookup x = some .local) := by
  unfold slotL at h
  split at h
  · rename_i e
    rw [Bool.and_eq_true, Bool.or_eq_true] at e
    rw [a.N, a.sc]
    refine ⟨ixOf_ok h, locB_ok e.1, ?_⟩
    rcases e.2 with e2 | e2
    · exact .inl (a.fn e2 x)
    · exact .inr (localB_ok e2)
  · cases h
def tgtsG (f : Expr → D → Rho → Option Rho) : List Expr → List D → Rho → Option Rho
  | [], [], ρ => some ρ
  | e :: es, d :: ds, ρ => (f e d ρ).bind fun ρ1 => tgtsG f es ds ρ1
  | _, _, _ => none
def tgtE (fm : Fm) : Nat → Expr → D → Rho → Option Rho
  | 0, _, _, _ => none
  | n + 1, tg, d, ρ => match tg, d with
    | .Name x _, d => (slotL fm x).bind fun i => if isIo ρ[i]? = false then some (ρ.set i (.val d)) else none
    | .Tuple es _ _, .tuple ds => if (decide (ds.length = es.length) && es.all notStar) = true then tgtsG (tgtE fm n) es ds ρ else none
    | _, _ => none
def tgtsV (f : Expr → List Nat) : List Expr → List Nat
  | [] => []
  | e :: es => f e ++ tgtsV f es
def tgtV (fm : Fm) : Nat → Expr → List Nat
  | 0, _ => []
  | n + 1, tg => match tg with
    | .Name x _ => (slotL fm x).toList
    | .Tuple es _ _ => tgtsV (tgtV fm n) es
    | _ => []
theorem asg_cons {e : Expr} {es : List Expr} {env : Env} (h : notStar e = true) : assignEach (e :: es) env = (false, assign e env) :: assignEach es env := by
  cases e <;> first | rfl | (cases h)
theorem asg_len {env : Env} : ∀ {es : List Expr}, es.all notStar = true → (assignEach es env).length = es.length
  | [], _ => rfl
  | e :: es, h => by
    rw [List.all_cons, Bool.and_eq_true] at h
    rw [asg_cons h.1, List.length_cons, List.length_cons, asg_len h.2]
theorem asg_none {env : Env} : ∀ {es : List Expr}, es.all notStar = true → (assignEach es env).findIdx? (·.1) = none
  | [], _ => rfl
  | e :: es, h => by
    rw [List.all_cons, Bool.and_eq_true] at h
    rw [asg_cons h.1, List.findIdx?_cons, asg_none h.2]
    rfl
theorem tgts_ok {X : Cx} {f : Expr → D → Rho → Option Rho} {V : Expr → List Nat} (hf : ∀ tg d ρ ρ' (k : Rho → Prop), f tg d ρ = some ρ' → k ρ' → GX X tg d ρ (V tg) k) :
    ∀ {es : List Expr} {ds : List D} {ρ ρ' : Rho} {k : Rho → Prop}, es.all notStar = true → tgtsG f es ds ρ = some ρ' → k ρ' → GXs X es ds ρ (tgtsV V es) k
  | [], [], ρ, ρ', k, _, q, hk => by cases q; exact gs_nil hk
  | [], _ :: _, _, _, _, _, q, _ => by cases q
  | _ :: _, [], _, _, _, _, q, _ => by cases q
  | e :: es, d :: ds, ρ, ρ', k, hs, q, hk => by
    obtain ⟨ρ1, h1, h2⟩ := Option.bind_eq_some_iff.mp q
    rw [List.all_cons, Bool.and_eq_true] at hs
    exact gs_cons (hf _ _ _ _ _ h1 (tgts_ok hf hs.2 h2 hk)) (by rw [asg_cons hs.1]; rfl)
theorem tgt_ok {X : Cx} {fm : Fm} (a : Agr X fm) : ∀ (n : Nat) (tg : Expr) (d : D) (ρ ρ' : Rho) (k : Rho → Prop), tgtE fm n tg d ρ = some ρ' → k ρ' → GX X tg d ρ (tgtV fm n tg) k
  | 0, _, _, _, _, _, q, _ => by unfold tgtE at q; cases q
  | n + 1, tg, d, ρ, ρ', k, q, hk => by
    unfold tgtE at q
    split at q
    · rename_i x p
      obtain ⟨i, h1, h2⟩ := Option.bind_eq_some_iff.mp q
      split at h2 <;> cases h2
      obtain ⟨g1, g2, g3⟩ := slotL_ok a h1
      have e : tgtV fm (n + 1) (.Name x p) = [i] := by
        show (slotL fm x).toList = _
        rw [h1]; rfl
      rw [e]
      exact g_name a.nd g1 g2 (by assumption) hk g3
    · split at q <;> try (cases q; done)
      rename_i hc
      rw [Bool.and_eq_true] at hc
      exact g_tup a.calm (of_decide_eq_true hc.1) (tgts_ok (tgt_ok a n) hc.2 q hk) (asg_len hc.2) (asg_none hc.2)
    · cases q
theorem gx_sub {X : Cx} {tg : Expr} {d : D} {ρ : Rho} {vs vs' : List Nat} {k : Rho → Prop} (h : GX X tg d ρ vs k) (m : ∀ i ∈ vs, i ∈ vs') : GX X tg d ρ vs' k := fun W σ H O v M r Q q =>
  h W σ H O v M r Q fun ρ' σ' H' O' M' E' ⟨hl, hs⟩ hk => q ρ' σ' H' O' M' E' ⟨hl, fun i hi => hs i fun z => hi (m i z)⟩ hk

/-! ### what is forgotten -/
def dropR : List Bool → Rho → Rho
  | f :: fs, s :: ρ => (if (f && !isIo (some s)) = true then .non else s) :: dropR fs ρ
  | _, ρ => ρ
theorem dropR_weak : ∀ (fs : List Bool) (ρ : Rho), Weak ρ (dropR fs ρ)
  | [], ρ => by unfold dropR; exact Weak.refl ρ
  | f :: fs, [] => by unfold dropR; exact Weak.refl []
  | f :: fs, s :: ρ => by
    unfold dropR
    split
    · rename_i h
      rw [Bool.and_eq_true] at h
      exact .drop (by simpa using h.2) (dropR_weak fs ρ)
    · exact .keep (dropR_weak fs ρ)

/-! ### statements, one step -/
def flOf (fs : List Bool) : Option Rs → Option (Fl Rho (Sum (D × Rho) (Ct × Rho)))
  | some (.nx ρ) => some (.nx (dropR fs ρ))
  | some (.ct ρ) => some (.nx (dropR fs ρ))
  | some (.bk ρ) => some (.bk (dropR fs ρ))
  | some (.rt d ρ) => some (.rt (.inl (d, ρ)))
  | some (.rf c ρ) => some (.rt (.inr (c, ρ)))
  | none => none
def rsOf : Option (Fl Rho (Sum (D × Rho) (Ct × Rho))) → Option Rs
  | some (.nx ρ) => some (.nx ρ)
  | some (.bk ρ) => some (.nx ρ)
  | some (.rt (.inl (d, ρ))) => some (.rt d ρ)
  | some (.rt (.inr (c, ρ))) => some (.rf c ρ)
  | none => none
/-- what a statement needs of its frame: the names to be forgotten at the head of the loop of a line; whether a new list is handed back -/
structure Or where
  drop : Nat → List Bool
  fresh : Bool
def isAdd : Expr → Bool
  | .BinOp _ .Add _ _ => true
  | .BinOp (.List ..) .Mult _ _ => true
  | _ => false
def notTup : Expr → Bool
  | .Tuple .. => false
  | _ => true
def augG : Operator → Option (Int → Int → Int)
  | .Add => some fun i j => i + j
  | .Sub => some fun i j => i - j
  | _ => none
theorem augG_ok {X : Cx} {op : Operator} {g : Int → Int → Int} (h : augG op = some g) : PIp X op (ipI g) := by
  unfold augG at h
  split at h <;> cases h
  · exact ip_add
  · exact ip_sub
section
variable (cs : Cs) (or_ : Or) (r : Evs) (fm : Fm)
/-- what is walked -/
def iterE (tg e : Expr) (ρ : Rho) : Option (List D × Rho) := match e with
  | .Call (.Name x _) [a] [] _ => if x = "range" then
      (if (glB fm.sc "range" && cs.B "range" && notStar a) = true then bd2 (r.E fm a ρ) fun d ρ1 => match d with
        | .int j => if rngOk 0 j = true then some ((rngL 0 j).map .int, ρ1) else none
        | _ => none else none)
    else if x = "enumerate" then
      (if (glB fm.sc "enumerate" && cs.B "enumerate" && notStar a && !notTup tg) = true then bd2 (r.E fm a ρ) fun d ρ1 => match d with
        | .list xs => if xs.length ≤ 16777216 then some (enumD xs, ρ1) else none
        | _ => none else none)
    else seqE e ρ
  | .Call (.Name x _) [a, b] [] _ => if x = "range" then
      (if (glB fm.sc "range" && cs.B "range" && notStar a && notStar b) = true then bd2 (r.E fm a ρ) fun d ρ1 => match d with
        | .int i => bd2 (r.E fm b ρ1) fun d ρ2 => (match d with
          | .int j => if rngOk i j = true then some ((rngL i j).map .int, ρ2) else none
          | _ => none)
        | _ => none else none)
    else if x = "zip" then
      (if (glB fm.sc "zip" && cs.B "zip" && notStar a && notStar b && !notTup tg) = true then bd2 (argsE r fm [a, b] ρ) fun ds ρ1 => match ds with
        | [.list xs, .list ys] => if xs.length ≤ 16777216 then some (zipD xs ys, ρ1) else none
        | [.tuple xs, .tuple ys] => if xs.length ≤ 16777216 then some (zipD xs ys, ρ1) else none
        | _ => none else none)
    else seqE e ρ
  | e => seqE e ρ
where
  seqE (e : Expr) (ρ : Rho) : Option (List D × Rho) := bd2 (r.E fm e ρ) fun d ρ1 => match d with
    | .list ds => some (ds, ρ1)
    | .tuple ds => some (ds, ρ1)
    | .str z => if z.length ≤ 16777216 then some (signsD z, ρ1) else none
    | _ => none
def ssE : List Stmt → Rho → Option Rs
  | [], ρ => some (.nx ρ)
  | st :: sts, ρ => match r.S fm st ρ with
    | some (.nx ρ1) => ssE sts ρ1
    | o => o
def turnE (tg : Expr) (body : List Stmt) (fs : List Bool) (x : D) (s : Rho) : Option (Fl Rho (Sum (D × Rho) (Ct × Rho))) :=
  (tgtE fm 20 tg x s).bind fun ρ2 => match ssE r fm body ρ2 with
    | some (.nx ρ3) => some (.nx (dropR fs ρ3))
    | some (.ct ρ3) => some (.nx (dropR fs ρ3))
    | some (.bk ρ3) => some (.bk (dropR fs ρ3))
    | some (.rt d ρ3) => some (.rt (.inl (d, ρ3)))
    | some (.rf c ρ3) => some (.rt (.inr (c, ρ3)))
    | none => none
/-- a turn of while -/
def wturnE (test : Expr) (body : List Stmt) (fs : List Bool) (s : Rho) : Option (Fl Rho (Sum (D × Rho) (Ct × Rho))) := bd2 (r.T fm test s) fun b ρ1 => if b = true then flOf fs (ssE r fm body ρ1) else some (.bk (dropR fs ρ1))
def whileE (test : Expr) (body : List Stmt) (line : Nat) (ρ : Rho) : Option Rs := rsOf (whL (wturnE r fm test body (or_.drop line)) 1000000 (dropR (or_.drop line) ρ))
def forE (tg iter : Expr) (body : List Stmt) (line : Nat) (ρ : Rho) : Option Rs :=
  if notSet iter = true then bd2 (iterE cs r fm tg iter ρ) fun items ρ1 => match forL (turnE r fm tg body (or_.drop line)) items (dropR (or_.drop line) ρ1) with
    | some (.nx ρ2) => some (.nx ρ2)
    | some (.bk ρ2) => some (.nx ρ2)
    | some (.rt (.inl (d, ρ2))) => some (.rt d ρ2)
    | some (.rt (.inr (c, ρ2))) => some (.rf c ρ2)
    | none => none
  else none
def assignE (tg e : Expr) (ρ : Rho) : Option Rs := match tg with
  | .Name x _ => (slotL fm x).bind fun i =>
    if notComp e = true then
      if (freshB cs e || (isAdd e && (r.F fm e ρ).isSome)) = true then bd2 (r.F fm e ρ) fun c ρ1 => if isIo ρ1[i]? = false then some (.nx (ρ1.set i (.own false c))) else none
      else bd2 (r.E fm e ρ) fun d ρ1 => if isIo ρ1[i]? = false then some (.nx (ρ1.set i (.val d))) else none
    else none
  | .Subscript (.Name x _) a _ => if notIx a = true then (slot fm x).bind fun i => bd2 (r.E fm e ρ) fun d ρ1 => (match ρ1[i]? with
      | some (.own _ (.lst _)) => bd2 (r.E fm a ρ1) fun dy ρ2 => (match dy, ρ2[i]? with
        | .int k, some (.own b (.lst ds)) => (ixN ds.length k).map fun j => .nx (ρ2.set i (.own b (.lst (ds.set j d))))
        | _, _ => none)
      | _ => none) else none
  | .Tuple ts kk p => if notTup e = true then bd2 (r.E fm e ρ) fun d ρ1 => (tgtE fm 20 (.Tuple ts kk p) d ρ1).map .nx else none
  | _ => none
def augE (tg : Expr) (op : Operator) (e : Expr) (ρ : Rho) : Option Rs := (augG op).bind fun g => match tg with
  | .Name x _ => (slotL fm x).bind fun i => (match ρ[i]? with
    | some (.val (.int n)) => bd2 (r.E fm e ρ) fun d ρ1 => (match d with
      | .int m => if isIo ρ1[i]? = false then some (.nx (ρ1.set i (.val (.int (g n m))))) else none
      | _ => none)
    | _ => none)
  | .Subscript (.Name x _) a _ => if notIx a = true then (slot fm x).bind fun i => (match ρ[i]? with
    | some (.own _ (.lst _)) => bd2 (r.E fm a ρ) fun dy ρ1 => (match dy, ρ1[i]? with
      | .int k, some (.own _ (.lst ds)) => if 0 ≤ k then (match ds[k.toNat]? with
        | some (.int n) => bd2 (r.E fm e ρ1) fun d ρ2 => (match d, ρ2[i]? with
          | .int m, some (.own b (.lst ds2)) => if k.toNat < ds2.length then some (.nx (ρ2.set i (.own b (.lst (ds2.set k.toNat (.int (g n m))))))) else none
          | _, _ => none)
        | _ => none) else none
      | _, _ => none)
    | _ => none) else none
  | _ => none
def exprE (e : Expr) (ρ : Rho) : Option Rs := match e with
  | .Call (.Attribute (.Name x py) name apos) [a] [] cpos => if (decide (name = "append") && notStar a && (apos.endLine == cpos.line)) = true then (slot fm x).bind fun i => (match ρ[i]? with
    | some (.own _ (.lst _)) => bd2 (r.E fm a ρ) fun d ρ1 => (match ρ1[i]? with
      | some (.own b (.lst ds)) => if ds.length < 16777216 then some (.nx (ρ1.set i (.own b (.lst (ds ++ [d]))))) else none
      | _ => none)
    | _ => none) else none
  | e => if notComp e = true then bd2 (r.E fm e ρ) fun _ ρ1 => some (.nx ρ1) else none
def retE (e : Expr) (ρ : Rho) : Option Rs :=
  if or_.fresh = true then (match e with
    | .Name x _ => (slot fm x).bind fun i => (match ρ[i]? with
      | some (.own false c) => some (.rf c (ρ.set i .non))
      | _ => none)
    | e => bd2 (r.F fm e ρ) fun c ρ1 => some (.rf c ρ1))
  else bd2 (r.E fm e ρ) fun d ρ1 => some (.rt d ρ1)
def stepS (st : Stmt) (ρ : Rho) : Option Rs := match st with
  | .Assign [tg] e _ => assignE cs r fm tg e ρ
  | .AugAssign tg op e _ => augE r fm tg op e ρ
  | .Expr e _ => exprE r fm e ρ
  | .Return (some e) _ => retE or_ r fm e ρ
  | .If c A B _ => bd2 (r.T fm c ρ) fun b ρ1 => if b = true then ssE r fm A ρ1 else ssE r fm B ρ1
  | .For tg iter body [] pos => forE cs or_ r fm tg iter body pos.line ρ
  | .While test body [] pos => whileE or_ r fm test body pos.line ρ
  | .Break _ => some (.bk ρ)
  | .Continue _ => some (.ct ρ)
  | .Pass _ => some (.nx ρ)
  | _ => none
end
section
variable {X : Cx} {cs : Cs} {or_ : Or} {r : Evs} {fm : Fm} (a : Agr X fm) (c : CsOk X cs) (h : Snd X fm r)
include h in
theorem ssE_ok : ∀ {sts : List Stmt} {ρ : Rho} {rs : Rs} {N : Wish}, ssE r fm sts ρ = some rs → Fits N rs → SXs X sts ρ N
  | [], ρ, rs, N, q, hf => by cases q; exact ss_nil hf
  | st :: sts, ρ, rs, N, q, hf => by
    unfold ssE at q
    split at q
    · rename_i ρ1 h1
      exact ss_cons (h.S _ _ _ _ h1 (ssE_ok q hf))
    · rename_i o hn
      refine ss_cons (h.S _ _ _ _ q ?_)
      cases rs with
      | nx ρ1 => exact (hn _ q).elim
      | rt d ρ1 => exact hf
      | rf d ρ1 => exact hf
      | bk ρ1 => exact hf
      | ct ρ1 => exact hf
theorem notTup_ok {tg : Expr} (h : (!notTup tg) = true) : ∃ es k p, tg = .Tuple es k p := by
  cases tg <;> first | exact ⟨_, _, _, rfl⟩ | (cases h)
include a c h in
theorem iterE_ok {tg e : Expr} {ρ ρ' : Rho} {ds : List D} {k : List D → Rho → Prop} (q : iterE cs r fm tg e ρ = some (ds, ρ')) (hk : k ds ρ') : IX X tg e ρ k := by
  have seq : ∀ {e : Expr}, iterE.seqE r fm e ρ = some (ds, ρ') → IX X tg e ρ k := fun {e} q => by
    unfold iterE.seqE at q
    obtain ⟨d, ρ1, h1, q⟩ := bd2_some q
    split at q <;> try (cases q; done)
    · cases q; exact i_lst (h.E _ _ _ _ _ h1 ⟨_, rfl, hk⟩)
    · cases q; exact i_tup (h.E _ _ _ _ _ h1 ⟨_, rfl, hk⟩)
    · split at q <;> cases q
      exact i_str (h.E _ _ _ _ _ h1 ⟨_, rfl, by rw [sizeLine_eq]; assumption, hk⟩)
  unfold iterE at q
  split at q
  · split at q
    · rename_i hx
      subst hx
      split at q <;> try (cases q; done)
      rename_i hg
      rw [Bool.and_eq_true, Bool.and_eq_true] at hg
      obtain ⟨d, ρ1, h1, q⟩ := bd2_some q
      split at q <;> try (cases q; done)
      split at q <;> cases q
      exact i_rng1 (glB_ok a hg.1.1) (c.B _ hg.1.2) (h.E _ _ _ _ _ h1 ⟨_, rfl, by assumption, hk⟩) (star_cons hg.2) (star_one hg.2)
    · split at q
      · rename_i hx
        subst hx
        split at q <;> try (cases q; done)
        rename_i hg
        rw [Bool.and_eq_true, Bool.and_eq_true, Bool.and_eq_true] at hg
        obtain ⟨⟨⟨g1, g2⟩, g3⟩, g4⟩ := hg
        obtain ⟨es, kk, pp, rfl⟩ := notTup_ok g4
        obtain ⟨d, ρ1, h1, q⟩ := bd2_some q
        split at q <;> try (cases q; done)
        split at q <;> cases q
        exact i_enum (glB_ok a g1) (c.B _ g2) (h.E _ _ _ _ _ h1 ⟨_, rfl, by rw [sizeLine_eq]; assumption, hk⟩) (star_cons g3) (star_one g3)
      · exact seq q
  · split at q
    · rename_i hx
      subst hx
      split at q <;> try (cases q; done)
      rename_i hg
      rw [Bool.and_eq_true, Bool.and_eq_true, Bool.and_eq_true] at hg
      obtain ⟨d, ρ1, h1, q⟩ := bd2_some q
      split at q <;> try (cases q; done)
      obtain ⟨d2, ρ2, h2, q⟩ := bd2_some q
      split at q <;> try (cases q; done)
      split at q <;> cases q
      refine i_rng2 (glB_ok a hg.1.1.1) (c.B _ hg.1.1.2) (h.E _ _ _ _ _ h1 ⟨_, rfl, h.E _ _ _ _ _ h2 ⟨_, rfl, by assumption, hk⟩⟩) (star_cons hg.1.2) (star_cons hg.2) ?_ (star_one hg.2)
      rw [star_cons hg.1.2, star_one hg.2]
    · split at q
      · rename_i hx
        subst hx
        split at q <;> try (cases q; done)
        rename_i hg
        rw [Bool.and_eq_true, Bool.and_eq_true, Bool.and_eq_true, Bool.and_eq_true] at hg
        obtain ⟨⟨⟨⟨g1, g2⟩, g3⟩, g4⟩, g5⟩ := hg
        obtain ⟨es, kk, pp, rfl⟩ := notTup_ok g5
        obtain ⟨ds1, ρ1, h1, q⟩ := bd2_some q
        have hst : ∀ {p : Pos}, (backTo p (starEach [_] X.env)).any (·.1) = false := fun {p} => star_plain (by rw [List.all_cons, g4]; rfl)
        split at q <;> try (cases q; done)
        · split at q <;> cases q
          exact i_zip (glB_ok a g1) (c.B _ g2) (args_ok h h1 ⟨_, _, .inl rfl, by rw [sizeLine_eq]; assumption, hk⟩) (star_cons g3) hst
        · split at q <;> cases q
          exact i_zip (glB_ok a g1) (c.B _ g2) (args_ok h h1 ⟨_, _, .inr rfl, by rw [sizeLine_eq]; assumption, hk⟩) (star_cons g3) hst
      · exact seq q
  · exact seq q
include a c h in
theorem forE_ok {tg iter : Expr} {body : List Stmt} {pos : Pos} {ρ : Rho} {rs : Rs} {N : Wish} (q : forE cs or_ r fm tg iter body pos.line ρ = some rs) (hf : Fits N rs) : SX X (.For tg iter body [] pos) ρ N := by
  unfold forE at q
  split at q <;> try (cases q; done)
  rename_i hs
  obtain ⟨items, ρ1, h1, q⟩ := bd2_some q
  have hfl : ∃ fl, forL (turnE r fm tg body (or_.drop pos.line)) items (dropR (or_.drop pos.line) ρ1) = some fl := by
    cases e : forL (turnE r fm tg body (or_.drop pos.line)) items (dropR (or_.drop pos.line) ρ1) with
    | none => rw [e] at q; cases q
    | some fl => exact ⟨fl, rfl⟩
  obtain ⟨fl, hfl⟩ := hfl
  rw [hfl] at q
  refine s_for (R' := Sum (D × Rho) (Ct × Rho)) (by rw [a.xe]; exact PassesOwn.never) a.calm (iterE_ok a c h h1 ⟨turnE r fm tg body (or_.drop pos.line), items, dropR (or_.drop pos.line) ρ1, fl, (List.map_id items).symm, dropR_weak _ _, hfl, fun x s f1 hstep => ?_, fun s hfs => ?_⟩) (fold_plain hs) (r := id) (ρS := id) (vs := tgtV fm 20 tg)
  · unfold turnE at hstep
    obtain ⟨ρ2, h2, h3⟩ := Option.bind_eq_some_iff.mp hstep
    refine tgt_ok a 20 _ _ _ _ _ h2 ?_
    cases e : ssE r fm body ρ2 with
    | none => rw [e] at h3; cases h3
    | some rs1 =>
      rw [e] at h3
      refine ssE_ok h e ?_
      cases rs1 with
      | nx ρ3 => cases h3; exact ⟨_, rfl, dropR_weak _ _⟩
      | ct ρ3 => cases h3; exact ⟨_, rfl, dropR_weak _ _⟩
      | bk ρ3 => cases h3; exact ⟨_, rfl, dropR_weak _ _⟩
      | rt d ρ3 =>
        cases h3
        refine ⟨_, rfl, fun hz => ?_⟩
        subst hz
        cases q; exact hf
      | rf d ρ3 =>
        cases h3
        refine ⟨_, rfl, fun hz => ?_⟩
        subst hz
        cases q; exact hf
  · rcases hfs with hfs | hfs <;> subst hfs <;> cases q <;> exact hf
include a h in
theorem whileE_ok {test : Expr} {body : List Stmt} {pos : Pos} {ρ : Rho} {rs : Rs} {N : Wish} (q : whileE or_ r fm test body pos.line ρ = some rs) (hf : Fits N rs) : SX X (.While test body [] pos) ρ N := by
  unfold whileE at q
  have hfl : ∃ fl, whL (wturnE r fm test body (or_.drop pos.line)) 1000000 (dropR (or_.drop pos.line) ρ) = some fl := by
    cases e : whL (wturnE r fm test body (or_.drop pos.line)) 1000000 (dropR (or_.drop pos.line) ρ) with
    | none => rw [e] at q; cases q
    | some fl => exact ⟨fl, rfl⟩
  obtain ⟨fl, hfl⟩ := hfl
  rw [hfl] at q
  refine s_while (ρS := id) (by rw [a.xe]; exact PassesOwn.never) (dropR_weak _ _) hfl (fun s f1 hstep => ?_) fun s hs => ?_
  · unfold wturnE at hstep
    obtain ⟨b, ρ1, h1, hstep⟩ := bd2_some hstep
    refine h.T _ _ _ _ _ h1 ⟨fun hb => ?_, fun hb => ?_⟩
    · have hstep := ift hstep hb
      cases e : ssE r fm body ρ1 with
      | none => rw [e] at hstep; cases hstep
      | some rs1 =>
        rw [e] at hstep
        refine ssE_ok h e ?_
        cases rs1 with
        | nx ρ3 => cases hstep; exact ⟨_, rfl, dropR_weak _ _⟩
        | ct ρ3 => cases hstep; exact ⟨_, rfl, dropR_weak _ _⟩
        | bk ρ3 => cases hstep; exact ⟨_, rfl, dropR_weak _ _⟩
        | rt d ρ3 =>
          cases hstep
          refine ⟨_, rfl, fun hz => ?_⟩
          subst hz
          cases q; exact hf
        | rf d ρ3 =>
          cases hstep
          refine ⟨_, rfl, fun hz => ?_⟩
          subst hz
          cases q; exact hf
    · have hstep := iff_ hstep hb
      cases hstep
      exact ⟨_, rfl, dropR_weak _ _⟩
  · subst hs
    cases q; exact hf
theorem sub_swap {e : Expr} {l : Nat} {env : Env} {x b : Expr} {p : Pos} : swapsWithSole [.Subscript x b p] e l env = pure false := by
  cases e <;> rfl
theorem sub_stores {e : Expr} {env : Env} {x b : Expr} {p : Pos} : swappedStores [.Subscript x b p] e env = pure none := by
  cases e <;> rfl
theorem sub_assign {a x : Expr} {p : Pos} {env : Env} (h : notIx a = true) : ∀ v, assign (.Subscript x a p) env v = (do
    let ov ← holding [v] (eval x env)
    let iv ← holding [v, ov] (eval a env)
    standAt p
    holding [v, ov, iv] (setItem ov iv v)
    release [v, ov, iv] []) := by
  intro v
  cases a <;> first | rfl | (cases h)
theorem sub_aug {a : Expr} (h : notIx a = true) : ∀ ov iv new, augStore a ov iv new = (do holding [new, ov, iv] (setItem ov iv new); release [new, ov, iv] []; pure .next) := by
  intro ov iv new
  cases a <;> first | rfl | (cases h)
theorem tup_swap {e : Expr} {l : Nat} {env : Env} {ts : List Expr} {k : Nat} {p : Pos} : swapsWithSole [.Tuple ts k p] e l env = pure false := by
  cases e <;> rfl
theorem tup_stores {e : Expr} {env : Env} {ts : List Expr} {k : Nat} {p : Pos} (h : notTup e = true) : swappedStores [.Tuple ts k p] e env = pure none := by
  cases e <;> first | rfl | (cases h)
include a c h in
theorem assignE_ok {tg e : Expr} {pos : Pos} {ρ : Rho} {rs : Rs} {N : Wish} (q : assignE cs r fm tg e ρ = some rs) (hf : Fits N rs) : SX X (.Assign [tg] e pos) ρ N := by
  unfold assignE at q
  split at q
  · obtain ⟨i, hi, q⟩ := Option.bind_eq_some_iff.mp q
    obtain ⟨g1, g2, g3⟩ := slotL_ok a hi
    split at q <;> try (cases q; done)
    rename_i hc
    split at q
    · obtain ⟨ct, ρ1, h1, q⟩ := bd2_some q
      split at q <;> cases q
      exact s_setO a.nd g1 g2 (h.F _ _ _ _ _ h1 ⟨by assumption, hf⟩) (swap_false hc) g3
    · obtain ⟨d, ρ1, h1, q⟩ := bd2_some q
      split at q <;> cases q
      exact s_set a.nd g1 g2 (h.E _ _ _ _ _ h1 ⟨by assumption, hf⟩) (swap_false hc) g3
  · split at q <;> try (cases q; done)
    rename_i hn
    obtain ⟨i, hi, q⟩ := Option.bind_eq_some_iff.mp q
    obtain ⟨g1, g2, g3, g4⟩ := slot_ok a hi
    obtain ⟨d, ρ1, h1, q⟩ := bd2_some q
    split at q <;> try (cases q; done)
    rename_i hs
    obtain ⟨dy, ρ2, h2, q⟩ := bd2_some q
    split at q <;> try (cases q; done)
    rename_i hs2
    obtain ⟨j, h3, h4⟩ := Option.map_eq_some_iff.mp q
    subst h4
    exact s_item g1 g2 (h.E _ _ _ _ _ h1 ⟨⟨_, _, hs⟩, h.E _ _ _ _ _ h2 ⟨_, _, _, _, rfl, hs2, h3, hf⟩⟩) g3 g4 (sub_assign hn) sub_swap sub_stores rfl
  · split at q <;> try (cases q; done)
    rename_i hn
    obtain ⟨d, ρ1, h1, q⟩ := bd2_some q
    obtain ⟨ρ2, h2, h3⟩ := Option.map_eq_some_iff.mp q
    subst h3
    exact s_unp (h.E _ _ _ _ _ h1 (tgt_ok a 20 _ _ _ _ _ h2 hf)) tup_swap (tup_stores hn) rfl
  · cases q
include a h in
theorem augE_ok {tg e : Expr} {op : Operator} {pos : Pos} {ρ : Rho} {rs : Rs} {N : Wish} (q : augE r fm tg op e ρ = some rs) (hf : Fits N rs) : SX X (.AugAssign tg op e pos) ρ N := by
  unfold augE at q
  obtain ⟨g, hg, q⟩ := Option.bind_eq_some_iff.mp q
  split at q
  · obtain ⟨i, hi, q⟩ := Option.bind_eq_some_iff.mp q
    obtain ⟨g1, g2, g3⟩ := slotL_ok a hi
    split at q <;> try (cases q; done)
    rename_i hs
    obtain ⟨d, ρ1, h1, q⟩ := bd2_some q
    split at q <;> try (cases q; done)
    split at q <;> cases q
    exact s_augI a.nd g1 g2 (augG_ok hg) hs (h.E _ _ _ _ _ h1 ⟨_, rfl, by assumption, hf⟩) g3
  · split at q <;> try (cases q; done)
    rename_i hn
    obtain ⟨i, hi, q⟩ := Option.bind_eq_some_iff.mp q
    obtain ⟨g1, g2, g3, g4⟩ := slot_ok a hi
    split at q <;> try (cases q; done)
    rename_i hs
    obtain ⟨dy, ρ1, h1, q⟩ := bd2_some q
    split at q <;> try (cases q; done)
    rename_i hs1
    split at q <;> try (cases q; done)
    rename_i hk
    split at q <;> try (cases q; done)
    rename_i hn2
    obtain ⟨d, ρ2, h2, q⟩ := bd2_some q
    split at q <;> try (cases q; done)
    rename_i hs2
    split at q <;> cases q
    exact s_augItem g1 g2 (augG_ok hg) (h.E _ _ _ _ _ h1 ⟨_, _, _, _, rfl, hk, hs1, hn2, h.E _ _ _ _ _ h2 ⟨_, _, _, rfl, hs2, by assumption, hf⟩⟩) ⟨_, _, hs⟩ g3 g4 (sub_aug hn)
  · cases q
include a h in
theorem exprE_ok {e : Expr} {pos : Pos} {ρ : Rho} {rs : Rs} {N : Wish} (q : exprE r fm e ρ = some rs) (hf : Fits N rs) : SX X (.Expr e pos) ρ N := by
  unfold exprE at q
  split at q
  · split at q <;> try (cases q; done)
    rename_i hc
    rw [Bool.and_eq_true, Bool.and_eq_true] at hc
    obtain ⟨⟨hn, hst⟩, hl⟩ := hc
    have hn := of_decide_eq_true hn
    subst hn
    obtain ⟨i, hi, q⟩ := Option.bind_eq_some_iff.mp q
    obtain ⟨g1, g2, g3, g4⟩ := slot_ok a hi
    split at q <;> try (cases q; done)
    rename_i hs
    obtain ⟨d, ρ1, h1, q⟩ := bd2_some q
    split at q <;> try (cases q; done)
    rename_i hs1
    split at q <;> cases q
    refine s_app g1 g2 (h.E _ _ _ _ _ h1 ⟨_, _, hs1, by assumption, hf⟩) ⟨_, _, hs⟩ g3 g4 (swap_false rfl) (base_plain rfl) ?_ hl (star_cons hst) rfl
    rw [star_cons hst]
    rfl
  · split at q <;> try (cases q; done)
    rename_i hn
    obtain ⟨d, ρ1, h1, q⟩ := bd2_some q
    cases q
    exact s_expr (h.E _ _ _ _ _ h1 hf) (swap_false hn)
include a h in
theorem retE_ok {e : Expr} {pos : Pos} {ρ : Rho} {rs : Rs} {N : Wish} (q : retE or_ r fm e ρ = some rs) (hf : Fits N rs) : SX X (.Return (some e) pos) ρ N := by
  unfold retE at q
  split at q
  · split at q
    · obtain ⟨i, hi, q⟩ := Option.bind_eq_some_iff.mp q
      obtain ⟨g1, g2, g3, g4⟩ := slot_ok a hi
      split at q <;> cases q
      exact s_retO g1 g2 (by assumption) hf g3 g4
    · obtain ⟨ct, ρ1, h1, q⟩ := bd2_some q
      cases q
      exact s_retF (h.F _ _ _ _ _ h1 hf)
  · obtain ⟨d, ρ1, h1, q⟩ := bd2_some q
    cases q
    exact s_ret (h.E _ _ _ _ _ h1 hf)
include a c h in
theorem stepS_ok {st : Stmt} {ρ : Rho} {rs : Rs} {N : Wish} (q : stepS cs or_ r fm st ρ = some rs) (hf : Fits N rs) : SX X st ρ N := by
  unfold stepS at q
  split at q
  · exact assignE_ok a c h q hf
  · exact augE_ok a h q hf
  · exact exprE_ok a h q hf
  · exact retE_ok a h q hf
  · obtain ⟨b, ρ1, h1, q⟩ := bd2_some q
    exact s_if (h.T _ _ _ _ _ h1 ⟨fun hb => ssE_ok h (ift q hb) hf, fun hb => ssE_ok h (iff_ q hb) hf⟩)
  · exact forE_ok a c h q hf
  · exact whileE_ok a h q hf
  · cases q; exact s_break hf
  · cases q; exact s_cont hf
  · cases q; exact s_pass hf
  · cases q
end
end Ev

set_option Elab.async false
set_option linter.all false
set_option maxRecDepth 100000
namespace Ev
open PySem PySem.Spec PyProof.Rows L2 Lk

/-! ### comprehensions -/
def relab (fm : Fm) (scope : Scope) : Scope :=
  { scope with names := scope.names.map fun (n, k) => if (k == .free && fm.sc.kind == .function && fm.sc.names.lookup n == some .cell) then (n, .cell) else (n, k) }
def blkFm (fm : Fm) (scope : Scope) : Fm := ⟨fm.N, relab fm scope, false⟩
theorem agr_blk {X : Cx} {fm : Fm} (a : Agr X fm) {scope : Scope} (hk : scope.kind = .function) {s : Shared} {H : Hp} {C : Addr} {cl : List (Str × Addr)} {fp : List Addr} : Agr (bk X scope s H C cl fp) (blkFm fm scope) where
  N := a.N
  sc := by
    show relabel scope X.env = relab fm scope
    unfold relabel relab Env.kindOf
    rw [a.sc]
  fn := fun h => by cases h
  nd := a.nd
  kind := by
    show (relabel scope X.env).kind = _
    exact hk
  calm := a.calm
  xe := rfl
theorem cs_blk {X : Cx} {cs : Cs} (c : CsOk X cs) {scope : Scope} {s : Shared} {H : Hp} {C : Addr} {cl : List (Str × Addr)} {fp : List Addr} : CsOk (bk X scope s H C cl fp) cs :=
  ⟨c.room, c.P, c.O, c.F, c.G, c.GD, c.B⟩
def isNonS : Option Sl → Bool
  | some .non => true
  | _ => false
theorem isNonS_ok {o : Option Sl} (h : isNonS o = true) : o = some .non := by
  unfold isNonS at h
  split at h
  · rfl
  · cases h
def lcCond (n : Nat) (vs : List Nat) (s : Rho) : Bool := decide (s.length = n) && vs.all fun v => isNonS s[v]?
theorem lcCond_blank {n : Nat} {vs : List Nat} {s : Rho} (h : lcCond n vs s = true) : blank s vs = s ∧ s.length = n := by
  unfold lcCond at h
  rw [Bool.and_eq_true, List.all_eq_true] at h
  refine ⟨List.ext_getElem? fun i => ?_, of_decide_eq_true h.1⟩
  by_cases hi : i ∈ vs
  · have h1 := isNonS_ok (h.2 i hi)
    rw [h1]
    refine blank_in hi ?_
    exact (List.getElem?_eq_some_iff.mp h1).1
  · exact blank_out hi
def ownOf (fm : Fm) (scope : Scope) : List (Str × Nat) := scope.names.filterMap fun (n, k) => match k with
  | .local => (ixOf fm.N n).map fun i => (n, i)
  | .cell => (ixOf fm.N n).map fun i => (n, i)
  | _ => none
section
variable (cs : Cs) (r : Evs) (fm : Fm)
def ifsE : List Expr → Rho → Option (Bool × Rho)
  | [], ρ => some (true, ρ)
  | [c], ρ => r.T fm c ρ
  | _, _ => none
def lcTurn (elt tg : Expr) (ifs : List Expr) (vs : List Nat) (n : Nat) (x : D) (s : Rho) : Option (Option D × Rho) :=
  if lcCond n vs s = true then (tgtE fm 20 tg x s).bind fun ρ2 => bd2 (ifsE r fm ifs ρ2) fun b ρ3 =>
    if b = true then bd2 (r.E fm elt ρ3) fun d ρ4 => if lcCond n vs (blank ρ4 vs) = true then some (some d, blank ρ4 vs) else none
    else if lcCond n vs (blank ρ3 vs) = true then some (none, blank ρ3 vs) else none
  else none
def lcFlags (n : Nat) (vs : List Nat) : List Bool := (List.range n).map fun i => vs.contains i
def lcE (elt tg iter : Expr) (ifs : List Expr) (scope : Scope) (ρ : Rho) : Option (List D × Rho) :=
  if (blkC fm.N fm.sc scope (ownOf fm scope) && notSet iter && (tgtV (blkFm fm scope) 20 tg).all fun i => decide (i ∈ (ownOf fm scope).map (·.2))) = true then
    bd2 (iterE cs r fm tg iter ρ) fun items ρ1 =>
      bd2 (if lcCond ρ1.length ((ownOf fm scope).map (·.2)) (dropR (lcFlags ρ1.length ((ownOf fm scope).map (·.2))) ρ1) = true then
        lcL (lcTurn r (blkFm fm scope) elt tg ifs ((ownOf fm scope).map (·.2)) ρ1.length) items (dropR (lcFlags ρ1.length ((ownOf fm scope).map (·.2))) ρ1) else none) fun ys s1 =>
        if lcCond ρ1.length ((ownOf fm scope).map (·.2)) s1 = true then some (ys, s1) else none
  else none
def lc2Turn (elt tg : Expr) (ifs : List Expr) (tg1 iter1 : Expr) (ifs1 : List Expr) (vs vs1 : List Nat) (n : Nat) (x : D) (s : Rho) : Option (List D × Rho) :=
  if lcCond n vs s = true then (tgtE fm 20 tg x s).bind fun ρ2 => bd2 (ifsE r fm ifs ρ2) fun b ρ3 =>
    if b = true then bd2 (iterE cs r fm tg1 iter1 ρ3) fun items1 ρ4 =>
      bd2 (if lcCond n vs1 (dropR (lcFlags n vs1) ρ4) = true then lcL (lcTurn r fm elt tg1 ifs1 vs1 n) items1 (dropR (lcFlags n vs1) ρ4) else none) fun ys1 s11 =>
        if (lcCond n vs1 s11 && lcCond n vs (blank s11 vs)) = true then some (ys1, blank s11 vs) else none
    else if lcCond n vs (blank ρ3 vs) = true then some ([], blank ρ3 vs) else none
  else none
def lc2E (elt tg iter : Expr) (ifs : List Expr) (tg1 iter1 : Expr) (ifs1 : List Expr) (scope : Scope) (ρ : Rho) : Option (List D × Rho) :=
  if (blkC fm.N fm.sc scope (ownOf fm scope) && notSet iter && notSet iter1 && (tgtV (blkFm fm scope) 20 tg).all (fun i => decide (i ∈ (ownOf fm scope).map (·.2))) && (tgtV (blkFm fm scope) 20 tg1).all (fun i => decide (i ∈ (ownOf fm scope).map (·.2)))
      && lcCond fm.N.length (tgtV (blkFm fm scope) 20 tg1) (List.replicate fm.N.length .non)) = true then
    bd2 (iterE cs r fm tg iter ρ) fun items ρ1 =>
      bd2 (if lcCond fm.N.length ((ownOf fm scope).map (·.2)) (dropR (lcFlags fm.N.length ((ownOf fm scope).map (·.2))) ρ1) = true then
        lcM (lc2Turn cs r (blkFm fm scope) elt tg ifs tg1 iter1 ifs1 ((ownOf fm scope).map (·.2)) (tgtV (blkFm fm scope) 20 tg1) fm.N.length) items (dropR (lcFlags fm.N.length ((ownOf fm scope).map (·.2))) ρ1) else none) fun ys s1 =>
        if (lcCond fm.N.length ((ownOf fm scope).map (·.2)) s1 && decide (ys.length ≤ 16777216)) = true then some (ys, s1) else none
  else none
/-- range's arguments, where it is the one argument -/
def rangeOf : List Expr → Option (List Expr)
  | [.Call (.Name x _) es [] _] => if x = "range" then some es else none
  | _ => none
theorem rangeOf_ok {args es : List Expr} (h : rangeOf args = some es) : ∃ p pos, args = [.Call (.Name "range" p) es [] pos] := by
  unfold rangeOf at h
  split at h
  · split at h <;> cases h
    rename_i hx
    subst hx
    exact ⟨_, _, rfl⟩
  · cases h
def pairsE : List (Option Expr) → List Expr → Rho → Option (List (Key × D) × Rho)
  | [], [], ρ => some ([], ρ)
  | some kx :: ks, vx :: vs, ρ => bd2 (r.E fm kx ρ) fun d ρ1 => bd1 (toKey d) fun key => bd2 (r.E fm vx ρ1) fun e ρ2 => bd2 (pairsE ks vs ρ2) fun kvs ρ3 => some ((key, e) :: kvs, ρ3)
  | _, _, _ => none
/-- a new list -/
def stepF (e : Expr) (ρ : Rho) : Option (Ct × Rho) := match e with
  | .List es _ => bd2 (argsE r fm es ρ) fun ds ρ1 => if ds.length ≤ 1000 then some (.lst ds, ρ1) else none
  | .ListComp elt [⟨tg, iter, ifs, 0⟩] scope _ => bd2 (lcE cs r fm elt tg iter ifs scope ρ) fun ds ρ1 => some (.lst ds, ρ1)
  | .ListComp elt [⟨tg, iter, ifs, 0⟩, ⟨tg1, iter1, ifs1, 0⟩] scope _ => bd2 (lc2E cs r fm elt tg iter ifs tg1 iter1 ifs1 scope ρ) fun ds ρ1 => some (.lst ds, ρ1)
  | .Call (.Name x _) (e :: es) [] _ => if (glB fm.sc x && okName x && (e :: es).all notStar) = true then (match cs.F x with
    | some f => bd2 (argsE r fm (e :: es) ρ) fun ds ρ1 => bd1 (f ds) fun c => some (c, ρ1)
    | none => if x = "list" ∧ cs.B x = true then (match rangeOf (e :: es) with
        | some [e1] => if (glB fm.sc "range" && cs.B "range" && notStar e1) = true then bd2 (r.E fm e1 ρ) fun d ρ1 => (match d with
          | .int j => if rngOk 0 j = true then some (.lst ((rngL 0 j).map .int), ρ1) else none
          | _ => none) else none
        | some [e1, e2] => if (glB fm.sc "range" && cs.B "range" && notStar e1 && notStar e2) = true then bd2 (r.E fm e1 ρ) fun d ρ1 => (match d with
          | .int i => bd2 (r.E fm e2 ρ1) fun d ρ2 => (match d with
            | .int j => if rngOk i j = true then some (.lst ((rngL i j).map .int), ρ2) else none
            | _ => none)
          | _ => none) else none
        | some _ => none
        | none => bd2 (argsE r fm (e :: es) ρ) fun ds ρ1 => bd1 (listD ds) fun zs => some (.lst zs, ρ1))
      else if x = "sorted" ∧ cs.B x = true then (if (es.isEmpty && isSet e) = true then bd2 (setE cs r fm e ρ) fun ns ρ1 => some (.lst (ns.map .int), ρ1) else bd2 (argsE r fm (e :: es) ρ) fun ds ρ1 => (match ds with
        | [.list ds] => if sortB ds = true then some (.lst (sortD ds), ρ1) else none
        | _ => none))
      else none) else none
  | .Dict ks vs _ => if (dOk ks vs && !ks.isEmpty && decide (ks.length ≤ 15)) = true then bd2 (pairsE r fm ks vs ρ) fun kvs ρ1 => if kvs.length ≤ 15 then some (.dK (mergeD [] kvs), ρ1) else none else none
  | .BinOp a op b _ => bd2 (r.E fm a ρ) fun dx ρ1 => bd2 (r.E fm b ρ1) fun dy ρ2 => bd1 (catD op dx dy) fun zs => some (.lst zs, ρ2)
  | .Call (.Attribute o name apos) [e] [] cpos => if (decide (name = "split") && notStar e && notCall o && (apos.endLine == cpos.line)) = true then bd2 (r.E fm o ρ) fun dx ρ1 => (match dx with
    | .str z => bd2 (r.E fm e ρ1) fun dy ρ2 => (match dy with
      | .str y => if (y.length == 0) = false ∧ z.length + 2 ≤ 16777216 then some (.lst ((Txt.split z y).map .str), ρ2) else none
      | _ => none)
    | _ => none) else none
  | _ => none
/-- target = [ .. for .. in ..] -/
def lcAssign (st : Stmt) : Option (Str × Pos × Expr × Expr × Expr × List Expr × Scope × Pos) := match st with
  | .Assign [.Name y py] (.ListComp elt [⟨tg, iter, ifs, 0⟩] scope pos) _ => some (y, py, elt, tg, iter, ifs, scope, pos)
  | _ => none
def lcAssign2 (st : Stmt) : Option (Str × Pos × Expr × Expr × Expr × List Expr × Expr × Expr × List Expr × Scope × Pos) := match st with
  | .Assign [.Name y py] (.ListComp elt [⟨tg, iter, ifs, 0⟩, ⟨tg1, iter1, ifs1, 0⟩] scope pos) _ => some (y, py, elt, tg, iter, ifs, tg1, iter1, ifs1, scope, pos)
  | _ => none
def swapB (y : Str) (py : Pos) (scope : Scope) (pos : Pos) : Bool := (py.line == pos.line) && localB fm.sc y && !(scope.names.any fun (n, k) => n == y && (k == .local || k == .cell))
def noSwap (y : Str) (py : Pos) (pos : Pos) : Bool := !(py.line == pos.line) || !(localB fm.sc y)
def stepS2 (or_ : Or) (st : Stmt) (ρ : Rho) : Option Rs := match lcAssign st with
  | some (y, py, elt, tg, iter, ifs, scope, pos) => (slotL fm y).bind fun i =>
    if (swapB fm y py scope pos || noSwap fm y py pos) = true then bd2 (lcE cs r fm elt tg iter ifs scope ρ) fun ys ρ1 => if isIo ρ1[i]? = false then some (.nx (ρ1.set i (.own false (.lst ys)))) else none else none
  | none => match lcAssign2 st with
    | some (y, py, elt, tg, iter, ifs, tg1, iter1, ifs1, scope, pos) => (slotL fm y).bind fun i =>
      if (swapB fm y py scope pos || noSwap fm y py pos) = true then bd2 (lc2E cs r fm elt tg iter ifs tg1 iter1 ifs1 scope ρ) fun ys ρ1 => if isIo ρ1[i]? = false then some (.nx (ρ1.set i (.own false (.lst ys)))) else none else none
    | none => stepS cs or_ r fm st ρ
end
section
variable {X : Cx} {cs : Cs} {or_ : Or} {r : Evs} {fm : Fm} (a : Agr X fm) (c : CsOk X cs) (h : ∀ X fm, Agr X fm → CsOk X cs → Snd X fm r)
include h c a in
theorem ifsE_ok {ifs : List Expr} {ρ ρ' : Rho} {b : Bool} {k : Bool → Rho → Prop} (q : ifsE r fm ifs ρ = some (b, ρ')) (hk : k b ρ') : TsX X ifs ρ k := by
  unfold ifsE at q
  split at q
  · cases q; exact ts_nil hk
  · exact ts_one ((h X fm a c).T _ _ _ _ _ q hk)
  · cases q
include h c a in
theorem lcTurn_ok {elt tg : Expr} {ifs : List Expr} {scope : Scope} {vs : List Nat} {n : Nat} {d : Rho} (hk : scope.kind = .function) (hv : ∀ i ∈ tgtV (blkFm fm scope) 20 tg, i ∈ vs) (hd : lcCond n vs d = true) :
    LcOk X tg ifs elt scope vs id id (fun s => if lcCond n vs s = true then s else d) (lcTurn r (blkFm fm scope) elt tg ifs vs n) := by
  have hS : ∀ s, lcCond n vs (if lcCond n vs s = true then s else d) = true := fun s => by
    by_cases hs : lcCond n vs s = true
    · rw [if_pos hs]; exact hs
    · rw [if_neg hs]; exact hd
  refine ⟨fun s => (lcCond_blank (hS s)).1, fun s s' => ?_, fun x s qq hstep s0 H0 C cl fp => ?_⟩
  · rw [(lcCond_blank (hS s)).2, (lcCond_blank (hS s')).2]
  · unfold lcTurn at hstep
    split at hstep <;> try (cases hstep; done)
    rename_i hcs
    show GX _ _ _ (if lcCond n vs s = true then s else d) _ _
    rw [if_pos hcs]
    obtain ⟨ρ2, h3, hstep⟩ := Option.bind_eq_some_iff.mp hstep
    obtain ⟨b, ρ3, h4, hstep⟩ := bd2_some hstep
    refine gx_sub (tgt_ok (agr_blk a hk) 20 _ _ _ _ _ h3 fun s1 H1 C1 cl1 fp1 => ?_) hv
    refine ifsE_ok (agr_blk a hk) (cs_blk c) h h4 ⟨fun hb s2 H2 C2 cl2 fp2 => ?_, fun hb => ?_⟩
    · obtain ⟨d, ρ4, h5, hstep⟩ := bd2_some (ift hstep hb)
      split at hstep <;> try (cases hstep; done)
      rename_i hc4
      cases hstep
      exact (h _ _ (agr_blk a hk) (cs_blk c)).E _ _ _ _ _ h5 ⟨d, _, rfl, rfl, (if_pos hc4).symm⟩
    · have hstep := iff_ hstep hb
      split at hstep <;> try (cases hstep; done)
      rename_i hc4
      cases hstep
      exact ⟨_, rfl, (if_pos hc4).symm⟩
/-- what a comprehension with two walks needs -/
def Lc2P (X : Cx) (tg iter : Expr) (ifs : List Expr) (tg1 iter1 : Expr) (ifs1 : List Expr) (elt : Expr) (scope : Scope) (own : List (Str × Nat)) (vs1 : List Nat) (ρ : Rho) (ys : List D) (ρ' : Rho) : Prop :=
  BlkOk X.N X.env.scope scope own ∧ (∀ x, foldedSetIterable iter X.env x = pure x) ∧ (∀ env x, foldedSetIterable iter1 env x = pure x) ∧ (∀ i ∈ vs1, i ∈ own.map (·.2)) ∧ ∃ (ρS ρS1 : Rho → Rho), ∀ k : List D → Rho → Prop, k ys ρ' →
    IX X tg iter ρ fun items ρ1 => ∃ (step : D → Rho → Option (List D × Rho)) (step1 : D → Rho → Option (Option D × Rho)) (xs : List D) (s0 : Rho) (ys' : List D) (s1 : Rho), items = xs.map id ∧ Weak ρ1 (ρS s0) ∧ lcM step xs s0 = some (ys', s1) ∧
      Lc2Ok X tg ifs tg1 iter1 ifs1 elt scope (own.map (·.2)) vs1 id id id ρS ρS1 step step1 ∧ ys'.length ≤ sizeLine ∧ k ys' (ρS s1)
include h c a in
theorem lc2E_ok {elt tg iter tg1 iter1 : Expr} {ifs ifs1 : List Expr} {scope : Scope} {ρ ρ' : Rho} {ys : List D} (q : lc2E cs r fm elt tg iter ifs tg1 iter1 ifs1 scope ρ = some (ys, ρ')) : Lc2P X tg iter ifs tg1 iter1 ifs1 elt scope (ownOf fm scope) (tgtV (blkFm fm scope) 20 tg1) ρ ys ρ' := by
  unfold lc2E at q
  split at q <;> try (cases q; done)
  rename_i hg
  rw [Bool.and_eq_true, Bool.and_eq_true, Bool.and_eq_true, Bool.and_eq_true, Bool.and_eq_true, List.all_eq_true, List.all_eq_true] at hg
  obtain ⟨⟨⟨⟨⟨hb, hn⟩, hn1⟩, hv⟩, hv1⟩, hrep⟩ := hg
  obtain ⟨items, ρ1, h1, q⟩ := bd2_some q
  obtain ⟨ys1, s1, h2, q⟩ := bd2_some q
  split at q <;> try (cases q; done)
  rename_i hc1
  cases q
  rw [Bool.and_eq_true] at hc1
  obtain ⟨hc1, hlen⟩ := hc1
  split at h2 <;> try (cases h2; done)
  rename_i hc0
  have hB := blkOk_by hb
  have hv1' : ∀ i ∈ tgtV (blkFm fm scope) 20 tg1, i ∈ (ownOf fm scope).map (·.2) := fun i hi => of_decide_eq_true (hv1 i hi)
  generalize hvs : (ownOf fm scope).map (·.2) = vs at *
  generalize hvs1 : tgtV (blkFm fm scope) 20 tg1 = vs1 at *
  generalize hnn : fm.N.length = n at *
  generalize hρ0 : dropR (lcFlags n vs) ρ1 = ρ0 at *
  have hS : ∀ s, lcCond n vs (if lcCond n vs s = true then s else ρ0) = true := fun s => by
    by_cases hs : lcCond n vs s = true
    · rw [if_pos hs]; exact hs
    · rw [if_neg hs]; exact hc0
  refine ⟨by rw [a.N, a.sc]; exact hB, fold_plain hn, fun env => fold_plain hn1, by rw [hvs]; exact hv1', fun s => if lcCond n vs s = true then s else ρ0, fun s => if lcCond n vs1 s = true then s else List.replicate n .non, fun k hk => ?_⟩
  rw [hvs]
  refine iterE_ok a c (h X fm a c) h1 ⟨_, lcTurn r (blkFm fm scope) elt tg1 ifs1 vs1 n, items, ρ0, ys, ρ', (List.map_id items).symm, ?_, h2, ⟨fun s => (lcCond_blank (hS s)).1, fun s s' => ?_, lcTurn_ok a c h hB.kind (by rw [hvs1]; exact fun i hi => hi) hrep, fun x s qq hstep s0 H0 C cl fp => ?_⟩, by rw [sizeLine_eq]; exact of_decide_eq_true hlen, ?_⟩
  · show Weak ρ1 (if lcCond n vs ρ0 = true then ρ0 else ρ0)
    rw [if_pos hc0, ← hρ0]; exact dropR_weak _ _
  · rw [(lcCond_blank (hS s)).2, (lcCond_blank (hS s')).2]
  · unfold lc2Turn at hstep
    split at hstep <;> try (cases hstep; done)
    rename_i hcs
    show GX _ _ _ (if lcCond n vs s = true then s else ρ0) _ _
    rw [if_pos hcs]
    obtain ⟨ρ2, h3, hstep⟩ := Option.bind_eq_some_iff.mp hstep
    obtain ⟨b, ρ3, h4, hstep⟩ := bd2_some hstep
    refine gx_sub (tgt_ok (agr_blk a hB.kind) 20 _ _ _ _ _ h3 fun s1 H1 C1 cl1 fp1 => ?_) fun i hi => of_decide_eq_true (hv i hi)
    refine ifsE_ok (agr_blk a hB.kind) (cs_blk c) h h4 ⟨fun hb s2 H2 C2 cl2 fp2 => ?_, fun hb => ?_⟩
    · obtain ⟨items1, ρ4, h5, hstep⟩ := bd2_some (ift hstep hb)
      obtain ⟨ys1, s11, h6, hstep⟩ := bd2_some hstep
      split at h6 <;> try (cases h6; done)
      rename_i hc6
      split at hstep <;> try (cases hstep; done)
      rename_i hc7
      rw [Bool.and_eq_true] at hc7
      cases hstep
      refine iterE_ok (agr_blk a hB.kind) (cs_blk c) (h _ _ (agr_blk a hB.kind) (cs_blk c)) h5 ⟨items1, _, ys1, s11, (List.map_id items1).symm, ?_, h6, _, rfl, ?_⟩
      · show Weak ρ4 (if lcCond n vs1 _ = true then _ else _)
        rw [if_pos hc6]; exact dropR_weak _ _
      · show blank (if lcCond n vs1 s11 = true then s11 else _) vs = (if lcCond n vs (blank s11 vs) = true then _ else ρ0)
        rw [if_pos hc7.1, if_pos hc7.2]
    · have hstep := iff_ hstep hb
      split at hstep <;> try (cases hstep; done)
      rename_i hc4
      cases hstep
      exact ⟨_, rfl, (if_pos hc4).symm⟩
  · show k ys (if lcCond n vs ρ' = true then ρ' else ρ0)
    rw [if_pos hc1]; exact hk
/-- what a comprehension needs -/
def LcP (X : Cx) (tg iter elt : Expr) (ifs : List Expr) (scope : Scope) (own : List (Str × Nat)) (ρ : Rho) (ys : List D) (ρ' : Rho) : Prop :=
  BlkOk X.N X.env.scope scope own ∧ (∀ x, foldedSetIterable iter X.env x = pure x) ∧ ∃ (ρS : Rho → Rho), ρS ρ' = ρ' ∧ ∀ k : List D → Rho → Prop, k ys ρ' →
    IX X tg iter ρ fun items ρ1 => ∃ (step : D → Rho → Option (Option D × Rho)) (xs : List D) (s0 : Rho) (ys' : List D) (s1 : Rho), items = xs.map id ∧ Weak ρ1 (ρS s0) ∧ lcL step xs s0 = some (ys', s1) ∧ LcOk X tg ifs elt scope (own.map (·.2)) id id ρS step ∧ ρS s1 = ρ' ∧ ys' = ys ∧ k ys' (ρS s1)
include h c a in
theorem lcE_ok {elt tg iter : Expr} {ifs : List Expr} {scope : Scope} {ρ ρ' : Rho} {ys : List D} (q : lcE cs r fm elt tg iter ifs scope ρ = some (ys, ρ')) : LcP X tg iter elt ifs scope (ownOf fm scope) ρ ys ρ' := by
  unfold lcE at q
  split at q <;> try (cases q; done)
  rename_i hg
  rw [Bool.and_eq_true, Bool.and_eq_true, List.all_eq_true] at hg
  obtain ⟨⟨hb, hn⟩, hv⟩ := hg
  obtain ⟨items, ρ1, h1, q⟩ := bd2_some q
  obtain ⟨ys1, s1, h2, q⟩ := bd2_some q
  split at q <;> try (cases q; done)
  rename_i hc1
  cases q
  split at h2 <;> try (cases h2; done)
  rename_i hc0
  have hB := blkOk_by hb
  generalize hvs : (ownOf fm scope).map (·.2) = vs at *
  generalize hρ0 : dropR (lcFlags ρ1.length vs) ρ1 = ρ0 at *
  refine ⟨by rw [a.N, a.sc]; exact hB, fold_plain hn, fun s => if lcCond ρ1.length vs s = true then s else ρ0, if_pos hc1, fun k hk => ?_⟩
  have hS : ∀ s, lcCond ρ1.length vs (if lcCond ρ1.length vs s = true then s else ρ0) = true := fun s => by
    by_cases hs : lcCond ρ1.length vs s = true
    · rw [if_pos hs]; exact hs
    · rw [if_neg hs]; exact hc0
  rw [hvs]
  refine iterE_ok a c (h X fm a c) h1 ⟨_, items, ρ0, ys, ρ', (List.map_id items).symm, by show Weak ρ1 (if lcCond ρ1.length vs ρ0 = true then ρ0 else ρ0); rw [if_pos hc0, ← hρ0]; exact dropR_weak _ _, h2, ⟨fun s => (lcCond_blank (hS s)).1, fun s s' => ?_, fun x s qq hstep s0 H0 C cl fp => ?_⟩, if_pos hc1, rfl, by show k ys (if lcCond ρ1.length vs ρ' = true then ρ' else ρ0); rw [if_pos hc1]; exact hk⟩
  · rw [(lcCond_blank (hS s)).2, (lcCond_blank (hS s')).2]
  · unfold lcTurn at hstep
    split at hstep <;> try (cases hstep; done)
    rename_i hcs
    show GX _ _ _ (if lcCond ρ1.length vs s = true then s else ρ0) _ _
    rw [if_pos hcs]
    obtain ⟨ρ2, h3, hstep⟩ := Option.bind_eq_some_iff.mp hstep
    obtain ⟨b, ρ3, h4, hstep⟩ := bd2_some hstep
    refine gx_sub (tgt_ok (agr_blk a hB.kind) 20 _ _ _ _ _ h3 fun s1 H1 C1 cl1 fp1 => ?_) fun i hi => of_decide_eq_true (hv i hi)
    refine ifsE_ok (agr_blk a hB.kind) (cs_blk c) h h4 ⟨fun hb s2 H2 C2 cl2 fp2 => ?_, fun hb => ?_⟩
    · obtain ⟨d, ρ4, h5, hstep⟩ := bd2_some (ift hstep hb)
      split at hstep <;> try (cases hstep; done)
      rename_i hc4
      cases hstep
      exact (h _ _ (agr_blk a hB.kind) (cs_blk c)).E _ _ _ _ _ h5 ⟨d, _, rfl, rfl, (if_pos hc4).symm⟩
    · have hstep := iff_ hstep hb
      split at hstep <;> try (cases hstep; done)
      rename_i hc4
      cases hstep
      exact ⟨_, rfl, (if_pos hc4).symm⟩
include h c a in
theorem pairsE_ok : ∀ {ks : List (Option Expr)} {vs : List Expr} {ρ ρ' : Rho} {kvs : List (Key × D)} {k : List (Key × D) → Rho → Prop}, pairsE r fm ks vs ρ = some (kvs, ρ') → k kvs ρ' → DX X ks vs ρ k
  | [], [], ρ, ρ', kvs, k, q, hk => by cases q; exact hk
  | some kx :: ks, vx :: vs, ρ, ρ', kvs, k, q, hk => by
    unfold pairsE at q
    obtain ⟨d, ρ1, h1, q⟩ := bd2_some q
    obtain ⟨key, h2, q⟩ := bd1_some q
    obtain ⟨e, ρ2, h3, q⟩ := bd2_some q
    obtain ⟨kvs2, ρ3, h4, q⟩ := bd2_some q
    cases q
    exact (h X fm a c).E _ _ _ _ _ h1 ⟨key, h2, (h X fm a c).E _ _ _ _ _ h3 (pairsE_ok h4 hk)⟩
  | [], _ :: _, _, _, _, _, q, _ => by cases q
  | none :: _, [], _, _, _, _, q, _ => by cases q
  | none :: _, _ :: _, _, _, _, _, q, _ => by cases q
  | some _ :: _, [], _, _, _, _, q, _ => by cases q
include h c a in
theorem stepF_ok {e : Expr} {ρ ρ' : Rho} {d : Ct} {k : Ct → Rho → Prop} (q : stepF cs r fm e ρ = some (d, ρ')) (hk : k d ρ') : FX X e ρ k := by
  unfold stepF at q
  split at q
  · obtain ⟨ds, ρ1, h1, q⟩ := bd2_some q
    split at q <;> cases q
    exact f_lst (args_ok (h X fm a c) h1 ⟨by assumption, hk⟩)
  · obtain ⟨ds, ρ1, h1, q⟩ := bd2_some q
    cases q
    obtain ⟨hB, hf, ρS, e1, hI⟩ := lcE_ok a c h h1
    refine f_lc (ρS := ρS) (r := id) (r' := id) a.calm a.nd hB (i_mono (hI (fun ds ρ' => k (.lst ds) ρ') hk) fun items ρ1 ⟨step, xs, s0, ys, s1, g1, g2, g3, g4, g5, g6, g7⟩ => ⟨step, xs, s0, ys, s1, g1, g2, g3, g4, by rw [List.map_id]; exact g7⟩) hf
  · obtain ⟨ds, ρ1, h1, q⟩ := bd2_some q
    cases q
    obtain ⟨hB, hf, hf1, hv, ρS, ρS1, hI⟩ := lc2E_ok a c h h1
    exact f_lc2 (ρS := ρS) (ρS1 := ρS1) (r := id) (r1 := id) (r' := id) a.calm a.nd hB hv (i_mono (hI (fun ds ρ' => k (.lst ds) ρ') hk) fun items ρ1 ⟨step, step1, xs, s0, ys, s1, g1, g2, g3, g4, g5, g6⟩ => ⟨step, step1, xs, s0, ys, s1, g1, g2, g3, g4, g5, by rw [List.map_id]; exact g6⟩) hf hf1
  · split at q <;> try (cases q; done)
    rename_i hx
    rw [Bool.and_eq_true, Bool.and_eq_true, List.all_cons, Bool.and_eq_true] at hx
    obtain ⟨⟨hg, ho⟩, ha1, ha2⟩ := hx
    have hg := glB_ok a hg
    split at q
    · rename_i f hf
      obtain ⟨ds, ρ1, h1, q⟩ := bd2_some q
      obtain ⟨ct, h2, q⟩ := bd1_some q
      cases q
      obtain ⟨n, m, hnm, hr, C⟩ := c.F _ _ hf
      exact f_callF C hr hnm hg (args_ok (h X fm a c) h1 ⟨_, h2, hk⟩) (okName_d ho) (star_cons ha1) (star_plain ha2)
    · split at q
      · rename_i hx
        obtain ⟨rfl, hb⟩ := hx
        split at q
        · rename_i e1 hr
          obtain ⟨p1, pp1, hra⟩ := rangeOf_ok hr
          cases hra
          split at q <;> try (cases q; done)
          rename_i hgr
          rw [Bool.and_eq_true, Bool.and_eq_true] at hgr
          obtain ⟨d1, ρ1, h1, q⟩ := bd2_some q
          split at q <;> try (cases q; done)
          split at q <;> cases q
          exact f_listR1 a.calm hg (c.B _ hb) (glB_ok a hgr.1.1) (c.B _ hgr.1.2) ((h X fm a c).E _ _ _ _ _ h1 ⟨_, rfl, by assumption, hk⟩) (star_cons hgr.2)
        · rename_i e1 e2 hr
          obtain ⟨p1, pp1, hra⟩ := rangeOf_ok hr
          cases hra
          split at q <;> try (cases q; done)
          rename_i hgr
          rw [Bool.and_eq_true, Bool.and_eq_true, Bool.and_eq_true] at hgr
          obtain ⟨d1, ρ1, h1, q⟩ := bd2_some q
          split at q <;> try (cases q; done)
          obtain ⟨d2, ρ2, h2, q⟩ := bd2_some q
          split at q <;> try (cases q; done)
          split at q <;> cases q
          exact f_listR2 a.calm hg (c.B _ hb) (glB_ok a hgr.1.1.1) (c.B _ hgr.1.1.2) ((h X fm a c).E _ _ _ _ _ h1 ⟨_, rfl, (h X fm a c).E _ _ _ _ _ h2 ⟨_, rfl, by assumption, hk⟩⟩) (star_cons hgr.1.2) (star_cons hgr.2) (star_plain (by rw [List.all_cons, hgr.2]; rfl))
        · cases q
        · obtain ⟨ds, ρ1, h1, q⟩ := bd2_some q
          obtain ⟨zs, h2, q⟩ := bd1_some q
          cases q
          refine f_callT hg (c.B _ hb) b_list (args_ok (h X fm a c) h1 ⟨_, ?_, hk⟩) (okName_n ho) (okName_d ho) (star_cons ha1) (star_plain ha2)
          unfold listD at h2
          split at h2 <;> try (cases h2; done)
          · cases h2; exact cf_list
          · cases h2; exact cf_listT
          · split at h2 <;> cases h2
            exact cf_listS c.room (by rw [sizeLine_eq]; assumption)
      · split at q <;> try (cases q; done)
        rename_i hx
        obtain ⟨rfl, hb⟩ := hx
        split at q
        · rename_i hz
          rw [Bool.and_eq_true] at hz
          have hes := List.isEmpty_iff.mp hz.1
          subst hes
          obtain ⟨ns, ρ1, h1, q⟩ := bd2_some q
          cases q
          exact f_sortedZ a.calm hg (c.B _ hb) (setE_ok a c (h X fm a c) h1 hk) (star_cons ha1)
        obtain ⟨ds, ρ1, h1, q⟩ := bd2_some q
        split at q <;> try (cases q; done)
        split at q <;> cases q
        exact f_callB hg (c.B _ hb) b_sorted (args_ok (h X fm a c) h1 ⟨_, cf_sorted c.room (by assumption), hk⟩) (okName_n ho) (okName_d ho) (star_cons ha1) (star_plain ha2)
  · split at q <;> try (cases q; done)
    rename_i hg
    rw [Bool.and_eq_true, Bool.and_eq_true] at hg
    obtain ⟨kvs, ρ1, h1, q⟩ := bd2_some q
    split at q <;> cases q
    exact f_disp hg.1.1 (fun e => by rw [e] at hg; exact Bool.noConfusion hg.1.2) (of_decide_eq_true hg.2) (pairsE_ok a c h h1 ⟨by assumption, hk⟩)
  · obtain ⟨dx, ρ1, h1, q⟩ := bd2_some q
    obtain ⟨dy, ρ2, h2, q⟩ := bd2_some q
    obtain ⟨zs, h3, q⟩ := bd1_some q
    cases q
    exact f_bin ((h X fm a c).E _ _ _ _ _ h1 ((h X fm a c).E _ _ _ _ _ h2 ⟨_, catD_ok h3, hk⟩))
  · split at q <;> try (cases q; done)
    rename_i hx
    rw [Bool.and_eq_true, Bool.and_eq_true, Bool.and_eq_true] at hx
    obtain ⟨⟨⟨hn, hst⟩, hno⟩, hl⟩ := hx
    have hn := of_decide_eq_true hn
    subst hn
    obtain ⟨dx, ρ1, h1, q⟩ := bd2_some q
    split at q <;> try (cases q; done)
    obtain ⟨dy, ρ2, h2, q⟩ := bd2_some q
    split at q <;> try (cases q; done)
    split at q <;> try (cases q; done)
    rename_i hy
    cases q
    exact f_m1 F.slot_str_split F.type_str_split ((h X fm a c).E _ _ _ _ _ h1 ⟨_, rfl, (h X fm a c).E _ _ _ _ _ h2 ⟨_, mf_split hy.1 (by rw [sizeLine_eq]; exact hy.2), hk⟩⟩) (star_one hst) (base_plain hno) hl
  · cases q
theorem sw_no {elt : Expr} {gs : List Comprehension} {scope : Scope} {pos py : Pos} {y : Str} {l : Nat} (a : Agr X fm) (hq : noSwap fm y py pos = true) : swapsWith (.ListComp elt gs scope pos) (some (.Name y py)) l X.env = pure false := by
  unfold noSwap at hq
  rw [Bool.or_eq_true] at hq
  unfold swapsWith
  rcases hq with hq | hq
  · have e : (py.line == pos.line) = false := by simpa using hq
    simp only [Expr.pos, e, Bool.and_false, Bool.false_and]
  · have e : (X.env.kindOf y == some NameKind.local) = false := by
      unfold Env.kindOf
      rw [a.sc]
      unfold localB at hq
      cases hl : fm.sc.names.lookup y with
      | none => rfl
      | some z => cases z <;> first | rfl | (rw [hl] at hq; cases hq)
    simp only [Expr.pos, e, Bool.and_false, Bool.false_and]
include h c a in
theorem stepS2_ok {st : Stmt} {ρ : Rho} {rs : Rs} {N : Wish} (q : stepS2 cs r fm or_ st ρ = some rs) (hf : Fits N rs) : SX X st ρ N := by
  unfold stepS2 at q
  split at q
  · rename_i y py elt tg iter ifs scope pos hl
    unfold lcAssign at hl
    split at hl <;> cases hl
    obtain ⟨i, hi, q⟩ := Option.bind_eq_some_iff.mp q
    obtain ⟨g1, g2, g3⟩ := slotL_ok a hi
    split at q <;> try (cases q; done)
    rename_i hsw
    obtain ⟨ys, ρ1, h1, q⟩ := bd2_some q
    split at q <;> try (cases q; done)
    rename_i hio
    cases q
    obtain ⟨hB, hfs, ρS, e1, hI⟩ := lcE_ok a c h h1
    by_cases hs : swapB fm y py scope pos = true
    · unfold swapB at hs
      rw [Bool.and_eq_true, Bool.and_eq_true] at hs
      have hloc := localB_ok hs.1.2
      rw [← a.sc] at hloc
      refine s_lc (ρS := ρS) (r := id) (r' := id) a.calm a.nd g1 hloc hB (sw_true a.kind hloc hs.1.1 (by simpa using hs.2)) (i_mono (hI (fun ds ρ' => isIo ρ'[i]? = false ∧ N.nx (ρ'.set i (.own false (.lst ds)))) ⟨hio, hf⟩) fun items ρ1 ⟨step, xs, s0, ys, s1, g1, g2, g3, g4, g5, g6, g7⟩ => ⟨step, xs, s0, ys, s1, g1, g2, g3, g4, g7.1, by rw [List.map_id]; exact g7.2⟩) hfs
    · have hs : noSwap fm y py pos = true := by
        rw [Bool.or_eq_true] at hsw
        exact hsw.resolve_left hs
      refine s_setO a.nd g1 g2 ?_ (sw_no a hs) g3
      refine f_lc (ρS := ρS) (r := id) (r' := id) a.calm a.nd hB (i_mono (hI (fun ds ρ' => isIo ρ'[i]? = false ∧ N.nx (ρ'.set i (.own false (.lst ds)))) ⟨hio, hf⟩) fun items ρ1 ⟨step, xs, s0, ys, s1, g1, g2, g3, g4, g5, g6, g7⟩ => ⟨step, xs, s0, ys, s1, g1, g2, g3, g4, by rw [List.map_id]; exact g7⟩) hfs
  · split at q
    · rename_i y py elt tg iter ifs tg1 iter1 ifs1 scope pos hl
      unfold lcAssign2 at hl
      split at hl <;> cases hl
      obtain ⟨i, hi, q⟩ := Option.bind_eq_some_iff.mp q
      obtain ⟨g1, g2, g3⟩ := slotL_ok a hi
      split at q <;> try (cases q; done)
      rename_i hsw
      obtain ⟨ys, ρ1, h1, q⟩ := bd2_some q
      split at q <;> try (cases q; done)
      rename_i hio
      cases q
      obtain ⟨hB, hfs, hf1, hv, ρS, ρS1, hI⟩ := lc2E_ok a c h h1
      by_cases hs : swapB fm y py scope pos = true
      · unfold swapB at hs
        rw [Bool.and_eq_true, Bool.and_eq_true] at hs
        have hloc := localB_ok hs.1.2
        rw [← a.sc] at hloc
        exact s_lc2 (ρS := ρS) (ρS1 := ρS1) (r := id) (r1 := id) (r' := id) a.calm a.nd g1 hloc hB hv (sw_true a.kind hloc hs.1.1 (by simpa using hs.2)) (i_mono (hI (fun ds ρ' => isIo ρ'[i]? = false ∧ N.nx (ρ'.set i (.own false (.lst ds)))) ⟨hio, hf⟩) fun items ρ1 ⟨step, step1, xs, s0, ys, s1, g1, g2, g3, g4, g5, g6⟩ => ⟨step, step1, xs, s0, ys, s1, g1, g2, g3, g4, g5, g6.1, by rw [List.map_id]; exact g6.2⟩) hfs hf1
      · have hs : noSwap fm y py pos = true := by
          rw [Bool.or_eq_true] at hsw
          exact hsw.resolve_left hs
        refine s_setO a.nd g1 g2 ?_ (sw_no a hs) g3
        exact f_lc2 (ρS := ρS) (ρS1 := ρS1) (r := id) (r1 := id) (r' := id) a.calm a.nd hB hv (i_mono (hI (fun ds ρ' => isIo ρ'[i]? = false ∧ N.nx (ρ'.set i (.own false (.lst ds)))) ⟨hio, hf⟩) fun items ρ1 ⟨step, step1, xs, s0, ys, s1, g1, g2, g3, g4, g5, g6⟩ => ⟨step, step1, xs, s0, ys, s1, g1, g2, g3, g4, g5, by rw [List.map_id]; exact g6⟩) hfs hf1
    · exact stepS_ok a c (h X fm a c) q hf
end

/-! ### all steps of a frame -/
def frame (cs : Cs) (or_ : Or) : Nat → Evs
  | 0 => ⟨fun _ _ _ => none, fun _ _ _ => none, fun _ _ _ => none, fun _ _ _ => none⟩
  | n + 1 => ⟨fun fm e ρ => stepE cs (frame cs or_ n) fm e ρ, fun fm e ρ => stepF cs (frame cs or_ n) fm e ρ, fun fm e ρ => stepT (frame cs or_ n) fm e ρ, fun fm st ρ => stepS2 cs (frame cs or_ n) fm or_ st ρ⟩
theorem frame_ok {cs : Cs} {or_ : Or} : ∀ (n : Nat) (X : Cx) (fm : Fm), Agr X fm → CsOk X cs → Snd X fm (frame cs or_ n)
  | 0, X, fm, a, c => ⟨fun _ _ _ _ _ q _ => (by cases q), fun _ _ _ _ _ q _ => (by cases q), fun _ _ _ _ _ q _ => (by cases q), fun _ _ _ _ q _ => (by cases q)⟩
  | n + 1, X, fm, a, c => ⟨fun e ρ d ρ' k q hk => stepE_ok a c (frame_ok n X fm a c) q hk, fun e ρ d ρ' k q hk => stepF_ok a c (frame_ok n) q hk, fun e ρ d ρ' k q hk => stepT_ok a c (frame_ok n X fm a c) q hk, fun e ρ rs N q hf => stepS2_ok a c (frame_ok n) q hf⟩

/-! ### defs -/
structure Df where
  st : Stmt
  N : List Str
  ps : List Str
  drop : Nat → List Bool
inductive Kd where
  | p
  | o
  | f
def fuel : Nat := 60
def fmOf (df : Df) : Fm := ⟨df.N, defScope df.st, true⟩
def bodyE (cs : Cs) (df : Df) (fresh : Bool) (ρ : Rho) : Option Rs := ssE (frame cs ⟨df.drop, fresh⟩ fuel) (fmOf df) (defBody df.st) ρ
def runP (cs : Cs) (df : Df) (ds : List D) : Option D :=
  if ds.length = df.ps.length then match bodyE cs df false (ds.map Sl.val ++ List.replicate (df.N.length - df.ps.length) .non) with
    | some (.rt d _) => some d
    | some (.nx _) => some .none
    | _ => none
  else none
def runO (cs : Cs) (df : Df) (d0 : Ct) (ds : List D) : Option (D × Ct) :=
  if ds.length + 1 = df.ps.length then match bodyE cs df false (Sl.own true d0 :: (ds.map Sl.val ++ List.replicate (df.N.length - df.ps.length) .non)) with
    | some (.rt d ρ) => (match (ρ[0]? : Option Sl) with
      | some (.own true d1) => some (d, d1)
      | _ => none)
    | some (.nx ρ) => (match (ρ[0]? : Option Sl) with
      | some (.own true d1) => some (.none, d1)
      | _ => none)
    | _ => none
  else none
def runF (cs : Cs) (df : Df) (ds : List D) : Option Ct :=
  if ds.length = df.ps.length then match bodyE cs df true (ds.map Sl.val ++ List.replicate (df.N.length - df.ps.length) .non) with
    | some (.rf c _) => some c
    | _ => none
  else none
structure Pg where
  defs : Str → Option (Kd × Df)
  G : Str → Option D
  GD : Str → Option (List (Key × D))
  B : Str → Bool
def csAt (p : Pg) : Nat → Cs
  | 0 => ⟨fun _ => none, fun _ => none, fun _ => none, p.G, p.GD, p.B⟩
  | n + 1 => ⟨fun x => match p.defs x with
      | some (.p, df) => some (runP (csAt p n) df)
      | _ => none, fun x => match p.defs x with
      | some (.o, df) => some (runO (csAt p n) df)
      | _ => none, fun x => match p.defs x with
      | some (.f, df) => some (runF (csAt p n) df)
      | _ => none, p.G, p.GD, p.B⟩
/-- the facts of linking -/
structure Lnk (p : Pg) (P : Program) (w : World) (K : PySem.W.Frag) (mg : Str → Option Value) (base : Heap) : Prop where
  df : ∀ x kd df, p.defs x = some (kd, df) → ∃ f fd, Fun K x x df.st f fd ∧ mg x = some (.ref f) ∧ Binds K fd df.ps [] ∧ FnScope df.N df.ps (defScope df.st) ∧ df.ps.length ≤ df.N.length
  G : ∀ x d, p.G x = some d → ∃ u v, mg x = some u ∧ RelV v u ∧ ∀ H, Dp K H v d
  GD : ∀ x kvs, p.GD x = some kvs → ∃ a, mg x = some (.ref a) ∧ GDk P w K a kvs
  B : ∀ x, p.B x = true → mg x = none
section
variable {p : Pg} {P : Program} {w : World} {K : PySem.W.Frag} {mg : Str → Option Value} {base : Heap}
theorem agr_def {N ps : List Str} {qual : Str} {st : Stmt} {f : Addr} {cdv : Value} {A : Around} {outer : List Env} {s : Shared} {H : Hp} {E : XK} (S : FnScope N ps (defScope st)) : Agr (bx P w K mg base N qual st f cdv A outer s H E) ⟨N, defScope st, true⟩ where
  N := rfl
  sc := rfl
  fn := fun _ _ => rfl
  nd := S.nd
  kind := S.kind
  calm := rfl
  xe := rfl
theorem cs_ok (L : Lnk p P w K mg base) (n : Nat) : ∀ X : Cx, X.prog = P → X.w = w → X.K = K → X.mg = mg → X.base = base → Room n X.A → CsOk X (csAt p n) := by
  induction n with
  | zero =>
    intro X e1 e2 e3 e4 e5 hr
    subst e1 e2 e3 e4 e5
    exact ⟨⟨_, hr⟩, fun _ _ h => (by cases h), fun _ _ h => (by cases h), fun _ _ h => (by cases h), L.G, L.GD, L.B⟩
  | succ n ih =>
    intro X e1 e2 e3 e4 e5 hr
    subst e1 e2 e3 e4 e5
    refine ⟨⟨_, hr⟩, fun x f h => ?_, fun x f h => ?_, fun x f h => ?_, L.G, L.GD, L.B⟩
    · unfold csAt at h
      simp only at h
      split at h <;> try (cases h; done)
      rename_i df hd
      cases h
      obtain ⟨f, fd, F, hm, hb, S, hl⟩ := L.df _ _ _ hd
      refine ⟨n + 1, n + 1, Nat.le_refl _, hr, ⟨f, fd, df.ps, fn_P F S (fun ds d q => ?_) hl (fun cdv A outer s H E ds d hr2 q => ?_), hm, F.kp, hb⟩⟩
      · unfold runP at q
        split at q
        · assumption
        · cases q
      · unfold runP at q
        split at q <;> try (cases q; done)
        have a := agr_def (P := X.prog) (w := X.w) (K := X.K) (mg := X.mg) (base := X.base) (qual := x) (f := f) (cdv := cdv) (A := A) (outer := outer) (s := s) (H := H) (E := E) S
        have c := ih (bx X.prog X.w X.K X.mg X.base df.N x df.st f cdv A outer s H E) rfl rfl rfl rfl rfl hr2
        split at q <;> try (cases q; done)
        · rename_i h1
          cases q
          exact ssE_ok (frame_ok fuel _ _ a c) h1 rfl
        · rename_i h1
          cases q
          exact ssE_ok (frame_ok fuel _ _ a c) h1 rfl
    · unfold csAt at h
      simp only at h
      split at h <;> try (cases h; done)
      rename_i df hd
      cases h
      obtain ⟨f, fd, F, hm, hb, S, hl⟩ := L.df _ _ _ hd
      refine ⟨n + 1, n + 1, Nat.le_refl _, hr, ⟨f, fd, df.ps, fn_O F S (fun d0 ds d d1 q => ?_) hl (fun cdv A outer s H E d0 ds d d1 hr2 q => ?_), hm, F.kp, hb⟩⟩
      · unfold runO at q
        split at q
        · assumption
        · cases q
      · unfold runO at q
        split at q <;> try (cases q; done)
        have a := agr_def (P := X.prog) (w := X.w) (K := X.K) (mg := X.mg) (base := X.base) (qual := x) (f := f) (cdv := cdv) (A := A) (outer := outer) (s := s) (H := H) (E := E) S
        have c := ih (bx X.prog X.w X.K X.mg X.base df.N x df.st f cdv A outer s H E) rfl rfl rfl rfl rfl hr2
        split at q <;> try (cases q; done)
        · rename_i h1
          split at q <;> cases q
          exact ssE_ok (frame_ok fuel _ _ a c) h1 ⟨rfl, by assumption⟩
        · rename_i h1
          split at q <;> cases q
          exact ssE_ok (frame_ok fuel _ _ a c) h1 ⟨rfl, by assumption⟩
    · unfold csAt at h
      simp only at h
      split at h <;> try (cases h; done)
      rename_i df hd
      cases h
      obtain ⟨f, fd, F, hm, hb, S, hl⟩ := L.df _ _ _ hd
      refine ⟨n + 1, n + 1, Nat.le_refl _, hr, ⟨f, fd, df.ps, fn_F F S (fun ds d q => ?_) hl (fun cdv A outer s H E ds d hr2 q => ?_), hm, F.kp, hb⟩⟩
      · unfold runF at q
        split at q
        · assumption
        · cases q
      · unfold runF at q
        split at q <;> try (cases q; done)
        have a := agr_def (P := X.prog) (w := X.w) (K := X.K) (mg := X.mg) (base := X.base) (qual := x) (f := f) (cdv := cdv) (A := A) (outer := outer) (s := s) (H := H) (E := E) S
        have c := ih (bx X.prog X.w X.K X.mg X.base df.N x df.st f cdv A outer s H E) rfl rfl rfl rfl rfl hr2
        split at q <;> try (cases q; done)
        rename_i h1
        cases q
        exact ssE_ok (frame_ok fuel _ _ a c) h1 rfl
end
end Ev

set_option Elab.async false
set_option linter.all false
set_option maxRecDepth 100000
namespace Ev
open PySem PySem.Spec PyProof.Rows L2 Lk
section
variable {x : Str} {p : Pos} {c : Const} {j : Nat} {f a b c2 : Expr} {as : List Expr} {ks : List Keyword} {op : Operator} {uo : UnaryOp} {bo : BoolOp} {ops : List CmpOp} {gs : List Comprehension} {sc : Scope} {oa ob oc : Option Expr} {oas : List (Option Expr)}
theorem notStar_Name : notStar (.Name x p) = true := rfl
theorem notStar_Constant : notStar (.Constant c j p) = true := rfl
theorem notStar_Call : notStar (.Call f as ks p) = true := rfl
theorem notStar_BinOp : notStar (.BinOp a op b p) = true := rfl
theorem notStar_UnaryOp : notStar (.UnaryOp uo a p) = true := rfl
theorem notStar_BoolOp : notStar (.BoolOp bo as p) = true := rfl
theorem notStar_Compare : notStar (.Compare a ops as p) = true := rfl
theorem notStar_Tuple : notStar (.Tuple as j p) = true := rfl
theorem notStar_List : notStar (.List as p) = true := rfl
theorem notStar_ListComp : notStar (.ListComp a gs sc p) = true := rfl
theorem notStar_Subscript : notStar (.Subscript a b p) = true := rfl
theorem notStar_Attribute : notStar (.Attribute a x p) = true := rfl
theorem notStar_IfExp : notStar (.IfExp a b c2 p) = true := rfl
theorem notStar_Slice : notStar (.Slice oa ob oc p) = true := rfl
theorem notStar_Dict : notStar (.Dict oas as p) = true := rfl
theorem notStar_GeneratorExp : notStar (.GeneratorExp a gs sc p) = true := rfl
theorem notComp_Name : notComp (.Name x p) = true := rfl
theorem notComp_Constant : notComp (.Constant c j p) = true := rfl
theorem notComp_Call : notComp (.Call f as ks p) = true := rfl
theorem notComp_BinOp : notComp (.BinOp a op b p) = true := rfl
theorem notComp_UnaryOp : notComp (.UnaryOp uo a p) = true := rfl
theorem notComp_BoolOp : notComp (.BoolOp bo as p) = true := rfl
theorem notComp_Compare : notComp (.Compare a ops as p) = true := rfl
theorem notComp_Tuple : notComp (.Tuple as j p) = true := rfl
theorem notComp_List : notComp (.List as p) = true := rfl
theorem notComp_ListComp : notComp (.ListComp a gs sc p) = false := rfl
theorem notComp_Subscript : notComp (.Subscript a b p) = true := rfl
theorem notComp_Attribute : notComp (.Attribute a x p) = true := rfl
theorem notComp_IfExp : notComp (.IfExp a b c2 p) = true := rfl
theorem notComp_Slice : notComp (.Slice oa ob oc p) = true := rfl
theorem notComp_Dict : notComp (.Dict oas as p) = true := rfl
theorem notComp_GeneratorExp : notComp (.GeneratorExp a gs sc p) = true := rfl
theorem plainT_Name : plainT (.Name x p) = true := rfl
theorem plainT_Constant : plainT (.Constant c j p) = false := rfl
theorem plainT_Call : plainT (.Call f as ks p) = true := rfl
theorem plainT_BinOp : plainT (.BinOp a op b p) = true := rfl
theorem plainT_UnaryOp : plainT (.UnaryOp uo a p) = false := rfl
theorem plainT_BoolOp : plainT (.BoolOp bo as p) = false := rfl
theorem plainT_Compare : plainT (.Compare a ops as p) = false := rfl
theorem plainT_Tuple : plainT (.Tuple as j p) = true := rfl
theorem plainT_List : plainT (.List as p) = true := rfl
theorem plainT_ListComp : plainT (.ListComp a gs sc p) = true := rfl
theorem plainT_Subscript : plainT (.Subscript a b p) = true := rfl
theorem plainT_Attribute : plainT (.Attribute a x p) = true := rfl
theorem plainT_IfExp : plainT (.IfExp a b c2 p) = false := rfl
theorem plainT_Slice : plainT (.Slice oa ob oc p) = true := rfl
theorem plainT_Dict : plainT (.Dict oas as p) = true := rfl
theorem plainT_GeneratorExp : plainT (.GeneratorExp a gs sc p) = true := rfl
theorem notIx_Name : notIx (.Name x p) = true := rfl
theorem notIx_Constant : notIx (.Constant c j p) = true := rfl
theorem notIx_Call : notIx (.Call f as ks p) = true := rfl
theorem notIx_BinOp : notIx (.BinOp a op b p) = true := rfl
theorem notIx_UnaryOp : notIx (.UnaryOp uo a p) = true := rfl
theorem notIx_BoolOp : notIx (.BoolOp bo as p) = true := rfl
theorem notIx_Compare : notIx (.Compare a ops as p) = true := rfl
theorem notIx_Tuple : notIx (.Tuple as j p) = true := rfl
theorem notIx_List : notIx (.List as p) = true := rfl
theorem notIx_ListComp : notIx (.ListComp a gs sc p) = true := rfl
theorem notIx_Subscript : notIx (.Subscript a b p) = true := rfl
theorem notIx_Attribute : notIx (.Attribute a x p) = true := rfl
theorem notIx_IfExp : notIx (.IfExp a b c2 p) = true := rfl
theorem notIx_Slice : notIx (.Slice oa ob oc p) = false := rfl
theorem notIx_Dict : notIx (.Dict oas as p) = true := rfl
theorem notIx_GeneratorExp : notIx (.GeneratorExp a gs sc p) = true := rfl
theorem notSet_Name : notSet (.Name x p) = true := rfl
theorem notSet_Constant : notSet (.Constant c j p) = true := rfl
theorem notSet_Call : notSet (.Call f as ks p) = true := rfl
theorem notSet_BinOp : notSet (.BinOp a op b p) = true := rfl
theorem notSet_UnaryOp : notSet (.UnaryOp uo a p) = true := rfl
theorem notSet_BoolOp : notSet (.BoolOp bo as p) = true := rfl
theorem notSet_Compare : notSet (.Compare a ops as p) = true := rfl
theorem notSet_Tuple : notSet (.Tuple as j p) = true := rfl
theorem notSet_List : notSet (.List as p) = true := rfl
theorem notSet_ListComp : notSet (.ListComp a gs sc p) = true := rfl
theorem notSet_Subscript : notSet (.Subscript a b p) = true := rfl
theorem notSet_Attribute : notSet (.Attribute a x p) = true := rfl
theorem notSet_IfExp : notSet (.IfExp a b c2 p) = true := rfl
theorem notSet_Slice : notSet (.Slice oa ob oc p) = true := rfl
theorem notSet_Dict : notSet (.Dict oas as p) = true := rfl
theorem notSet_GeneratorExp : notSet (.GeneratorExp a gs sc p) = true := rfl
theorem notCall_Name : notCall (.Name x p) = true := rfl
theorem notCall_Constant : notCall (.Constant c j p) = true := rfl
theorem notCall_Call : notCall (.Call f as ks p) = false := rfl
theorem notCall_BinOp : notCall (.BinOp a op b p) = true := rfl
theorem notCall_UnaryOp : notCall (.UnaryOp uo a p) = true := rfl
theorem notCall_BoolOp : notCall (.BoolOp bo as p) = true := rfl
theorem notCall_Compare : notCall (.Compare a ops as p) = true := rfl
theorem notCall_Tuple : notCall (.Tuple as j p) = true := rfl
theorem notCall_List : notCall (.List as p) = true := rfl
theorem notCall_ListComp : notCall (.ListComp a gs sc p) = true := rfl
theorem notCall_Subscript : notCall (.Subscript a b p) = true := rfl
theorem notCall_Attribute : notCall (.Attribute a x p) = true := rfl
theorem notCall_IfExp : notCall (.IfExp a b c2 p) = true := rfl
theorem notCall_Slice : notCall (.Slice oa ob oc p) = true := rfl
theorem notCall_Dict : notCall (.Dict oas as p) = true := rfl
theorem notCall_GeneratorExp : notCall (.GeneratorExp a gs sc p) = true := rfl
theorem notTup_Name : notTup (.Name x p) = true := rfl
theorem notTup_Constant : notTup (.Constant c j p) = true := rfl
theorem notTup_Call : notTup (.Call f as ks p) = true := rfl
theorem notTup_BinOp : notTup (.BinOp a op b p) = true := rfl
theorem notTup_UnaryOp : notTup (.UnaryOp uo a p) = true := rfl
theorem notTup_BoolOp : notTup (.BoolOp bo as p) = true := rfl
theorem notTup_Compare : notTup (.Compare a ops as p) = true := rfl
theorem notTup_Tuple : notTup (.Tuple as j p) = false := rfl
theorem notTup_List : notTup (.List as p) = true := rfl
theorem notTup_ListComp : notTup (.ListComp a gs sc p) = true := rfl
theorem notTup_Subscript : notTup (.Subscript a b p) = true := rfl
theorem notTup_Attribute : notTup (.Attribute a x p) = true := rfl
theorem notTup_IfExp : notTup (.IfExp a b c2 p) = true := rfl
theorem notTup_Slice : notTup (.Slice oa ob oc p) = true := rfl
theorem notTup_Dict : notTup (.Dict oas as p) = true := rfl
theorem notTup_GeneratorExp : notTup (.GeneratorExp a gs sc p) = true := rfl
theorem isNone_Name : isNone (.Name x p) = false := rfl
theorem isNone_Call : isNone (.Call f as ks p) = false := rfl
theorem isNone_BinOp : isNone (.BinOp a op b p) = false := rfl
theorem isNone_UnaryOp : isNone (.UnaryOp uo a p) = false := rfl
theorem isNone_BoolOp : isNone (.BoolOp bo as p) = false := rfl
theorem isNone_Compare : isNone (.Compare a ops as p) = false := rfl
theorem isNone_Tuple : isNone (.Tuple as j p) = false := rfl
theorem isNone_List : isNone (.List as p) = false := rfl
theorem isNone_ListComp : isNone (.ListComp a gs sc p) = false := rfl
theorem isNone_Subscript : isNone (.Subscript a b p) = false := rfl
theorem isNone_Attribute : isNone (.Attribute a x p) = false := rfl
theorem isNone_IfExp : isNone (.IfExp a b c2 p) = false := rfl
theorem isNone_Slice : isNone (.Slice oa ob oc p) = false := rfl
theorem isNone_Dict : isNone (.Dict oas as p) = false := rfl
theorem isNone_GeneratorExp : isNone (.GeneratorExp a gs sc p) = false := rfl
theorem isNone_c : isNone (.Constant .none j p) = true := rfl
theorem isNone_i {i : Int} : isNone (.Constant (.int i) j p) = false := rfl
theorem isNone_s {i : Str} : isNone (.Constant (.str i) j p) = false := rfl
end
theorem ixN_nat {m n : Nat} : ixN m ((n : Nat) : Int) = if n < m then some n else none := by
  unfold ixN
  rw [if_pos (Int.natCast_nonneg n)]
  by_cases h : n < m
  · rw [if_pos h, if_pos (by omega)]; rfl
  · rw [if_neg h, if_neg (by omega)]
theorem atI_nat {α : Type} {xs : List α} {n : Nat} : atI xs ((n : Nat) : Int) = xs[n]? := by
  unfold atI
  rw [ixN_nat]
  by_cases h : n < xs.length
  · rw [if_pos h]; rfl
  · rw [if_neg h, List.getElem?_eq_none (by omega)]; rfl
theorem atI_lit {α : Type} {xs : List α} {n : Nat} : atI xs (no_index (@OfNat.ofNat Int n instOfNat)) = xs[n]? := atI_nat
theorem ixN_lit {m n : Nat} : ixN m (no_index (@OfNat.ofNat Int n instOfNat)) = if n < m then some n else none := ixN_nat
theorem toNat_lit {n : Nat} : (no_index (@OfNat.ofNat Int n instOfNat)).toNat = n := rfl
theorem kit_ii : kitB "int" "int" = some true := by decide +kernel
theorem kit_ib : kitB "int" "bool" = some false := by decide +kernel
theorem kit_bb : kitB "bool" "bool" = some true := by decide +kernel
theorem kit_bi : kitB "bool" "int" = some true := by decide +kernel
theorem kit_nb : kitB "NoneType" "bool" = some false := by decide +kernel
theorem kit_ni : kitB "NoneType" "int" = some false := by decide +kernel
theorem kit_si : kitB "str" "int" = some false := by decide +kernel
theorem kit_sb : kitB "str" "bool" = some false := by decide +kernel
theorem kit_tt : kitB "tuple" "tuple" = some true := by decide +kernel
theorem kit_lt : kitB "list" "tuple" = some false := by decide +kernel
theorem kit_it : kitB "int" "tuple" = some false := by decide +kernel
theorem kit_nt : kitB "NoneType" "tuple" = some false := by decide +kernel
section
variable {i j : Int} {u v : Str} {a b : Bool} {xs ys : List D} {d d2 : D} {op : Operator} {cop : CmpOp} {p : Pos} {cc : Const} {jj : Nat} {e1 e2 : Expr} {es : List Expr} {ks : List Keyword} {uo : UnaryOp} {ct : Ct}
theorem b_add : binD .Add (.int i) (.int j) = some (.int (i + j)) := rfl
theorem b_sub : binD .Sub (.int i) (.int j) = some (.int (i - j)) := rfl
theorem b_addt : binD .Add (.tuple xs) (.tuple ys) = if xs.length + ys.length ≤ 16777216 then some (.tuple (xs ++ ys)) else none := rfl
theorem b_adds : binD .Add (.str u) (.str v) = if u.length + v.length ≤ 16777216 then some (.str (u ++ v)) else none := rfl
theorem b_mul : binD .Mult (.int i) (.int j) = if (-(2 ^ 64) < i ∧ i < 2 ^ 64) ∨ (-(2 ^ 64) < j ∧ j < 2 ^ 64) then some (.int (i * j)) else none := rfl
theorem b_fdiv : binD .FloorDiv (.int i) (.int j) = if 0 < j ∧ j < 1073741824 then some (.int (i / j)) else none := rfl
theorem b_mod : binD .Mod (.int i) (.int j) = if 0 < j then some (.int (i % j)) else none := rfl
theorem b_pow : binD .Pow (.int i) (.int j) = if 0 ≤ j ∧ j ≤ 1000000 ∧ i.natAbs < 2 ^ 64 then some (.int (i ^ j.toNat)) else none := rfl
theorem b_shl : binD .LShift (.int i) (.int j) = if 0 ≤ j ∧ j ≤ 1000000 ∧ i.natAbs < 2 ^ 64 then some (.int (i * 2 ^ j.toNat)) else none := rfl
theorem c_int : catD op (.int i) d = none := by cases op <;> rfl
theorem c_tup : catD op (.tuple xs) d = none := by cases op <;> rfl
theorem c_str : catD op (.str u) d = none := by cases op <;> rfl
theorem c_ll : catD .Add (.list xs) (.list ys) = if xs.length + ys.length ≤ 16777216 then some (xs ++ ys) else none := rfl
theorem m_lt : cmpD .Lt (.int i) (.int j) = some (decide (i < j)) := rfl
theorem m_le : cmpD .LtE (.int i) (.int j) = some (decide (i ≤ j)) := rfl
theorem m_gt : cmpD .Gt (.int i) (.int j) = some (decide (j < i)) := rfl
theorem m_ge : cmpD .GtE (.int i) (.int j) = some (decide (j ≤ i)) := rfl
theorem m_eq : cmpD .Eq (.int i) (.int j) = some (decide (i = j)) := rfl
theorem m_ne : cmpD .NotEq (.int i) (.int j) = some (!decide (i = j)) := rfl
theorem m_eqs : cmpD .Eq (.str u) (.str v) = some (decide (u = v)) := rfl
theorem m_nes : cmpD .NotEq (.str u) (.str v) = some (!decide (u = v)) := rfl
theorem m_eqb : cmpD .Eq (.bool a) (.bool b) = some (decide (a = b)) := rfl
theorem m_neb : cmpD .NotEq (.bool a) (.bool b) = some (!decide (a = b)) := rfl
theorem m_eq_ : cmpD .Eq d d2 = eqD d d2 := rfl
theorem m_ne_ : cmpD .NotEq d d2 = (eqD d d2).map (!·) := rfl
theorem m_in : cmpD .In d d2 = inD d d2 := rfl
theorem m_nin : cmpD .NotIn d d2 = (inD d d2).map (!·) := rfl
theorem x_t : ixE (.tuple xs) (.int i) = atI xs i := rfl
theorem x_l : ixE (.list xs) (.int i) = atI xs i := rfl
theorem x_s : ixE (.str u) (.int i) = if u.length ≤ 16777216 then (atI u.cps.toList i).map fun c => .str ⟨#[c]⟩ else none := rfl
theorem k_len : bltB "len" xs = lenD xs := rfl
theorem k_abs : bltB "abs" xs = absD xs := rfl
theorem k_max : bltB "max" xs = maxD xs := rfl
theorem k_min : bltB "min" xs = minD xs := rfl
theorem k_sum : bltB "sum" xs = sumD xs := rfl
theorem k_all : bltB "all" xs = allD xs := rfl
theorem k_any : bltB "any" xs = anyD xs := rfl
theorem k_divmod : bltB "divmod" xs = divmodD xs := rfl
theorem k_int : bltB "int" xs = none := rfl
theorem kt_int : bltT "int" xs = intDD xs := rfl
theorem k_tuple : bltB "tuple" xs = none := rfl
theorem kt_tuple : bltT "tuple" xs = tupleD xs := rfl
theorem l_t : lenD [.tuple xs] = some (.int xs.length) := rfl
theorem l_l : lenD [.list xs] = some (.int xs.length) := rfl
theorem l_s : lenD [.str u] = if u.length ≤ 16777216 then some (.int u.length) else none := rfl
theorem a_i : absD [.int i] = some (.int (if i < 0 then -i else i)) := rfl
theorem mx_2 : maxD [.int i, .int j] = some (.int (if j > i then j else i)) := rfl
theorem mn_2 : minD [.int i, .int j] = some (.int (if j < i then j else i)) := rfl
theorem mx_l : maxD [.list xs] = (intsOf xs).bind fun z => (maxI z).map .int := rfl
theorem mn_l : minD [.list xs] = (intsOf xs).bind fun z => (minI z).map .int := rfl
theorem sm_l : sumD [.list xs] = (intsOf xs).map fun z => .int z.sum := rfl
theorem al_l : allD [.list xs] = (boolsOf xs).map fun z => .bool (z.all id) := rfl
theorem an_l : anyD [.list xs] = (boolsOf xs).map fun z => .bool (z.any id) := rfl
theorem dm_ : divmodD [.int i, .int j] = if 0 < j ∧ j < 1073741824 then some (.tuple [.int (i / j), .int (i % j)]) else none := rfl
theorem it_i : intDD [.int i] = some (.int i) := rfl
theorem it_b : intDD [.bool a] = some (.int (if a then 1 else 0)) := rfl
theorem tu_l : tupleD [.list xs] = some (.tuple xs) := rfl
theorem tu_t : tupleD [.tuple xs] = some (.tuple xs) := rfl
theorem li_l : listD [.list xs] = some xs := rfl
theorem li_t : listD [.tuple xs] = some xs := rfl
theorem tr_b : truD (.bool a) = some a := rfl
theorem tr_i : truD (.int i) = some (i != 0) := rfl
theorem tr_t : truD (.tuple xs) = some (!xs.isEmpty) := rfl
theorem tr_l : truD (.list xs) = some (!xs.isEmpty) := rfl
theorem tr_n : truD .none = some false := rfl
theorem n_n : isN .none = true := rfl
theorem n_i : isN (.int i) = false := rfl
theorem n_t : isN (.tuple xs) = false := rfl
theorem n_b : isN (.bool a) = false := rfl
theorem n_s : isN (.str u) = false := rfl
theorem n_l : isN (.list xs) = false := rfl
theorem ty_i : tyName (.int i) = "int" := rfl
theorem ty_b : tyName (.bool a) = "bool" := rfl
theorem ty_s : tyName (.str u) = "str" := rfl
theorem ty_t : tyName (.tuple xs) = "tuple" := rfl
theorem ty_l : tyName (.list xs) = "list" := rfl
theorem ty_n : tyName .none = "NoneType" := rfl
theorem tyo_int : tyOf "int" = some "int" := rfl
theorem tyo_bool : tyOf "bool" = some "bool" := rfl
theorem tyo_str : tyOf "str" = some "str" := rfl
theorem tyo_tuple : tyOf "tuple" = some "tuple" := rfl
theorem tyo_list : tyOf "list" = some "list" := rfl
theorem fl_i : flatD (.int i) = true := rfl
theorem fl_b : flatD (.bool a) = true := rfl
theorem fl_s : flatD (.str u) = true := rfl
theorem fl_n : flatD .none = true := rfl
theorem au_a : augG .Add = some fun i j => i + j := rfl
theorem au_s : augG .Sub = some fun i j => i - j := rfl
theorem sf_f : strM "find" u (.str v) = some (.int (Txt.find u v)) := rfl
theorem sj_l : strM "join" u (.list xs) = (strsOf xs).bind fun ys => if (ys.map (·.length)).sum + ys.length * u.length ≤ 16777216 then some (.str (Txt.join u ys)) else none := rfl
theorem sj_t : strM "join" u (.tuple xs) = (strsOf xs).bind fun ys => if (ys.map (·.length)).sum + ys.length * u.length ≤ 16777216 then some (.str (Txt.join u ys)) else none := rfl
theorem bm_ : behindInMarks cop (.Name u p) = false := rfl
theorem bm_c : behindInMarks cop (.Constant cc jj p) = false := rfl
theorem bm_call : behindInMarks cop (.Call e1 es ks p) = false := rfl
theorem bm_b : behindInMarks cop (.BinOp e1 op e2 p) = false := rfl
theorem bm_s : behindInMarks cop (.Subscript e1 e2 p) = false := rfl
theorem bm_t : behindInMarks cop (.Tuple es jj p) = false := rfl
theorem bm_u : behindInMarks cop (.UnaryOp uo e1 p) = false := rfl
theorem io_v : isIo (some (.val d)) = false := rfl
theorem io_n : isIo (some .non) = false := rfl
theorem io_f : isIo (some (.own false ct)) = false := rfl
theorem io_t : isIo (some (.own true ct)) = true := rfl
theorem cst_i : constE (.int i) = some (.int i) := rfl
end
def bdS (o : Option Rs) (k : Rho → Option Rs) : Option Rs := match o with
  | some (.nx ρ1) => k ρ1
  | q => q
theorem bdS_nx {ρ : Rho} {k : Rho → Option Rs} : bdS (some (.nx ρ)) k = k ρ := rfl
theorem bdS_rt {ρ : Rho} {d : D} {k : Rho → Option Rs} : bdS (some (.rt d ρ)) k = some (.rt d ρ) := rfl
theorem bdS_rf {ρ : Rho} {d : Ct} {k : Rho → Option Rs} : bdS (some (.rf d ρ)) k = some (.rf d ρ) := rfl
theorem bdS_bk {ρ : Rho} {k : Rho → Option Rs} : bdS (some (.bk ρ)) k = some (.bk ρ) := rfl
theorem bdS_ct {ρ : Rho} {k : Rho → Option Rs} : bdS (some (.ct ρ)) k = some (.ct ρ) := rfl
section
variable {fm : Fm} {ρ : Rho} {x : Str} {p : Pos} {c : Const} {j : Nat} {f a b c2 : Expr} {as : List Expr} {ks : List Keyword} {op : Operator} {uo : UnaryOp} {bo : BoolOp} {ops : List CmpOp} {gs : List Comprehension} {sc : Scope} {oas : List (Option Expr)} {i : Int}
theorem ownAt_Constant : ownAt fm (.Constant c j p) ρ = none := rfl
theorem ownAt_Call : ownAt fm (.Call f as ks p) ρ = none := rfl
theorem ownAt_BinOp : ownAt fm (.BinOp a op b p) ρ = none := rfl
theorem ownAt_UnaryOp : ownAt fm (.UnaryOp uo a p) ρ = none := rfl
theorem ownAt_BoolOp : ownAt fm (.BoolOp bo as p) ρ = none := rfl
theorem ownAt_Compare : ownAt fm (.Compare a ops as p) ρ = none := rfl
theorem ownAt_Tuple : ownAt fm (.Tuple as j p) ρ = none := rfl
theorem ownAt_List : ownAt fm (.List as p) ρ = none := rfl
theorem ownAt_ListComp : ownAt fm (.ListComp a gs sc p) ρ = none := rfl
theorem ownAt_Subscript : ownAt fm (.Subscript a b p) ρ = none := rfl
theorem ownAt_Attribute : ownAt fm (.Attribute a x p) ρ = none := rfl
theorem ownAt_IfExp : ownAt fm (.IfExp a b c2 p) ρ = none := rfl
theorem ownAt_Dict : ownAt fm (.Dict oas as p) ρ = none := rfl
theorem ownD_Constant : ownD fm (.Constant c j p) ρ = none := rfl
theorem ownD_Call : ownD fm (.Call f as ks p) ρ = none := rfl
theorem ownD_BinOp : ownD fm (.BinOp a op b p) ρ = none := rfl
theorem ownD_UnaryOp : ownD fm (.UnaryOp uo a p) ρ = none := rfl
theorem ownD_BoolOp : ownD fm (.BoolOp bo as p) ρ = none := rfl
theorem ownD_Compare : ownD fm (.Compare a ops as p) ρ = none := rfl
theorem ownD_Tuple : ownD fm (.Tuple as j p) ρ = none := rfl
theorem ownD_List : ownD fm (.List as p) ρ = none := rfl
theorem ownD_ListComp : ownD fm (.ListComp a gs sc p) ρ = none := rfl
theorem ownD_Subscript : ownD fm (.Subscript a b p) ρ = none := rfl
theorem ownD_Attribute : ownD fm (.Attribute a x p) ρ = none := rfl
theorem ownD_IfExp : ownD fm (.IfExp a b c2 p) ρ = none := rfl
theorem ownD_Dict : ownD fm (.Dict oas as p) ρ = none := rfl
theorem ownAt_Name : ownAt fm (.Name x p) ρ = (slot fm x).bind fun i => match ρ[i]? with
    | some (.own b (.lst ds)) => some (i, b, ds)
    | _ => none := rfl
theorem ownD_Name : ownD fm (.Name x p) ρ = (slot fm x).bind fun i => match ρ[i]? with
    | some (.own _ (.dK kvs)) => some (i, kvs)
    | _ => none := rfl
theorem q_ii {i j : Int} : eqD (.int i) (.int j) = some (decide (i = j)) := rfl
theorem q_ss {i j : Str} : eqD (.str i) (.str j) = some (decide (i = j)) := rfl
theorem q_bb {i j : Bool} : eqD (.bool i) (.bool j) = some (decide (i = j)) := rfl
theorem q_nn : eqD .none .none = some true := by simp [eqD, SeqAt.shaped, PyData.canLay0, PyData.depth, PyData.eqv]
theorem q_in {i : Int} : eqD (.int i) .none = some false := by simp [eqD, SeqAt.shaped, PyData.canLay0, PyData.depth, PyData.eqv]
theorem q_ni {i : Int} : eqD .none (.int i) = some false := by simp [eqD, SeqAt.shaped, PyData.canLay0, PyData.depth, PyData.eqv]
theorem in_s {c : Nat} {z : Str} : inD (.str ⟨#[c]⟩) (.str z) = some (decide (c ∈ z.cps.toList)) := rfl
theorem tk_i : toKey (.int i) = some (.inl i) := rfl
theorem tk_s : toKey (.str x) = some (.inr x) := rfl
end
theorem nonS_n : isNonS (some .non) = true := rfl
theorem dropR_nil {ρ : Rho} : dropR [] ρ = ρ := by cases ρ <;> rfl
theorem dropR_nil2 {fs : List Bool} : dropR fs [] = [] := by cases fs <;> rfl
theorem dropR_f {fs : List Bool} {s : Sl} {ρ : Rho} : dropR (false :: fs) (s :: ρ) = s :: dropR fs ρ := rfl
theorem dropR_v {fs : List Bool} {d : D} {ρ : Rho} : dropR (true :: fs) (.val d :: ρ) = .non :: dropR fs ρ := rfl
theorem dropR_n {fs : List Bool} {ρ : Rho} : dropR (true :: fs) (.non :: ρ) = .non :: dropR fs ρ := rfl
theorem dropR_o {fs : List Bool} {c : Ct} {ρ : Rho} : dropR (true :: fs) (.own false c :: ρ) = .non :: dropR fs ρ := rfl
theorem dropR_t {fs : List Bool} {c : Ct} {ρ : Rho} : dropR (true :: fs) (.own true c :: ρ) = .own true c :: dropR fs ρ := rfl
theorem blank_nil {ρ : Rho} : blank ρ [] = ρ := rfl
theorem blank_cons {ρ : Rho} {v : Nat} {vs : List Nat} : blank ρ (v :: vs) = (blank ρ vs).set v .non := rfl
theorem lcCond_ {n : Nat} {vs : List Nat} {s : Rho} : lcCond n vs s = (decide (s.length = n) && vs.all fun v => isNonS s[v]?) := rfl
theorem ifs_nil {r : Evs} {fm : Fm} {ρ : Rho} : ifsE r fm [] ρ = some (true, ρ) := rfl
theorem ifs_one {r : Evs} {fm : Fm} {ρ : Rho} {c : Expr} : ifsE r fm [c] ρ = r.T fm c ρ := rfl
/-! ### the evaluator in equations -/
section
variable {cs : Cs} {o : Or} {r : Evs} {fm : Fm} {ρ : Rho} {n : Nat} {p p1 p2 : Pos}
theorem fr_E {e : Expr} : (frame cs o (n + 1)).E fm e ρ = stepE cs (frame cs o n) fm e ρ := rfl
theorem fr_F {e : Expr} : (frame cs o (n + 1)).F fm e ρ = stepF cs (frame cs o n) fm e ρ := rfl
theorem fr_T {e : Expr} : (frame cs o (n + 1)).T fm e ρ = stepT (frame cs o n) fm e ρ := rfl
theorem fr_S {st : Stmt} : (frame cs o (n + 1)).S fm st ρ = stepS2 cs (frame cs o n) fm o st ρ := rfl
theorem e_name {x : Str} : stepE cs r fm (.Name x p) ρ = nameE cs fm x ρ := rfl
theorem e_int {i : Int} {j : Nat} : stepE cs r fm (.Constant (.int i) j p) ρ = some (.int i, ρ) := rfl
theorem e_bool {i : Bool} {j : Nat} : stepE cs r fm (.Constant (.bool i) j p) ρ = some (.bool i, ρ) := rfl
theorem e_str {i : Str} {j : Nat} : stepE cs r fm (.Constant (.str i) j p) ρ = some (.str i, ρ) := rfl
theorem e_non {j : Nat} : stepE cs r fm (.Constant .none j p) ρ = some (.none, ρ) := rfl
theorem e_bin {a b : Expr} {op : Operator} : stepE cs r fm (.BinOp a op b p) ρ = bd2 (r.E fm a ρ) fun dx ρ1 => bd2 (r.E fm b ρ1) fun dy ρ2 => (match catD op dx dy with
    | some zs => some (.list zs, ρ2)
    | none => bd1 (binD op dx dy) fun dz => some (dz, ρ2)) := rfl
theorem e_not {a : Expr} : stepE cs r fm (.UnaryOp .Not a p) ρ = bd2 (r.E fm a ρ) fun d ρ1 => (match d with
    | .bool x => some (.bool (!x), ρ1)
    | _ => none) := rfl
theorem e_neg {a : Expr} : stepE cs r fm (.UnaryOp .USub a p) ρ = bd2 (r.E fm a ρ) fun d ρ1 => (match d with
    | .int x => some (.int (-x), ρ1)
    | _ => none) := rfl
theorem e_boolop {op : BoolOp} {es : List Expr} : stepE cs r fm (.BoolOp op es p) ρ = boolE r fm op es ρ := rfl
theorem e_if {c a b : Expr} : stepE cs r fm (.IfExp c a b p) ρ = bd2 (r.T fm c ρ) fun x ρ1 => if x = true then r.E fm a ρ1 else r.E fm b ρ1 := rfl
theorem e_cmp {a : Expr} {ops : List CmpOp} {bs : List Expr} : stepE cs r fm (.Compare a ops bs p) ρ = bd2 (cmpE r fm a ops bs ρ) fun c ρ1 => some (.bool c, ρ1) := rfl
theorem e_tup {es : List Expr} {k : Nat} : stepE cs r fm (.Tuple es k p) ρ = bd2 (argsE r fm es ρ) fun ds ρ1 => if ds.length ≤ 1000 then some (.tuple ds, ρ1) else none := rfl
theorem e_sub {a b : Expr} : stepE cs r fm (.Subscript a b p) ρ = subE r fm a b ρ := rfl
theorem e_lst {es : List Expr} : stepE cs r fm (.List es p) ρ = bd2 (r.F fm (.List es p) ρ) fun c ρ1 => (match c with
    | .lst ds => some (.list ds, ρ1)
    | _ => none) := rfl
theorem e_lc {e : Expr} {gs : List Comprehension} {sc : Scope} : stepE cs r fm (.ListComp e gs sc p) ρ = bd2 (r.F fm (.ListComp e gs sc p) ρ) fun c ρ1 => (match c with
    | .lst ds => some (.list ds, ρ1)
    | _ => none) := rfl
theorem e_call {x : Str} {args : List Expr} (h : freshB cs (.Call (.Name x p1) args [] p) = false) : stepE cs r fm (.Call (.Name x p1) args [] p) ρ = callE cs r fm x args ρ := by
  unfold stepE
  rw [h]
  rfl
theorem e_callF {x : Str} {args : List Expr} (h : freshB cs (.Call (.Name x p1) args [] p) = true) : stepE cs r fm (.Call (.Name x p1) args [] p) ρ = bd2 (r.F fm (.Call (.Name x p1) args [] p) ρ) fun c ρ1 => (match c with
    | .lst ds => some (.list ds, ρ1)
    | _ => none) := by
  unfold stepE
  exact (if_pos h).trans rfl
theorem t_bool {op : BoolOp} {es : List Expr} : stepT r fm (.BoolOp op es p) ρ = boolT r fm op es ρ := rfl
theorem t_cmp_ {a : Expr} {ops : List CmpOp} {bs : List Expr} : stepT r fm (.Compare a ops bs p) ρ = cmpE r fm a ops bs ρ := rfl
theorem t_not_ {a : Expr} : stepT r fm (.UnaryOp .Not a p) ρ = bd2 (r.T fm a ρ) fun b ρ1 => some (!b, ρ1) := rfl
theorem s_if_ {c : Expr} {A B : List Stmt} : stepS2 cs r fm o (.If c A B p) ρ = bd2 (r.T fm c ρ) fun b ρ1 => if b = true then ssE r fm A ρ1 else ssE r fm B ρ1 := rfl
theorem s_ret_ {e : Expr} : stepS2 cs r fm o (.Return (some e) p) ρ = retE o r fm e ρ := rfl
theorem s_aug_ {tg e : Expr} {op : Operator} : stepS2 cs r fm o (.AugAssign tg op e p) ρ = augE r fm tg op e ρ := rfl
theorem s_expr_ {e : Expr} : stepS2 cs r fm o (.Expr e p) ρ = exprE r fm e ρ := rfl
theorem s_for_ {tg it : Expr} {body : List Stmt} : stepS2 cs r fm o (.For tg it body [] p) ρ = forE cs o r fm tg it body p.line ρ := rfl
theorem s_asg {tg e : Expr} : stepS2 cs r fm o (.Assign [tg] e p) ρ = if notComp e = true then assignE cs r fm tg e ρ else stepS2 cs r fm o (.Assign [tg] e p) ρ := by
  by_cases h : notComp e = true
  · have h1 : lcAssign (.Assign [tg] e p) = none := by
      cases e <;> first | (cases h; done) | (cases tg <;> rfl)
    have h2 : lcAssign2 (.Assign [tg] e p) = none := by
      cases e <;> first | (cases h; done) | (cases tg <;> rfl)
    rw [if_pos h]
    unfold stepS2
    rw [h1, h2]
    rfl
  · rw [if_neg h]
theorem s_asg_Name {tg : Expr} {x : Str} : stepS2 cs r fm o (.Assign [tg] (.Name x p1) p) ρ = assignE cs r fm tg (.Name x p1) ρ := s_asg.trans rfl
theorem s_asg_Const {tg : Expr} {x : Const} {j : Nat} : stepS2 cs r fm o (.Assign [tg] (.Constant x j p1) p) ρ = assignE cs r fm tg (.Constant x j p1) ρ := s_asg.trans rfl
theorem s_asg_Call {tg f : Expr} {as : List Expr} {ks : List Keyword} : stepS2 cs r fm o (.Assign [tg] (.Call f as ks p1) p) ρ = assignE cs r fm tg (.Call f as ks p1) ρ := s_asg.trans rfl
theorem s_asg_Bin {tg a b : Expr} {op : Operator} : stepS2 cs r fm o (.Assign [tg] (.BinOp a op b p1) p) ρ = assignE cs r fm tg (.BinOp a op b p1) ρ := s_asg.trans rfl
theorem s_asg_Un {tg a : Expr} {op : UnaryOp} : stepS2 cs r fm o (.Assign [tg] (.UnaryOp op a p1) p) ρ = assignE cs r fm tg (.UnaryOp op a p1) ρ := s_asg.trans rfl
theorem s_asg_Sub {tg a b : Expr} : stepS2 cs r fm o (.Assign [tg] (.Subscript a b p1) p) ρ = assignE cs r fm tg (.Subscript a b p1) ρ := s_asg.trans rfl
theorem s_asg_Tup {tg : Expr} {es : List Expr} {j : Nat} : stepS2 cs r fm o (.Assign [tg] (.Tuple es j p1) p) ρ = assignE cs r fm tg (.Tuple es j p1) ρ := s_asg.trans rfl
theorem s_asg_Lst {tg : Expr} {es : List Expr} : stepS2 cs r fm o (.Assign [tg] (.List es p1) p) ρ = assignE cs r fm tg (.List es p1) ρ := s_asg.trans rfl
theorem s_asg_If {tg a b c : Expr} : stepS2 cs r fm o (.Assign [tg] (.IfExp a b c p1) p) ρ = assignE cs r fm tg (.IfExp a b c p1) ρ := s_asg.trans rfl
theorem s_asg_Cmp {tg a : Expr} {ops : List CmpOp} {es : List Expr} : stepS2 cs r fm o (.Assign [tg] (.Compare a ops es p1) p) ρ = assignE cs r fm tg (.Compare a ops es p1) ρ := s_asg.trans rfl
theorem s_asg_Bool {tg : Expr} {op : BoolOp} {es : List Expr} : stepS2 cs r fm o (.Assign [tg] (.BoolOp op es p1) p) ρ = assignE cs r fm tg (.BoolOp op es p1) ρ := s_asg.trans rfl
theorem ss_nil_ : ssE r fm [] ρ = some (.nx ρ) := rfl
theorem ss_cons_ {st : Stmt} {sts : List Stmt} : ssE r fm (st :: sts) ρ = bdS (r.S fm st ρ) fun ρ1 => ssE r fm sts ρ1 := by
  show (match r.S fm st ρ with
    | some (.nx ρ1) => ssE r fm sts ρ1
    | q => q) = _
  unfold bdS
  rfl
theorem args_nil_ : argsE r fm [] ρ = some ([], ρ) := rfl
theorem args_cons_ {e : Expr} {es : List Expr} : argsE r fm (e :: es) ρ = if notStar e = true then bd2 (r.E fm e ρ) fun d ρ1 => bd2 (argsE r fm es ρ1) fun ds ρ2 => some (d :: ds, ρ2) else none := rfl
theorem e_meth {o2 e : Expr} {nm : Str} (h : freshB cs (.Call (.Attribute o2 nm p1) [e] [] p) = false) : stepE cs r fm (.Call (.Attribute o2 nm p1) [e] [] p) ρ = if nm = "pop" then popE r fm o2 nm p1 p e ρ else methE r fm o2 nm p1 p e ρ := by
  unfold stepE
  rw [h]
  cases o2 <;> rfl
theorem e_get {x nm : Str} {e f : Expr} (h : freshB cs (.Call (.Attribute (.Name x p2) nm p1) [e, f] [] p) = false) : stepE cs r fm (.Call (.Attribute (.Name x p2) nm p1) [e, f] [] p) ρ = getE cs r fm x nm p1 p e f ρ := by
  unfold stepE
  rw [h]
  rfl
theorem e_dict {ks : List (Option Expr)} {vs : List Expr} : stepE cs r fm (.Dict ks vs p) ρ = bd2 (r.F fm (.Dict ks vs p) ρ) fun c ρ1 => (match c with
    | .lst ds => some (.list ds, ρ1)
    | _ => none) := rfl
theorem fb_Dict {ks : List (Option Expr)} {vs : List Expr} : freshB cs (.Dict ks vs p) = true := rfl
theorem fb_LC {e : Expr} {gs : List Comprehension} {sc : Scope} : freshB cs (.ListComp e gs sc p) = true := rfl
theorem f_Lst {es : List Expr} : stepF cs r fm (.List es p) ρ = bd2 (argsE r fm es ρ) fun ds ρ1 => if ds.length ≤ 1000 then some (.lst ds, ρ1) else none := rfl
theorem f_LC {elt tg iter : Expr} {ifs : List Expr} {sc : Scope} : stepF cs r fm (.ListComp elt [⟨tg, iter, ifs, 0⟩] sc p) ρ = bd2 (lcE cs r fm elt tg iter ifs sc ρ) fun ds ρ1 => some (.lst ds, ρ1) := rfl
theorem f_LC2 {elt tg iter tg1 iter1 : Expr} {ifs ifs1 : List Expr} {sc : Scope} : stepF cs r fm (.ListComp elt [⟨tg, iter, ifs, 0⟩, ⟨tg1, iter1, ifs1, 0⟩] sc p) ρ = bd2 (lc2E cs r fm elt tg iter ifs tg1 iter1 ifs1 sc ρ) fun ds ρ1 => some (.lst ds, ρ1) := rfl
theorem f_Bin {a b : Expr} {op : Operator} : stepF cs r fm (.BinOp a op b p) ρ = bd2 (r.E fm a ρ) fun dx ρ1 => bd2 (r.E fm b ρ1) fun dy ρ2 => bd1 (catD op dx dy) fun zs => some (.lst zs, ρ2) := rfl
theorem bd1_none {α β : Type} {f : α → Option β} : bd1 none f = none := rfl
theorem bd2_none {α β γ : Type} {f : α → β → Option γ} : bd2 none f = none := rfl
theorem f_Dict {ks : List (Option Expr)} {vs : List Expr} : stepF cs r fm (.Dict ks vs p) ρ = if (dOk ks vs && !ks.isEmpty && decide (ks.length ≤ 15)) = true then bd2 (pairsE r fm ks vs ρ) fun kvs ρ1 => if kvs.length ≤ 15 then some (.dK (mergeD [] kvs), ρ1) else none else none := rfl
theorem tg_Name {x : Str} {d : D} : tgtE fm (n + 1) (.Name x p) d ρ = (slotL fm x).bind fun i => if isIo ρ[i]? = false then some (ρ.set i (.val d)) else none := by cases d <;> rfl
theorem tg_Tup {es : List Expr} {j : Nat} {ds : List D} : tgtE fm (n + 1) (.Tuple es j p) (.tuple ds) ρ = if (decide (ds.length = es.length) && es.all notStar) = true then tgtsG (tgtE fm n) es ds ρ else none := rfl
theorem tgV_Name {x : Str} : tgtV fm (n + 1) (.Name x p) = (slotL fm x).toList := rfl
theorem tgV_Tup {es : List Expr} {j : Nat} : tgtV fm (n + 1) (.Tuple es j p) = tgtsV (tgtV fm n) es := rfl
theorem tgs_nil {f : Expr → D → Rho → Option Rho} : tgtsG f [] [] ρ = some ρ := rfl
theorem tgs_cons {f : Expr → D → Rho → Option Rho} {e : Expr} {es : List Expr} {d : D} {ds : List D} : tgtsG f (e :: es) (d :: ds) ρ = (f e d ρ).bind fun ρ1 => tgtsG f es ds ρ1 := rfl
theorem fb_Name {x : Str} : freshB cs (.Name x p) = false := rfl
theorem fb_Const {x : Const} {j : Nat} : freshB cs (.Constant x j p) = false := rfl
theorem fb_Bin {a b : Expr} {op : Operator} : freshB cs (.BinOp a op b p) = false := rfl
theorem fb_Un {a : Expr} {op : UnaryOp} : freshB cs (.UnaryOp op a p) = false := rfl
theorem fb_Sub {a b : Expr} : freshB cs (.Subscript a b p) = false := rfl
theorem fb_Tup {es : List Expr} {j : Nat} : freshB cs (.Tuple es j p) = false := rfl
theorem fb_Lst {es : List Expr} : freshB cs (.List es p) = true := rfl
theorem fb_If {a b c : Expr} : freshB cs (.IfExp a b c p) = false := rfl
theorem fb_Cmp {a : Expr} {ops : List CmpOp} {es : List Expr} : freshB cs (.Compare a ops es p) = false := rfl
theorem fb_Bool {op : BoolOp} {es : List Expr} : freshB cs (.BoolOp op es p) = false := rfl
theorem ad_Name {x : Str} : isAdd (.Name x p) = false := rfl
theorem ad_Const {x : Const} {j : Nat} : isAdd (.Constant x j p) = false := rfl
theorem ad_Call {f : Expr} {as : List Expr} {ks : List Keyword} : isAdd (.Call f as ks p) = false := rfl
theorem ad_Sub {a b : Expr} : isAdd (.Subscript a b p) = false := rfl
theorem ad_Un {a : Expr} {op : UnaryOp} : isAdd (.UnaryOp op a p) = false := rfl
theorem ad_Tup {es : List Expr} {j : Nat} : isAdd (.Tuple es j p) = false := rfl
theorem ad_Lst {es : List Expr} : isAdd (.List es p) = false := rfl
theorem ad_If {a b c : Expr} : isAdd (.IfExp a b c p) = false := rfl
theorem ad_add {a b : Expr} : isAdd (.BinOp a .Add b p) = true := rfl
theorem ad_sub {a b : Expr} : isAdd (.BinOp a .Sub b p) = false := rfl
theorem ad_mul_L {es : List Expr} {b : Expr} {p1 : Pos} : isAdd (.BinOp (.List es p1) .Mult b p) = true := rfl
theorem ad_mul_N {x : Str} {b : Expr} {p1 : Pos} : isAdd (.BinOp (.Name x p1) .Mult b p) = false := rfl
theorem ad_mul_K {v : Const} {j : Nat} {b : Expr} {p1 : Pos} : isAdd (.BinOp (.Constant v j p1) .Mult b p) = false := rfl
theorem ad_mul_C {f : Expr} {as : List Expr} {ks : List Keyword} {b : Expr} {p1 : Pos} : isAdd (.BinOp (.Call f as ks p1) .Mult b p) = false := rfl
theorem ad_mul_B {a c b : Expr} {op : Operator} {p1 : Pos} : isAdd (.BinOp (.BinOp a op c p1) .Mult b p) = false := rfl
theorem ad_mul_S {a c b : Expr} {p1 : Pos} : isAdd (.BinOp (.Subscript a c p1) .Mult b p) = false := rfl
theorem ad_mul_T {es : List Expr} {j : Nat} {b : Expr} {p1 : Pos} : isAdd (.BinOp (.Tuple es j p1) .Mult b p) = false := rfl
theorem ad_mod {a b : Expr} : isAdd (.BinOp a .Mod b p) = false := rfl
theorem ad_div {a b : Expr} : isAdd (.BinOp a .FloorDiv b p) = false := rfl
theorem fb_meth {o2 : Expr} {nm : Str} {as : List Expr} : freshB cs (.Call (.Attribute o2 nm p1) as [] p) = decide (nm = "split") := rfl
theorem bd2_mk {α β γ : Type} {a : α} {b : β} {f : α → β → Option γ} : bd2 (some (a, b)) f = f a b := rfl
theorem bd1_mk {α β : Type} {a : α} {f : α → Option β} : bd1 (some a) f = f a := rfl
end
end Ev

set_option Elab.async false
set_option linter.all false
set_option maxRecDepth 100000
namespace Ev
open PySem PySem.Spec PyProof.Rows L2 Lk
section
variable {p : Pg} {P : Program} {w : World} {K : PySem.W.Frag} {mg : Str → Option Value} {base : Heap}
/-- the law's own def -/
theorem law_fn (L : Lnk p P w K mg base) (n : Nat) {x : Str} {df : Df} {f : Addr} {fd : FuncData} (F : Fun K x x df.st f fd) (S : FnScope df.N df.ps (defScope df.st)) (hl : df.ps.length ≤ df.N.length) :
    FnOk P w K mg base CX0 (n + 1) f fd df.ps (SpP K fun ds d => runP (csAt p n) df ds = some d) := by
  refine fn_P F S (fun ds d q => ?_) hl (fun cdv A outer s H E ds d hr2 q => ?_)
  · unfold runP at q
    split at q
    · assumption
    · cases q
  · unfold runP at q
    split at q <;> try (cases q; done)
    have a := agr_def (P := P) (w := w) (K := K) (mg := mg) (base := base) (qual := x) (f := f) (cdv := cdv) (A := A) (outer := outer) (s := s) (H := H) (E := E) S
    have c := cs_ok L n (bx P w K mg base df.N x df.st f cdv A outer s H E) rfl rfl rfl rfl rfl hr2
    split at q <;> try (cases q; done)
    · rename_i h1
      cases q
      exact ssE_ok (frame_ok fuel _ _ a c) h1 rfl
    · rename_i h1
      cases q
      exact ssE_ok (frame_ok fuel _ _ a c) h1 rfl
theorem dpa_int {H : Hp} : ∀ ns : List Int, DpAll K H (ns.map V.int) (ns.map PyData.int)
  | [] => .nil
  | n :: ns => .cons (.int n) (dpa_int ns)
theorem law_sp {n : Nat} {df : Df} {H : Hp} {a : Addr} {ns : List Int} {E : XK} (hs : SqL K H a (ns.map V.int)) (hm : runP (csAt p n) df [.list (ns.map .int)] = some (.bool true)) :
    SpP K (fun ds d => runP (csAt p n) df ds = some d) [.ref a] H (fun v _ => v = .bl true) E := by
  refine ⟨fun _ => False, [.list (ns.map .int)], .bool true, .cons (.lst ?_ (dpa_int ns)) .nil, fun _ h => h.elim, hm, fun v H' _ r => ?_⟩
  · exact Sub.l (fun a o h => cut_some.mpr ⟨id, h⟩) hs
  · cases r; rfl
theorem tup_K {a : Addr} {od : Option Addr} {its : Array Value} {n : Nat} {sl : Array (Option Value)} {us : List V} {ds : List D} (lk : K.lookup a = some ⟨.type "tuple", od, .seq its n, sl⟩) (hz : its.size ≤ sizeLine) (hv : Vals us its.toList) (hd : ∀ H, DpAll K H us ds) : ∀ H, Dp K H (.ref a) (.tuple ds) := fun H =>
  .tup (.inr ⟨_, its, n, lk, rfl, rfl, hz, hv⟩) (hd H)
theorem isk (x : Str) (t : Tok) : keyIs (.inr x) (.str x t) = true := by
  show (x == x) = true
  exact beq_self_eq_true x
theorem gdk_txt {a : Addr} {ep : Nat} (L : List (Str × Tok × Str × Tok)) (lk : K.lookup a = some ⟨.type "dict", none, .dict (L.map fun q => (⟨PyData.keyHash w.params q.1, .str q.1 q.2.1, .str q.2.2.1 q.2.2.2⟩ : DictEntry)).toArray ep, #[]⟩) (hn : (L.map (·.1)).Nodup) (hs : (a == sysModules) = false) :
    GDk P w K a (L.map fun q => (.inr q.1, .str q.2.2.1)) := by
  refine ⟨_, _, ep, L.map fun q => (.inr q.1, .str q.2.2.1 q.2.2.2), lk, ⟨rfl, rfl, rfl⟩, rfl, rfl, ?_, ?_, ?_, hs, ?_⟩
  · intro e he
    rw [List.mem_toArray] at he
    obtain ⟨q, _, rfl⟩ := List.mem_map.mp he
    exact ⟨.inr q.1, isk q.1 q.2.1, rfl⟩
  · clear lk hn
    induction L with
    | nil => exact .nil
    | cons q L ih => exact .cons (isk q.1 q.2.1) rfl ih
  · rw [List.map_map]
    have e : (L.map ((fun kv : Key × Value => kv.1) ∘ fun q => ((.inr q.1 : Key), Value.str q.2.2.1 q.2.2.2))) = (L.map (·.1)).map Sum.inr := by rw [List.map_map]; rfl
    rw [show (L.map ((·.1) ∘ fun q => ((.inr q.1 : Key), Value.str q.2.2.1 q.2.2.2))) = (L.map (·.1)).map Sum.inr from e]
    exact List.pairwise_map.mpr (hn.imp fun h z => h (Sum.inr.inj z))
  · clear lk hn
    intro k
    induction L with
    | nil => exact .inl ⟨rfl, rfl⟩
    | cons q L ih =>
      by_cases e : (.inr q.1 : Key) = k
      · exact .inr ⟨.str q.2.2.1 q.2.2.2, .str q.2.2.1, .str q.2.2.1, by simp [valueAt, List.find?_cons, e], by simp [valD, List.find?_cons, e], ⟨_, rfl⟩, fun _ => .str _⟩
      · rcases ih with ⟨h1, h2⟩ | ⟨v, d, r, h1, h2, h3, h4⟩
        · exact .inl ⟨by simpa [valueAt, List.find?_cons, e] using h1, by simpa [valD, List.find?_cons, e] using h2⟩
        · exact .inr ⟨v, d, r, by simpa [valueAt, List.find?_cons, e] using h1, by simpa [valD, List.find?_cons, e] using h2, h3, h4⟩
end
/-- a comprehension that leaves the state as it is -/
theorem lcL_map {α β : Type} {step : D → Rho → Option (Option D × Rho)} {s : Rho} (f : α → D) (g : α → D) : ∀ {xs : List α}, (∀ x ∈ xs, step (f x) s = some (some (g x), s)) → lcL step (xs.map f) s = some (xs.map g, s)
  | [], _ => rfl
  | x :: xs, h => by
    rw [List.map_cons, lcL, h x (List.mem_cons_self ..)]
    simp only
    rw [lcL_map f g (β := β) fun y hy => h y (List.mem_cons_of_mem _ hy)]
    rfl
/-- a comprehension whose turns change the state -/
theorem lcL_ex {I : Rho → Prop} {Py : D → Prop} {step : D → Rho → Option (Option D × Rho)} : ∀ {xs : List D}, (∀ x ∈ xs, ∀ s, I s → ∃ y s', step x s = some (some y, s') ∧ Py y ∧ I s') → ∀ s, I s → ∃ ys s', lcL step xs s = some (ys, s') ∧ ys.length = xs.length ∧ (∀ y ∈ ys, Py y) ∧ I s'
  | [], _, s, hs => ⟨[], s, rfl, rfl, fun y hy => (by cases hy), hs⟩
  | x :: xs, h, s, hs => by
    obtain ⟨y, s1, h1, py, hs1⟩ := h x (List.mem_cons_self ..) s hs
    obtain ⟨ys, s2, h2, hl, pys, hs2⟩ := lcL_ex (xs := xs) (fun z hz => h z (List.mem_cons_of_mem _ hz)) s1 hs1
    refine ⟨y :: ys, s2, ?_, by rw [List.length_cons, List.length_cons, hl], fun z hz => ?_, hs2⟩
    · rw [lcL, h1]
      simp only
      rw [h2]
      rfl
    · rcases List.mem_cons.mp hz with e | e
      · rw [e]; exact py
      · exact pys z e
/-- .. where each turn's worth is known by its place: f of the item and the state's view -/
theorem lcM_ex {I : Rho → Prop} {Py : List D → Prop} {step : D → Rho → Option (List D × Rho)} (h0 : Py []) (ha : ∀ a b, Py a → Py b → Py (a ++ b)) : ∀ {xs : List D}, (∀ x ∈ xs, ∀ s, I s → ∃ y s', step x s = some (y, s') ∧ Py y ∧ I s') → ∀ s, I s → ∃ ys s', lcM step xs s = some (ys, s') ∧ Py ys ∧ I s'
  | [], _, s, hs => ⟨[], s, rfl, h0, hs⟩
  | x :: xs, h, s, hs => by
    obtain ⟨y, s1, h1, py, hs1⟩ := h x (List.mem_cons_self ..) s hs
    obtain ⟨ys, s2, h2, pys, hs2⟩ := lcM_ex h0 ha (xs := xs) (fun z hz => h z (List.mem_cons_of_mem _ hz)) s1 hs1
    refine ⟨y ++ ys, s2, ?_, ha _ _ py pys, hs2⟩
    rw [lcM, h1]
    simp only
    rw [h2]
/-- a loop that goes through: J k s holds ahead of the item k -/
theorem forL_inv {S R : Type} {step : D → S → Option (Fl S R)} (J : Nat → S → Prop) : ∀ {xs : List D} {k : Nat}, (∀ (i : Nat) x s, xs[i]? = some x → J (k + i) s → ∃ s', step x s = some (.nx s') ∧ J (k + i + 1) s') → ∀ s, J k s → ∃ s', forL step xs s = some (.nx s') ∧ J (k + xs.length) s'
  | [], k, _, s, hs => ⟨s, rfl, hs⟩
  | x :: xs, k, h, s, hs => by
    obtain ⟨s1, h1, hs1⟩ := h 0 x s rfl hs
    obtain ⟨s2, h2, hs2⟩ := forL_inv J (xs := xs) (k := k + 1) (fun i y z hy hz => by
      have := h (i + 1) y z (by simpa using hy) (by rw [show k + (i + 1) = k + 1 + i by omega]; exact hz)
      rw [show k + (i + 1) + 1 = k + 1 + i + 1 by omega] at this
      exact this) s1 hs1
    refine ⟨s2, ?_, by rw [List.length_cons, show k + (xs.length + 1) = k + 1 + xs.length by omega]; exact hs2⟩
    rw [forL, h1]
    exact h2
/-- a comprehension of two walks that leaves the state as it is -/
theorem lcM_map {α : Type} {step : D → Rho → Option (List D × Rho)} {s : Rho} (f : α → D) (g : α → List D) : ∀ {xs : List α}, (∀ x ∈ xs, step (f x) s = some (g x, s)) → lcM step (xs.map f) s = some ((xs.map g).flatten, s)
  | [], _ => rfl
  | x :: xs, h => by
    rw [List.map_cons, lcM, h x (List.mem_cons_self ..)]
    simp only
    rw [lcM_map f g fun y hy => h y (List.mem_cons_of_mem _ hy)]
    rfl
end Ev

set_option Elab.async false
set_option linter.all false
set_option maxRecDepth 100000
namespace Ev
open PySem PySem.Spec PyProof.Rows L2 Lk
/-! ### binds whose continuation is not looked into: its mark's type tells it -/
inductive Tg {σ : Type} (k : σ) : Type where
  | mk
def cdS (o : Option Rs) (k : Rho → Option Rs) (_ : Tg k) : Option Rs := bdS o k
def cd2 {α β γ : Type} (o : Option (α × β)) (k : α → β → Option γ) (_ : Tg k) : Option γ := bd2 o k
def cd1 {α β : Type} (o : Option α) (k : α → Option β) (_ : Tg k) : Option β := o.bind k
theorem in_S {o : Option Rs} {k : Rho → Option Rs} : bdS o k = cdS o k .mk := rfl
theorem in_2 {α β γ : Type} {o : Option (α × β)} {k : α → β → Option γ} : bd2 o k = cd2 o k .mk := rfl
theorem in_1 {α β : Type} {o : Option α} {k : α → Option β} : bd1 o k = cd1 o k .mk := by cases o <;> rfl
theorem in_b {α β : Type} {o : Option α} {k : α → Option β} : o.bind k = cd1 o k .mk := rfl
section
variable {k : Rho → Option Rs} {t : Tg k} {ρ : Rho} {d : D} {c : Ct}
theorem cS_nx : cdS (some (.nx ρ)) k t = k ρ := rfl
theorem cS_rt : cdS (some (.rt d ρ)) k t = some (.rt d ρ) := rfl
theorem cS_rf : cdS (some (.rf c ρ)) k t = some (.rf c ρ) := rfl
theorem cS_bk : cdS (some (.bk ρ)) k t = some (.bk ρ) := rfl
theorem cS_ct : cdS (some (.ct ρ)) k t = some (.ct ρ) := rfl
theorem cS_no : cdS none k t = none := rfl
end
theorem c2_mk {α β γ : Type} {a : α} {b : β} {f : α → β → Option γ} {t : Tg f} : cd2 (some (a, b)) f t = f a b := rfl
theorem c2_no {α β γ : Type} {f : α → β → Option γ} {t : Tg f} : cd2 none f t = none := rfl
theorem c1_mk {α β : Type} {a : α} {f : α → Option β} {t : Tg f} : cd1 (some a) f t = f a := rfl
theorem c1_no {α β : Type} {f : α → Option β} {t : Tg f} : cd1 none f t = none := rfl
section
variable {cs : Cs} {o : Or} {r : Evs} {fm : Fm} {ρ : Rho} {p p1 p2 p3 : Pos}
theorem f_call_ {x : Str} {e : Expr} {es : List Expr} : stepF cs r fm (.Call (.Name x p1) (e :: es) [] p) ρ = if (glB fm.sc x && okName x && (e :: es).all notStar) = true then (match cs.F x with
    | some f => bd2 (argsE r fm (e :: es) ρ) fun ds ρ1 => bd1 (f ds) fun c => some (c, ρ1)
    | none => if x = "list" ∧ cs.B x = true then (match rangeOf (e :: es) with
        | some [e1] => if (glB fm.sc "range" && cs.B "range" && notStar e1) = true then bd2 (r.E fm e1 ρ) fun d ρ1 => (match d with
          | .int j => if rngOk 0 j = true then some (.lst ((rngL 0 j).map .int), ρ1) else none
          | _ => none) else none
        | some [e1, e2] => if (glB fm.sc "range" && cs.B "range" && notStar e1 && notStar e2) = true then bd2 (r.E fm e1 ρ) fun d ρ1 => (match d with
          | .int i => bd2 (r.E fm e2 ρ1) fun d ρ2 => (match d with
            | .int j => if rngOk i j = true then some (.lst ((rngL i j).map .int), ρ2) else none
            | _ => none)
          | _ => none) else none
        | some _ => none
        | none => bd2 (argsE r fm (e :: es) ρ) fun ds ρ1 => bd1 (listD ds) fun zs => some (.lst zs, ρ1))
      else if x = "sorted" ∧ cs.B x = true then (if (es.isEmpty && isSet e) = true then bd2 (setE cs r fm e ρ) fun ns ρ1 => some (.lst (ns.map .int), ρ1) else bd2 (argsE r fm (e :: es) ρ) fun ds ρ1 => (match ds with
        | [.list ds] => if sortB ds = true then some (.lst (sortD ds), ρ1) else none
        | _ => none))
      else none) else none := rfl
theorem s_asg_Dict {tg : Expr} {ks : List (Option Expr)} {vs : List Expr} : stepS2 cs r fm o (.Assign [tg] (.Dict ks vs p1) p) ρ = assignE cs r fm tg (.Dict ks vs p1) ρ := s_asg.trans rfl
theorem s_asg_Attr {tg a : Expr} {x : Str} : stepS2 cs r fm o (.Assign [tg] (.Attribute a x p1) p) ρ = assignE cs r fm tg (.Attribute a x p1) ρ := s_asg.trans rfl
theorem s_asg_LC {y : Str} {elt tg iter : Expr} {ifs : List Expr} {scope : Scope} : stepS2 cs r fm o (.Assign [.Name y p2] (.ListComp elt [⟨tg, iter, ifs, 0⟩] scope p1) p) ρ = (slotL fm y).bind fun i =>
    if (swapB fm y p2 scope p1 || noSwap fm y p2 p1) = true then bd2 (lcE cs r fm elt tg iter ifs scope ρ) fun ys ρ1 => if isIo ρ1[i]? = false then some (.nx (ρ1.set i (.own false (.lst ys)))) else none else none := rfl
theorem s_asg_LC2 {y : Str} {elt tg iter tg1 iter1 : Expr} {ifs ifs1 : List Expr} {scope : Scope} : stepS2 cs r fm o (.Assign [.Name y p2] (.ListComp elt [⟨tg, iter, ifs, 0⟩, ⟨tg1, iter1, ifs1, 0⟩] scope p1) p) ρ = (slotL fm y).bind fun i =>
    if (swapB fm y p2 scope p1 || noSwap fm y p2 p1) = true then bd2 (lc2E cs r fm elt tg iter ifs tg1 iter1 ifs1 scope ρ) fun ys ρ1 => if isIo ρ1[i]? = false then some (.nx (ρ1.set i (.own false (.lst ys)))) else none else none := rfl
theorem pairsE_nil : pairsE r fm [] [] ρ = some ([], ρ) := rfl
theorem pairsE_cons {kx vx : Expr} {ks : List (Option Expr)} {vs : List Expr} : pairsE r fm (some kx :: ks) (vx :: vs) ρ = bd2 (r.E fm kx ρ) fun d ρ1 => bd1 (toKey d) fun key => bd2 (r.E fm vx ρ1) fun e ρ2 => bd2 (pairsE r fm ks vs ρ2) fun kvs ρ3 => some ((key, e) :: kvs, ρ3) := rfl
theorem dOk_nil : dOk [] [] = true := rfl
theorem dOk_cons {e v : Expr} {ks : List (Option Expr)} {vs : List Expr} : dOk (some e :: ks) (v :: vs) = dOk ks vs := rfl
theorem t_call_ {f : Expr} {as : List Expr} {ks : List Keyword} : stepT r fm (.Call f as ks p) ρ = bd2 (r.E fm (.Call f as ks p) ρ) fun d ρ1 => bd1 (truD d) fun b => some (b, ρ1) := rfl
theorem t_sub_ {a b : Expr} : stepT r fm (.Subscript a b p) ρ = bd2 (r.E fm (.Subscript a b p) ρ) fun d ρ1 => bd1 (truD d) fun b => some (b, ρ1) := rfl
theorem t_name_ {x : Str} : stepT r fm (.Name x p) ρ = (match ownAt fm (.Name x p) ρ with
      | some (_, _, ds) => some (!ds.isEmpty, ρ)
      | none => bd2 (r.E fm (.Name x p) ρ) fun d ρ1 => bd1 (truD d) fun b => some (b, ρ1)) := rfl
theorem ro_Name {x : Str} : rangeOf [.Name x p] = none := rfl
theorem ro_Call {x : Str} {es : List Expr} : rangeOf [.Call (.Name x p1) es [] p] = if x = "range" then some es else none := rfl
theorem ro_Lc {e : Expr} {gs : List Comprehension} {sc : Scope} : rangeOf [.ListComp e gs sc p] = none := rfl
theorem ro_Sub {a b : Expr} : rangeOf [.Subscript a b p] = none := rfl
end
theorem li_s {u : Str} (h : u.length ≤ 16777216) : listD [.str u] = some (signsD u) := by
  show (if u.length ≤ 16777216 then some (signsD u) else none) = _
  rw [if_pos h]
/-! ### what comes of a body: functions of their own, so that the kernel compares their arguments first -/
def valP : Option Rs → Option D
  | some (.rt d _) => some d
  | some (.nx _) => some .none
  | _ => none
def ioOf (d : D) (ρ : Rho) : Option (D × Ct) := match (ρ[0]? : Option Sl) with
  | some (.own true d1) => some (d, d1)
  | _ => none
def valO : Option Rs → Option (D × Ct)
  | some (.rt d ρ) => ioOf d ρ
  | some (.nx ρ) => ioOf .none ρ
  | _ => none
def valF : Option Rs → Option Ct
  | some (.rf c _) => some c
  | _ => none
section
variable {fs : List Bool} {ρ : Rho} {d : D} {c : Ct} {ss : List Sl}
theorem fl_nx : flOf fs (some (.nx ρ)) = some (.nx (dropR fs ρ)) := rfl
theorem fl_ct : flOf fs (some (.ct ρ)) = some (.nx (dropR fs ρ)) := rfl
theorem fl_bk : flOf fs (some (.bk ρ)) = some (.bk (dropR fs ρ)) := rfl
theorem fl_rt : flOf fs (some (.rt d ρ)) = some (.rt (.inl (d, ρ))) := rfl
theorem fl_rf : flOf fs (some (.rf c ρ)) = some (.rt (.inr (c, ρ))) := rfl
theorem fl_no : flOf fs none = none := rfl
theorem rs_nx : rsOf (some (.nx ρ)) = some (.nx ρ) := rfl
theorem rs_bk : rsOf (some (.bk ρ)) = some (.nx ρ) := rfl
theorem rs_rt : rsOf (some (.rt (.inl (d, ρ)))) = some (.rt d ρ) := rfl
theorem rs_rf : rsOf (some (.rt (.inr (c, ρ)))) = some (.rf c ρ) := rfl
theorem rs_no : rsOf none = none := rfl
theorem vp_rt : valP (some (.rt d ρ)) = some d := rfl
theorem vp_nx : valP (some (.nx ρ)) = some .none := rfl
theorem vo_rt : valO (some (.rt d (.own true c :: ss))) = some (d, c) := rfl
theorem vo_nx : valO (some (.nx (.own true c :: ss))) = some (.none, c) := rfl
theorem vo_rt0 (h : ρ[0]? = some (.own true c)) : valO (some (.rt d ρ)) = some (d, c) := by
  show ioOf d ρ = _
  unfold ioOf
  rw [h]
theorem vf_rf : valF (some (.rf c ρ)) = some c := rfl
theorem turnE_eq {r : Evs} {fm : Fm} {tg : Expr} {body : List Stmt} {x : D} {s : Rho} : turnE r fm tg body fs x s = (tgtE fm 20 tg x s).bind fun ρ2 => flOf fs (ssE r fm body ρ2) := by
  unfold turnE
  congr
theorem forE_eq {cs : Cs} {o : Or} {r : Evs} {fm : Fm} {tg iter : Expr} {body : List Stmt} {line : Nat} : forE cs o r fm tg iter body line ρ = if notSet iter = true then bd2 (iterE cs r fm tg iter ρ) fun items ρ1 => rsOf (forL (turnE r fm tg body (o.drop line)) items (dropR (o.drop line) ρ1)) else none := by
  unfold forE
  split
  · congr
  · rfl
end
section
variable {cs : Cs} {df : Df} {d0 : Ct} {ds : List D} {body : List Stmt} {k m : Nat} {ρ0 : Rho}
theorem runP_eq (hp : df.ps.length = k) (hN : df.N.length = m) (hb : defBody df.st = body) (hl : ds.length = k) (hρ : ds.map Sl.val ++ List.replicate (m - k) .non = ρ0) : runP cs df ds = valP (ssE (frame cs ⟨df.drop, false⟩ 60) (fmOf df) body ρ0) := by
  subst hp hN hb hρ
  unfold runP
  rw [if_pos hl]
  show _ = valP (bodyE cs df false _)
  cases bodyE cs df false (ds.map Sl.val ++ List.replicate (df.N.length - df.ps.length) .non) with
  | none => rfl
  | some q => cases q <;> rfl
theorem runO_eq (hp : df.ps.length = k) (hN : df.N.length = m) (hb : defBody df.st = body) (hl : ds.length + 1 = k) (hρ : Sl.own true d0 :: (ds.map Sl.val ++ List.replicate (m - k) .non) = ρ0) : runO cs df d0 ds = valO (ssE (frame cs ⟨df.drop, false⟩ 60) (fmOf df) body ρ0) := by
  subst hp hN hb hρ
  unfold runO
  rw [if_pos hl]
  show _ = valO (bodyE cs df false _)
  cases bodyE cs df false (Sl.own true d0 :: (ds.map Sl.val ++ List.replicate (df.N.length - df.ps.length) .non)) with
  | none => rfl
  | some q => cases q <;> rfl
theorem runF_eq (hp : df.ps.length = k) (hN : df.N.length = m) (hb : defBody df.st = body) (hl : ds.length = k) (hρ : ds.map Sl.val ++ List.replicate (m - k) .non = ρ0) : runF cs df ds = valF (ssE (frame cs ⟨df.drop, true⟩ 60) (fmOf df) body ρ0) := by
  subst hp hN hb hρ
  unfold runF
  rw [if_pos hl]
  show _ = valF (bodyE cs df true _)
  cases bodyE cs df true (ds.map Sl.val ++ List.replicate (df.N.length - df.ps.length) .non) with
  | none => rfl
  | some q => cases q <;> rfl
end
/-- a loop whose turns either go on in the same state or hand back -/
def ofO {R S : Type} (s : S) : Option R → Fl S R
  | some q => .rt q
  | none => .nx s
theorem ofO_some {R S : Type} {s : S} {q : R} : ofO s (some q) = .rt q := rfl
theorem ofO_none {R S : Type} {s : S} : (ofO s none : Fl S R) = .nx s := rfl
theorem forL_first {α R S : Type} {step : D → S → Option (Fl S R)} {s : S} (g : α → D) (f : α → Option R) : ∀ {xs : List α}, (∀ x ∈ xs, step (g x) s = some (ofO s (f x))) → forL step (xs.map g) s = some (ofO s (xs.findSome? f))
  | [], _ => rfl
  | x :: xs, h => by
    rw [List.map_cons, forL, h x (List.mem_cons_self ..), List.findSome?_cons]
    cases e : f x with
    | none =>
      simp only [ofO]
      exact forL_first g f fun y hy => h y (List.mem_cons_of_mem _ hy)
    | some q => rfl
/-- a loop whose turns all go on: a fold -/
theorem forL_fold {α β R S : Type} {step : D → S → Option (Fl S R)} (st : β → S) (g : α → D) (f : β → α → β) : ∀ {xs : List α} {b : β}, (∀ x ∈ xs, ∀ b, step (g x) (st b) = some (.nx (st (f b x)))) → forL step (xs.map g) (st b) = some (.nx (st (xs.foldl f b)))
  | [], _, _ => rfl
  | x :: xs, b, h => by
    rw [List.map_cons, forL, h x (List.mem_cons_self ..)]
    exact forL_fold st g f fun y hy => h y (List.mem_cons_of_mem _ hy)
theorem forL_same {α R S : Type} {step : D → S → Option (Fl S R)} {s : S} (g : α → D) {xs : List α} (h : ∀ x ∈ xs, step (g x) s = some (.nx s)) : forL step (xs.map g) s = some (.nx s) := by
  induction xs with
  | nil => rfl
  | cons x xs ih =>
    rw [List.map_cons, forL, h x (List.mem_cons_self ..)]
    exact ih fun y hy => h y (List.mem_cons_of_mem _ hy)
theorem forL_nil {R S : Type} {step : D → S → Option (Fl S R)} {s : S} : forL step [] s = some (.nx s) := rfl
theorem forL_cons {R S : Type} {step : D → S → Option (Fl S R)} {s : S} {x : D} {xs : List D} : forL step (x :: xs) s = (match step x s with
    | some (.nx s') => forL step xs s'
    | some fl => some fl
    | none => none) := by
  rw [forL]
  cases step x s with
  | none => rfl
  | some f => cases f <;> rfl
theorem foldl_flag {α β : Type} (P : α → Bool) (v : β) : ∀ (xs : List α) (b : β), xs.foldl (fun a x => if P x = true then v else a) b = if xs.any P = true then v else b
  | [], b => rfl
  | x :: xs, b => by
    rw [List.foldl_cons, foldl_flag P v xs, List.any_cons]
    cases P x <;> cases xs.any P <;> rfl
theorem maxI_of {xs : List Int} {m : Int} (h1 : m ∈ xs) (h2 : ∀ x ∈ xs, x ≤ m) : maxI xs = some m := by
  cases xs with
  | nil => cases h1
  | cons x xs =>
    obtain ⟨h3, h4⟩ := foldl_max xs x
    have a := h2 _ h3
    have b := h4 _ h1
    exact congrArg some (by omega)
/-- texts of single signs, put together -/
theorem cps_app (a b : Str) : (a ++ b).cps.toList = a.cps.toList ++ b.cps.toList := by
  show (a.cps ++ b.cps).toList = _
  simp
theorem glued_signs : ∀ (cs : List Nat) (acc : Array Nat), ((cs.map fun c => (⟨#[c]⟩ : Str)).foldl (fun acc p => acc ++ (Str.ofString "").cps ++ p.cps) acc).toList = acc.toList ++ cs
  | [], acc => by simp
  | c :: cs, acc => by
    rw [List.map_cons, List.foldl_cons, glued_signs cs]
    have e : (Str.ofString "").cps = #[] := by decide +kernel
    rw [e]
    simp
theorem join_signs (cs : List Nat) : (Txt.join "" (cs.map fun c => ⟨#[c]⟩)).cps.toList = cs := by
  unfold Txt.join
  cases cs with
  | nil => rfl
  | cons c cs =>
    rw [List.map_cons]
    show (PySem.Builtin.Str.glued _ _).cps.toList = _
    unfold PySem.Builtin.Str.glued
    have := glued_signs cs #[c]
    simpa using this
theorem b_addb {i : Int} {b : Bool} : binD .Add (.int i) (.bool b) = some (.int (i + if b = true then 1 else 0)) := rfl
theorem b_subb {i : Int} {b : Bool} : binD .Sub (.int i) (.bool b) = some (.int (i - if b = true then 1 else 0)) := rfl
theorem k_ord {xs : List D} : bltB "ord" xs = ordO xs := rfl
theorem or_s {z : Str} : ordO [.str z] = if z.length = 1 then some (.int (z.cps.getD 0 0 : Nat)) else none := rfl
theorem it_s {z : Str} : intDD [.str z] = if z.length ≤ 640 then (PySem.intText? z).map .int else none := rfl
theorem cast_lit {n : Nat} : ((no_index (@OfNat.ofNat Nat n (instOfNatNat n)) : Nat) : Int) = @OfNat.ofNat Int n instOfNat := rfl
theorem c_li {xs : List D} {k : Int} : catD .Mult (.list xs) (.int k) = if -(2 ^ 63) ≤ k ∧ k < 2 ^ 63 ∧ xs.length * k.toNat ≤ 16777216 then some (List.replicate k.toNat xs).flatten else none := rfl
theorem p6000 : ((0 : Int) < 1 * 2 ^ 6000) = True := eq_true (by rw [Int.one_mul]; exact Int.pow_pos (by decide))
theorem p18 : ((2 : Int) * 10 ^ 18 ≤ 0) = False := eq_false (by decide)
theorem blkN {fm : Fm} {sc : Scope} : (blkFm fm sc).N = fm.N := rfl
theorem p64 : (2 : Int) ^ 64 = 18446744073709551616 := by decide
theorem p64n : (2 : Nat) ^ 64 = 18446744073709551616 := by decide
theorem natAbs_lit {n : Nat} : Int.natAbs (no_index (@OfNat.ofNat Int n instOfNat)) = n := rfl
theorem cutA_to {α : Type} {xs : List α} {j : Nat} (h : j ≤ xs.length) : cutA xs none (some (j : Int)) = xs.take j := by
  unfold cutA
  rw [HT.sIx_none, HT.sIx_nat, List.drop_zero, Nat.sub_zero, Nat.min_eq_left h]
theorem cutA_from {α : Type} {xs : List α} {j : Nat} (h : j ≤ xs.length) : cutA xs (some (j : Int)) none = xs.drop j := by
  unfold cutA
  rw [HT.sIx_none, HT.sIx_nat, Nat.min_eq_left h, List.take_of_length_le (by rw [List.length_drop]; omega)]
end Ev

set_option Elab.async false
set_option linter.all false
set_option maxRecDepth 100000
namespace Ev
open PySem PySem.Spec PyProof.Rows L2 Lk
section
variable {cs : Cs} {o : Or} {r : Evs} {fm : Fm} {ρ : Rho} {x y : Str} {p p1 p2 p3 p4 : Pos} {c : Const} {j : Nat} {f a b c2 e : Expr} {as es : List Expr} {ks : List Keyword} {op : Operator} {uo : UnaryOp} {bo : BoolOp} {ops : List CmpOp} {gs : List Comprehension} {sc : Scope} {oa ob oc : Option Expr} {oas : List (Option Expr)} {ds : List D} {dy : D} {i : Nat}
theorem isSet_Name : isSet (.Name x p) = false := rfl
theorem isSet_Constant : isSet (.Constant c j p) = false := rfl
theorem isSet_Call1 : isSet (.Call (.Name x p1) [a] [] p) = decide (x = "set") := rfl
theorem isSet_Call0 : isSet (.Call (.Name x p1) [] [] p) = false := rfl
theorem isSet_Call2 : isSet (.Call (.Name x p1) (a :: b :: as) [] p) = false := rfl
theorem isSet_CallA : isSet (.Call (.Attribute a x p1) as ks p) = false := rfl
theorem isSet_UnaryOp : isSet (.UnaryOp uo a p) = false := rfl
theorem isSet_BoolOp : isSet (.BoolOp bo as p) = false := rfl
theorem isSet_Compare : isSet (.Compare a ops as p) = false := rfl
theorem isSet_Tuple : isSet (.Tuple as j p) = false := rfl
theorem isSet_List : isSet (.List as p) = false := rfl
theorem isSet_ListComp : isSet (.ListComp a gs sc p) = false := rfl
theorem isSet_Subscript : isSet (.Subscript a b p) = false := rfl
theorem isSet_Attribute : isSet (.Attribute a x p) = false := rfl
theorem isSet_IfExp : isSet (.IfExp a b c2 p) = false := rfl
theorem isSet_GeneratorExp : isSet (.GeneratorExp a gs sc p) = false := rfl
theorem isSet_BinOp : isSet (.BinOp a op b p) = ((set1 a).isSome && (set1 b).isSome) := rfl
theorem set1_Call1 : set1 (.Call (.Name x p1) [a] [] p) = if x = "set" then some a else none := rfl
theorem set1_Call0 : set1 (.Call (.Name x p1) [] [] p) = none := rfl
theorem set1_Call2 : set1 (.Call (.Name x p1) (a :: b :: as) [] p) = none := rfl
theorem set1_CallA : set1 (.Call (.Attribute a x p1) as ks p) = none := rfl
theorem set1_Name : set1 (.Name x p) = none := rfl
theorem set1_Constant : set1 (.Constant c j p) = none := rfl
theorem set1_BinOp : set1 (.BinOp a op b p) = none := rfl
theorem set1_Subscript : set1 (.Subscript a b p) = none := rfl
theorem set1_Tuple : set1 (.Tuple as j p) = none := rfl
theorem set1_ListComp : set1 (.ListComp a gs sc p) = none := rfl
theorem set1_List : set1 (.List as p) = none := rfl
theorem lenSet_Name : lenSet y (.Name x p) = false := rfl
theorem lenSet_Constant : lenSet y (.Constant c j p) = false := rfl
theorem lenSet_Call : lenSet y (.Call f as ks p) = (decide (y = "len") && isSet (.Call f as ks p)) := rfl
theorem lenSet_BinOp : lenSet y (.BinOp a op b p) = (decide (y = "len") && isSet (.BinOp a op b p)) := rfl
theorem lenSet_UnaryOp : lenSet y (.UnaryOp uo a p) = false := rfl
theorem lenSet_BoolOp : lenSet y (.BoolOp bo as p) = false := rfl
theorem lenSet_Compare : lenSet y (.Compare a ops as p) = false := rfl
theorem lenSet_Tuple : lenSet y (.Tuple as j p) = false := rfl
theorem lenSet_List : lenSet y (.List as p) = false := rfl
theorem lenSet_ListComp : lenSet y (.ListComp a gs sc p) = false := rfl
theorem lenSet_Subscript : lenSet y (.Subscript a b p) = false := rfl
theorem lenSet_Attribute : lenSet y (.Attribute a x p) = false := rfl
theorem lenSet_IfExp : lenSet y (.IfExp a b c2 p) = false := rfl
theorem lenSet_GeneratorExp : lenSet y (.GeneratorExp a gs sc p) = false := rfl
theorem tupR_Name : tupR y (.Name x p) = none := rfl
theorem tupR_Constant : tupR y (.Constant c j p) = none := rfl
theorem tupR_Call : tupR y (.Call (.Name x p1) es [] p) = if y = "tuple" ∧ x = "range" then some es else none := rfl
theorem tupR_CallA : tupR y (.Call (.Attribute a x p1) es ks p) = none := rfl
theorem tupR_BinOp : tupR y (.BinOp a op b p) = none := rfl
theorem tupR_UnaryOp : tupR y (.UnaryOp uo a p) = none := rfl
theorem tupR_BoolOp : tupR y (.BoolOp bo as p) = none := rfl
theorem tupR_Compare : tupR y (.Compare a ops as p) = none := rfl
theorem tupR_Tuple : tupR y (.Tuple as j p) = none := rfl
theorem tupR_List : tupR y (.List as p) = none := rfl
theorem tupR_ListComp : tupR y (.ListComp a gs sc p) = none := rfl
theorem tupR_Subscript : tupR y (.Subscript a b p) = none := rfl
theorem tupR_Attribute : tupR y (.Attribute a x p) = none := rfl
theorem tupR_IfExp : tupR y (.IfExp a b c2 p) = none := rfl
theorem tupR_GeneratorExp : tupR y (.GeneratorExp a gs sc p) = none := rfl
theorem rngE_1 : rngE cs r fm [a] ρ = if (glB fm.sc "range" && cs.B "range" && notStar a) = true then bd2 (r.E fm a ρ) fun d ρ1 => (match d with
    | .int j => if rngOk 0 j = true then some (.tuple ((rngL 0 j).map .int), ρ1) else none
    | _ => none) else none := rfl
theorem rngE_2 : rngE cs r fm [a, b] ρ = if (glB fm.sc "range" && cs.B "range" && notStar a && notStar b) = true then bd2 (r.E fm a ρ) fun d ρ1 => (match d with
    | .int i => bd2 (r.E fm b ρ1) fun d ρ2 => (match d with
      | .int j => if rngOk i j = true then some (.tuple ((rngL i j).map .int), ρ2) else none
      | _ => none)
    | _ => none) else none := rfl
theorem bltE_0 : bltE cs r fm x [] ρ = bltE0 cs r fm x [] ρ := rfl
theorem bltE_1 : bltE cs r fm x [e] ρ = if lenSet x e = true then bd2 (setE cs r fm e ρ) fun ns ρ1 => some (.int ns.length, ρ1) else (match tupR x e with
    | some es => rngE cs r fm es ρ
    | none => bltE0 cs r fm x [e] ρ) := rfl
theorem bltE_2 : bltE cs r fm x (a :: b :: es) ρ = bltE0 cs r fm x (a :: b :: es) ρ := rfl
theorem setE_Call : setE cs r fm (.Call f as ks p) ρ = setE1 cs r fm (.Call f as ks p) ρ := rfl
theorem setE_BinOp : setE cs r fm (.BinOp a op b p) ρ = bd2 (setE1 cs r fm a ρ) fun xs ρ1 => bd2 (setE1 cs r fm b ρ1) fun ys ρ2 => bd1 (opZ op xs ys) fun zs => some (zs, ρ2) := rfl
theorem setE1_Call : setE1 cs r fm (.Call (.Name "set" p1) [a] [] p) ρ = if (glB fm.sc "set" && cs.B "set" && notStar a) = true then (match ownAt fm a ρ with
      | some (_, _, ds) => bd1 (intsOf ds) fun ns => mkZ ns ρ
      | none => bd2 (r.E fm a ρ) fun d ρ1 => bd1 (seqI d) fun ns => mkZ ns ρ1) else none := by
  unfold setE1
  rw [show set1 (.Call (.Name "set" p1) [a] [] p) = some a from (show (if ("set" : Str) = "set" then some a else none) = some a from if_pos rfl)]
  all_goals rfl
theorem seqI_l : seqI (.list ds) = intsOf ds := rfl
theorem seqI_t : seqI (.tuple ds) = intsOf ds := rfl
theorem mkZ_le {ns : List Int} (h : ns.length ≤ 4000) : mkZ ns ρ = some (sdd ns, ρ) := if_pos h
theorem opZ_sub {xs ys : List Int} : opZ .Sub xs ys = if xs.length / 4 ≤ ys.length then some (xs.filter fun j => !decide (j ∈ ys)) else none := rfl
theorem opZ_and {xs ys : List Int} : opZ .BitAnd xs ys = some (xs.filter fun j => decide (j ∈ ys)) := rfl
theorem inOwn_eq : inOwn dy i ρ = (match ρ[i]? with
  | some (.own _ (.lst ds)) => if (SeqAt.shaped dy && SeqAt.shaped (.list ds)) = true then some (ds.any fun z => PyData.eqv z dy, ρ) else none
  | _ => none) := rfl
theorem s_while_ {test : Expr} {body : List Stmt} : stepS2 cs r fm o (.While test body [] p) ρ = rsOf (whL (wturnE r fm test body (o.drop p.line)) 1000000 (dropR (o.drop p.line) ρ)) := rfl
theorem wturnE_eq {test : Expr} {body : List Stmt} {fs : List Bool} {s : Rho} : wturnE r fm test body fs s = bd2 (r.T fm test s) fun b ρ1 => if b = true then flOf fs (ssE r fm body ρ1) else some (.bk (dropR fs ρ1)) := rfl
end
/-- a while that ends: J k holds ahead of each turn, k falls -/
theorem whL_down {S R : Type} {step : S → Option (Fl S R)} (J : Nat → S → Prop) {P : S → Prop} (h : ∀ k s, J k s → (∃ s' k', step s = some (.nx s') ∧ J k' s' ∧ k' < k) ∨ (∃ s', step s = some (.bk s') ∧ P s')) :
    ∀ k s n, J k s → k < n → ∃ s', whL step n s = some (.bk s') ∧ P s'
  | k, s, 0, _, hn => by omega
  | k, s, n + 1, hj, hn => by
    rcases h k s hj with ⟨s', k', e, hj', hk⟩ | ⟨s', e, hp⟩
    · obtain ⟨s2, e2, hp⟩ := whL_down J h k' s' n hj' (by omega)
      exact ⟨s2, by rw [whL, e]; exact e2, hp⟩
    · exact ⟨s', by rw [whL, e], hp⟩
theorem whL_nx {S R : Type} {step : S → Option (Fl S R)} {n : Nat} {s s' : S} (e : step s = some (.nx s')) : whL step (n + 1) s = whL step n s' := by rw [whL, e]
theorem whL_bk {S R : Type} {step : S → Option (Fl S R)} {n : Nat} {s s' : S} (e : step s = some (.bk s')) : whL step (n + 1) s = some (.bk s') := by rw [whL, e]
theorem whL_rt {S R : Type} {step : S → Option (Fl S R)} {n : Nat} {s : S} {q : R} (e : step s = some (.rt q)) : whL step (n + 1) s = some (.rt q) := by rw [whL, e]
end Ev
namespace Ev
open PySem PySem.Spec PyProof.Rows L2 Lk
/-- a comprehension whose turns change the state, but not what they are worth -/
theorem lcL_val {α : Type} {I : Rho → Prop} {step : D → Rho → Option (Option D × Rho)} (f : α → D) (g : α → D) : ∀ {xs : List α}, (∀ x ∈ xs, ∀ s, I s → ∃ s', step (f x) s = some (some (g x), s') ∧ I s') → ∀ s, I s → ∃ s', lcL step (xs.map f) s = some (xs.map g, s') ∧ I s'
  | [], _, s, hs => ⟨s, rfl, hs⟩
  | x :: xs, h, s, hs => by
    obtain ⟨s1, h1, hs1⟩ := h x (List.mem_cons_self ..) s hs
    obtain ⟨s2, h2, hs2⟩ := lcL_val f g (xs := xs) (fun z hz => h z (List.mem_cons_of_mem _ hz)) s1 hs1
    refine ⟨s2, ?_, hs2⟩
    rw [List.map_cons, lcL, h1]
    simp only
    rw [h2]
    rfl
/-- a comprehension with a test that leaves the state as it is -/
theorem lcL_filter {α : Type} {step : D → Rho → Option (Option D × Rho)} {s : Rho} (f : α → D) (g : α → D) (p : α → Bool) : ∀ {xs : List α}, (∀ x ∈ xs, step (f x) s = some (if p x = true then some (g x) else none, s)) → lcL step (xs.map f) s = some ((xs.filter p).map g, s)
  | [], _ => rfl
  | x :: xs, h => by
    rw [List.map_cons, lcL, h x (List.mem_cons_self ..)]
    simp only
    rw [lcL_filter f g p fun y hy => h y (List.mem_cons_of_mem _ hy)]
    cases e : p x with
    | true => rw [List.filter_cons_of_pos e]; rfl
    | false => rw [List.filter_cons_of_neg (by simp [e])]; rfl
/-- sorted data: what is in order and has the same items -/
theorem sortD_eq {α : Type} {r : α → D} {L M : List α} (hp : L.Perm M) (hs : M.Pairwise fun a b => W.dataLt (r b) (r a) = false) (anti : ∀ a ∈ M, ∀ b ∈ M, W.dataLt (r b) (r a) = false → W.dataLt (r a) (r b) = false → r a = r b) : sortD (L.map r) = M.map r := by
  have tot : W.TotalLe (W.dataLe false (id : D → D)) := W.sortLe_total _ _ _
  have le_iff : ∀ a b : D, W.dataLe false id a b = true ↔ W.dataLt b a = false := fun a b => by
    rw [W.dataLe_eq]; simp
  have ms : (M.map r).Pairwise fun a b => W.dataLe false id a b = true := List.pairwise_map.mpr (hs.imp fun h => (le_iff _ _).mpr h)
  have p1 : (sortD (L.map r)).Perm (M.map r) := (List.mergeSort_perm _ _).trans (hp.map r)
  refine List.Perm.eq_of_pairwise (le := fun a b => W.dataLe false id a b = true) (fun a b ha hb h1 h2 => ?_) (W.sort_pairwise tot _) ms p1
  obtain ⟨a', ha', rfl⟩ := List.mem_map.mp (p1.mem_iff.mp ha)
  obtain ⟨b', hb', rfl⟩ := List.mem_map.mp hb
  exact anti a' ha' b' hb' ((le_iff _ _).mp h1) ((le_iff _ _).mp h2)
/-- a tuple of ints -/
def encI (ns : List Int) : D := .tuple (ns.map .int)
theorem dataLt_I (xs ys : List Int) : W.dataLt (encI xs) (encI ys) = decide (xs < ys) := by
  unfold encI
  rw [W.dataLt_tuple]
  exact W.dataLt_ints xs ys
theorem sortD_I {L M : List (List Int)} (hp : L.Perm M) (hs : M.Pairwise fun a b => a < b) : sortD (L.map encI) = M.map encI := by
  refine sortD_eq hp (hs.imp fun {a b} h => ?_) fun a _ b _ h1 h2 => ?_
  · rw [dataLt_I, decide_eq_false]
    exact List.lt_asymm h
  · rw [dataLt_I, decide_eq_false_iff_not] at h1 h2
    rw [List.le_antisymm h1 h2]
theorem alike_I (xs ys : List Int) : W.alike (encI xs) (encI ys) = true := by
  unfold encI
  have := W.alike_ints xs ys
  simpa [W.alike] using this
theorem depth_I (xs : List Int) : (encI xs).depth ≤ 64 := Nat.le_trans ((enc_T enc_I).dep xs) (by decide)
theorem sortB_I (L : List (List Int)) : sortB (L.map encI) = true := by
  refine Bool.and_eq_true_iff.mpr ⟨Bool.and_eq_true_iff.mpr ⟨List.all_eq_true.mpr fun d hd => List.all_eq_true.mpr fun e he => ?_, Bool.or_eq_true_iff.mpr (.inl (List.all_eq_true.mpr fun d hd => ?_))⟩, List.all_eq_true.mpr fun d hd => ?_⟩
  · obtain ⟨x, _, rfl⟩ := List.mem_map.mp hd
    obtain ⟨y, _, rfl⟩ := List.mem_map.mp he
    exact alike_I x y
  · obtain ⟨x, _, rfl⟩ := List.mem_map.mp hd
    rfl
  · obtain ⟨x, _, rfl⟩ := List.mem_map.mp hd
    exact decide_eq_true (depth_I x)
theorem eqv_I (xs ys : List Int) : PyData.eqv (encI xs) (encI ys) = decide (xs = ys) := (enc_T enc_I).eq xs ys
theorem shaped_I (xs : List Int) : SeqAt.shaped (encI xs) = true := (enc_T enc_I).shaped (by decide) xs
theorem shaped_LI (L : List (List Int)) : SeqAt.shaped (.list (L.map encI)) = true := (enc_L (enc_T enc_I)).shaped (by decide) L
theorem shaped_TI (L : List (List Int)) : SeqAt.shaped (.tuple (L.map encI)) = true := (enc_T (enc_T enc_I)).shaped (by decide) L
theorem sdd_self : ∀ {xs : List Int}, xs.Pairwise (· < ·) → sdd xs = xs := fun {xs} h => sorted_ext (sdd_sorted xs) h fun j => sdd_mem
theorem nodup_sub_len : ∀ {a b : List Int}, a.Nodup → (∀ x ∈ a, x ∈ b) → a.length ≤ b.length
  | [], _, _, _ => Nat.zero_le _
  | x :: a, b, hn, hs => by
    obtain ⟨h1, h2⟩ := List.nodup_cons.mp hn
    have hx : x ∈ b := hs x (List.mem_cons_self ..)
    have ih := nodup_sub_len (b := b.erase x) h2 fun y hy => by
      have hne : y ≠ x := fun e => h1 (e ▸ hy)
      exact (List.mem_erase_of_ne hne).2 (hs y (List.mem_cons_of_mem _ hy))
    have e := List.length_erase_of_mem hx
    have hp : 0 < b.length := List.length_pos_of_mem hx
    rw [List.length_cons]
    omega
theorem sub_len {a b : List Int} (ha : a.Pairwise (· < ·)) (h : ∀ x ∈ a, x ∈ b) : a.length ≤ b.length := nodup_sub_len (nodup_lt ha) h
theorem tgsV_nil {f : Expr → List Nat} : tgtsV f [] = [] := rfl
theorem tgsV_cons {f : Expr → List Nat} {e : Expr} {es : List Expr} : tgtsV f (e :: es) = f e ++ tgtsV f es := rfl
end Ev

set_option Elab.async false
set_option linter.all false
set_option maxRecDepth 100000
namespace T17
open PySem PySem.Spec PyProof.Rows L2 Lk Ev
def topS (i : Nat) : Stmt := PySem.Challenge.pw_doubtborne_k17_faults_strike.main.body.getD i (.Pass ⟨0, 0, 0, 0⟩)
def df_inside : Df := ⟨topS 1, ["first", "second"], ["first", "second"], fun _ => []⟩
def df_subsets_of : Df := ⟨topS 2, ["members", "found", "member", "some"], ["members"], fun l => if l = 6 then [true, false, true, true] else []⟩
def df_strikes : Df := ⟨topS 4, ["faults", "most", "struck", "every", "some"], ["faults", "most", "struck"], fun _ => []⟩
def df_broken_by : Df := ⟨topS 5, ["sensors", "faults", "struck", "present", "number", "sensor"], ["sensors", "faults", "struck"], fun _ => []⟩
def df_broken : Df := ⟨topS 6, ["present", "sensor"], ["present", "sensor"], fun _ => []⟩
def df_law_begin : Df := ⟨topS 8, ["script", "cell"], ["script"], fun _ => []⟩
def df_law_draw : Df := ⟨topS 9, ["d", "many", "size", "found", "cell"], ["d", "many"], fun _ => []⟩
def df_law_pick : Df := ⟨topS 10, ["d", "row"], ["d", "row"], fun _ => []⟩
def df_law_is_int : Df := ⟨topS 11, ["thing"], ["thing"], fun _ => []⟩
def df_law_is_ints : Df := ⟨topS 12, ["row", "part"], ["row"], fun _ => []⟩
def df_law_is_set : Df := ⟨topS 13, ["row", "k"], ["row"], fun _ => []⟩
def df_law_inside : Df := ⟨topS 14, ["first", "second", "one"], ["first", "second"], fun l => if l = 50 then [true, false, true] else []⟩
def df_law_subsets : Df := ⟨topS 15, ["row", "found", "one", "part"], ["row"], fun l => if l = 56 then [true, false, true, true] else []⟩
def df_law_strikes : Df := ⟨topS 16, ["many", "most", "struck", "found", "one"], ["many", "most", "struck"], fun l => if l = 61 then [true, false, false, false, true] else []⟩
def df_law_broken : Df := ⟨topS 17, ["sensors", "faults", "struck", "words", "word", "s"], ["sensors", "faults", "struck"], fun l => if l = 67 then [true, false, false, false, true, true] else if l = 68 then [true, false, false, false, false, true] else []⟩
def df_law_sensors : Df := ⟨topS 18, ["d", "most", "stock", "k"], ["d", "most"], fun _ => []⟩
def df_law_trail : Df := ⟨topS 19, ["d", "k"], ["d"], fun _ => []⟩
def df_law_faults : Df := ⟨topS 20, ["d", "sensors", "found", "k", "one"], ["d", "sensors"], fun l => if l = 80 then [false, false, false, true, true] else []⟩
def df_law_right_strikes : Df := ⟨topS 21, ["told", "due", "one"], ["told", "due"], fun _ => []⟩
def df_law_right_chain : Df := ⟨topS 22, ["faults", "most", "struck", "due", "one", "told", "later"], ["faults", "most", "struck"], fun l => if l = 95 then [false, false, true, false, true, true, true] else []⟩
def df_law : Df := ⟨topS 23, ["script", "d", "sensors", "faults", "turned", "turn", "struck", "row", "k", "told", "most"], ["script"], fun l => if l = 105 then [true, true, false, false, false, true, true, true, true, true, true] else if l = 106 then [true, true, false, false, false, true, true, true, true, true, true] else if l = 107 then [true, true, false, false, false, true, false, true, true, true, true] else if l = 111 then [true, true, false, false, false, true, false, false, true, true, true] else []⟩
def pg : Pg where
  defs := fun x => if x = "inside" then some (.p, df_inside) else if x = "subsets_of" then some (.p, df_subsets_of) else if x = "strikes" then some (.p, df_strikes) else if x = "broken_by" then some (.p, df_broken_by) else if x = "_broken" then some (.p, df_broken) else if x = "_law_begin" then some (.f, df_law_begin) else if x = "_law_draw" then some (.o, df_law_draw) else if x = "_law_pick" then some (.o, df_law_pick) else if x = "_law_is_int" then some (.p, df_law_is_int) else if x = "_law_is_ints" then some (.p, df_law_is_ints) else if x = "_law_is_set" then some (.p, df_law_is_set) else if x = "_law_inside" then some (.p, df_law_inside) else if x = "_law_subsets" then some (.p, df_law_subsets) else if x = "_law_strikes" then some (.p, df_law_strikes) else if x = "_law_broken" then some (.p, df_law_broken) else if x = "_law_sensors" then some (.o, df_law_sensors) else if x = "_law_trail" then some (.o, df_law_trail) else if x = "_law_faults" then some (.o, df_law_faults) else if x = "_law_right_strikes" then some (.p, df_law_right_strikes) else if x = "_law_right_chain" then some (.p, df_law_right_chain) else if x = "law" then some (.p, df_law) else none
  G := fun x => none
  GD := fun x => none
  B := fun x => decide (x ∈ (["abs", "all", "bool", "int", "isinstance", "len", "list", "range", "set", "sorted", "tuple"] : List Str))
theorem nm_inside : slot (fmOf df_inside) "first" = some 0 ∧ slotL (fmOf df_inside) "first" = some 0 ∧ slot (fmOf df_inside) "second" = some 1 ∧ slotL (fmOf df_inside) "second" = some 1 ∧ slot (fmOf df_inside) "len" = none ∧ glB (fmOf df_inside).sc "len" = true ∧ slot (fmOf df_inside) "set" = none ∧ glB (fmOf df_inside).sc "set" = true := by
  refine ⟨?_, ?_, ?_, ?_, ?_, ?_, ?_, ?_⟩
  all_goals first | rfl | trivial
theorem nl_inside : (fmOf df_inside).N.length = 2 := rfl
theorem nm_subsets_of : slot (fmOf df_subsets_of) "members" = some 0 ∧ slotL (fmOf df_subsets_of) "members" = some 0 ∧ slot (fmOf df_subsets_of) "found" = some 1 ∧ slotL (fmOf df_subsets_of) "found" = some 1 ∧ slot (fmOf df_subsets_of) "member" = some 2 ∧ slotL (fmOf df_subsets_of) "member" = some 2 ∧ slot (fmOf df_subsets_of) "tuple" = none ∧ glB (fmOf df_subsets_of).sc "tuple" = true ∧ slot (fmOf df_subsets_of) "sorted" = none ∧ glB (fmOf df_subsets_of).sc "sorted" = true := by
  refine ⟨?_, ?_, ?_, ?_, ?_, ?_, ?_, ?_, ?_, ?_⟩
  all_goals first | rfl | trivial
theorem dr_subsets_of_6 {ρ : Rho} : dropR (df_subsets_of.drop 6) ρ = dropR [true, false, true, true] ρ := id rfl
theorem nl_subsets_of : (fmOf df_subsets_of).N.length = 4 := rfl
theorem nm_strikes : slot (fmOf df_strikes) "faults" = some 0 ∧ slotL (fmOf df_strikes) "faults" = some 0 ∧ slot (fmOf df_strikes) "most" = some 1 ∧ slotL (fmOf df_strikes) "most" = some 1 ∧ slot (fmOf df_strikes) "struck" = some 2 ∧ slotL (fmOf df_strikes) "struck" = some 2 ∧ slot (fmOf df_strikes) "every" = some 3 ∧ slotL (fmOf df_strikes) "every" = some 3 ∧ slot (fmOf df_strikes) "subsets_of" = none ∧ glB (fmOf df_strikes).sc "subsets_of" = true ∧ slot (fmOf df_strikes) "tuple" = none ∧ glB (fmOf df_strikes).sc "tuple" = true ∧ slot (fmOf df_strikes) "range" = none ∧ glB (fmOf df_strikes).sc "range" = true ∧ slot (fmOf df_strikes) "len" = none ∧ glB (fmOf df_strikes).sc "len" = true := by
  refine ⟨?_, ?_, ?_, ?_, ?_, ?_, ?_, ?_, ?_, ?_, ?_, ?_, ?_, ?_, ?_, ?_⟩
  all_goals first | rfl | trivial
theorem nl_strikes : (fmOf df_strikes).N.length = 5 := rfl
theorem nm_broken_by : slot (fmOf df_broken_by) "sensors" = some 0 ∧ slotL (fmOf df_broken_by) "sensors" = some 0 ∧ slot (fmOf df_broken_by) "faults" = some 1 ∧ slotL (fmOf df_broken_by) "faults" = some 1 ∧ slot (fmOf df_broken_by) "struck" = some 2 ∧ slotL (fmOf df_broken_by) "struck" = some 2 ∧ slot (fmOf df_broken_by) "present" = some 3 ∧ slotL (fmOf df_broken_by) "present" = some 3 ∧ slot (fmOf df_broken_by) "tuple" = none ∧ glB (fmOf df_broken_by).sc "tuple" = true ∧ slot (fmOf df_broken_by) "range" = none ∧ glB (fmOf df_broken_by).sc "range" = true ∧ slot (fmOf df_broken_by) "len" = none ∧ glB (fmOf df_broken_by).sc "len" = true := by
  refine ⟨?_, ?_, ?_, ?_, ?_, ?_, ?_, ?_, ?_, ?_, ?_, ?_, ?_, ?_⟩
  all_goals first | rfl | trivial
theorem nl_broken_by : (fmOf df_broken_by).N.length = 6 := rfl
theorem nm_broken : slot (fmOf df_broken) "present" = some 0 ∧ slotL (fmOf df_broken) "present" = some 0 ∧ slot (fmOf df_broken) "sensor" = some 1 ∧ slotL (fmOf df_broken) "sensor" = some 1 := by
  refine ⟨?_, ?_, ?_, ?_⟩
  all_goals first | rfl | trivial
theorem nl_broken : (fmOf df_broken).N.length = 2 := rfl
theorem nm_law_begin : slot (fmOf df_law_begin) "script" = some 0 ∧ slotL (fmOf df_law_begin) "script" = some 0 := by
  refine ⟨?_, ?_⟩
  all_goals first | rfl | trivial
theorem nl_law_begin : (fmOf df_law_begin).N.length = 2 := rfl
theorem nm_law_draw : slot (fmOf df_law_draw) "d" = some 0 ∧ slotL (fmOf df_law_draw) "d" = some 0 ∧ slot (fmOf df_law_draw) "many" = some 1 ∧ slotL (fmOf df_law_draw) "many" = some 1 ∧ slot (fmOf df_law_draw) "size" = some 2 ∧ slotL (fmOf df_law_draw) "size" = some 2 ∧ slot (fmOf df_law_draw) "found" = some 3 ∧ slotL (fmOf df_law_draw) "found" = some 3 ∧ slot (fmOf df_law_draw) "cell" = some 4 ∧ slotL (fmOf df_law_draw) "cell" = some 4 ∧ slot (fmOf df_law_draw) "len" = none ∧ glB (fmOf df_law_draw).sc "len" = true ∧ slot (fmOf df_law_draw) "int" = none ∧ glB (fmOf df_law_draw).sc "int" = true ∧ slot (fmOf df_law_draw) "abs" = none ∧ glB (fmOf df_law_draw).sc "abs" = true := by
  refine ⟨?_, ?_, ?_, ?_, ?_, ?_, ?_, ?_, ?_, ?_, ?_, ?_, ?_, ?_, ?_, ?_⟩
  all_goals first | rfl | trivial
theorem nl_law_draw : (fmOf df_law_draw).N.length = 5 := rfl
theorem nm_law_pick : slot (fmOf df_law_pick) "d" = some 0 ∧ slotL (fmOf df_law_pick) "d" = some 0 ∧ slot (fmOf df_law_pick) "row" = some 1 ∧ slotL (fmOf df_law_pick) "row" = some 1 ∧ slot (fmOf df_law_pick) "_law_draw" = none ∧ glB (fmOf df_law_pick).sc "_law_draw" = true ∧ slot (fmOf df_law_pick) "len" = none ∧ glB (fmOf df_law_pick).sc "len" = true := by
  refine ⟨?_, ?_, ?_, ?_, ?_, ?_, ?_, ?_⟩
  all_goals first | rfl | trivial
theorem nl_law_pick : (fmOf df_law_pick).N.length = 2 := rfl
theorem nm_law_is_int : slot (fmOf df_law_is_int) "thing" = some 0 ∧ slotL (fmOf df_law_is_int) "thing" = some 0 ∧ slot (fmOf df_law_is_int) "isinstance" = none ∧ glB (fmOf df_law_is_int).sc "isinstance" = true ∧ slot (fmOf df_law_is_int) "int" = none ∧ glB (fmOf df_law_is_int).sc "int" = true ∧ slot (fmOf df_law_is_int) "bool" = none ∧ glB (fmOf df_law_is_int).sc "bool" = true := by
  refine ⟨?_, ?_, ?_, ?_, ?_, ?_, ?_, ?_⟩
  all_goals first | rfl | trivial
theorem nl_law_is_int : (fmOf df_law_is_int).N.length = 1 := rfl
theorem nm_law_is_ints : slot (fmOf df_law_is_ints) "row" = some 0 ∧ slotL (fmOf df_law_is_ints) "row" = some 0 ∧ slot (fmOf df_law_is_ints) "isinstance" = none ∧ glB (fmOf df_law_is_ints).sc "isinstance" = true ∧ slot (fmOf df_law_is_ints) "tuple" = none ∧ glB (fmOf df_law_is_ints).sc "tuple" = true ∧ slot (fmOf df_law_is_ints) "all" = none ∧ glB (fmOf df_law_is_ints).sc "all" = true := by
  refine ⟨?_, ?_, ?_, ?_, ?_, ?_, ?_, ?_⟩
  all_goals first | rfl | trivial
theorem nl_law_is_ints : (fmOf df_law_is_ints).N.length = 2 := rfl
theorem nm_law_is_set : slot (fmOf df_law_is_set) "row" = some 0 ∧ slotL (fmOf df_law_is_set) "row" = some 0 ∧ slot (fmOf df_law_is_set) "all" = none ∧ glB (fmOf df_law_is_set).sc "all" = true ∧ slot (fmOf df_law_is_set) "_law_is_ints" = none ∧ glB (fmOf df_law_is_set).sc "_law_is_ints" = true ∧ slot (fmOf df_law_is_set) "range" = none ∧ glB (fmOf df_law_is_set).sc "range" = true ∧ slot (fmOf df_law_is_set) "len" = none ∧ glB (fmOf df_law_is_set).sc "len" = true := by
  refine ⟨?_, ?_, ?_, ?_, ?_, ?_, ?_, ?_, ?_, ?_⟩
  all_goals first | rfl | trivial
theorem nl_law_is_set : (fmOf df_law_is_set).N.length = 2 := rfl
theorem nm_law_inside : slot (fmOf df_law_inside) "first" = some 0 ∧ slotL (fmOf df_law_inside) "first" = some 0 ∧ slot (fmOf df_law_inside) "second" = some 1 ∧ slotL (fmOf df_law_inside) "second" = some 1 ∧ slot (fmOf df_law_inside) "one" = some 2 ∧ slotL (fmOf df_law_inside) "one" = some 2 := by
  refine ⟨?_, ?_, ?_, ?_, ?_, ?_⟩
  all_goals first | rfl | trivial
theorem dr_law_inside_50 {ρ : Rho} : dropR (df_law_inside.drop 50) ρ = dropR [true, false, true] ρ := id rfl
theorem nl_law_inside : (fmOf df_law_inside).N.length = 3 := rfl
theorem nm_law_subsets : slot (fmOf df_law_subsets) "row" = some 0 ∧ slotL (fmOf df_law_subsets) "row" = some 0 ∧ slot (fmOf df_law_subsets) "found" = some 1 ∧ slotL (fmOf df_law_subsets) "found" = some 1 ∧ slot (fmOf df_law_subsets) "one" = some 2 ∧ slotL (fmOf df_law_subsets) "one" = some 2 := by
  refine ⟨?_, ?_, ?_, ?_, ?_, ?_⟩
  all_goals first | rfl | trivial
theorem dr_law_subsets_56 {ρ : Rho} : dropR (df_law_subsets.drop 56) ρ = dropR [true, false, true, true] ρ := id rfl
theorem nl_law_subsets : (fmOf df_law_subsets).N.length = 4 := rfl
theorem nm_law_strikes : slot (fmOf df_law_strikes) "many" = some 0 ∧ slotL (fmOf df_law_strikes) "many" = some 0 ∧ slot (fmOf df_law_strikes) "most" = some 1 ∧ slotL (fmOf df_law_strikes) "most" = some 1 ∧ slot (fmOf df_law_strikes) "struck" = some 2 ∧ slotL (fmOf df_law_strikes) "struck" = some 2 ∧ slot (fmOf df_law_strikes) "found" = some 3 ∧ slotL (fmOf df_law_strikes) "found" = some 3 ∧ slot (fmOf df_law_strikes) "one" = some 4 ∧ slotL (fmOf df_law_strikes) "one" = some 4 ∧ slot (fmOf df_law_strikes) "_law_subsets" = none ∧ glB (fmOf df_law_strikes).sc "_law_subsets" = true ∧ slot (fmOf df_law_strikes) "sorted" = none ∧ glB (fmOf df_law_strikes).sc "sorted" = true ∧ slot (fmOf df_law_strikes) "list" = none ∧ glB (fmOf df_law_strikes).sc "list" = true ∧ slot (fmOf df_law_strikes) "range" = none ∧ glB (fmOf df_law_strikes).sc "range" = true ∧ slot (fmOf df_law_strikes) "_law_inside" = none ∧ glB (fmOf df_law_strikes).sc "_law_inside" = true ∧ slot (fmOf df_law_strikes) "len" = none ∧ glB (fmOf df_law_strikes).sc "len" = true := by
  refine ⟨?_, ?_, ?_, ?_, ?_, ?_, ?_, ?_, ?_, ?_, ?_, ?_, ?_, ?_, ?_, ?_, ?_, ?_, ?_, ?_, ?_, ?_⟩
  all_goals first | rfl | trivial
theorem dr_law_strikes_61 {ρ : Rho} : dropR (df_law_strikes.drop 61) ρ = dropR [true, false, false, false, true] ρ := id rfl
theorem nl_law_strikes : (fmOf df_law_strikes).N.length = 5 := rfl
theorem nm_law_broken : slot (fmOf df_law_broken) "sensors" = some 0 ∧ slotL (fmOf df_law_broken) "sensors" = some 0 ∧ slot (fmOf df_law_broken) "faults" = some 1 ∧ slotL (fmOf df_law_broken) "faults" = some 1 ∧ slot (fmOf df_law_broken) "struck" = some 2 ∧ slotL (fmOf df_law_broken) "struck" = some 2 ∧ slot (fmOf df_law_broken) "words" = some 3 ∧ slotL (fmOf df_law_broken) "words" = some 3 ∧ slot (fmOf df_law_broken) "word" = some 4 ∧ slotL (fmOf df_law_broken) "word" = some 4 ∧ slot (fmOf df_law_broken) "s" = some 5 ∧ slotL (fmOf df_law_broken) "s" = some 5 ∧ slot (fmOf df_law_broken) "tuple" = none ∧ glB (fmOf df_law_broken).sc "tuple" = true ∧ slot (fmOf df_law_broken) "len" = none ∧ glB (fmOf df_law_broken).sc "len" = true := by
  refine ⟨?_, ?_, ?_, ?_, ?_, ?_, ?_, ?_, ?_, ?_, ?_, ?_, ?_, ?_, ?_, ?_⟩
  all_goals first | rfl | trivial
theorem dr_law_broken_67 {ρ : Rho} : dropR (df_law_broken.drop 67) ρ = dropR [true, false, false, false, true, true] ρ := id rfl
theorem dr_law_broken_68 {ρ : Rho} : dropR (df_law_broken.drop 68) ρ = dropR [true, false, false, false, false, true] ρ := id rfl
theorem nl_law_broken : (fmOf df_law_broken).N.length = 6 := rfl
theorem nm_law_sensors : slot (fmOf df_law_sensors) "d" = some 0 ∧ slotL (fmOf df_law_sensors) "d" = some 0 ∧ slot (fmOf df_law_sensors) "most" = some 1 ∧ slotL (fmOf df_law_sensors) "most" = some 1 ∧ slot (fmOf df_law_sensors) "stock" = some 2 ∧ slotL (fmOf df_law_sensors) "stock" = some 2 ∧ slot (fmOf df_law_sensors) "tuple" = none ∧ glB (fmOf df_law_sensors).sc "tuple" = true ∧ slot (fmOf df_law_sensors) "range" = none ∧ glB (fmOf df_law_sensors).sc "range" = true ∧ slot (fmOf df_law_sensors) "_law_draw" = none ∧ glB (fmOf df_law_sensors).sc "_law_draw" = true := by
  refine ⟨?_, ?_, ?_, ?_, ?_, ?_, ?_, ?_, ?_, ?_, ?_, ?_⟩
  all_goals first | rfl | trivial
theorem nl_law_sensors : (fmOf df_law_sensors).N.length = 4 := rfl
theorem nm_law_trail : slot (fmOf df_law_trail) "d" = some 0 ∧ slotL (fmOf df_law_trail) "d" = some 0 ∧ slot (fmOf df_law_trail) "tuple" = none ∧ glB (fmOf df_law_trail).sc "tuple" = true ∧ slot (fmOf df_law_trail) "_law_draw" = none ∧ glB (fmOf df_law_trail).sc "_law_draw" = true ∧ slot (fmOf df_law_trail) "range" = none ∧ glB (fmOf df_law_trail).sc "range" = true := by
  refine ⟨?_, ?_, ?_, ?_, ?_, ?_, ?_, ?_⟩
  all_goals first | rfl | trivial
theorem nl_law_trail : (fmOf df_law_trail).N.length = 2 := rfl
theorem nm_law_faults : slot (fmOf df_law_faults) "d" = some 0 ∧ slotL (fmOf df_law_faults) "d" = some 0 ∧ slot (fmOf df_law_faults) "sensors" = some 1 ∧ slotL (fmOf df_law_faults) "sensors" = some 1 ∧ slot (fmOf df_law_faults) "found" = some 2 ∧ slotL (fmOf df_law_faults) "found" = some 2 ∧ slot (fmOf df_law_faults) "k" = some 3 ∧ slotL (fmOf df_law_faults) "k" = some 3 ∧ slot (fmOf df_law_faults) "one" = some 4 ∧ slotL (fmOf df_law_faults) "one" = some 4 ∧ slot (fmOf df_law_faults) "range" = none ∧ glB (fmOf df_law_faults).sc "range" = true ∧ slot (fmOf df_law_faults) "tuple" = none ∧ glB (fmOf df_law_faults).sc "tuple" = true ∧ slot (fmOf df_law_faults) "_law_draw" = none ∧ glB (fmOf df_law_faults).sc "_law_draw" = true ∧ slot (fmOf df_law_faults) "_law_trail" = none ∧ glB (fmOf df_law_faults).sc "_law_trail" = true ∧ slot (fmOf df_law_faults) "_law_pick" = none ∧ glB (fmOf df_law_faults).sc "_law_pick" = true := by
  refine ⟨?_, ?_, ?_, ?_, ?_, ?_, ?_, ?_, ?_, ?_, ?_, ?_, ?_, ?_, ?_, ?_, ?_, ?_, ?_, ?_⟩
  all_goals first | rfl | trivial
theorem dr_law_faults_80 {ρ : Rho} : dropR (df_law_faults.drop 80) ρ = dropR [false, false, false, true, true] ρ := id rfl
theorem nl_law_faults : (fmOf df_law_faults).N.length = 5 := rfl
theorem nm_law_right_strikes : slot (fmOf df_law_right_strikes) "told" = some 0 ∧ slotL (fmOf df_law_right_strikes) "told" = some 0 ∧ slot (fmOf df_law_right_strikes) "due" = some 1 ∧ slotL (fmOf df_law_right_strikes) "due" = some 1 ∧ slot (fmOf df_law_right_strikes) "all" = none ∧ glB (fmOf df_law_right_strikes).sc "all" = true ∧ slot (fmOf df_law_right_strikes) "isinstance" = none ∧ glB (fmOf df_law_right_strikes).sc "isinstance" = true ∧ slot (fmOf df_law_right_strikes) "tuple" = none ∧ glB (fmOf df_law_right_strikes).sc "tuple" = true := by
  refine ⟨?_, ?_, ?_, ?_, ?_, ?_, ?_, ?_, ?_, ?_⟩
  all_goals first | rfl | trivial
theorem nl_law_right_strikes : (fmOf df_law_right_strikes).N.length = 3 := rfl
theorem nm_law_right_chain : slot (fmOf df_law_right_chain) "faults" = some 0 ∧ slotL (fmOf df_law_right_chain) "faults" = some 0 ∧ slot (fmOf df_law_right_chain) "most" = some 1 ∧ slotL (fmOf df_law_right_chain) "most" = some 1 ∧ slot (fmOf df_law_right_chain) "struck" = some 2 ∧ slotL (fmOf df_law_right_chain) "struck" = some 2 ∧ slot (fmOf df_law_right_chain) "due" = some 3 ∧ slotL (fmOf df_law_right_chain) "due" = some 3 ∧ slot (fmOf df_law_right_chain) "one" = some 4 ∧ slotL (fmOf df_law_right_chain) "one" = some 4 ∧ slot (fmOf df_law_right_chain) "told" = some 5 ∧ slotL (fmOf df_law_right_chain) "told" = some 5 ∧ slot (fmOf df_law_right_chain) "tuple" = none ∧ glB (fmOf df_law_right_chain).sc "tuple" = true ∧ slot (fmOf df_law_right_chain) "_law_strikes" = none ∧ glB (fmOf df_law_right_chain).sc "_law_strikes" = true ∧ slot (fmOf df_law_right_chain) "_law_right_strikes" = none ∧ glB (fmOf df_law_right_chain).sc "_law_right_strikes" = true ∧ slot (fmOf df_law_right_chain) "strikes" = none ∧ glB (fmOf df_law_right_chain).sc "strikes" = true ∧ slot (fmOf df_law_right_chain) "len" = none ∧ glB (fmOf df_law_right_chain).sc "len" = true ∧ slot (fmOf df_law_right_chain) "isinstance" = none ∧ glB (fmOf df_law_right_chain).sc "isinstance" = true ∧ slot (fmOf df_law_right_chain) "all" = none ∧ glB (fmOf df_law_right_chain).sc "all" = true := by
  refine ⟨?_, ?_, ?_, ?_, ?_, ?_, ?_, ?_, ?_, ?_, ?_, ?_, ?_, ?_, ?_, ?_, ?_, ?_, ?_, ?_, ?_, ?_, ?_, ?_, ?_, ?_⟩
  all_goals first | rfl | trivial
theorem dr_law_right_chain_95 {ρ : Rho} : dropR (df_law_right_chain.drop 95) ρ = dropR [false, false, true, false, true, true, true] ρ := id rfl
theorem nl_law_right_chain : (fmOf df_law_right_chain).N.length = 7 := rfl
theorem nm_law : slot (fmOf df_law) "script" = some 0 ∧ slotL (fmOf df_law) "script" = some 0 ∧ slot (fmOf df_law) "d" = some 1 ∧ slotL (fmOf df_law) "d" = some 1 ∧ slot (fmOf df_law) "sensors" = some 2 ∧ slotL (fmOf df_law) "sensors" = some 2 ∧ slot (fmOf df_law) "faults" = some 3 ∧ slotL (fmOf df_law) "faults" = some 3 ∧ slot (fmOf df_law) "turned" = some 4 ∧ slotL (fmOf df_law) "turned" = some 4 ∧ slot (fmOf df_law) "turn" = some 5 ∧ slotL (fmOf df_law) "turn" = some 5 ∧ slot (fmOf df_law) "struck" = some 6 ∧ slotL (fmOf df_law) "struck" = some 6 ∧ slot (fmOf df_law) "row" = some 7 ∧ slotL (fmOf df_law) "row" = some 7 ∧ slot (fmOf df_law) "told" = some 9 ∧ slotL (fmOf df_law) "told" = some 9 ∧ slot (fmOf df_law) "most" = some 10 ∧ slotL (fmOf df_law) "most" = some 10 ∧ slot (fmOf df_law) "_law_begin" = none ∧ glB (fmOf df_law).sc "_law_begin" = true ∧ slot (fmOf df_law) "_law_sensors" = none ∧ glB (fmOf df_law).sc "_law_sensors" = true ∧ slot (fmOf df_law) "_law_faults" = none ∧ glB (fmOf df_law).sc "_law_faults" = true ∧ slot (fmOf df_law) "tuple" = none ∧ glB (fmOf df_law).sc "tuple" = true ∧ slot (fmOf df_law) "range" = none ∧ glB (fmOf df_law).sc "range" = true ∧ slot (fmOf df_law) "len" = none ∧ glB (fmOf df_law).sc "len" = true ∧ slot (fmOf df_law) "_law_subsets" = none ∧ glB (fmOf df_law).sc "_law_subsets" = true ∧ slot (fmOf df_law) "list" = none ∧ glB (fmOf df_law).sc "list" = true ∧ slot (fmOf df_law) "broken_by" = none ∧ glB (fmOf df_law).sc "broken_by" = true ∧ slot (fmOf df_law) "isinstance" = none ∧ glB (fmOf df_law).sc "isinstance" = true ∧ slot (fmOf df_law) "_law_broken" = none ∧ glB (fmOf df_law).sc "_law_broken" = true ∧ slot (fmOf df_law) "_law_right_chain" = none ∧ glB (fmOf df_law).sc "_law_right_chain" = true := by
  refine ⟨?_, ?_, ?_, ?_, ?_, ?_, ?_, ?_, ?_, ?_, ?_, ?_, ?_, ?_, ?_, ?_, ?_, ?_, ?_, ?_, ?_, ?_, ?_, ?_, ?_, ?_, ?_, ?_, ?_, ?_, ?_, ?_, ?_, ?_, ?_, ?_, ?_, ?_, ?_, ?_, ?_, ?_, ?_, ?_⟩
  all_goals first | rfl | trivial
theorem dr_law_105 {ρ : Rho} : dropR (df_law.drop 105) ρ = dropR [true, true, false, false, false, true, true, true, true, true, true] ρ := id rfl
theorem dr_law_106 {ρ : Rho} : dropR (df_law.drop 106) ρ = dropR [true, true, false, false, false, true, true, true, true, true, true] ρ := id rfl
theorem dr_law_107 {ρ : Rho} : dropR (df_law.drop 107) ρ = dropR [true, true, false, false, false, true, false, true, true, true, true] ρ := id rfl
theorem dr_law_111 {ρ : Rho} : dropR (df_law.drop 111) ρ = dropR [true, true, false, false, false, true, false, false, true, true, true] ρ := id rfl
theorem nl_law : (fmOf df_law).N.length = 11 := rfl
theorem ok_broken : okName "_broken" = true := by decide
theorem cd_broken {n : Nat} : (csAt pg (n + 1)).P "_broken" = some (runP (csAt pg n) df_broken) ∧ (csAt pg (n + 1)).O "_broken" = none ∧ (csAt pg (n + 1)).F "_broken" = none := ⟨rfl, rfl, rfl⟩
theorem fb_broken {n : Nat} {args : List Expr} {p p1 : Pos} : freshB (csAt pg (n + 1)) (.Call (.Name "_broken" p1) args [] p) = false := id rfl
theorem ok_law_begin : okName "_law_begin" = true := by decide
theorem cd_law_begin {n : Nat} : (csAt pg (n + 1)).P "_law_begin" = none ∧ (csAt pg (n + 1)).O "_law_begin" = none ∧ (csAt pg (n + 1)).F "_law_begin" = some (runF (csAt pg n) df_law_begin) := ⟨rfl, rfl, rfl⟩
theorem fb_law_begin {n : Nat} {args : List Expr} {p p1 : Pos} : freshB (csAt pg (n + 1)) (.Call (.Name "_law_begin" p1) args [] p) = true := id rfl
theorem ok_law_broken : okName "_law_broken" = true := by decide
theorem cd_law_broken {n : Nat} : (csAt pg (n + 1)).P "_law_broken" = some (runP (csAt pg n) df_law_broken) ∧ (csAt pg (n + 1)).O "_law_broken" = none ∧ (csAt pg (n + 1)).F "_law_broken" = none := ⟨rfl, rfl, rfl⟩
theorem fb_law_broken {n : Nat} {args : List Expr} {p p1 : Pos} : freshB (csAt pg (n + 1)) (.Call (.Name "_law_broken" p1) args [] p) = false := id rfl
theorem ok_law_draw : okName "_law_draw" = true := by decide
theorem cd_law_draw {n : Nat} : (csAt pg (n + 1)).P "_law_draw" = none ∧ (csAt pg (n + 1)).O "_law_draw" = some (runO (csAt pg n) df_law_draw) ∧ (csAt pg (n + 1)).F "_law_draw" = none := ⟨rfl, rfl, rfl⟩
theorem fb_law_draw {n : Nat} {args : List Expr} {p p1 : Pos} : freshB (csAt pg (n + 1)) (.Call (.Name "_law_draw" p1) args [] p) = false := id rfl
theorem ok_law_faults : okName "_law_faults" = true := by decide
theorem cd_law_faults {n : Nat} : (csAt pg (n + 1)).P "_law_faults" = none ∧ (csAt pg (n + 1)).O "_law_faults" = some (runO (csAt pg n) df_law_faults) ∧ (csAt pg (n + 1)).F "_law_faults" = none := ⟨rfl, rfl, rfl⟩
theorem fb_law_faults {n : Nat} {args : List Expr} {p p1 : Pos} : freshB (csAt pg (n + 1)) (.Call (.Name "_law_faults" p1) args [] p) = false := id rfl
theorem ok_law_inside : okName "_law_inside" = true := by decide
theorem cd_law_inside {n : Nat} : (csAt pg (n + 1)).P "_law_inside" = some (runP (csAt pg n) df_law_inside) ∧ (csAt pg (n + 1)).O "_law_inside" = none ∧ (csAt pg (n + 1)).F "_law_inside" = none := ⟨rfl, rfl, rfl⟩
theorem fb_law_inside {n : Nat} {args : List Expr} {p p1 : Pos} : freshB (csAt pg (n + 1)) (.Call (.Name "_law_inside" p1) args [] p) = false := id rfl
theorem ok_law_is_int : okName "_law_is_int" = true := by decide
theorem cd_law_is_int {n : Nat} : (csAt pg (n + 1)).P "_law_is_int" = some (runP (csAt pg n) df_law_is_int) ∧ (csAt pg (n + 1)).O "_law_is_int" = none ∧ (csAt pg (n + 1)).F "_law_is_int" = none := ⟨rfl, rfl, rfl⟩
theorem fb_law_is_int {n : Nat} {args : List Expr} {p p1 : Pos} : freshB (csAt pg (n + 1)) (.Call (.Name "_law_is_int" p1) args [] p) = false := id rfl
theorem ok_law_is_ints : okName "_law_is_ints" = true := by decide
theorem cd_law_is_ints {n : Nat} : (csAt pg (n + 1)).P "_law_is_ints" = some (runP (csAt pg n) df_law_is_ints) ∧ (csAt pg (n + 1)).O "_law_is_ints" = none ∧ (csAt pg (n + 1)).F "_law_is_ints" = none := ⟨rfl, rfl, rfl⟩
theorem fb_law_is_ints {n : Nat} {args : List Expr} {p p1 : Pos} : freshB (csAt pg (n + 1)) (.Call (.Name "_law_is_ints" p1) args [] p) = false := id rfl
theorem ok_law_is_set : okName "_law_is_set" = true := by decide
theorem cd_law_is_set {n : Nat} : (csAt pg (n + 1)).P "_law_is_set" = some (runP (csAt pg n) df_law_is_set) ∧ (csAt pg (n + 1)).O "_law_is_set" = none ∧ (csAt pg (n + 1)).F "_law_is_set" = none := ⟨rfl, rfl, rfl⟩
theorem fb_law_is_set {n : Nat} {args : List Expr} {p p1 : Pos} : freshB (csAt pg (n + 1)) (.Call (.Name "_law_is_set" p1) args [] p) = false := id rfl
theorem ok_law_pick : okName "_law_pick" = true := by decide
theorem cd_law_pick {n : Nat} : (csAt pg (n + 1)).P "_law_pick" = none ∧ (csAt pg (n + 1)).O "_law_pick" = some (runO (csAt pg n) df_law_pick) ∧ (csAt pg (n + 1)).F "_law_pick" = none := ⟨rfl, rfl, rfl⟩
theorem fb_law_pick {n : Nat} {args : List Expr} {p p1 : Pos} : freshB (csAt pg (n + 1)) (.Call (.Name "_law_pick" p1) args [] p) = false := id rfl
theorem ok_law_right_chain : okName "_law_right_chain" = true := by decide
theorem cd_law_right_chain {n : Nat} : (csAt pg (n + 1)).P "_law_right_chain" = some (runP (csAt pg n) df_law_right_chain) ∧ (csAt pg (n + 1)).O "_law_right_chain" = none ∧ (csAt pg (n + 1)).F "_law_right_chain" = none := ⟨rfl, rfl, rfl⟩
theorem fb_law_right_chain {n : Nat} {args : List Expr} {p p1 : Pos} : freshB (csAt pg (n + 1)) (.Call (.Name "_law_right_chain" p1) args [] p) = false := id rfl
theorem ok_law_right_strikes : okName "_law_right_strikes" = true := by decide
theorem cd_law_right_strikes {n : Nat} : (csAt pg (n + 1)).P "_law_right_strikes" = some (runP (csAt pg n) df_law_right_strikes) ∧ (csAt pg (n + 1)).O "_law_right_strikes" = none ∧ (csAt pg (n + 1)).F "_law_right_strikes" = none := ⟨rfl, rfl, rfl⟩
theorem fb_law_right_strikes {n : Nat} {args : List Expr} {p p1 : Pos} : freshB (csAt pg (n + 1)) (.Call (.Name "_law_right_strikes" p1) args [] p) = false := id rfl
theorem ok_law_sensors : okName "_law_sensors" = true := by decide
theorem cd_law_sensors {n : Nat} : (csAt pg (n + 1)).P "_law_sensors" = none ∧ (csAt pg (n + 1)).O "_law_sensors" = some (runO (csAt pg n) df_law_sensors) ∧ (csAt pg (n + 1)).F "_law_sensors" = none := ⟨rfl, rfl, rfl⟩
theorem fb_law_sensors {n : Nat} {args : List Expr} {p p1 : Pos} : freshB (csAt pg (n + 1)) (.Call (.Name "_law_sensors" p1) args [] p) = false := id rfl
theorem ok_law_strikes : okName "_law_strikes" = true := by decide
theorem cd_law_strikes {n : Nat} : (csAt pg (n + 1)).P "_law_strikes" = some (runP (csAt pg n) df_law_strikes) ∧ (csAt pg (n + 1)).O "_law_strikes" = none ∧ (csAt pg (n + 1)).F "_law_strikes" = none := ⟨rfl, rfl, rfl⟩
theorem fb_law_strikes {n : Nat} {args : List Expr} {p p1 : Pos} : freshB (csAt pg (n + 1)) (.Call (.Name "_law_strikes" p1) args [] p) = false := id rfl
theorem ok_law_subsets : okName "_law_subsets" = true := by decide
theorem cd_law_subsets {n : Nat} : (csAt pg (n + 1)).P "_law_subsets" = some (runP (csAt pg n) df_law_subsets) ∧ (csAt pg (n + 1)).O "_law_subsets" = none ∧ (csAt pg (n + 1)).F "_law_subsets" = none := ⟨rfl, rfl, rfl⟩
theorem fb_law_subsets {n : Nat} {args : List Expr} {p p1 : Pos} : freshB (csAt pg (n + 1)) (.Call (.Name "_law_subsets" p1) args [] p) = false := id rfl
theorem ok_law_trail : okName "_law_trail" = true := by decide
theorem cd_law_trail {n : Nat} : (csAt pg (n + 1)).P "_law_trail" = none ∧ (csAt pg (n + 1)).O "_law_trail" = some (runO (csAt pg n) df_law_trail) ∧ (csAt pg (n + 1)).F "_law_trail" = none := ⟨rfl, rfl, rfl⟩
theorem fb_law_trail {n : Nat} {args : List Expr} {p p1 : Pos} : freshB (csAt pg (n + 1)) (.Call (.Name "_law_trail" p1) args [] p) = false := id rfl
theorem ok_abs : okName "abs" = true := by decide
theorem cd_abs {n : Nat} : (csAt pg n).P "abs" = none ∧ (csAt pg n).O "abs" = none ∧ (csAt pg n).F "abs" = none ∧ (csAt pg n).B "abs" = true := by cases n <;> exact ⟨rfl, rfl, rfl, rfl⟩
theorem fb_abs {n : Nat} {args : List Expr} {p p1 : Pos} : freshB (csAt pg n) (.Call (.Name "abs" p1) args [] p) = false := by cases n <;> rfl
theorem ok_all : okName "all" = true := by decide
theorem cd_all {n : Nat} : (csAt pg n).P "all" = none ∧ (csAt pg n).O "all" = none ∧ (csAt pg n).F "all" = none ∧ (csAt pg n).B "all" = true := by cases n <;> exact ⟨rfl, rfl, rfl, rfl⟩
theorem fb_all {n : Nat} {args : List Expr} {p p1 : Pos} : freshB (csAt pg n) (.Call (.Name "all" p1) args [] p) = false := by cases n <;> rfl
theorem ok_bool : okName "bool" = true := by decide
theorem cd_bool {n : Nat} : (csAt pg n).P "bool" = none ∧ (csAt pg n).O "bool" = none ∧ (csAt pg n).F "bool" = none ∧ (csAt pg n).B "bool" = true := by cases n <;> exact ⟨rfl, rfl, rfl, rfl⟩
theorem fb_bool {n : Nat} {args : List Expr} {p p1 : Pos} : freshB (csAt pg n) (.Call (.Name "bool" p1) args [] p) = false := by cases n <;> rfl
theorem ok_broken_by : okName "broken_by" = true := by decide
theorem cd_broken_by {n : Nat} : (csAt pg (n + 1)).P "broken_by" = some (runP (csAt pg n) df_broken_by) ∧ (csAt pg (n + 1)).O "broken_by" = none ∧ (csAt pg (n + 1)).F "broken_by" = none := ⟨rfl, rfl, rfl⟩
theorem fb_broken_by {n : Nat} {args : List Expr} {p p1 : Pos} : freshB (csAt pg (n + 1)) (.Call (.Name "broken_by" p1) args [] p) = false := id rfl
theorem ok_inside : okName "inside" = true := by decide
theorem cd_inside {n : Nat} : (csAt pg (n + 1)).P "inside" = some (runP (csAt pg n) df_inside) ∧ (csAt pg (n + 1)).O "inside" = none ∧ (csAt pg (n + 1)).F "inside" = none := ⟨rfl, rfl, rfl⟩
theorem fb_inside {n : Nat} {args : List Expr} {p p1 : Pos} : freshB (csAt pg (n + 1)) (.Call (.Name "inside" p1) args [] p) = false := id rfl
theorem ok_int : okName "int" = true := by decide
theorem cd_int {n : Nat} : (csAt pg n).P "int" = none ∧ (csAt pg n).O "int" = none ∧ (csAt pg n).F "int" = none ∧ (csAt pg n).B "int" = true := by cases n <;> exact ⟨rfl, rfl, rfl, rfl⟩
theorem fb_int {n : Nat} {args : List Expr} {p p1 : Pos} : freshB (csAt pg n) (.Call (.Name "int" p1) args [] p) = false := by cases n <;> rfl
theorem ok_isinstance : okName "isinstance" = true := by decide
theorem cd_isinstance {n : Nat} : (csAt pg n).P "isinstance" = none ∧ (csAt pg n).O "isinstance" = none ∧ (csAt pg n).F "isinstance" = none ∧ (csAt pg n).B "isinstance" = true := by cases n <;> exact ⟨rfl, rfl, rfl, rfl⟩
theorem fb_isinstance {n : Nat} {args : List Expr} {p p1 : Pos} : freshB (csAt pg n) (.Call (.Name "isinstance" p1) args [] p) = false := by cases n <;> rfl
theorem ok_len : okName "len" = true := by decide
theorem cd_len {n : Nat} : (csAt pg n).P "len" = none ∧ (csAt pg n).O "len" = none ∧ (csAt pg n).F "len" = none ∧ (csAt pg n).B "len" = true := by cases n <;> exact ⟨rfl, rfl, rfl, rfl⟩
theorem fb_len {n : Nat} {args : List Expr} {p p1 : Pos} : freshB (csAt pg n) (.Call (.Name "len" p1) args [] p) = false := by cases n <;> rfl
theorem ok_list : okName "list" = true := by decide
theorem cd_list {n : Nat} : (csAt pg n).P "list" = none ∧ (csAt pg n).O "list" = none ∧ (csAt pg n).F "list" = none ∧ (csAt pg n).B "list" = true := by cases n <;> exact ⟨rfl, rfl, rfl, rfl⟩
theorem fb_list {n : Nat} {args : List Expr} {p p1 : Pos} : freshB (csAt pg n) (.Call (.Name "list" p1) args [] p) = true := by cases n <;> rfl
theorem ok_range : okName "range" = true := by decide
theorem cd_range {n : Nat} : (csAt pg n).P "range" = none ∧ (csAt pg n).O "range" = none ∧ (csAt pg n).F "range" = none ∧ (csAt pg n).B "range" = true := by cases n <;> exact ⟨rfl, rfl, rfl, rfl⟩
theorem fb_range {n : Nat} {args : List Expr} {p p1 : Pos} : freshB (csAt pg n) (.Call (.Name "range" p1) args [] p) = false := by cases n <;> rfl
theorem ok_set : okName "set" = true := by decide
theorem cd_set {n : Nat} : (csAt pg n).P "set" = none ∧ (csAt pg n).O "set" = none ∧ (csAt pg n).F "set" = none ∧ (csAt pg n).B "set" = true := by cases n <;> exact ⟨rfl, rfl, rfl, rfl⟩
theorem fb_set {n : Nat} {args : List Expr} {p p1 : Pos} : freshB (csAt pg n) (.Call (.Name "set" p1) args [] p) = false := by cases n <;> rfl
theorem ok_sorted : okName "sorted" = true := by decide
theorem cd_sorted {n : Nat} : (csAt pg n).P "sorted" = none ∧ (csAt pg n).O "sorted" = none ∧ (csAt pg n).F "sorted" = none ∧ (csAt pg n).B "sorted" = true := by cases n <;> exact ⟨rfl, rfl, rfl, rfl⟩
theorem fb_sorted {n : Nat} {args : List Expr} {p p1 : Pos} : freshB (csAt pg n) (.Call (.Name "sorted" p1) args [] p) = true := by cases n <;> rfl
theorem ok_strikes : okName "strikes" = true := by decide
theorem cd_strikes {n : Nat} : (csAt pg (n + 1)).P "strikes" = some (runP (csAt pg n) df_strikes) ∧ (csAt pg (n + 1)).O "strikes" = none ∧ (csAt pg (n + 1)).F "strikes" = none := ⟨rfl, rfl, rfl⟩
theorem fb_strikes {n : Nat} {args : List Expr} {p p1 : Pos} : freshB (csAt pg (n + 1)) (.Call (.Name "strikes" p1) args [] p) = false := id rfl
theorem ok_subsets_of : okName "subsets_of" = true := by decide
theorem cd_subsets_of {n : Nat} : (csAt pg (n + 1)).P "subsets_of" = some (runP (csAt pg n) df_subsets_of) ∧ (csAt pg (n + 1)).O "subsets_of" = none ∧ (csAt pg (n + 1)).F "subsets_of" = none := ⟨rfl, rfl, rfl⟩
theorem fb_subsets_of {n : Nat} {args : List Expr} {p p1 : Pos} : freshB (csAt pg (n + 1)) (.Call (.Name "subsets_of" p1) args [] p) = false := id rfl
theorem ok_tuple : okName "tuple" = true := by decide
theorem cd_tuple {n : Nat} : (csAt pg n).P "tuple" = none ∧ (csAt pg n).O "tuple" = none ∧ (csAt pg n).F "tuple" = none ∧ (csAt pg n).B "tuple" = true := by cases n <;> exact ⟨rfl, rfl, rfl, rfl⟩
theorem fb_tuple {n : Nat} {args : List Expr} {p p1 : Pos} : freshB (csAt pg n) (.Call (.Name "tuple" p1) args [] p) = false := by cases n <;> rfl
theorem sq_broken_len : (Str.ofString "_broken" = Str.ofString "len") = False := eq_false (by decide +kernel)
theorem sq_broken_list : (Str.ofString "_broken" = Str.ofString "list") = False := eq_false (by decide +kernel)
theorem sq_broken_sorted : (Str.ofString "_broken" = Str.ofString "sorted") = False := eq_false (by decide +kernel)
theorem sq_broken_range : (Str.ofString "_broken" = Str.ofString "range") = False := eq_false (by decide +kernel)
theorem sq_broken_enumerate : (Str.ofString "_broken" = Str.ofString "enumerate") = False := eq_false (by decide +kernel)
theorem sq_broken_zip : (Str.ofString "_broken" = Str.ofString "zip") = False := eq_false (by decide +kernel)
theorem sq_broken_tuple : (Str.ofString "_broken" = Str.ofString "tuple") = False := eq_false (by decide +kernel)
theorem sq_broken_isinstance : (Str.ofString "_broken" = Str.ofString "isinstance") = False := eq_false (by decide +kernel)
theorem sq_broken_int : (Str.ofString "_broken" = Str.ofString "int") = False := eq_false (by decide +kernel)
theorem sq_broken_set : (Str.ofString "_broken" = Str.ofString "set") = False := eq_false (by decide +kernel)
theorem sq_broken_dict : (Str.ofString "_broken" = Str.ofString "dict") = False := eq_false (by decide +kernel)
theorem sq_broken_any : (Str.ofString "_broken" = Str.ofString "any") = False := eq_false (by decide +kernel)
theorem sq_broken_all : (Str.ofString "_broken" = Str.ofString "all") = False := eq_false (by decide +kernel)
theorem sq_law_begin_len : (Str.ofString "_law_begin" = Str.ofString "len") = False := eq_false (by decide +kernel)
theorem sq_law_begin_list : (Str.ofString "_law_begin" = Str.ofString "list") = False := eq_false (by decide +kernel)
theorem sq_law_begin_sorted : (Str.ofString "_law_begin" = Str.ofString "sorted") = False := eq_false (by decide +kernel)
theorem sq_law_begin_range : (Str.ofString "_law_begin" = Str.ofString "range") = False := eq_false (by decide +kernel)
theorem sq_law_begin_enumerate : (Str.ofString "_law_begin" = Str.ofString "enumerate") = False := eq_false (by decide +kernel)
theorem sq_law_begin_zip : (Str.ofString "_law_begin" = Str.ofString "zip") = False := eq_false (by decide +kernel)
theorem sq_law_begin_tuple : (Str.ofString "_law_begin" = Str.ofString "tuple") = False := eq_false (by decide +kernel)
theorem sq_law_begin_isinstance : (Str.ofString "_law_begin" = Str.ofString "isinstance") = False := eq_false (by decide +kernel)
theorem sq_law_begin_int : (Str.ofString "_law_begin" = Str.ofString "int") = False := eq_false (by decide +kernel)
theorem sq_law_begin_set : (Str.ofString "_law_begin" = Str.ofString "set") = False := eq_false (by decide +kernel)
theorem sq_law_begin_dict : (Str.ofString "_law_begin" = Str.ofString "dict") = False := eq_false (by decide +kernel)
theorem sq_law_begin_any : (Str.ofString "_law_begin" = Str.ofString "any") = False := eq_false (by decide +kernel)
theorem sq_law_begin_all : (Str.ofString "_law_begin" = Str.ofString "all") = False := eq_false (by decide +kernel)
theorem sq_law_broken_len : (Str.ofString "_law_broken" = Str.ofString "len") = False := eq_false (by decide +kernel)
theorem sq_law_broken_list : (Str.ofString "_law_broken" = Str.ofString "list") = False := eq_false (by decide +kernel)
theorem sq_law_broken_sorted : (Str.ofString "_law_broken" = Str.ofString "sorted") = False := eq_false (by decide +kernel)
theorem sq_law_broken_range : (Str.ofString "_law_broken" = Str.ofString "range") = False := eq_false (by decide +kernel)
theorem sq_law_broken_enumerate : (Str.ofString "_law_broken" = Str.ofString "enumerate") = False := eq_false (by decide +kernel)
theorem sq_law_broken_zip : (Str.ofString "_law_broken" = Str.ofString "zip") = False := eq_false (by decide +kernel)
theorem sq_law_broken_tuple : (Str.ofString "_law_broken" = Str.ofString "tuple") = False := eq_false (by decide +kernel)
theorem sq_law_broken_isinstance : (Str.ofString "_law_broken" = Str.ofString "isinstance") = False := eq_false (by decide +kernel)
theorem sq_law_broken_int : (Str.ofString "_law_broken" = Str.ofString "int") = False := eq_false (by decide +kernel)
theorem sq_law_broken_set : (Str.ofString "_law_broken" = Str.ofString "set") = False := eq_false (by decide +kernel)
theorem sq_law_broken_dict : (Str.ofString "_law_broken" = Str.ofString "dict") = False := eq_false (by decide +kernel)
theorem sq_law_broken_any : (Str.ofString "_law_broken" = Str.ofString "any") = False := eq_false (by decide +kernel)
theorem sq_law_broken_all : (Str.ofString "_law_broken" = Str.ofString "all") = False := eq_false (by decide +kernel)
theorem sq_law_draw_len : (Str.ofString "_law_draw" = Str.ofString "len") = False := eq_false (by decide +kernel)
theorem sq_law_draw_list : (Str.ofString "_law_draw" = Str.ofString "list") = False := eq_false (by decide +kernel)
theorem sq_law_draw_sorted : (Str.ofString "_law_draw" = Str.ofString "sorted") = False := eq_false (by decide +kernel)
theorem sq_law_draw_range : (Str.ofString "_law_draw" = Str.ofString "range") = False := eq_false (by decide +kernel)
theorem sq_law_draw_enumerate : (Str.ofString "_law_draw" = Str.ofString "enumerate") = False := eq_false (by decide +kernel)
theorem sq_law_draw_zip : (Str.ofString "_law_draw" = Str.ofString "zip") = False := eq_false (by decide +kernel)
theorem sq_law_draw_tuple : (Str.ofString "_law_draw" = Str.ofString "tuple") = False := eq_false (by decide +kernel)
theorem sq_law_draw_isinstance : (Str.ofString "_law_draw" = Str.ofString "isinstance") = False := eq_false (by decide +kernel)
theorem sq_law_draw_int : (Str.ofString "_law_draw" = Str.ofString "int") = False := eq_false (by decide +kernel)
theorem sq_law_draw_set : (Str.ofString "_law_draw" = Str.ofString "set") = False := eq_false (by decide +kernel)
theorem sq_law_draw_dict : (Str.ofString "_law_draw" = Str.ofString "dict") = False := eq_false (by decide +kernel)
theorem sq_law_draw_any : (Str.ofString "_law_draw" = Str.ofString "any") = False := eq_false (by decide +kernel)
theorem sq_law_draw_all : (Str.ofString "_law_draw" = Str.ofString "all") = False := eq_false (by decide +kernel)
theorem sq_law_faults_len : (Str.ofString "_law_faults" = Str.ofString "len") = False := eq_false (by decide +kernel)
theorem sq_law_faults_list : (Str.ofString "_law_faults" = Str.ofString "list") = False := eq_false (by decide +kernel)
theorem sq_law_faults_sorted : (Str.ofString "_law_faults" = Str.ofString "sorted") = False := eq_false (by decide +kernel)
theorem sq_law_faults_range : (Str.ofString "_law_faults" = Str.ofString "range") = False := eq_false (by decide +kernel)
theorem sq_law_faults_enumerate : (Str.ofString "_law_faults" = Str.ofString "enumerate") = False := eq_false (by decide +kernel)
theorem sq_law_faults_zip : (Str.ofString "_law_faults" = Str.ofString "zip") = False := eq_false (by decide +kernel)
theorem sq_law_faults_tuple : (Str.ofString "_law_faults" = Str.ofString "tuple") = False := eq_false (by decide +kernel)
theorem sq_law_faults_isinstance : (Str.ofString "_law_faults" = Str.ofString "isinstance") = False := eq_false (by decide +kernel)
theorem sq_law_faults_int : (Str.ofString "_law_faults" = Str.ofString "int") = False := eq_false (by decide +kernel)
theorem sq_law_faults_set : (Str.ofString "_law_faults" = Str.ofString "set") = False := eq_false (by decide +kernel)
theorem sq_law_faults_dict : (Str.ofString "_law_faults" = Str.ofString "dict") = False := eq_false (by decide +kernel)
theorem sq_law_faults_any : (Str.ofString "_law_faults" = Str.ofString "any") = False := eq_false (by decide +kernel)
theorem sq_law_faults_all : (Str.ofString "_law_faults" = Str.ofString "all") = False := eq_false (by decide +kernel)
theorem sq_law_inside_len : (Str.ofString "_law_inside" = Str.ofString "len") = False := eq_false (by decide +kernel)
theorem sq_law_inside_list : (Str.ofString "_law_inside" = Str.ofString "list") = False := eq_false (by decide +kernel)
theorem sq_law_inside_sorted : (Str.ofString "_law_inside" = Str.ofString "sorted") = False := eq_false (by decide +kernel)
theorem sq_law_inside_range : (Str.ofString "_law_inside" = Str.ofString "range") = False := eq_false (by decide +kernel)
theorem sq_law_inside_enumerate : (Str.ofString "_law_inside" = Str.ofString "enumerate") = False := eq_false (by decide +kernel)
theorem sq_law_inside_zip : (Str.ofString "_law_inside" = Str.ofString "zip") = False := eq_false (by decide +kernel)
theorem sq_law_inside_tuple : (Str.ofString "_law_inside" = Str.ofString "tuple") = False := eq_false (by decide +kernel)
theorem sq_law_inside_isinstance : (Str.ofString "_law_inside" = Str.ofString "isinstance") = False := eq_false (by decide +kernel)
theorem sq_law_inside_int : (Str.ofString "_law_inside" = Str.ofString "int") = False := eq_false (by decide +kernel)
theorem sq_law_inside_set : (Str.ofString "_law_inside" = Str.ofString "set") = False := eq_false (by decide +kernel)
theorem sq_law_inside_dict : (Str.ofString "_law_inside" = Str.ofString "dict") = False := eq_false (by decide +kernel)
theorem sq_law_inside_any : (Str.ofString "_law_inside" = Str.ofString "any") = False := eq_false (by decide +kernel)
theorem sq_law_inside_all : (Str.ofString "_law_inside" = Str.ofString "all") = False := eq_false (by decide +kernel)
theorem sq_law_is_int_len : (Str.ofString "_law_is_int" = Str.ofString "len") = False := eq_false (by decide +kernel)
theorem sq_law_is_int_list : (Str.ofString "_law_is_int" = Str.ofString "list") = False := eq_false (by decide +kernel)
theorem sq_law_is_int_sorted : (Str.ofString "_law_is_int" = Str.ofString "sorted") = False := eq_false (by decide +kernel)
theorem sq_law_is_int_range : (Str.ofString "_law_is_int" = Str.ofString "range") = False := eq_false (by decide +kernel)
theorem sq_law_is_int_enumerate : (Str.ofString "_law_is_int" = Str.ofString "enumerate") = False := eq_false (by decide +kernel)
theorem sq_law_is_int_zip : (Str.ofString "_law_is_int" = Str.ofString "zip") = False := eq_false (by decide +kernel)
theorem sq_law_is_int_tuple : (Str.ofString "_law_is_int" = Str.ofString "tuple") = False := eq_false (by decide +kernel)
theorem sq_law_is_int_isinstance : (Str.ofString "_law_is_int" = Str.ofString "isinstance") = False := eq_false (by decide +kernel)
theorem sq_law_is_int_int : (Str.ofString "_law_is_int" = Str.ofString "int") = False := eq_false (by decide +kernel)
theorem sq_law_is_int_set : (Str.ofString "_law_is_int" = Str.ofString "set") = False := eq_false (by decide +kernel)
theorem sq_law_is_int_dict : (Str.ofString "_law_is_int" = Str.ofString "dict") = False := eq_false (by decide +kernel)
theorem sq_law_is_int_any : (Str.ofString "_law_is_int" = Str.ofString "any") = False := eq_false (by decide +kernel)
theorem sq_law_is_int_all : (Str.ofString "_law_is_int" = Str.ofString "all") = False := eq_false (by decide +kernel)
theorem sq_law_is_ints_len : (Str.ofString "_law_is_ints" = Str.ofString "len") = False := eq_false (by decide +kernel)
theorem sq_law_is_ints_list : (Str.ofString "_law_is_ints" = Str.ofString "list") = False := eq_false (by decide +kernel)
theorem sq_law_is_ints_sorted : (Str.ofString "_law_is_ints" = Str.ofString "sorted") = False := eq_false (by decide +kernel)
theorem sq_law_is_ints_range : (Str.ofString "_law_is_ints" = Str.ofString "range") = False := eq_false (by decide +kernel)
theorem sq_law_is_ints_enumerate : (Str.ofString "_law_is_ints" = Str.ofString "enumerate") = False := eq_false (by decide +kernel)
theorem sq_law_is_ints_zip : (Str.ofString "_law_is_ints" = Str.ofString "zip") = False := eq_false (by decide +kernel)
theorem sq_law_is_ints_tuple : (Str.ofString "_law_is_ints" = Str.ofString "tuple") = False := eq_false (by decide +kernel)
theorem sq_law_is_ints_isinstance : (Str.ofString "_law_is_ints" = Str.ofString "isinstance") = False := eq_false (by decide +kernel)
theorem sq_law_is_ints_int : (Str.ofString "_law_is_ints" = Str.ofString "int") = False := eq_false (by decide +kernel)
theorem sq_law_is_ints_set : (Str.ofString "_law_is_ints" = Str.ofString "set") = False := eq_false (by decide +kernel)
theorem sq_law_is_ints_dict : (Str.ofString "_law_is_ints" = Str.ofString "dict") = False := eq_false (by decide +kernel)
theorem sq_law_is_ints_any : (Str.ofString "_law_is_ints" = Str.ofString "any") = False := eq_false (by decide +kernel)
theorem sq_law_is_ints_all : (Str.ofString "_law_is_ints" = Str.ofString "all") = False := eq_false (by decide +kernel)
theorem sq_law_is_set_len : (Str.ofString "_law_is_set" = Str.ofString "len") = False := eq_false (by decide +kernel)
theorem sq_law_is_set_list : (Str.ofString "_law_is_set" = Str.ofString "list") = False := eq_false (by decide +kernel)
theorem sq_law_is_set_sorted : (Str.ofString "_law_is_set" = Str.ofString "sorted") = False := eq_false (by decide +kernel)
theorem sq_law_is_set_range : (Str.ofString "_law_is_set" = Str.ofString "range") = False := eq_false (by decide +kernel)
theorem sq_law_is_set_enumerate : (Str.ofString "_law_is_set" = Str.ofString "enumerate") = False := eq_false (by decide +kernel)
theorem sq_law_is_set_zip : (Str.ofString "_law_is_set" = Str.ofString "zip") = False := eq_false (by decide +kernel)
theorem sq_law_is_set_tuple : (Str.ofString "_law_is_set" = Str.ofString "tuple") = False := eq_false (by decide +kernel)
theorem sq_law_is_set_isinstance : (Str.ofString "_law_is_set" = Str.ofString "isinstance") = False := eq_false (by decide +kernel)
theorem sq_law_is_set_int : (Str.ofString "_law_is_set" = Str.ofString "int") = False := eq_false (by decide +kernel)
theorem sq_law_is_set_set : (Str.ofString "_law_is_set" = Str.ofString "set") = False := eq_false (by decide +kernel)
theorem sq_law_is_set_dict : (Str.ofString "_law_is_set" = Str.ofString "dict") = False := eq_false (by decide +kernel)
theorem sq_law_is_set_any : (Str.ofString "_law_is_set" = Str.ofString "any") = False := eq_false (by decide +kernel)
theorem sq_law_is_set_all : (Str.ofString "_law_is_set" = Str.ofString "all") = False := eq_false (by decide +kernel)
theorem sq_law_pick_len : (Str.ofString "_law_pick" = Str.ofString "len") = False := eq_false (by decide +kernel)
theorem sq_law_pick_list : (Str.ofString "_law_pick" = Str.ofString "list") = False := eq_false (by decide +kernel)
theorem sq_law_pick_sorted : (Str.ofString "_law_pick" = Str.ofString "sorted") = False := eq_false (by decide +kernel)
theorem sq_law_pick_range : (Str.ofString "_law_pick" = Str.ofString "range") = False := eq_false (by decide +kernel)
theorem sq_law_pick_enumerate : (Str.ofString "_law_pick" = Str.ofString "enumerate") = False := eq_false (by decide +kernel)
theorem sq_law_pick_zip : (Str.ofString "_law_pick" = Str.ofString "zip") = False := eq_false (by decide +kernel)
theorem sq_law_pick_tuple : (Str.ofString "_law_pick" = Str.ofString "tuple") = False := eq_false (by decide +kernel)
theorem sq_law_pick_isinstance : (Str.ofString "_law_pick" = Str.ofString "isinstance") = False := eq_false (by decide +kernel)
theorem sq_law_pick_int : (Str.ofString "_law_pick" = Str.ofString "int") = False := eq_false (by decide +kernel)
theorem sq_law_pick_set : (Str.ofString "_law_pick" = Str.ofString "set") = False := eq_false (by decide +kernel)
theorem sq_law_pick_dict : (Str.ofString "_law_pick" = Str.ofString "dict") = False := eq_false (by decide +kernel)
theorem sq_law_pick_any : (Str.ofString "_law_pick" = Str.ofString "any") = False := eq_false (by decide +kernel)
theorem sq_law_pick_all : (Str.ofString "_law_pick" = Str.ofString "all") = False := eq_false (by decide +kernel)
theorem sq_law_right_chain_len : (Str.ofString "_law_right_chain" = Str.ofString "len") = False := eq_false (by decide +kernel)
theorem sq_law_right_chain_list : (Str.ofString "_law_right_chain" = Str.ofString "list") = False := eq_false (by decide +kernel)
theorem sq_law_right_chain_sorted : (Str.ofString "_law_right_chain" = Str.ofString "sorted") = False := eq_false (by decide +kernel)
theorem sq_law_right_chain_range : (Str.ofString "_law_right_chain" = Str.ofString "range") = False := eq_false (by decide +kernel)
theorem sq_law_right_chain_enumerate : (Str.ofString "_law_right_chain" = Str.ofString "enumerate") = False := eq_false (by decide +kernel)
theorem sq_law_right_chain_zip : (Str.ofString "_law_right_chain" = Str.ofString "zip") = False := eq_false (by decide +kernel)
theorem sq_law_right_chain_tuple : (Str.ofString "_law_right_chain" = Str.ofString "tuple") = False := eq_false (by decide +kernel)
theorem sq_law_right_chain_isinstance : (Str.ofString "_law_right_chain" = Str.ofString "isinstance") = False := eq_false (by decide +kernel)
theorem sq_law_right_chain_int : (Str.ofString "_law_right_chain" = Str.ofString "int") = False := eq_false (by decide +kernel)
theorem sq_law_right_chain_set : (Str.ofString "_law_right_chain" = Str.ofString "set") = False := eq_false (by decide +kernel)
theorem sq_law_right_chain_dict : (Str.ofString "_law_right_chain" = Str.ofString "dict") = False := eq_false (by decide +kernel)
theorem sq_law_right_chain_any : (Str.ofString "_law_right_chain" = Str.ofString "any") = False := eq_false (by decide +kernel)
theorem sq_law_right_chain_all : (Str.ofString "_law_right_chain" = Str.ofString "all") = False := eq_false (by decide +kernel)
theorem sq_law_right_strikes_len : (Str.ofString "_law_right_strikes" = Str.ofString "len") = False := eq_false (by decide +kernel)
theorem sq_law_right_strikes_list : (Str.ofString "_law_right_strikes" = Str.ofString "list") = False := eq_false (by decide +kernel)
theorem sq_law_right_strikes_sorted : (Str.ofString "_law_right_strikes" = Str.ofString "sorted") = False := eq_false (by decide +kernel)
theorem sq_law_right_strikes_range : (Str.ofString "_law_right_strikes" = Str.ofString "range") = False := eq_false (by decide +kernel)
theorem sq_law_right_strikes_enumerate : (Str.ofString "_law_right_strikes" = Str.ofString "enumerate") = False := eq_false (by decide +kernel)
theorem sq_law_right_strikes_zip : (Str.ofString "_law_right_strikes" = Str.ofString "zip") = False := eq_false (by decide +kernel)
theorem sq_law_right_strikes_tuple : (Str.ofString "_law_right_strikes" = Str.ofString "tuple") = False := eq_false (by decide +kernel)
theorem sq_law_right_strikes_isinstance : (Str.ofString "_law_right_strikes" = Str.ofString "isinstance") = False := eq_false (by decide +kernel)
theorem sq_law_right_strikes_int : (Str.ofString "_law_right_strikes" = Str.ofString "int") = False := eq_false (by decide +kernel)
theorem sq_law_right_strikes_set : (Str.ofString "_law_right_strikes" = Str.ofString "set") = False := eq_false (by decide +kernel)
theorem sq_law_right_strikes_dict : (Str.ofString "_law_right_strikes" = Str.ofString "dict") = False := eq_false (by decide +kernel)
theorem sq_law_right_strikes_any : (Str.ofString "_law_right_strikes" = Str.ofString "any") = False := eq_false (by decide +kernel)
theorem sq_law_right_strikes_all : (Str.ofString "_law_right_strikes" = Str.ofString "all") = False := eq_false (by decide +kernel)
theorem sq_law_sensors_len : (Str.ofString "_law_sensors" = Str.ofString "len") = False := eq_false (by decide +kernel)
theorem sq_law_sensors_list : (Str.ofString "_law_sensors" = Str.ofString "list") = False := eq_false (by decide +kernel)
theorem sq_law_sensors_sorted : (Str.ofString "_law_sensors" = Str.ofString "sorted") = False := eq_false (by decide +kernel)
theorem sq_law_sensors_range : (Str.ofString "_law_sensors" = Str.ofString "range") = False := eq_false (by decide +kernel)
theorem sq_law_sensors_enumerate : (Str.ofString "_law_sensors" = Str.ofString "enumerate") = False := eq_false (by decide +kernel)
theorem sq_law_sensors_zip : (Str.ofString "_law_sensors" = Str.ofString "zip") = False := eq_false (by decide +kernel)
theorem sq_law_sensors_tuple : (Str.ofString "_law_sensors" = Str.ofString "tuple") = False := eq_false (by decide +kernel)
theorem sq_law_sensors_isinstance : (Str.ofString "_law_sensors" = Str.ofString "isinstance") = False := eq_false (by decide +kernel)
theorem sq_law_sensors_int : (Str.ofString "_law_sensors" = Str.ofString "int") = False := eq_false (by decide +kernel)
theorem sq_law_sensors_set : (Str.ofString "_law_sensors" = Str.ofString "set") = False := eq_false (by decide +kernel)
theorem sq_law_sensors_dict : (Str.ofString "_law_sensors" = Str.ofString "dict") = False := eq_false (by decide +kernel)
theorem sq_law_sensors_any : (Str.ofString "_law_sensors" = Str.ofString "any") = False := eq_false (by decide +kernel)
theorem sq_law_sensors_all : (Str.ofString "_law_sensors" = Str.ofString "all") = False := eq_false (by decide +kernel)
theorem sq_law_strikes_len : (Str.ofString "_law_strikes" = Str.ofString "len") = False := eq_false (by decide +kernel)
theorem sq_law_strikes_list : (Str.ofString "_law_strikes" = Str.ofString "list") = False := eq_false (by decide +kernel)
theorem sq_law_strikes_sorted : (Str.ofString "_law_strikes" = Str.ofString "sorted") = False := eq_false (by decide +kernel)
theorem sq_law_strikes_range : (Str.ofString "_law_strikes" = Str.ofString "range") = False := eq_false (by decide +kernel)
theorem sq_law_strikes_enumerate : (Str.ofString "_law_strikes" = Str.ofString "enumerate") = False := eq_false (by decide +kernel)
theorem sq_law_strikes_zip : (Str.ofString "_law_strikes" = Str.ofString "zip") = False := eq_false (by decide +kernel)
theorem sq_law_strikes_tuple : (Str.ofString "_law_strikes" = Str.ofString "tuple") = False := eq_false (by decide +kernel)
theorem sq_law_strikes_isinstance : (Str.ofString "_law_strikes" = Str.ofString "isinstance") = False := eq_false (by decide +kernel)
theorem sq_law_strikes_int : (Str.ofString "_law_strikes" = Str.ofString "int") = False := eq_false (by decide +kernel)
theorem sq_law_strikes_set : (Str.ofString "_law_strikes" = Str.ofString "set") = False := eq_false (by decide +kernel)
theorem sq_law_strikes_dict : (Str.ofString "_law_strikes" = Str.ofString "dict") = False := eq_false (by decide +kernel)
theorem sq_law_strikes_any : (Str.ofString "_law_strikes" = Str.ofString "any") = False := eq_false (by decide +kernel)
theorem sq_law_strikes_all : (Str.ofString "_law_strikes" = Str.ofString "all") = False := eq_false (by decide +kernel)
theorem sq_law_subsets_len : (Str.ofString "_law_subsets" = Str.ofString "len") = False := eq_false (by decide +kernel)
theorem sq_law_subsets_list : (Str.ofString "_law_subsets" = Str.ofString "list") = False := eq_false (by decide +kernel)
theorem sq_law_subsets_sorted : (Str.ofString "_law_subsets" = Str.ofString "sorted") = False := eq_false (by decide +kernel)
theorem sq_law_subsets_range : (Str.ofString "_law_subsets" = Str.ofString "range") = False := eq_false (by decide +kernel)
theorem sq_law_subsets_enumerate : (Str.ofString "_law_subsets" = Str.ofString "enumerate") = False := eq_false (by decide +kernel)
theorem sq_law_subsets_zip : (Str.ofString "_law_subsets" = Str.ofString "zip") = False := eq_false (by decide +kernel)
theorem sq_law_subsets_tuple : (Str.ofString "_law_subsets" = Str.ofString "tuple") = False := eq_false (by decide +kernel)
theorem sq_law_subsets_isinstance : (Str.ofString "_law_subsets" = Str.ofString "isinstance") = False := eq_false (by decide +kernel)
theorem sq_law_subsets_int : (Str.ofString "_law_subsets" = Str.ofString "int") = False := eq_false (by decide +kernel)
theorem sq_law_subsets_set : (Str.ofString "_law_subsets" = Str.ofString "set") = False := eq_false (by decide +kernel)
theorem sq_law_subsets_dict : (Str.ofString "_law_subsets" = Str.ofString "dict") = False := eq_false (by decide +kernel)
theorem sq_law_subsets_any : (Str.ofString "_law_subsets" = Str.ofString "any") = False := eq_false (by decide +kernel)
theorem sq_law_subsets_all : (Str.ofString "_law_subsets" = Str.ofString "all") = False := eq_false (by decide +kernel)
theorem sq_law_trail_len : (Str.ofString "_law_trail" = Str.ofString "len") = False := eq_false (by decide +kernel)
theorem sq_law_trail_list : (Str.ofString "_law_trail" = Str.ofString "list") = False := eq_false (by decide +kernel)
theorem sq_law_trail_sorted : (Str.ofString "_law_trail" = Str.ofString "sorted") = False := eq_false (by decide +kernel)
theorem sq_law_trail_range : (Str.ofString "_law_trail" = Str.ofString "range") = False := eq_false (by decide +kernel)
theorem sq_law_trail_enumerate : (Str.ofString "_law_trail" = Str.ofString "enumerate") = False := eq_false (by decide +kernel)
theorem sq_law_trail_zip : (Str.ofString "_law_trail" = Str.ofString "zip") = False := eq_false (by decide +kernel)
theorem sq_law_trail_tuple : (Str.ofString "_law_trail" = Str.ofString "tuple") = False := eq_false (by decide +kernel)
theorem sq_law_trail_isinstance : (Str.ofString "_law_trail" = Str.ofString "isinstance") = False := eq_false (by decide +kernel)
theorem sq_law_trail_int : (Str.ofString "_law_trail" = Str.ofString "int") = False := eq_false (by decide +kernel)
theorem sq_law_trail_set : (Str.ofString "_law_trail" = Str.ofString "set") = False := eq_false (by decide +kernel)
theorem sq_law_trail_dict : (Str.ofString "_law_trail" = Str.ofString "dict") = False := eq_false (by decide +kernel)
theorem sq_law_trail_any : (Str.ofString "_law_trail" = Str.ofString "any") = False := eq_false (by decide +kernel)
theorem sq_law_trail_all : (Str.ofString "_law_trail" = Str.ofString "all") = False := eq_false (by decide +kernel)
theorem sq_abs_len : (Str.ofString "abs" = Str.ofString "len") = False := eq_false (by decide +kernel)
theorem sq_abs_list : (Str.ofString "abs" = Str.ofString "list") = False := eq_false (by decide +kernel)
theorem sq_abs_sorted : (Str.ofString "abs" = Str.ofString "sorted") = False := eq_false (by decide +kernel)
theorem sq_abs_range : (Str.ofString "abs" = Str.ofString "range") = False := eq_false (by decide +kernel)
theorem sq_abs_enumerate : (Str.ofString "abs" = Str.ofString "enumerate") = False := eq_false (by decide +kernel)
theorem sq_abs_zip : (Str.ofString "abs" = Str.ofString "zip") = False := eq_false (by decide +kernel)
theorem sq_abs_tuple : (Str.ofString "abs" = Str.ofString "tuple") = False := eq_false (by decide +kernel)
theorem sq_abs_isinstance : (Str.ofString "abs" = Str.ofString "isinstance") = False := eq_false (by decide +kernel)
theorem sq_abs_int : (Str.ofString "abs" = Str.ofString "int") = False := eq_false (by decide +kernel)
theorem sq_abs_set : (Str.ofString "abs" = Str.ofString "set") = False := eq_false (by decide +kernel)
theorem sq_abs_dict : (Str.ofString "abs" = Str.ofString "dict") = False := eq_false (by decide +kernel)
theorem sq_abs_any : (Str.ofString "abs" = Str.ofString "any") = False := eq_false (by decide +kernel)
theorem sq_abs_all : (Str.ofString "abs" = Str.ofString "all") = False := eq_false (by decide +kernel)
theorem sq_all_len : (Str.ofString "all" = Str.ofString "len") = False := eq_false (by decide +kernel)
theorem sq_all_list : (Str.ofString "all" = Str.ofString "list") = False := eq_false (by decide +kernel)
theorem sq_all_sorted : (Str.ofString "all" = Str.ofString "sorted") = False := eq_false (by decide +kernel)
theorem sq_all_range : (Str.ofString "all" = Str.ofString "range") = False := eq_false (by decide +kernel)
theorem sq_all_enumerate : (Str.ofString "all" = Str.ofString "enumerate") = False := eq_false (by decide +kernel)
theorem sq_all_zip : (Str.ofString "all" = Str.ofString "zip") = False := eq_false (by decide +kernel)
theorem sq_all_tuple : (Str.ofString "all" = Str.ofString "tuple") = False := eq_false (by decide +kernel)
theorem sq_all_isinstance : (Str.ofString "all" = Str.ofString "isinstance") = False := eq_false (by decide +kernel)
theorem sq_all_int : (Str.ofString "all" = Str.ofString "int") = False := eq_false (by decide +kernel)
theorem sq_all_set : (Str.ofString "all" = Str.ofString "set") = False := eq_false (by decide +kernel)
theorem sq_all_dict : (Str.ofString "all" = Str.ofString "dict") = False := eq_false (by decide +kernel)
theorem sq_all_any : (Str.ofString "all" = Str.ofString "any") = False := eq_false (by decide +kernel)
theorem sq_all_all : (Str.ofString "all" = Str.ofString "all") = True := eq_true (by decide +kernel)
theorem sq_append_append : (Str.ofString "append" = Str.ofString "append") = True := eq_true (by decide +kernel)
theorem sq_append_find : (Str.ofString "append" = Str.ofString "find") = False := eq_false (by decide +kernel)
theorem sq_append_get : (Str.ofString "append" = Str.ofString "get") = False := eq_false (by decide +kernel)
theorem sq_append_join : (Str.ofString "append" = Str.ofString "join") = False := eq_false (by decide +kernel)
theorem sq_append_list : (Str.ofString "append" = Str.ofString "list") = False := eq_false (by decide +kernel)
theorem sq_append_pop : (Str.ofString "append" = Str.ofString "pop") = False := eq_false (by decide +kernel)
theorem sq_append_sorted : (Str.ofString "append" = Str.ofString "sorted") = False := eq_false (by decide +kernel)
theorem sq_append_split : (Str.ofString "append" = Str.ofString "split") = False := eq_false (by decide +kernel)
theorem sq_broken_by_len : (Str.ofString "broken_by" = Str.ofString "len") = False := eq_false (by decide +kernel)
theorem sq_broken_by_list : (Str.ofString "broken_by" = Str.ofString "list") = False := eq_false (by decide +kernel)
theorem sq_broken_by_sorted : (Str.ofString "broken_by" = Str.ofString "sorted") = False := eq_false (by decide +kernel)
theorem sq_broken_by_range : (Str.ofString "broken_by" = Str.ofString "range") = False := eq_false (by decide +kernel)
theorem sq_broken_by_enumerate : (Str.ofString "broken_by" = Str.ofString "enumerate") = False := eq_false (by decide +kernel)
theorem sq_broken_by_zip : (Str.ofString "broken_by" = Str.ofString "zip") = False := eq_false (by decide +kernel)
theorem sq_broken_by_tuple : (Str.ofString "broken_by" = Str.ofString "tuple") = False := eq_false (by decide +kernel)
theorem sq_broken_by_isinstance : (Str.ofString "broken_by" = Str.ofString "isinstance") = False := eq_false (by decide +kernel)
theorem sq_broken_by_int : (Str.ofString "broken_by" = Str.ofString "int") = False := eq_false (by decide +kernel)
theorem sq_broken_by_set : (Str.ofString "broken_by" = Str.ofString "set") = False := eq_false (by decide +kernel)
theorem sq_broken_by_dict : (Str.ofString "broken_by" = Str.ofString "dict") = False := eq_false (by decide +kernel)
theorem sq_broken_by_any : (Str.ofString "broken_by" = Str.ofString "any") = False := eq_false (by decide +kernel)
theorem sq_broken_by_all : (Str.ofString "broken_by" = Str.ofString "all") = False := eq_false (by decide +kernel)
theorem sq_inside_len : (Str.ofString "inside" = Str.ofString "len") = False := eq_false (by decide +kernel)
theorem sq_inside_list : (Str.ofString "inside" = Str.ofString "list") = False := eq_false (by decide +kernel)
theorem sq_inside_sorted : (Str.ofString "inside" = Str.ofString "sorted") = False := eq_false (by decide +kernel)
theorem sq_inside_range : (Str.ofString "inside" = Str.ofString "range") = False := eq_false (by decide +kernel)
theorem sq_inside_enumerate : (Str.ofString "inside" = Str.ofString "enumerate") = False := eq_false (by decide +kernel)
theorem sq_inside_zip : (Str.ofString "inside" = Str.ofString "zip") = False := eq_false (by decide +kernel)
theorem sq_inside_tuple : (Str.ofString "inside" = Str.ofString "tuple") = False := eq_false (by decide +kernel)
theorem sq_inside_isinstance : (Str.ofString "inside" = Str.ofString "isinstance") = False := eq_false (by decide +kernel)
theorem sq_inside_int : (Str.ofString "inside" = Str.ofString "int") = False := eq_false (by decide +kernel)
theorem sq_inside_set : (Str.ofString "inside" = Str.ofString "set") = False := eq_false (by decide +kernel)
theorem sq_inside_dict : (Str.ofString "inside" = Str.ofString "dict") = False := eq_false (by decide +kernel)
theorem sq_inside_any : (Str.ofString "inside" = Str.ofString "any") = False := eq_false (by decide +kernel)
theorem sq_inside_all : (Str.ofString "inside" = Str.ofString "all") = False := eq_false (by decide +kernel)
theorem sq_int_len : (Str.ofString "int" = Str.ofString "len") = False := eq_false (by decide +kernel)
theorem sq_int_list : (Str.ofString "int" = Str.ofString "list") = False := eq_false (by decide +kernel)
theorem sq_int_sorted : (Str.ofString "int" = Str.ofString "sorted") = False := eq_false (by decide +kernel)
theorem sq_int_range : (Str.ofString "int" = Str.ofString "range") = False := eq_false (by decide +kernel)
theorem sq_int_enumerate : (Str.ofString "int" = Str.ofString "enumerate") = False := eq_false (by decide +kernel)
theorem sq_int_zip : (Str.ofString "int" = Str.ofString "zip") = False := eq_false (by decide +kernel)
theorem sq_int_tuple : (Str.ofString "int" = Str.ofString "tuple") = False := eq_false (by decide +kernel)
theorem sq_int_isinstance : (Str.ofString "int" = Str.ofString "isinstance") = False := eq_false (by decide +kernel)
theorem sq_int_int : (Str.ofString "int" = Str.ofString "int") = True := eq_true (by decide +kernel)
theorem sq_int_set : (Str.ofString "int" = Str.ofString "set") = False := eq_false (by decide +kernel)
theorem sq_int_dict : (Str.ofString "int" = Str.ofString "dict") = False := eq_false (by decide +kernel)
theorem sq_int_any : (Str.ofString "int" = Str.ofString "any") = False := eq_false (by decide +kernel)
theorem sq_int_all : (Str.ofString "int" = Str.ofString "all") = False := eq_false (by decide +kernel)
theorem sq_isinstance_len : (Str.ofString "isinstance" = Str.ofString "len") = False := eq_false (by decide +kernel)
theorem sq_isinstance_list : (Str.ofString "isinstance" = Str.ofString "list") = False := eq_false (by decide +kernel)
theorem sq_isinstance_sorted : (Str.ofString "isinstance" = Str.ofString "sorted") = False := eq_false (by decide +kernel)
theorem sq_isinstance_range : (Str.ofString "isinstance" = Str.ofString "range") = False := eq_false (by decide +kernel)
theorem sq_isinstance_enumerate : (Str.ofString "isinstance" = Str.ofString "enumerate") = False := eq_false (by decide +kernel)
theorem sq_isinstance_zip : (Str.ofString "isinstance" = Str.ofString "zip") = False := eq_false (by decide +kernel)
theorem sq_isinstance_tuple : (Str.ofString "isinstance" = Str.ofString "tuple") = False := eq_false (by decide +kernel)
theorem sq_isinstance_isinstance : (Str.ofString "isinstance" = Str.ofString "isinstance") = True := eq_true (by decide +kernel)
theorem sq_isinstance_int : (Str.ofString "isinstance" = Str.ofString "int") = False := eq_false (by decide +kernel)
theorem sq_isinstance_set : (Str.ofString "isinstance" = Str.ofString "set") = False := eq_false (by decide +kernel)
theorem sq_isinstance_dict : (Str.ofString "isinstance" = Str.ofString "dict") = False := eq_false (by decide +kernel)
theorem sq_isinstance_any : (Str.ofString "isinstance" = Str.ofString "any") = False := eq_false (by decide +kernel)
theorem sq_isinstance_all : (Str.ofString "isinstance" = Str.ofString "all") = False := eq_false (by decide +kernel)
theorem sq_len_len : (Str.ofString "len" = Str.ofString "len") = True := eq_true (by decide +kernel)
theorem sq_len_list : (Str.ofString "len" = Str.ofString "list") = False := eq_false (by decide +kernel)
theorem sq_len_sorted : (Str.ofString "len" = Str.ofString "sorted") = False := eq_false (by decide +kernel)
theorem sq_len_range : (Str.ofString "len" = Str.ofString "range") = False := eq_false (by decide +kernel)
theorem sq_len_enumerate : (Str.ofString "len" = Str.ofString "enumerate") = False := eq_false (by decide +kernel)
theorem sq_len_zip : (Str.ofString "len" = Str.ofString "zip") = False := eq_false (by decide +kernel)
theorem sq_len_tuple : (Str.ofString "len" = Str.ofString "tuple") = False := eq_false (by decide +kernel)
theorem sq_len_isinstance : (Str.ofString "len" = Str.ofString "isinstance") = False := eq_false (by decide +kernel)
theorem sq_len_int : (Str.ofString "len" = Str.ofString "int") = False := eq_false (by decide +kernel)
theorem sq_len_set : (Str.ofString "len" = Str.ofString "set") = False := eq_false (by decide +kernel)
theorem sq_len_dict : (Str.ofString "len" = Str.ofString "dict") = False := eq_false (by decide +kernel)
theorem sq_len_any : (Str.ofString "len" = Str.ofString "any") = False := eq_false (by decide +kernel)
theorem sq_len_all : (Str.ofString "len" = Str.ofString "all") = False := eq_false (by decide +kernel)
theorem sq_list_len : (Str.ofString "list" = Str.ofString "len") = False := eq_false (by decide +kernel)
theorem sq_list_list : (Str.ofString "list" = Str.ofString "list") = True := eq_true (by decide +kernel)
theorem sq_list_sorted : (Str.ofString "list" = Str.ofString "sorted") = False := eq_false (by decide +kernel)
theorem sq_list_range : (Str.ofString "list" = Str.ofString "range") = False := eq_false (by decide +kernel)
theorem sq_list_enumerate : (Str.ofString "list" = Str.ofString "enumerate") = False := eq_false (by decide +kernel)
theorem sq_list_zip : (Str.ofString "list" = Str.ofString "zip") = False := eq_false (by decide +kernel)
theorem sq_list_tuple : (Str.ofString "list" = Str.ofString "tuple") = False := eq_false (by decide +kernel)
theorem sq_list_isinstance : (Str.ofString "list" = Str.ofString "isinstance") = False := eq_false (by decide +kernel)
theorem sq_list_int : (Str.ofString "list" = Str.ofString "int") = False := eq_false (by decide +kernel)
theorem sq_list_set : (Str.ofString "list" = Str.ofString "set") = False := eq_false (by decide +kernel)
theorem sq_list_dict : (Str.ofString "list" = Str.ofString "dict") = False := eq_false (by decide +kernel)
theorem sq_list_any : (Str.ofString "list" = Str.ofString "any") = False := eq_false (by decide +kernel)
theorem sq_list_all : (Str.ofString "list" = Str.ofString "all") = False := eq_false (by decide +kernel)
theorem sq_range_len : (Str.ofString "range" = Str.ofString "len") = False := eq_false (by decide +kernel)
theorem sq_range_list : (Str.ofString "range" = Str.ofString "list") = False := eq_false (by decide +kernel)
theorem sq_range_sorted : (Str.ofString "range" = Str.ofString "sorted") = False := eq_false (by decide +kernel)
theorem sq_range_range : (Str.ofString "range" = Str.ofString "range") = True := eq_true (by decide +kernel)
theorem sq_range_enumerate : (Str.ofString "range" = Str.ofString "enumerate") = False := eq_false (by decide +kernel)
theorem sq_range_zip : (Str.ofString "range" = Str.ofString "zip") = False := eq_false (by decide +kernel)
theorem sq_range_tuple : (Str.ofString "range" = Str.ofString "tuple") = False := eq_false (by decide +kernel)
theorem sq_range_isinstance : (Str.ofString "range" = Str.ofString "isinstance") = False := eq_false (by decide +kernel)
theorem sq_range_int : (Str.ofString "range" = Str.ofString "int") = False := eq_false (by decide +kernel)
theorem sq_range_set : (Str.ofString "range" = Str.ofString "set") = False := eq_false (by decide +kernel)
theorem sq_range_dict : (Str.ofString "range" = Str.ofString "dict") = False := eq_false (by decide +kernel)
theorem sq_range_any : (Str.ofString "range" = Str.ofString "any") = False := eq_false (by decide +kernel)
theorem sq_range_all : (Str.ofString "range" = Str.ofString "all") = False := eq_false (by decide +kernel)
theorem sq_set_len : (Str.ofString "set" = Str.ofString "len") = False := eq_false (by decide +kernel)
theorem sq_set_list : (Str.ofString "set" = Str.ofString "list") = False := eq_false (by decide +kernel)
theorem sq_set_sorted : (Str.ofString "set" = Str.ofString "sorted") = False := eq_false (by decide +kernel)
theorem sq_set_range : (Str.ofString "set" = Str.ofString "range") = False := eq_false (by decide +kernel)
theorem sq_set_enumerate : (Str.ofString "set" = Str.ofString "enumerate") = False := eq_false (by decide +kernel)
theorem sq_set_zip : (Str.ofString "set" = Str.ofString "zip") = False := eq_false (by decide +kernel)
theorem sq_set_tuple : (Str.ofString "set" = Str.ofString "tuple") = False := eq_false (by decide +kernel)
theorem sq_set_isinstance : (Str.ofString "set" = Str.ofString "isinstance") = False := eq_false (by decide +kernel)
theorem sq_set_int : (Str.ofString "set" = Str.ofString "int") = False := eq_false (by decide +kernel)
theorem sq_set_set : (Str.ofString "set" = Str.ofString "set") = True := eq_true (by decide +kernel)
theorem sq_set_dict : (Str.ofString "set" = Str.ofString "dict") = False := eq_false (by decide +kernel)
theorem sq_set_any : (Str.ofString "set" = Str.ofString "any") = False := eq_false (by decide +kernel)
theorem sq_set_all : (Str.ofString "set" = Str.ofString "all") = False := eq_false (by decide +kernel)
theorem sq_sorted_len : (Str.ofString "sorted" = Str.ofString "len") = False := eq_false (by decide +kernel)
theorem sq_sorted_list : (Str.ofString "sorted" = Str.ofString "list") = False := eq_false (by decide +kernel)
theorem sq_sorted_sorted : (Str.ofString "sorted" = Str.ofString "sorted") = True := eq_true (by decide +kernel)
theorem sq_sorted_range : (Str.ofString "sorted" = Str.ofString "range") = False := eq_false (by decide +kernel)
theorem sq_sorted_enumerate : (Str.ofString "sorted" = Str.ofString "enumerate") = False := eq_false (by decide +kernel)
theorem sq_sorted_zip : (Str.ofString "sorted" = Str.ofString "zip") = False := eq_false (by decide +kernel)
theorem sq_sorted_tuple : (Str.ofString "sorted" = Str.ofString "tuple") = False := eq_false (by decide +kernel)
theorem sq_sorted_isinstance : (Str.ofString "sorted" = Str.ofString "isinstance") = False := eq_false (by decide +kernel)
theorem sq_sorted_int : (Str.ofString "sorted" = Str.ofString "int") = False := eq_false (by decide +kernel)
theorem sq_sorted_set : (Str.ofString "sorted" = Str.ofString "set") = False := eq_false (by decide +kernel)
theorem sq_sorted_dict : (Str.ofString "sorted" = Str.ofString "dict") = False := eq_false (by decide +kernel)
theorem sq_sorted_any : (Str.ofString "sorted" = Str.ofString "any") = False := eq_false (by decide +kernel)
theorem sq_sorted_all : (Str.ofString "sorted" = Str.ofString "all") = False := eq_false (by decide +kernel)
theorem sq_strikes_len : (Str.ofString "strikes" = Str.ofString "len") = False := eq_false (by decide +kernel)
theorem sq_strikes_list : (Str.ofString "strikes" = Str.ofString "list") = False := eq_false (by decide +kernel)
theorem sq_strikes_sorted : (Str.ofString "strikes" = Str.ofString "sorted") = False := eq_false (by decide +kernel)
theorem sq_strikes_range : (Str.ofString "strikes" = Str.ofString "range") = False := eq_false (by decide +kernel)
theorem sq_strikes_enumerate : (Str.ofString "strikes" = Str.ofString "enumerate") = False := eq_false (by decide +kernel)
theorem sq_strikes_zip : (Str.ofString "strikes" = Str.ofString "zip") = False := eq_false (by decide +kernel)
theorem sq_strikes_tuple : (Str.ofString "strikes" = Str.ofString "tuple") = False := eq_false (by decide +kernel)
theorem sq_strikes_isinstance : (Str.ofString "strikes" = Str.ofString "isinstance") = False := eq_false (by decide +kernel)
theorem sq_strikes_int : (Str.ofString "strikes" = Str.ofString "int") = False := eq_false (by decide +kernel)
theorem sq_strikes_set : (Str.ofString "strikes" = Str.ofString "set") = False := eq_false (by decide +kernel)
theorem sq_strikes_dict : (Str.ofString "strikes" = Str.ofString "dict") = False := eq_false (by decide +kernel)
theorem sq_strikes_any : (Str.ofString "strikes" = Str.ofString "any") = False := eq_false (by decide +kernel)
theorem sq_strikes_all : (Str.ofString "strikes" = Str.ofString "all") = False := eq_false (by decide +kernel)
theorem sq_subsets_of_len : (Str.ofString "subsets_of" = Str.ofString "len") = False := eq_false (by decide +kernel)
theorem sq_subsets_of_list : (Str.ofString "subsets_of" = Str.ofString "list") = False := eq_false (by decide +kernel)
theorem sq_subsets_of_sorted : (Str.ofString "subsets_of" = Str.ofString "sorted") = False := eq_false (by decide +kernel)
theorem sq_subsets_of_range : (Str.ofString "subsets_of" = Str.ofString "range") = False := eq_false (by decide +kernel)
theorem sq_subsets_of_enumerate : (Str.ofString "subsets_of" = Str.ofString "enumerate") = False := eq_false (by decide +kernel)
theorem sq_subsets_of_zip : (Str.ofString "subsets_of" = Str.ofString "zip") = False := eq_false (by decide +kernel)
theorem sq_subsets_of_tuple : (Str.ofString "subsets_of" = Str.ofString "tuple") = False := eq_false (by decide +kernel)
theorem sq_subsets_of_isinstance : (Str.ofString "subsets_of" = Str.ofString "isinstance") = False := eq_false (by decide +kernel)
theorem sq_subsets_of_int : (Str.ofString "subsets_of" = Str.ofString "int") = False := eq_false (by decide +kernel)
theorem sq_subsets_of_set : (Str.ofString "subsets_of" = Str.ofString "set") = False := eq_false (by decide +kernel)
theorem sq_subsets_of_dict : (Str.ofString "subsets_of" = Str.ofString "dict") = False := eq_false (by decide +kernel)
theorem sq_subsets_of_any : (Str.ofString "subsets_of" = Str.ofString "any") = False := eq_false (by decide +kernel)
theorem sq_subsets_of_all : (Str.ofString "subsets_of" = Str.ofString "all") = False := eq_false (by decide +kernel)
theorem sq_tuple_len : (Str.ofString "tuple" = Str.ofString "len") = False := eq_false (by decide +kernel)
theorem sq_tuple_list : (Str.ofString "tuple" = Str.ofString "list") = False := eq_false (by decide +kernel)
theorem sq_tuple_sorted : (Str.ofString "tuple" = Str.ofString "sorted") = False := eq_false (by decide +kernel)
theorem sq_tuple_range : (Str.ofString "tuple" = Str.ofString "range") = False := eq_false (by decide +kernel)
theorem sq_tuple_enumerate : (Str.ofString "tuple" = Str.ofString "enumerate") = False := eq_false (by decide +kernel)
theorem sq_tuple_zip : (Str.ofString "tuple" = Str.ofString "zip") = False := eq_false (by decide +kernel)
theorem sq_tuple_tuple : (Str.ofString "tuple" = Str.ofString "tuple") = True := eq_true (by decide +kernel)
theorem sq_tuple_isinstance : (Str.ofString "tuple" = Str.ofString "isinstance") = False := eq_false (by decide +kernel)
theorem sq_tuple_int : (Str.ofString "tuple" = Str.ofString "int") = False := eq_false (by decide +kernel)
theorem sq_tuple_set : (Str.ofString "tuple" = Str.ofString "set") = False := eq_false (by decide +kernel)
theorem sq_tuple_dict : (Str.ofString "tuple" = Str.ofString "dict") = False := eq_false (by decide +kernel)
theorem sq_tuple_any : (Str.ofString "tuple" = Str.ofString "any") = False := eq_false (by decide +kernel)
theorem sq_tuple_all : (Str.ofString "tuple" = Str.ofString "all") = False := eq_false (by decide +kernel)
abbrev FR (df : Df) (n k : Nat) : Evs := frame (csAt pg n) ⟨df.drop, false⟩ k
theorem bd_inside : defBody (df_inside).st = [ (PySem.Stmt.Return (value := (some (PySem.Expr.BoolOp (op := PySem.BoolOp.And) (values := [ (PySem.Expr.Compare (left := (PySem.Expr.Call (func := (PySem.Expr.Name "len" ⟨3, 11, 3, 14⟩)) (args := [(PySem.Expr.Name "first" ⟨3, 15, 3, 20⟩)]) (keywords := []) (pos := ⟨3, 11, 3, 21⟩))) (ops := [PySem.CmpOp.LtE]) (comparators := [ (PySem.Expr.Call (func := (PySem.Expr.Name "len" ⟨3, 25, 3, 28⟩)) (args := [(PySem.Expr.Name "second" ⟨3, 29, 3, 35⟩)]) (keywords := []) (pos := ⟨3, 25, 3, 36⟩))]) (pos := ⟨3, 11, 3, 36⟩)), (PySem.Expr.Compare (left := (PySem.Expr.Call (func := (PySem.Expr.Name "len" ⟨3, 41, 3, 44⟩)) (args := [ (PySem.Expr.BinOp (left := (PySem.Expr.Call (func := (PySem.Expr.Name "set" ⟨3, 45, 3, 48⟩)) (args := [(PySem.Expr.Name "first" ⟨3, 49, 3, 54⟩)]) (keywords := []) (pos := ⟨3, 45, 3, 55⟩))) (op := PySem.Operator.Sub) (right := (PySem.Expr.Call (func := (PySem.Expr.Name "set" ⟨3, 58, 3, 61⟩)) (args := [(PySem.Expr.Name "second" ⟨3, 62, 3, 68⟩)]) (keywords := []) (pos := ⟨3, 58, 3, 69⟩))) (pos := ⟨3, 45, 3, 69⟩))]) (keywords := []) (pos := ⟨3, 41, 3, 70⟩))) (ops := [PySem.CmpOp.Eq]) (comparators := [(PySem.Expr.Constant (PySem.Const.int 0) 0 ⟨3, 74, 3, 75⟩)]) (pos := ⟨3, 41, 3, 75⟩))]) (pos := ⟨3, 11, 3, 75⟩)))) (pos := ⟨3, 4, 3, 75⟩))] := rfl
theorem bd_subsets_of : defBody (df_subsets_of).st = [ (PySem.Stmt.Assign (targets := [(PySem.Expr.Name "found" ⟨5, 4, 5, 9⟩)]) (value := (PySem.Expr.List [(PySem.Expr.Tuple [] 0 ⟨5, 13, 5, 15⟩)] ⟨5, 12, 5, 16⟩)) (pos := ⟨5, 4, 5, 16⟩)), (PySem.Stmt.For (target := (PySem.Expr.Name "member" ⟨6, 8, 6, 14⟩)) (iter := (PySem.Expr.Name "members" ⟨6, 18, 6, 25⟩)) (body := [ (PySem.Stmt.Assign (targets := [(PySem.Expr.Name "found" ⟨7, 8, 7, 13⟩)]) (value := (PySem.Expr.BinOp (left := (PySem.Expr.Name "found" ⟨7, 16, 7, 21⟩)) (op := PySem.Operator.Add) (right := (PySem.Expr.ListComp (elt := (PySem.Expr.BinOp (left := (PySem.Expr.Name "some" ⟨7, 25, 7, 29⟩)) (op := PySem.Operator.Add) (right := (PySem.Expr.Tuple [(PySem.Expr.Name "member" ⟨7, 33, 7, 39⟩)] 0 ⟨7, 32, 7, 41⟩)) (pos := ⟨7, 25, 7, 41⟩))) (generators := [ { target := (PySem.Expr.Name "some" ⟨7, 46, 7, 50⟩), iter := (PySem.Expr.Name "found" ⟨7, 54, 7, 59⟩), ifs := [], is_async := 0 : PySem.Comprehension }]) (scope := { kind := PySem.ScopeKind.function, names := [ (PySem.Str.ofString ".0", PySem.NameKind.local), (PySem.Str.ofString "some", PySem.NameKind.local), (PySem.Str.ofString "member", PySem.NameKind.free)], isGenerator := false, isCoroutine := false, more := [] : PySem.Scope }) (pos := ⟨7, 24, 7, 60⟩))) (pos := ⟨7, 16, 7, 60⟩))) (pos := ⟨7, 8, 7, 60⟩))]) (orelse := []) (pos := ⟨6, 4, 7, 60⟩)), (PySem.Stmt.Return (value := (some (PySem.Expr.Call (func := (PySem.Expr.Name "tuple" ⟨8, 11, 8, 16⟩)) (args := [ (PySem.Expr.Call (func := (PySem.Expr.Name "sorted" ⟨8, 17, 8, 23⟩)) (args := [(PySem.Expr.Name "found" ⟨8, 24, 8, 29⟩)]) (keywords := []) (pos := ⟨8, 17, 8, 30⟩))]) (keywords := []) (pos := ⟨8, 11, 8, 31⟩)))) (pos := ⟨8, 4, 8, 31⟩))] := rfl
theorem bd_strikes : defBody (df_strikes).st = [ (PySem.Stmt.Assign (targets := [(PySem.Expr.Name "every" ⟨11, 4, 11, 9⟩)]) (value := (PySem.Expr.Call (func := (PySem.Expr.Name "subsets_of" ⟨11, 12, 11, 22⟩)) (args := [ (PySem.Expr.Call (func := (PySem.Expr.Name "tuple" ⟨11, 23, 11, 28⟩)) (args := [ (PySem.Expr.Call (func := (PySem.Expr.Name "range" ⟨11, 29, 11, 34⟩)) (args := [ (PySem.Expr.Call (func := (PySem.Expr.Name "len" ⟨11, 35, 11, 38⟩)) (args := [(PySem.Expr.Name "faults" ⟨11, 39, 11, 45⟩)]) (keywords := []) (pos := ⟨11, 35, 11, 46⟩))]) (keywords := []) (pos := ⟨11, 29, 11, 47⟩))]) (keywords := []) (pos := ⟨11, 23, 11, 48⟩))]) (keywords := []) (pos := ⟨11, 12, 11, 49⟩))) (pos := ⟨11, 4, 11, 49⟩)), (PySem.Stmt.Return (value := (some (PySem.Expr.Call (func := (PySem.Expr.Name "tuple" ⟨12, 11, 12, 16⟩)) (args := [ (PySem.Expr.ListComp (elt := (PySem.Expr.Name "some" ⟨12, 18, 12, 22⟩)) (generators := [ { target := (PySem.Expr.Name "some" ⟨12, 27, 12, 31⟩), iter := (PySem.Expr.Name "every" ⟨12, 35, 12, 40⟩), ifs := [ (PySem.Expr.BoolOp (op := PySem.BoolOp.And) (values := [ (PySem.Expr.Compare (left := (PySem.Expr.Call (func := (PySem.Expr.Name "len" ⟨12, 44, 12, 47⟩)) (args := [(PySem.Expr.Name "some" ⟨12, 48, 12, 52⟩)]) (keywords := []) (pos := ⟨12, 44, 12, 53⟩))) (ops := [PySem.CmpOp.LtE]) (comparators := [(PySem.Expr.Name "most" ⟨12, 57, 12, 61⟩)]) (pos := ⟨12, 44, 12, 61⟩)), (PySem.Expr.Call (func := (PySem.Expr.Name "inside" ⟨12, 66, 12, 72⟩)) (args := [(PySem.Expr.Name "struck" ⟨12, 73, 12, 79⟩), (PySem.Expr.Name "some" ⟨12, 81, 12, 85⟩)]) (keywords := []) (pos := ⟨12, 66, 12, 86⟩))]) (pos := ⟨12, 44, 12, 86⟩))], is_async := 0 : PySem.Comprehension }]) (scope := { kind := PySem.ScopeKind.function, names := [ (PySem.Str.ofString ".0", PySem.NameKind.local), (PySem.Str.ofString "some", PySem.NameKind.local), (PySem.Str.ofString "len", PySem.NameKind.globalImplicit), (PySem.Str.ofString "inside", PySem.NameKind.globalImplicit), (PySem.Str.ofString "most", PySem.NameKind.free), (PySem.Str.ofString "struck", PySem.NameKind.free)], isGenerator := false, isCoroutine := false, more := [] : PySem.Scope }) (pos := ⟨12, 17, 12, 87⟩))]) (keywords := []) (pos := ⟨12, 11, 12, 88⟩)))) (pos := ⟨12, 4, 12, 88⟩))] := rfl
theorem bd_broken_by : defBody (df_broken_by).st = [ (PySem.Stmt.Assign (targets := [(PySem.Expr.Name "present" ⟨14, 4, 14, 11⟩)]) (value := (PySem.Expr.ListComp (elt := (PySem.Expr.Subscript (value := (PySem.Expr.Name "faults" ⟨14, 15, 14, 21⟩)) (slice := (PySem.Expr.Name "number" ⟨14, 22, 14, 28⟩)) (pos := ⟨14, 15, 14, 29⟩))) (generators := [ { target := (PySem.Expr.Name "number" ⟨14, 34, 14, 40⟩), iter := (PySem.Expr.Name "struck" ⟨14, 44, 14, 50⟩), ifs := [], is_async := 0 : PySem.Comprehension }]) (scope := { kind := PySem.ScopeKind.function, names := [ (PySem.Str.ofString ".0", PySem.NameKind.local), (PySem.Str.ofString "number", PySem.NameKind.local), (PySem.Str.ofString "faults", PySem.NameKind.free)], isGenerator := false, isCoroutine := false, more := [] : PySem.Scope }) (pos := ⟨14, 14, 14, 51⟩))) (pos := ⟨14, 4, 14, 51⟩)), (PySem.Stmt.Return (value := (some (PySem.Expr.Call (func := (PySem.Expr.Name "tuple" ⟨15, 11, 15, 16⟩)) (args := [ (PySem.Expr.ListComp (elt := (PySem.Expr.Call (func := (PySem.Expr.Name "_broken" ⟨15, 18, 15, 25⟩)) (args := [(PySem.Expr.Name "present" ⟨15, 26, 15, 33⟩), (PySem.Expr.Name "sensor" ⟨15, 35, 15, 41⟩)]) (keywords := []) (pos := ⟨15, 18, 15, 42⟩))) (generators := [ { target := (PySem.Expr.Name "sensor" ⟨15, 47, 15, 53⟩), iter := (PySem.Expr.Call (func := (PySem.Expr.Name "range" ⟨15, 57, 15, 62⟩)) (args := [ (PySem.Expr.Call (func := (PySem.Expr.Name "len" ⟨15, 63, 15, 66⟩)) (args := [(PySem.Expr.Name "sensors" ⟨15, 67, 15, 74⟩)]) (keywords := []) (pos := ⟨15, 63, 15, 75⟩))]) (keywords := []) (pos := ⟨15, 57, 15, 76⟩)), ifs := [], is_async := 0 : PySem.Comprehension }]) (scope := { kind := PySem.ScopeKind.function, names := [ (PySem.Str.ofString ".0", PySem.NameKind.local), (PySem.Str.ofString "sensor", PySem.NameKind.local), (PySem.Str.ofString "_broken", PySem.NameKind.globalImplicit), (PySem.Str.ofString "present", PySem.NameKind.free)], isGenerator := false, isCoroutine := false, more := [] : PySem.Scope }) (pos := ⟨15, 17, 15, 77⟩))]) (keywords := []) (pos := ⟨15, 11, 15, 78⟩)))) (pos := ⟨15, 4, 15, 78⟩))] := rfl
theorem bd_broken : defBody (df_broken).st = [ (PySem.Stmt.If (test := (PySem.Expr.Compare (left := (PySem.Expr.Tuple (elts := [ (PySem.Expr.Constant (PySem.Const.str "wild") 0 ⟨17, 8, 17, 14⟩), (PySem.Expr.Name "sensor" ⟨17, 16, 17, 22⟩)]) (k := 0) (pos := ⟨17, 7, 17, 23⟩))) (ops := [PySem.CmpOp.In]) (comparators := [(PySem.Expr.Name "present" ⟨17, 27, 17, 34⟩)]) (pos := ⟨17, 7, 17, 34⟩))) (body := [(PySem.Stmt.Return (some (PySem.Expr.Constant (PySem.Const.str "wild") 0 ⟨18, 15, 18, 21⟩)) ⟨18, 8, 18, 21⟩)]) (orelse := []) (pos := ⟨17, 4, 18, 21⟩)), (PySem.Stmt.Return (value := (some (PySem.Expr.IfExp (test := (PySem.Expr.Compare (left := (PySem.Expr.Tuple (elts := [ (PySem.Expr.Constant (PySem.Const.str "dead") 0 ⟨19, 22, 19, 28⟩), (PySem.Expr.Name "sensor" ⟨19, 30, 19, 36⟩)]) (k := 0) (pos := ⟨19, 21, 19, 37⟩))) (ops := [PySem.CmpOp.In]) (comparators := [(PySem.Expr.Name "present" ⟨19, 41, 19, 48⟩)]) (pos := ⟨19, 21, 19, 48⟩))) (body := (PySem.Expr.Constant (PySem.Const.str "dead") 0 ⟨19, 11, 19, 17⟩)) (orelse := (PySem.Expr.Constant PySem.Const.none 0 ⟨19, 54, 19, 58⟩)) (pos := ⟨19, 11, 19, 58⟩)))) (pos := ⟨19, 4, 19, 58⟩))] := rfl
theorem bd_law_begin : defBody (df_law_begin).st = [ (PySem.Stmt.Return (value := (some (PySem.Expr.List (elts := [ (PySem.Expr.ListComp (elt := (PySem.Expr.Call (func := (PySem.Expr.Name "int" ⟨22, 13, 22, 16⟩)) (args := [(PySem.Expr.Name "cell" ⟨22, 17, 22, 21⟩)]) (keywords := []) (pos := ⟨22, 13, 22, 22⟩))) (generators := [ { target := (PySem.Expr.Name "cell" ⟨22, 27, 22, 31⟩), iter := (PySem.Expr.Name "script" ⟨22, 35, 22, 41⟩), ifs := [], is_async := 0 : PySem.Comprehension }]) (scope := { kind := PySem.ScopeKind.function, names := [ (PySem.Str.ofString ".0", PySem.NameKind.local), (PySem.Str.ofString "cell", PySem.NameKind.local), (PySem.Str.ofString "int", PySem.NameKind.globalImplicit)], isGenerator := false, isCoroutine := false, more := [] : PySem.Scope }) (pos := ⟨22, 12, 22, 42⟩)), (PySem.Expr.Constant (PySem.Const.int 0) 0 ⟨22, 44, 22, 45⟩), (PySem.Expr.Constant (PySem.Const.int 0) 0 ⟨22, 47, 22, 48⟩), (PySem.Expr.Constant (PySem.Const.int 7) 0 ⟨22, 50, 22, 51⟩)]) (pos := ⟨22, 11, 22, 52⟩)))) (pos := ⟨22, 4, 22, 52⟩))] := rfl
theorem bd_law_draw : defBody (df_law_draw).st = [ (PySem.Stmt.If (test := (PySem.Expr.Compare (left := (PySem.Expr.Subscript (value := (PySem.Expr.Name "d" ⟨24, 7, 24, 8⟩)) (slice := (PySem.Expr.Constant (PySem.Const.int 2) 0 ⟨24, 9, 24, 10⟩)) (pos := ⟨24, 7, 24, 11⟩))) (ops := [PySem.CmpOp.Gt]) (comparators := [(PySem.Expr.Constant (PySem.Const.int 0) 0 ⟨24, 14, 24, 15⟩)]) (pos := ⟨24, 7, 24, 15⟩))) (body := [ (PySem.Stmt.Assign (targets := [(PySem.Expr.Name "found" ⟨25, 8, 25, 13⟩)]) (value := (PySem.Expr.Subscript (value := (PySem.Expr.Name "d" ⟨25, 16, 25, 17⟩)) (slice := (PySem.Expr.Constant (PySem.Const.int 2) 0 ⟨25, 18, 25, 19⟩)) (pos := ⟨25, 16, 25, 20⟩))) (pos := ⟨25, 8, 25, 20⟩)), (PySem.Stmt.Assign (targets := [ (PySem.Expr.Subscript (value := (PySem.Expr.Name "d" ⟨26, 8, 26, 9⟩)) (slice := (PySem.Expr.Constant (PySem.Const.int 2) 0 ⟨26, 10, 26, 11⟩)) (pos := ⟨26, 8, 26, 12⟩))]) (value := (PySem.Expr.BinOp (left := (PySem.Expr.Name "found" ⟨26, 15, 26, 20⟩)) (op := PySem.Operator.FloorDiv) (right := (PySem.Expr.Name "many" ⟨26, 24, 26, 28⟩)) (pos := ⟨26, 15, 26, 28⟩))) (pos := ⟨26, 8, 26, 28⟩)), (PySem.Stmt.Return (value := (some (PySem.Expr.BinOp (left := (PySem.Expr.Call (func := (PySem.Expr.Name "int" ⟨27, 15, 27, 18⟩)) (args := [(PySem.Expr.Name "found" ⟨27, 19, 27, 24⟩)]) (keywords := []) (pos := ⟨27, 15, 27, 25⟩))) (op := PySem.Operator.Mod) (right := (PySem.Expr.Name "many" ⟨27, 28, 27, 32⟩)) (pos := ⟨27, 15, 27, 32⟩)))) (pos := ⟨27, 8, 27, 32⟩))]) (orelse := []) (pos := ⟨24, 4, 27, 32⟩)), (PySem.Stmt.Assign (targets := [(PySem.Expr.Name "size" ⟨28, 4, 28, 8⟩)]) (value := (PySem.Expr.Constant (PySem.Const.int 0) 0 ⟨28, 11, 28, 12⟩)) (pos := ⟨28, 4, 28, 12⟩)), (PySem.Stmt.If (test := (PySem.Expr.Compare (left := (PySem.Expr.Subscript (value := (PySem.Expr.Name "d" ⟨29, 7, 29, 8⟩)) (slice := (PySem.Expr.Constant (PySem.Const.int 1) 0 ⟨29, 9, 29, 10⟩)) (pos := ⟨29, 7, 29, 11⟩))) (ops := [PySem.CmpOp.Lt]) (comparators := [ (PySem.Expr.Call (func := (PySem.Expr.Name "len" ⟨29, 14, 29, 17⟩)) (args := [ (PySem.Expr.Subscript (value := (PySem.Expr.Name "d" ⟨29, 18, 29, 19⟩)) (slice := (PySem.Expr.Constant (PySem.Const.int 0) 0 ⟨29, 20, 29, 21⟩)) (pos := ⟨29, 18, 29, 22⟩))]) (keywords := []) (pos := ⟨29, 14, 29, 23⟩))]) (pos := ⟨29, 7, 29, 23⟩))) (body := [ (PySem.Stmt.Assign (targets := [(PySem.Expr.Name "cell" ⟨30, 8, 30, 12⟩)]) (value := (PySem.Expr.Subscript (value := (PySem.Expr.Subscript (value := (PySem.Expr.Name "d" ⟨30, 15, 30, 16⟩)) (slice := (PySem.Expr.Constant (PySem.Const.int 0) 0 ⟨30, 17, 30, 18⟩)) (pos := ⟨30, 15, 30, 19⟩))) (slice := (PySem.Expr.Subscript (value := (PySem.Expr.Name "d" ⟨30, 20, 30, 21⟩)) (slice := (PySem.Expr.Constant (PySem.Const.int 1) 0 ⟨30, 22, 30, 23⟩)) (pos := ⟨30, 20, 30, 24⟩))) (pos := ⟨30, 15, 30, 25⟩))) (pos := ⟨30, 8, 30, 25⟩)), (PySem.Stmt.Assign (targets := [(PySem.Expr.Name "size" ⟨31, 8, 31, 12⟩)]) (value := (PySem.Expr.BinOp (left := (PySem.Expr.BinOp (left := (PySem.Expr.Constant (PySem.Const.int 2) 0 ⟨31, 15, 31, 16⟩)) (op := PySem.Operator.Mult) (right := (PySem.Expr.Call (func := (PySem.Expr.Name "abs" ⟨31, 19, 31, 22⟩)) (args := [(PySem.Expr.Name "cell" ⟨31, 23, 31, 27⟩)]) (keywords := []) (pos := ⟨31, 19, 31, 28⟩))) (pos := ⟨31, 15, 31, 28⟩))) (op := PySem.Operator.Add) (right := (PySem.Expr.Call (func := (PySem.Expr.Name "int" ⟨31, 31, 31, 34⟩)) (args := [ (PySem.Expr.Compare (left := (PySem.Expr.Name "cell" ⟨31, 35, 31, 39⟩)) (ops := [PySem.CmpOp.Lt]) (comparators := [(PySem.Expr.Constant (PySem.Const.int 0) 0 ⟨31, 42, 31, 43⟩)]) (pos := ⟨31, 35, 31, 43⟩))]) (keywords := []) (pos := ⟨31, 31, 31, 44⟩))) (pos := ⟨31, 15, 31, 44⟩))) (pos := ⟨31, 8, 31, 44⟩))]) (orelse := []) (pos := ⟨29, 4, 31, 44⟩)), (PySem.Stmt.AugAssign (target := (PySem.Expr.Subscript (value := (PySem.Expr.Name "d" ⟨32, 4, 32, 5⟩)) (slice := (PySem.Expr.Constant (PySem.Const.int 1) 0 ⟨32, 6, 32, 7⟩)) (pos := ⟨32, 4, 32, 8⟩))) (op := PySem.Operator.Add) (value := (PySem.Expr.Constant (PySem.Const.int 1) 0 ⟨32, 12, 32, 13⟩)) (pos := ⟨32, 4, 32, 13⟩)), (PySem.Stmt.If (test := (PySem.Expr.Compare (left := (PySem.Expr.Name "size" ⟨33, 7, 33, 11⟩)) (ops := [PySem.CmpOp.GtE]) (comparators := [ (PySem.Expr.BinOp (left := (PySem.Expr.Constant (PySem.Const.int 2) 0 ⟨33, 15, 33, 16⟩)) (op := PySem.Operator.Mult) (right := (PySem.Expr.BinOp (left := (PySem.Expr.Constant (PySem.Const.int 10) 0 ⟨33, 19, 33, 21⟩)) (op := PySem.Operator.Pow) (right := (PySem.Expr.Constant (PySem.Const.int 18) 0 ⟨33, 25, 33, 27⟩)) (pos := ⟨33, 19, 33, 27⟩))) (pos := ⟨33, 15, 33, 27⟩))]) (pos := ⟨33, 7, 33, 27⟩))) (body := [ (PySem.Stmt.Assign (targets := [(PySem.Expr.Name "found" ⟨34, 8, 34, 13⟩)]) (value := (PySem.Expr.BinOp (left := (PySem.Expr.Call (func := (PySem.Expr.Name "int" ⟨34, 16, 34, 19⟩)) (args := [ (PySem.Expr.BinOp (left := (PySem.Expr.Name "size" ⟨34, 20, 34, 24⟩)) (op := PySem.Operator.FloorDiv) (right := (PySem.Expr.Constant (PySem.Const.int 2) 0 ⟨34, 28, 34, 29⟩)) (pos := ⟨34, 20, 34, 29⟩))]) (keywords := []) (pos := ⟨34, 16, 34, 30⟩))) (op := PySem.Operator.Mod) (right := (PySem.Expr.BinOp (left := (PySem.Expr.Constant (PySem.Const.int 1) 0 ⟨34, 34, 34, 35⟩)) (op := PySem.Operator.LShift) (right := (PySem.Expr.Constant (PySem.Const.int 6000) 0 ⟨34, 39, 34, 43⟩)) (pos := ⟨34, 34, 34, 43⟩))) (pos := ⟨34, 16, 34, 44⟩))) (pos := ⟨34, 8, 34, 44⟩)), (PySem.Stmt.Assign (targets := [ (PySem.Expr.Subscript (value := (PySem.Expr.Name "d" ⟨35, 8, 35, 9⟩)) (slice := (PySem.Expr.Constant (PySem.Const.int 2) 0 ⟨35, 10, 35, 11⟩)) (pos := ⟨35, 8, 35, 12⟩))]) (value := (PySem.Expr.BinOp (left := (PySem.Expr.Name "found" ⟨35, 15, 35, 20⟩)) (op := PySem.Operator.FloorDiv) (right := (PySem.Expr.Name "many" ⟨35, 24, 35, 28⟩)) (pos := ⟨35, 15, 35, 28⟩))) (pos := ⟨35, 8, 35, 28⟩)), (PySem.Stmt.Return (value := (some (PySem.Expr.BinOp (left := (PySem.Expr.Call (func := (PySem.Expr.Name "int" ⟨36, 15, 36, 18⟩)) (args := [(PySem.Expr.Name "found" ⟨36, 19, 36, 24⟩)]) (keywords := []) (pos := ⟨36, 15, 36, 25⟩))) (op := PySem.Operator.Mod) (right := (PySem.Expr.Name "many" ⟨36, 28, 36, 32⟩)) (pos := ⟨36, 15, 36, 32⟩)))) (pos := ⟨36, 8, 36, 32⟩))]) (orelse := []) (pos := ⟨33, 4, 36, 32⟩)), (PySem.Stmt.Assign (targets := [ (PySem.Expr.Subscript (value := (PySem.Expr.Name "d" ⟨37, 4, 37, 5⟩)) (slice := (PySem.Expr.Constant (PySem.Const.int 3) 0 ⟨37, 6, 37, 7⟩)) (pos := ⟨37, 4, 37, 8⟩))]) (value := (PySem.Expr.BinOp (left := (PySem.Expr.Call (func := (PySem.Expr.Name "int" ⟨37, 11, 37, 14⟩)) (args := [ (PySem.Expr.BinOp (left := (PySem.Expr.BinOp (left := (PySem.Expr.BinOp (left := (PySem.Expr.BinOp (left := (PySem.Expr.Subscript (value := (PySem.Expr.Name "d" ⟨37, 15, 37, 16⟩)) (slice := (PySem.Expr.Constant (PySem.Const.int 3) 0 ⟨37, 17, 37, 18⟩)) (pos := ⟨37, 15, 37, 19⟩))) (op := PySem.Operator.Mult) (right := (PySem.Expr.Constant (PySem.Const.int 48271) 0 ⟨37, 22, 37, 27⟩)) (pos := ⟨37, 15, 37, 27⟩))) (op := PySem.Operator.Add) (right := (PySem.Expr.BinOp (left := (PySem.Expr.BinOp (left := (PySem.Expr.Call (func := (PySem.Expr.Name "int" ⟨37, 30, 37, 33⟩)) (args := [(PySem.Expr.Name "size" ⟨37, 34, 37, 38⟩)]) (keywords := []) (pos := ⟨37, 30, 37, 39⟩))) (op := PySem.Operator.Mod) (right := (PySem.Expr.Constant (PySem.Const.int 2147483629) 0 ⟨37, 42, 37, 52⟩)) (pos := ⟨37, 30, 37, 52⟩))) (op := PySem.Operator.Mult) (right := (PySem.Expr.Constant (PySem.Const.int 16807) 0 ⟨37, 55, 37, 60⟩)) (pos := ⟨37, 30, 37, 60⟩))) (pos := ⟨37, 15, 37, 60⟩))) (op := PySem.Operator.Add) (right := (PySem.Expr.BinOp (left := (PySem.Expr.Subscript (value := (PySem.Expr.Name "d" ⟨37, 63, 37, 64⟩)) (slice := (PySem.Expr.Constant (PySem.Const.int 1) 0 ⟨37, 65, 37, 66⟩)) (pos := ⟨37, 63, 37, 67⟩))) (op := PySem.Operator.Mult) (right := (PySem.Expr.Constant (PySem.Const.int 69621) 0 ⟨37, 70, 37, 75⟩)) (pos := ⟨37, 63, 37, 75⟩))) (pos := ⟨37, 15, 37, 75⟩))) (op := PySem.Operator.Add) (right := (PySem.Expr.Constant (PySem.Const.int 11) 0 ⟨37, 78, 37, 80⟩)) (pos := ⟨37, 15, 37, 80⟩))]) (keywords := []) (pos := ⟨37, 11, 37, 81⟩))) (op := PySem.Operator.Mod) (right := (PySem.Expr.Constant (PySem.Const.int 2147483647) 0 ⟨37, 84, 37, 94⟩)) (pos := ⟨37, 11, 37, 94⟩))) (pos := ⟨37, 4, 37, 94⟩)), (PySem.Stmt.Return (value := (some (PySem.Expr.BinOp (left := (PySem.Expr.Call (func := (PySem.Expr.Name "int" ⟨38, 11, 38, 14⟩)) (args := [ (PySem.Expr.BinOp (left := (PySem.Expr.Subscript (value := (PySem.Expr.Name "d" ⟨38, 15, 38, 16⟩)) (slice := (PySem.Expr.Constant (PySem.Const.int 3) 0 ⟨38, 17, 38, 18⟩)) (pos := ⟨38, 15, 38, 19⟩))) (op := PySem.Operator.FloorDiv) (right := (PySem.Expr.Constant (PySem.Const.int 16) 0 ⟨38, 23, 38, 25⟩)) (pos := ⟨38, 15, 38, 25⟩))]) (keywords := []) (pos := ⟨38, 11, 38, 26⟩))) (op := PySem.Operator.Mod) (right := (PySem.Expr.Name "many" ⟨38, 29, 38, 33⟩)) (pos := ⟨38, 11, 38, 33⟩)))) (pos := ⟨38, 4, 38, 33⟩))] := rfl
theorem bd_law_pick : defBody (df_law_pick).st = [ (PySem.Stmt.Return (value := (some (PySem.Expr.Subscript (value := (PySem.Expr.Name "row" ⟨40, 11, 40, 14⟩)) (slice := (PySem.Expr.Call (func := (PySem.Expr.Name "_law_draw" ⟨40, 15, 40, 24⟩)) (args := [ (PySem.Expr.Name "d" ⟨40, 25, 40, 26⟩), (PySem.Expr.Call (func := (PySem.Expr.Name "len" ⟨40, 28, 40, 31⟩)) (args := [(PySem.Expr.Name "row" ⟨40, 32, 40, 35⟩)]) (keywords := []) (pos := ⟨40, 28, 40, 36⟩))]) (keywords := []) (pos := ⟨40, 15, 40, 37⟩))) (pos := ⟨40, 11, 40, 38⟩)))) (pos := ⟨40, 4, 40, 38⟩))] := rfl
theorem bd_law_is_int : defBody (df_law_is_int).st = [ (PySem.Stmt.Return (value := (some (PySem.Expr.BoolOp (op := PySem.BoolOp.And) (values := [ (PySem.Expr.Call (func := (PySem.Expr.Name "isinstance" ⟨42, 11, 42, 21⟩)) (args := [(PySem.Expr.Name "thing" ⟨42, 22, 42, 27⟩), (PySem.Expr.Name "int" ⟨42, 29, 42, 32⟩)]) (keywords := []) (pos := ⟨42, 11, 42, 33⟩)), (PySem.Expr.UnaryOp (op := PySem.UnaryOp.Not) (operand := (PySem.Expr.Call (func := (PySem.Expr.Name "isinstance" ⟨42, 43, 42, 53⟩)) (args := [(PySem.Expr.Name "thing" ⟨42, 54, 42, 59⟩), (PySem.Expr.Name "bool" ⟨42, 61, 42, 65⟩)]) (keywords := []) (pos := ⟨42, 43, 42, 66⟩))) (pos := ⟨42, 39, 42, 66⟩))]) (pos := ⟨42, 11, 42, 67⟩)))) (pos := ⟨42, 4, 42, 67⟩))] := rfl
theorem bd_law_is_ints : defBody (df_law_is_ints).st = [ (PySem.Stmt.Return (value := (some (PySem.Expr.BoolOp (op := PySem.BoolOp.And) (values := [ (PySem.Expr.Call (func := (PySem.Expr.Name "isinstance" ⟨44, 11, 44, 21⟩)) (args := [(PySem.Expr.Name "row" ⟨44, 22, 44, 25⟩), (PySem.Expr.Name "tuple" ⟨44, 27, 44, 32⟩)]) (keywords := []) (pos := ⟨44, 11, 44, 33⟩)), (PySem.Expr.Call (func := (PySem.Expr.Name "all" ⟨44, 38, 44, 41⟩)) (args := [ (PySem.Expr.ListComp (elt := (PySem.Expr.Call (func := (PySem.Expr.Name "_law_is_int" ⟨44, 43, 44, 54⟩)) (args := [(PySem.Expr.Name "part" ⟨44, 55, 44, 59⟩)]) (keywords := []) (pos := ⟨44, 43, 44, 60⟩))) (generators := [ { target := (PySem.Expr.Name "part" ⟨44, 65, 44, 69⟩), iter := (PySem.Expr.Name "row" ⟨44, 73, 44, 76⟩), ifs := [], is_async := 0 : PySem.Comprehension }]) (scope := { kind := PySem.ScopeKind.function, names := [ (PySem.Str.ofString ".0", PySem.NameKind.local), (PySem.Str.ofString "part", PySem.NameKind.local), (PySem.Str.ofString "_law_is_int", PySem.NameKind.globalImplicit)], isGenerator := false, isCoroutine := false, more := [] : PySem.Scope }) (pos := ⟨44, 42, 44, 77⟩))]) (keywords := []) (pos := ⟨44, 38, 44, 78⟩))]) (pos := ⟨44, 11, 44, 78⟩)))) (pos := ⟨44, 4, 44, 78⟩))] := rfl
theorem bd_law_is_set : defBody (df_law_is_set).st = [ (PySem.Stmt.If (test := (PySem.Expr.UnaryOp (op := PySem.UnaryOp.Not) (operand := (PySem.Expr.Call (func := (PySem.Expr.Name "_law_is_ints" ⟨46, 11, 46, 23⟩)) (args := [(PySem.Expr.Name "row" ⟨46, 24, 46, 27⟩)]) (keywords := []) (pos := ⟨46, 11, 46, 28⟩))) (pos := ⟨46, 7, 46, 28⟩))) (body := [(PySem.Stmt.Return (some (PySem.Expr.Constant (PySem.Const.bool false) 0 ⟨47, 15, 47, 20⟩)) ⟨47, 8, 47, 20⟩)]) (orelse := []) (pos := ⟨46, 4, 47, 20⟩)), (PySem.Stmt.Return (value := (some (PySem.Expr.Call (func := (PySem.Expr.Name "all" ⟨48, 11, 48, 14⟩)) (args := [ (PySem.Expr.ListComp (elt := (PySem.Expr.Compare (left := (PySem.Expr.Subscript (value := (PySem.Expr.Name "row" ⟨48, 16, 48, 19⟩)) (slice := (PySem.Expr.BinOp (left := (PySem.Expr.Name "k" ⟨48, 20, 48, 21⟩)) (op := PySem.Operator.Sub) (right := (PySem.Expr.Constant (PySem.Const.int 1) 0 ⟨48, 24, 48, 25⟩)) (pos := ⟨48, 20, 48, 25⟩))) (pos := ⟨48, 16, 48, 26⟩))) (ops := [PySem.CmpOp.Lt]) (comparators := [ (PySem.Expr.Subscript (value := (PySem.Expr.Name "row" ⟨48, 29, 48, 32⟩)) (slice := (PySem.Expr.Name "k" ⟨48, 33, 48, 34⟩)) (pos := ⟨48, 29, 48, 35⟩))]) (pos := ⟨48, 16, 48, 35⟩))) (generators := [ { target := (PySem.Expr.Name "k" ⟨48, 40, 48, 41⟩), iter := (PySem.Expr.Call (func := (PySem.Expr.Name "range" ⟨48, 45, 48, 50⟩)) (args := [ (PySem.Expr.Constant (PySem.Const.int 1) 0 ⟨48, 51, 48, 52⟩), (PySem.Expr.Call (func := (PySem.Expr.Name "len" ⟨48, 54, 48, 57⟩)) (args := [(PySem.Expr.Name "row" ⟨48, 58, 48, 61⟩)]) (keywords := []) (pos := ⟨48, 54, 48, 62⟩))]) (keywords := []) (pos := ⟨48, 45, 48, 63⟩)), ifs := [], is_async := 0 : PySem.Comprehension }]) (scope := { kind := PySem.ScopeKind.function, names := [ (PySem.Str.ofString ".0", PySem.NameKind.local), (PySem.Str.ofString "k", PySem.NameKind.local), (PySem.Str.ofString "row", PySem.NameKind.free)], isGenerator := false, isCoroutine := false, more := [] : PySem.Scope }) (pos := ⟨48, 15, 48, 64⟩))]) (keywords := []) (pos := ⟨48, 11, 48, 65⟩)))) (pos := ⟨48, 4, 48, 65⟩))] := rfl
theorem bd_law_inside : defBody (df_law_inside).st = [ (PySem.Stmt.For (target := (PySem.Expr.Name "one" ⟨50, 8, 50, 11⟩)) (iter := (PySem.Expr.Name "first" ⟨50, 15, 50, 20⟩)) (body := [ (PySem.Stmt.If (test := (PySem.Expr.Compare (left := (PySem.Expr.Name "one" ⟨51, 11, 51, 14⟩)) (ops := [PySem.CmpOp.NotIn]) (comparators := [(PySem.Expr.Name "second" ⟨51, 22, 51, 28⟩)]) (pos := ⟨51, 11, 51, 28⟩))) (body := [ (PySem.Stmt.Return (some (PySem.Expr.Constant (PySem.Const.bool false) 0 ⟨52, 19, 52, 24⟩)) ⟨52, 12, 52, 24⟩)]) (orelse := []) (pos := ⟨51, 8, 52, 24⟩))]) (orelse := []) (pos := ⟨50, 4, 52, 24⟩)), (PySem.Stmt.Return (some (PySem.Expr.Constant (PySem.Const.bool true) 0 ⟨53, 11, 53, 15⟩)) ⟨53, 4, 53, 15⟩)] := rfl
theorem bd_law_subsets : defBody (df_law_subsets).st = [ (PySem.Stmt.Assign (targets := [(PySem.Expr.Name "found" ⟨55, 4, 55, 9⟩)]) (value := (PySem.Expr.List [(PySem.Expr.Tuple [] 0 ⟨55, 13, 55, 15⟩)] ⟨55, 12, 55, 16⟩)) (pos := ⟨55, 4, 55, 16⟩)), (PySem.Stmt.For (target := (PySem.Expr.Name "one" ⟨56, 8, 56, 11⟩)) (iter := (PySem.Expr.Name "row" ⟨56, 15, 56, 18⟩)) (body := [ (PySem.Stmt.Assign (targets := [(PySem.Expr.Name "found" ⟨57, 8, 57, 13⟩)]) (value := (PySem.Expr.BinOp (left := (PySem.Expr.Name "found" ⟨57, 16, 57, 21⟩)) (op := PySem.Operator.Add) (right := (PySem.Expr.ListComp (elt := (PySem.Expr.BinOp (left := (PySem.Expr.Name "part" ⟨57, 25, 57, 29⟩)) (op := PySem.Operator.Add) (right := (PySem.Expr.Tuple [(PySem.Expr.Name "one" ⟨57, 33, 57, 36⟩)] 0 ⟨57, 32, 57, 38⟩)) (pos := ⟨57, 25, 57, 38⟩))) (generators := [ { target := (PySem.Expr.Name "part" ⟨57, 43, 57, 47⟩), iter := (PySem.Expr.Name "found" ⟨57, 51, 57, 56⟩), ifs := [], is_async := 0 : PySem.Comprehension }]) (scope := { kind := PySem.ScopeKind.function, names := [ (PySem.Str.ofString ".0", PySem.NameKind.local), (PySem.Str.ofString "part", PySem.NameKind.local), (PySem.Str.ofString "one", PySem.NameKind.free)], isGenerator := false, isCoroutine := false, more := [] : PySem.Scope }) (pos := ⟨57, 24, 57, 57⟩))) (pos := ⟨57, 16, 57, 57⟩))) (pos := ⟨57, 8, 57, 57⟩))]) (orelse := []) (pos := ⟨56, 4, 57, 57⟩)), (PySem.Stmt.Return (some (PySem.Expr.Name "found" ⟨58, 11, 58, 16⟩)) ⟨58, 4, 58, 16⟩)] := rfl
theorem bd_law_strikes : defBody (df_law_strikes).st = [ (PySem.Stmt.Assign (targets := [(PySem.Expr.Name "found" ⟨60, 4, 60, 9⟩)]) (value := (PySem.Expr.List [] ⟨60, 12, 60, 14⟩)) (pos := ⟨60, 4, 60, 14⟩)), (PySem.Stmt.For (target := (PySem.Expr.Name "one" ⟨61, 8, 61, 11⟩)) (iter := (PySem.Expr.Call (func := (PySem.Expr.Name "_law_subsets" ⟨61, 15, 61, 27⟩)) (args := [ (PySem.Expr.Call (func := (PySem.Expr.Name "list" ⟨61, 28, 61, 32⟩)) (args := [ (PySem.Expr.Call (func := (PySem.Expr.Name "range" ⟨61, 33, 61, 38⟩)) (args := [(PySem.Expr.Name "many" ⟨61, 39, 61, 43⟩)]) (keywords := []) (pos := ⟨61, 33, 61, 44⟩))]) (keywords := []) (pos := ⟨61, 28, 61, 45⟩))]) (keywords := []) (pos := ⟨61, 15, 61, 46⟩))) (body := [ (PySem.Stmt.If (test := (PySem.Expr.BoolOp (op := PySem.BoolOp.And) (values := [ (PySem.Expr.Compare (left := (PySem.Expr.Call (func := (PySem.Expr.Name "len" ⟨62, 11, 62, 14⟩)) (args := [(PySem.Expr.Name "one" ⟨62, 15, 62, 18⟩)]) (keywords := []) (pos := ⟨62, 11, 62, 19⟩))) (ops := [PySem.CmpOp.LtE]) (comparators := [(PySem.Expr.Name "most" ⟨62, 23, 62, 27⟩)]) (pos := ⟨62, 11, 62, 27⟩)), (PySem.Expr.Call (func := (PySem.Expr.Name "_law_inside" ⟨62, 32, 62, 43⟩)) (args := [(PySem.Expr.Name "struck" ⟨62, 44, 62, 50⟩), (PySem.Expr.Name "one" ⟨62, 52, 62, 55⟩)]) (keywords := []) (pos := ⟨62, 32, 62, 56⟩))]) (pos := ⟨62, 11, 62, 56⟩))) (body := [ (PySem.Stmt.Expr (value := (PySem.Expr.Call (func := (PySem.Expr.Attribute (PySem.Expr.Name "found" ⟨63, 12, 63, 17⟩) "append" ⟨63, 12, 63, 24⟩)) (args := [(PySem.Expr.Name "one" ⟨63, 25, 63, 28⟩)]) (keywords := []) (pos := ⟨63, 12, 63, 29⟩))) (pos := ⟨63, 12, 63, 29⟩))]) (orelse := []) (pos := ⟨62, 8, 63, 29⟩))]) (orelse := []) (pos := ⟨61, 4, 63, 29⟩)), (PySem.Stmt.Return (value := (some (PySem.Expr.Call (func := (PySem.Expr.Name "sorted" ⟨64, 11, 64, 17⟩)) (args := [(PySem.Expr.Name "found" ⟨64, 18, 64, 23⟩)]) (keywords := []) (pos := ⟨64, 11, 64, 24⟩)))) (pos := ⟨64, 4, 64, 24⟩))] := rfl
theorem bd_law_broken : defBody (df_law_broken).st = [ (PySem.Stmt.Assign (targets := [(PySem.Expr.Name "words" ⟨66, 4, 66, 9⟩)]) (value := (PySem.Expr.BinOp (left := (PySem.Expr.List [(PySem.Expr.Constant PySem.Const.none 0 ⟨66, 13, 66, 17⟩)] ⟨66, 12, 66, 18⟩)) (op := PySem.Operator.Mult) (right := (PySem.Expr.Call (func := (PySem.Expr.Name "len" ⟨66, 21, 66, 24⟩)) (args := [(PySem.Expr.Name "sensors" ⟨66, 25, 66, 32⟩)]) (keywords := []) (pos := ⟨66, 21, 66, 33⟩))) (pos := ⟨66, 12, 66, 33⟩))) (pos := ⟨66, 4, 66, 33⟩)), (PySem.Stmt.For (target := (PySem.Expr.Name "word" ⟨67, 8, 67, 12⟩)) (iter := (PySem.Expr.Tuple (elts := [ (PySem.Expr.Constant (PySem.Const.str "dead") 0 ⟨67, 17, 67, 23⟩), (PySem.Expr.Constant (PySem.Const.str "wild") 0 ⟨67, 25, 67, 31⟩)]) (k := 0) (pos := ⟨67, 16, 67, 32⟩))) (body := [ (PySem.Stmt.For (target := (PySem.Expr.Name "s" ⟨68, 12, 68, 13⟩)) (iter := (PySem.Expr.Name "struck" ⟨68, 17, 68, 23⟩)) (body := [ (PySem.Stmt.If (test := (PySem.Expr.Compare (left := (PySem.Expr.Subscript (value := (PySem.Expr.Subscript (value := (PySem.Expr.Name "faults" ⟨69, 15, 69, 21⟩)) (slice := (PySem.Expr.Name "s" ⟨69, 22, 69, 23⟩)) (pos := ⟨69, 15, 69, 24⟩))) (slice := (PySem.Expr.Constant (PySem.Const.int 0) 0 ⟨69, 25, 69, 26⟩)) (pos := ⟨69, 15, 69, 27⟩))) (ops := [PySem.CmpOp.Eq]) (comparators := [(PySem.Expr.Name "word" ⟨69, 31, 69, 35⟩)]) (pos := ⟨69, 15, 69, 35⟩))) (body := [ (PySem.Stmt.Assign (targets := [ (PySem.Expr.Subscript (value := (PySem.Expr.Name "words" ⟨70, 16, 70, 21⟩)) (slice := (PySem.Expr.Subscript (value := (PySem.Expr.Subscript (value := (PySem.Expr.Name "faults" ⟨70, 22, 70, 28⟩)) (slice := (PySem.Expr.Name "s" ⟨70, 29, 70, 30⟩)) (pos := ⟨70, 22, 70, 31⟩))) (slice := (PySem.Expr.Constant (PySem.Const.int 1) 0 ⟨70, 32, 70, 33⟩)) (pos := ⟨70, 22, 70, 34⟩))) (pos := ⟨70, 16, 70, 35⟩))]) (value := (PySem.Expr.Name "word" ⟨70, 38, 70, 42⟩)) (pos := ⟨70, 16, 70, 42⟩))]) (orelse := []) (pos := ⟨69, 12, 70, 42⟩))]) (orelse := []) (pos := ⟨68, 8, 70, 42⟩))]) (orelse := []) (pos := ⟨67, 4, 70, 42⟩)), (PySem.Stmt.Return (value := (some (PySem.Expr.Call (func := (PySem.Expr.Name "tuple" ⟨71, 11, 71, 16⟩)) (args := [(PySem.Expr.Name "words" ⟨71, 17, 71, 22⟩)]) (keywords := []) (pos := ⟨71, 11, 71, 23⟩)))) (pos := ⟨71, 4, 71, 23⟩))] := rfl
theorem bd_law_sensors : defBody (df_law_sensors).st = [ (PySem.Stmt.Assign (targets := [(PySem.Expr.Name "stock" ⟨73, 4, 73, 9⟩)]) (value := (PySem.Expr.List (elts := [ (PySem.Expr.Tuple [(PySem.Expr.Constant (PySem.Const.str "bump") 0 ⟨73, 14, 73, 20⟩)] 0 ⟨73, 13, 73, 22⟩), (PySem.Expr.Tuple (elts := [(PySem.Expr.Constant (PySem.Const.str "mark") 0 ⟨73, 25, 73, 31⟩), (PySem.Expr.Tuple [] 0 ⟨73, 33, 73, 35⟩)]) (k := 0) (pos := ⟨73, 24, 73, 36⟩)), (PySem.Expr.Tuple (elts := [ (PySem.Expr.Constant (PySem.Const.str "mark") 0 ⟨73, 39, 73, 45⟩), (PySem.Expr.Tuple (elts := [ (PySem.Expr.Tuple (elts := [ (PySem.Expr.Constant (PySem.Const.int 0) 0 ⟨73, 49, 73, 50⟩), (PySem.Expr.Constant (PySem.Const.int 1) 0 ⟨73, 52, 73, 53⟩)]) (k := 0) (pos := ⟨73, 48, 73, 54⟩)), (PySem.Expr.Tuple (elts := [ (PySem.Expr.Constant (PySem.Const.int 1) 0 ⟨73, 57, 73, 58⟩), (PySem.Expr.Constant (PySem.Const.int 0) 0 ⟨73, 60, 73, 61⟩)]) (k := 0) (pos := ⟨73, 56, 73, 62⟩))]) (k := 0) (pos := ⟨73, 47, 73, 63⟩))]) (k := 0) (pos := ⟨73, 38, 73, 64⟩)), (PySem.Expr.Tuple (elts := [ (PySem.Expr.Constant (PySem.Const.str "near") 0 ⟨73, 67, 73, 73⟩), (PySem.Expr.Constant (PySem.Const.int 0) 0 ⟨73, 75, 73, 76⟩), (PySem.Expr.Constant (PySem.Const.int 1) 0 ⟨73, 78, 73, 79⟩)]) (k := 0) (pos := ⟨73, 66, 73, 80⟩)), (PySem.Expr.Tuple (elts := [ (PySem.Expr.Constant (PySem.Const.str "near") 0 ⟨73, 83, 73, 89⟩), (PySem.Expr.Constant (PySem.Const.int 1) 0 ⟨73, 91, 73, 92⟩), (PySem.Expr.Constant (PySem.Const.int 1) 0 ⟨73, 94, 73, 95⟩)]) (k := 0) (pos := ⟨73, 82, 73, 96⟩)), (PySem.Expr.Tuple (elts := [ (PySem.Expr.Constant (PySem.Const.str "mark") 0 ⟨73, 99, 73, 105⟩), (PySem.Expr.Tuple (elts := [ (PySem.Expr.Tuple (elts := [ (PySem.Expr.Constant (PySem.Const.int 1) 0 ⟨73, 109, 73, 110⟩), (PySem.Expr.Constant (PySem.Const.int 2) 0 ⟨73, 112, 73, 113⟩)]) (k := 0) (pos := ⟨73, 108, 73, 114⟩))]) (k := 0) (pos := ⟨73, 107, 73, 116⟩))]) (k := 0) (pos := ⟨73, 98, 73, 117⟩))]) (pos := ⟨73, 12, 73, 118⟩))) (pos := ⟨73, 4, 73, 118⟩)), (PySem.Stmt.Assign (targets := [(PySem.Expr.Name "stock" ⟨74, 4, 74, 9⟩)]) (value := (PySem.Expr.BinOp (left := (PySem.Expr.Name "stock" ⟨74, 12, 74, 17⟩)) (op := PySem.Operator.Add) (right := (PySem.Expr.ListComp (elt := (PySem.Expr.Tuple (elts := [ (PySem.Expr.Constant (PySem.Const.str "range") 0 ⟨74, 22, 74, 29⟩), (PySem.Expr.Name "k" ⟨74, 31, 74, 32⟩), (PySem.Expr.BinOp (left := (PySem.Expr.Constant (PySem.Const.int 1) 0 ⟨74, 34, 74, 35⟩)) (op := PySem.Operator.Add) (right := (PySem.Expr.BinOp (left := (PySem.Expr.Name "k" ⟨74, 38, 74, 39⟩)) (op := PySem.Operator.FloorDiv) (right := (PySem.Expr.Constant (PySem.Const.int 2) 0 ⟨74, 43, 74, 44⟩)) (pos := ⟨74, 38, 74, 44⟩))) (pos := ⟨74, 34, 74, 44⟩)), (PySem.Expr.BinOp (left := (PySem.Expr.Name "k" ⟨74, 46, 74, 47⟩)) (op := PySem.Operator.FloorDiv) (right := (PySem.Expr.Constant (PySem.Const.int 3) 0 ⟨74, 51, 74, 52⟩)) (pos := ⟨74, 46, 74, 52⟩))]) (k := 0) (pos := ⟨74, 21, 74, 53⟩))) (generators := [ { target := (PySem.Expr.Name "k" ⟨74, 58, 74, 59⟩), iter := (PySem.Expr.Call (func := (PySem.Expr.Name "range" ⟨74, 63, 74, 68⟩)) (args := [(PySem.Expr.Constant (PySem.Const.int 4) 0 ⟨74, 69, 74, 70⟩)]) (keywords := []) (pos := ⟨74, 63, 74, 71⟩)), ifs := [], is_async := 0 : PySem.Comprehension }]) (scope := { kind := PySem.ScopeKind.function, names := [(PySem.Str.ofString ".0", PySem.NameKind.local), (PySem.Str.ofString "k", PySem.NameKind.local)], isGenerator := false, isCoroutine := false, more := [] : PySem.Scope }) (pos := ⟨74, 20, 74, 72⟩))) (pos := ⟨74, 12, 74, 72⟩))) (pos := ⟨74, 4, 74, 72⟩)), (PySem.Stmt.Return (value := (some (PySem.Expr.Call (func := (PySem.Expr.Name "tuple" ⟨75, 11, 75, 16⟩)) (args := [ (PySem.Expr.ListComp (elt := (PySem.Expr.Call (func := (PySem.Expr.Name "_law_pick" ⟨75, 18, 75, 27⟩)) (args := [(PySem.Expr.Name "d" ⟨75, 28, 75, 29⟩), (PySem.Expr.Name "stock" ⟨75, 31, 75, 36⟩)]) (keywords := []) (pos := ⟨75, 18, 75, 37⟩))) (generators := [ { target := (PySem.Expr.Name "k" ⟨75, 42, 75, 43⟩), iter := (PySem.Expr.Call (func := (PySem.Expr.Name "range" ⟨75, 47, 75, 52⟩)) (args := [ (PySem.Expr.Call (func := (PySem.Expr.Name "_law_draw" ⟨75, 53, 75, 62⟩)) (args := [ (PySem.Expr.Name "d" ⟨75, 63, 75, 64⟩), (PySem.Expr.BinOp (left := (PySem.Expr.Name "most" ⟨75, 66, 75, 70⟩)) (op := PySem.Operator.Add) (right := (PySem.Expr.Constant (PySem.Const.int 1) 0 ⟨75, 73, 75, 74⟩)) (pos := ⟨75, 66, 75, 74⟩))]) (keywords := []) (pos := ⟨75, 53, 75, 75⟩))]) (keywords := []) (pos := ⟨75, 47, 75, 76⟩)), ifs := [], is_async := 0 : PySem.Comprehension }]) (scope := { kind := PySem.ScopeKind.function, names := [ (PySem.Str.ofString ".0", PySem.NameKind.local), (PySem.Str.ofString "k", PySem.NameKind.local), (PySem.Str.ofString "_law_pick", PySem.NameKind.globalImplicit), (PySem.Str.ofString "d", PySem.NameKind.free), (PySem.Str.ofString "stock", PySem.NameKind.free)], isGenerator := false, isCoroutine := false, more := [] : PySem.Scope }) (pos := ⟨75, 17, 75, 77⟩))]) (keywords := []) (pos := ⟨75, 11, 75, 78⟩)))) (pos := ⟨75, 4, 75, 78⟩))] := rfl
theorem bd_law_trail : defBody (df_law_trail).st = [ (PySem.Stmt.Return (value := (some (PySem.Expr.Call (func := (PySem.Expr.Name "tuple" ⟨77, 11, 77, 16⟩)) (args := [ (PySem.Expr.ListComp (elt := (PySem.Expr.Call (func := (PySem.Expr.Name "_law_draw" ⟨77, 18, 77, 27⟩)) (args := [(PySem.Expr.Name "d" ⟨77, 28, 77, 29⟩), (PySem.Expr.Constant (PySem.Const.int 4) 0 ⟨77, 31, 77, 32⟩)]) (keywords := []) (pos := ⟨77, 18, 77, 33⟩))) (generators := [ { target := (PySem.Expr.Name "k" ⟨77, 38, 77, 39⟩), iter := (PySem.Expr.Call (func := (PySem.Expr.Name "range" ⟨77, 43, 77, 48⟩)) (args := [ (PySem.Expr.Subscript (value := (PySem.Expr.List (elts := [ (PySem.Expr.Constant (PySem.Const.int 1) 0 ⟨77, 50, 77, 51⟩), (PySem.Expr.Constant (PySem.Const.int 2) 0 ⟨77, 53, 77, 54⟩), (PySem.Expr.Constant (PySem.Const.int 3) 0 ⟨77, 56, 77, 57⟩), (PySem.Expr.Constant (PySem.Const.int 3) 0 ⟨77, 59, 77, 60⟩), (PySem.Expr.Constant (PySem.Const.int 0) 0 ⟨77, 62, 77, 63⟩), (PySem.Expr.Constant (PySem.Const.int 1) 0 ⟨77, 65, 77, 66⟩), (PySem.Expr.Constant (PySem.Const.int 2) 0 ⟨77, 68, 77, 69⟩), (PySem.Expr.Constant (PySem.Const.int 3) 0 ⟨77, 71, 77, 72⟩)]) (pos := ⟨77, 49, 77, 73⟩))) (slice := (PySem.Expr.Call (func := (PySem.Expr.Name "_law_draw" ⟨77, 74, 77, 83⟩)) (args := [(PySem.Expr.Name "d" ⟨77, 84, 77, 85⟩), (PySem.Expr.Constant (PySem.Const.int 8) 0 ⟨77, 87, 77, 88⟩)]) (keywords := []) (pos := ⟨77, 74, 77, 89⟩))) (pos := ⟨77, 49, 77, 90⟩))]) (keywords := []) (pos := ⟨77, 43, 77, 91⟩)), ifs := [], is_async := 0 : PySem.Comprehension }]) (scope := { kind := PySem.ScopeKind.function, names := [ (PySem.Str.ofString ".0", PySem.NameKind.local), (PySem.Str.ofString "k", PySem.NameKind.local), (PySem.Str.ofString "_law_draw", PySem.NameKind.globalImplicit), (PySem.Str.ofString "d", PySem.NameKind.free)], isGenerator := false, isCoroutine := false, more := [] : PySem.Scope }) (pos := ⟨77, 17, 77, 92⟩))]) (keywords := []) (pos := ⟨77, 11, 77, 93⟩)))) (pos := ⟨77, 4, 77, 93⟩))] := rfl
theorem bd_law_faults : defBody (df_law_faults).st = [ (PySem.Stmt.Assign (targets := [(PySem.Expr.Name "found" ⟨79, 4, 79, 9⟩)]) (value := (PySem.Expr.List [] ⟨79, 12, 79, 14⟩)) (pos := ⟨79, 4, 79, 14⟩)), (PySem.Stmt.For (target := (PySem.Expr.Name "k" ⟨80, 8, 80, 9⟩)) (iter := (PySem.Expr.Call (func := (PySem.Expr.Name "range" ⟨80, 13, 80, 18⟩)) (args := [ (PySem.Expr.Call (func := (PySem.Expr.Name "_law_draw" ⟨80, 19, 80, 28⟩)) (args := [(PySem.Expr.Name "d" ⟨80, 29, 80, 30⟩), (PySem.Expr.Constant (PySem.Const.int 4) 0 ⟨80, 32, 80, 33⟩)]) (keywords := []) (pos := ⟨80, 19, 80, 34⟩))]) (keywords := []) (pos := ⟨80, 13, 80, 35⟩))) (body := [ (PySem.Stmt.Assign (targets := [(PySem.Expr.Name "one" ⟨81, 8, 81, 11⟩)]) (value := (PySem.Expr.Tuple (elts := [ (PySem.Expr.Constant (PySem.Const.str "drift") 0 ⟨81, 15, 81, 22⟩), (PySem.Expr.BinOp (left := (PySem.Expr.Constant (PySem.Const.int 1) 0 ⟨81, 24, 81, 25⟩)) (op := PySem.Operator.Add) (right := (PySem.Expr.Call (func := (PySem.Expr.Name "_law_draw" ⟨81, 28, 81, 37⟩)) (args := [(PySem.Expr.Name "d" ⟨81, 38, 81, 39⟩), (PySem.Expr.Constant (PySem.Const.int 4) 0 ⟨81, 41, 81, 42⟩)]) (keywords := []) (pos := ⟨81, 28, 81, 43⟩))) (pos := ⟨81, 24, 81, 43⟩)), (PySem.Expr.Call (func := (PySem.Expr.Name "_law_trail" ⟨81, 45, 81, 55⟩)) (args := [(PySem.Expr.Name "d" ⟨81, 56, 81, 57⟩)]) (keywords := []) (pos := ⟨81, 45, 81, 58⟩))]) (k := 0) (pos := ⟨81, 14, 81, 59⟩))) (pos := ⟨81, 8, 81, 59⟩)), (PySem.Stmt.If (test := (PySem.Expr.BoolOp (op := PySem.BoolOp.And) (values := [ (PySem.Expr.Compare (left := (PySem.Expr.Name "sensors" ⟨82, 11, 82, 18⟩)) (ops := [PySem.CmpOp.Gt]) (comparators := [(PySem.Expr.Constant (PySem.Const.int 0) 0 ⟨82, 21, 82, 22⟩)]) (pos := ⟨82, 11, 82, 22⟩)), (PySem.Expr.Compare (left := (PySem.Expr.Call (func := (PySem.Expr.Name "_law_draw" ⟨82, 27, 82, 36⟩)) (args := [(PySem.Expr.Name "d" ⟨82, 37, 82, 38⟩), (PySem.Expr.Constant (PySem.Const.int 2) 0 ⟨82, 40, 82, 41⟩)]) (keywords := []) (pos := ⟨82, 27, 82, 42⟩))) (ops := [PySem.CmpOp.Eq]) (comparators := [(PySem.Expr.Constant (PySem.Const.int 1) 0 ⟨82, 46, 82, 47⟩)]) (pos := ⟨82, 27, 82, 47⟩))]) (pos := ⟨82, 11, 82, 47⟩))) (body := [ (PySem.Stmt.Assign (targets := [(PySem.Expr.Name "one" ⟨83, 12, 83, 15⟩)]) (value := (PySem.Expr.Tuple (elts := [ (PySem.Expr.Call (func := (PySem.Expr.Name "_law_pick" ⟨83, 19, 83, 28⟩)) (args := [ (PySem.Expr.Name "d" ⟨83, 29, 83, 30⟩), (PySem.Expr.List (elts := [ (PySem.Expr.Constant (PySem.Const.str "dead") 0 ⟨83, 33, 83, 39⟩), (PySem.Expr.Constant (PySem.Const.str "wild") 0 ⟨83, 41, 83, 47⟩)]) (pos := ⟨83, 32, 83, 48⟩))]) (keywords := []) (pos := ⟨83, 19, 83, 49⟩)), (PySem.Expr.Call (func := (PySem.Expr.Name "_law_draw" ⟨83, 51, 83, 60⟩)) (args := [(PySem.Expr.Name "d" ⟨83, 61, 83, 62⟩), (PySem.Expr.Name "sensors" ⟨83, 64, 83, 71⟩)]) (keywords := []) (pos := ⟨83, 51, 83, 72⟩))]) (k := 0) (pos := ⟨83, 18, 83, 73⟩))) (pos := ⟨83, 12, 83, 73⟩))]) (orelse := []) (pos := ⟨82, 8, 83, 73⟩)), (PySem.Stmt.If (test := (PySem.Expr.Compare (left := (PySem.Expr.Name "one" ⟨84, 11, 84, 14⟩)) (ops := [PySem.CmpOp.NotIn]) (comparators := [(PySem.Expr.Name "found" ⟨84, 22, 84, 27⟩)]) (pos := ⟨84, 11, 84, 27⟩))) (body := [ (PySem.Stmt.Expr (value := (PySem.Expr.Call (func := (PySem.Expr.Attribute (PySem.Expr.Name "found" ⟨85, 12, 85, 17⟩) "append" ⟨85, 12, 85, 24⟩)) (args := [(PySem.Expr.Name "one" ⟨85, 25, 85, 28⟩)]) (keywords := []) (pos := ⟨85, 12, 85, 29⟩))) (pos := ⟨85, 12, 85, 29⟩))]) (orelse := []) (pos := ⟨84, 8, 85, 29⟩))]) (orelse := []) (pos := ⟨80, 4, 85, 29⟩)), (PySem.Stmt.Return (value := (some (PySem.Expr.Call (func := (PySem.Expr.Name "tuple" ⟨86, 11, 86, 16⟩)) (args := [(PySem.Expr.Name "found" ⟨86, 17, 86, 22⟩)]) (keywords := []) (pos := ⟨86, 11, 86, 23⟩)))) (pos := ⟨86, 4, 86, 23⟩))] := rfl
theorem bd_law_right_strikes : defBody (df_law_right_strikes).st = [ (PySem.Stmt.If (test := (PySem.Expr.BoolOp (op := PySem.BoolOp.Or) (values := [ (PySem.Expr.UnaryOp (op := PySem.UnaryOp.Not) (operand := (PySem.Expr.Call (func := (PySem.Expr.Name "isinstance" ⟨88, 11, 88, 21⟩)) (args := [(PySem.Expr.Name "told" ⟨88, 22, 88, 26⟩), (PySem.Expr.Name "tuple" ⟨88, 28, 88, 33⟩)]) (keywords := []) (pos := ⟨88, 11, 88, 34⟩))) (pos := ⟨88, 7, 88, 34⟩)), (PySem.Expr.Compare (left := (PySem.Expr.Name "told" ⟨88, 38, 88, 42⟩)) (ops := [PySem.CmpOp.NotEq]) (comparators := [(PySem.Expr.Name "due" ⟨88, 46, 88, 49⟩)]) (pos := ⟨88, 38, 88, 49⟩))]) (pos := ⟨88, 7, 88, 49⟩))) (body := [(PySem.Stmt.Return (some (PySem.Expr.Constant (PySem.Const.bool false) 0 ⟨89, 15, 89, 20⟩)) ⟨89, 8, 89, 20⟩)]) (orelse := []) (pos := ⟨88, 4, 89, 20⟩)), (PySem.Stmt.Return (value := (some (PySem.Expr.Call (func := (PySem.Expr.Name "all" ⟨90, 11, 90, 14⟩)) (args := [ (PySem.Expr.ListComp (elt := (PySem.Expr.Call (func := (PySem.Expr.Name "_law_is_set" ⟨90, 16, 90, 27⟩)) (args := [(PySem.Expr.Name "one" ⟨90, 28, 90, 31⟩)]) (keywords := []) (pos := ⟨90, 16, 90, 32⟩))) (generators := [ { target := (PySem.Expr.Name "one" ⟨90, 37, 90, 40⟩), iter := (PySem.Expr.Name "told" ⟨90, 44, 90, 48⟩), ifs := [], is_async := 0 : PySem.Comprehension }]) (scope := { kind := PySem.ScopeKind.function, names := [ (PySem.Str.ofString ".0", PySem.NameKind.local), (PySem.Str.ofString "one", PySem.NameKind.local), (PySem.Str.ofString "_law_is_set", PySem.NameKind.globalImplicit)], isGenerator := false, isCoroutine := false, more := [] : PySem.Scope }) (pos := ⟨90, 15, 90, 49⟩))]) (keywords := []) (pos := ⟨90, 11, 90, 50⟩)))) (pos := ⟨90, 4, 90, 50⟩))] := rfl
theorem bd_law_right_chain : defBody (df_law_right_chain).st = [ (PySem.Stmt.Assign (targets := [(PySem.Expr.Name "due" ⟨92, 4, 92, 7⟩)]) (value := (PySem.Expr.Call (func := (PySem.Expr.Name "tuple" ⟨92, 10, 92, 15⟩)) (args := [ (PySem.Expr.Call (func := (PySem.Expr.Name "_law_strikes" ⟨92, 16, 92, 28⟩)) (args := [ (PySem.Expr.Call (func := (PySem.Expr.Name "len" ⟨92, 29, 92, 32⟩)) (args := [(PySem.Expr.Name "faults" ⟨92, 33, 92, 39⟩)]) (keywords := []) (pos := ⟨92, 29, 92, 40⟩)), (PySem.Expr.Name "most" ⟨92, 42, 92, 46⟩), (PySem.Expr.Name "struck" ⟨92, 48, 92, 54⟩)]) (keywords := []) (pos := ⟨92, 16, 92, 55⟩))]) (keywords := []) (pos := ⟨92, 10, 92, 56⟩))) (pos := ⟨92, 4, 92, 56⟩)), (PySem.Stmt.If (test := (PySem.Expr.UnaryOp (op := PySem.UnaryOp.Not) (operand := (PySem.Expr.Call (func := (PySem.Expr.Name "_law_right_strikes" ⟨93, 11, 93, 29⟩)) (args := [ (PySem.Expr.Call (func := (PySem.Expr.Name "strikes" ⟨93, 30, 93, 37⟩)) (args := [ (PySem.Expr.Name "faults" ⟨93, 38, 93, 44⟩), (PySem.Expr.Name "most" ⟨93, 46, 93, 50⟩), (PySem.Expr.Name "struck" ⟨93, 52, 93, 58⟩)]) (keywords := []) (pos := ⟨93, 30, 93, 59⟩)), (PySem.Expr.Name "due" ⟨93, 61, 93, 64⟩)]) (keywords := []) (pos := ⟨93, 11, 93, 65⟩))) (pos := ⟨93, 7, 93, 65⟩))) (body := [(PySem.Stmt.Return (some (PySem.Expr.Constant (PySem.Const.bool false) 0 ⟨94, 15, 94, 20⟩)) ⟨94, 8, 94, 20⟩)]) (orelse := []) (pos := ⟨93, 4, 94, 20⟩)), (PySem.Stmt.For (target := (PySem.Expr.Name "one" ⟨95, 8, 95, 11⟩)) (iter := (PySem.Expr.Name "due" ⟨95, 15, 95, 18⟩)) (body := [ (PySem.Stmt.Assign (targets := [(PySem.Expr.Name "told" ⟨96, 8, 96, 12⟩)]) (value := (PySem.Expr.Call (func := (PySem.Expr.Name "strikes" ⟨96, 15, 96, 22⟩)) (args := [ (PySem.Expr.Name "faults" ⟨96, 23, 96, 29⟩), (PySem.Expr.Name "most" ⟨96, 31, 96, 35⟩), (PySem.Expr.Name "one" ⟨96, 37, 96, 40⟩)]) (keywords := []) (pos := ⟨96, 15, 96, 41⟩))) (pos := ⟨96, 8, 96, 41⟩)), (PySem.Stmt.If (test := (PySem.Expr.BoolOp (op := PySem.BoolOp.Or) (values := [ (PySem.Expr.UnaryOp (op := PySem.UnaryOp.Not) (operand := (PySem.Expr.Call (func := (PySem.Expr.Name "isinstance" ⟨97, 15, 97, 25⟩)) (args := [(PySem.Expr.Name "told" ⟨97, 26, 97, 30⟩), (PySem.Expr.Name "tuple" ⟨97, 32, 97, 37⟩)]) (keywords := []) (pos := ⟨97, 15, 97, 38⟩))) (pos := ⟨97, 11, 97, 38⟩)), (PySem.Expr.UnaryOp (op := PySem.UnaryOp.Not) (operand := (PySem.Expr.Call (func := (PySem.Expr.Name "all" ⟨97, 46, 97, 49⟩)) (args := [ (PySem.Expr.ListComp (elt := (PySem.Expr.Compare (left := (PySem.Expr.Name "later" ⟨97, 51, 97, 56⟩)) (ops := [PySem.CmpOp.In]) (comparators := [(PySem.Expr.Name "due" ⟨97, 60, 97, 63⟩)]) (pos := ⟨97, 51, 97, 63⟩))) (generators := [ { target := (PySem.Expr.Name "later" ⟨97, 68, 97, 73⟩), iter := (PySem.Expr.Name "told" ⟨97, 77, 97, 81⟩), ifs := [], is_async := 0 : PySem.Comprehension }]) (scope := { kind := PySem.ScopeKind.function, names := [ (PySem.Str.ofString ".0", PySem.NameKind.local), (PySem.Str.ofString "later", PySem.NameKind.local), (PySem.Str.ofString "due", PySem.NameKind.free)], isGenerator := false, isCoroutine := false, more := [] : PySem.Scope }) (pos := ⟨97, 50, 97, 82⟩))]) (keywords := []) (pos := ⟨97, 46, 97, 83⟩))) (pos := ⟨97, 42, 97, 83⟩)), (PySem.Expr.Compare (left := (PySem.Expr.Name "one" ⟨97, 87, 97, 90⟩)) (ops := [PySem.CmpOp.NotIn]) (comparators := [(PySem.Expr.Name "told" ⟨97, 98, 97, 102⟩)]) (pos := ⟨97, 87, 97, 102⟩))]) (pos := ⟨97, 11, 97, 102⟩))) (body := [ (PySem.Stmt.Return (some (PySem.Expr.Constant (PySem.Const.bool false) 0 ⟨98, 19, 98, 24⟩)) ⟨98, 12, 98, 24⟩)]) (orelse := []) (pos := ⟨97, 8, 98, 24⟩))]) (orelse := []) (pos := ⟨95, 4, 98, 24⟩)), (PySem.Stmt.Return (some (PySem.Expr.Constant (PySem.Const.bool true) 0 ⟨99, 11, 99, 15⟩)) ⟨99, 4, 99, 15⟩)] := rfl
theorem bd_law : defBody (df_law).st = [ (PySem.Stmt.Assign (targets := [(PySem.Expr.Name "d" ⟨101, 4, 101, 5⟩)]) (value := (PySem.Expr.Call (func := (PySem.Expr.Name "_law_begin" ⟨101, 8, 101, 18⟩)) (args := [(PySem.Expr.Name "script" ⟨101, 19, 101, 25⟩)]) (keywords := []) (pos := ⟨101, 8, 101, 26⟩))) (pos := ⟨101, 4, 101, 26⟩)), (PySem.Stmt.Assign (targets := [(PySem.Expr.Name "sensors" ⟨102, 4, 102, 11⟩)]) (value := (PySem.Expr.Call (func := (PySem.Expr.Name "_law_sensors" ⟨102, 14, 102, 26⟩)) (args := [(PySem.Expr.Name "d" ⟨102, 27, 102, 28⟩), (PySem.Expr.Constant (PySem.Const.int 4) 0 ⟨102, 30, 102, 31⟩)]) (keywords := []) (pos := ⟨102, 14, 102, 32⟩))) (pos := ⟨102, 4, 102, 32⟩)), (PySem.Stmt.Assign (targets := [(PySem.Expr.Name "faults" ⟨103, 4, 103, 10⟩)]) (value := (PySem.Expr.Call (func := (PySem.Expr.Name "_law_faults" ⟨103, 13, 103, 24⟩)) (args := [ (PySem.Expr.Name "d" ⟨103, 25, 103, 26⟩), (PySem.Expr.Call (func := (PySem.Expr.Name "len" ⟨103, 28, 103, 31⟩)) (args := [(PySem.Expr.Name "sensors" ⟨103, 32, 103, 39⟩)]) (keywords := []) (pos := ⟨103, 28, 103, 40⟩))]) (keywords := []) (pos := ⟨103, 13, 103, 41⟩))) (pos := ⟨103, 4, 103, 41⟩)), (PySem.Stmt.Assign (targets := [(PySem.Expr.Name "turned" ⟨104, 4, 104, 10⟩)]) (value := (PySem.Expr.Call (func := (PySem.Expr.Name "tuple" ⟨104, 13, 104, 18⟩)) (args := [ (PySem.Expr.ListComp (elt := (PySem.Expr.Subscript (value := (PySem.Expr.Name "faults" ⟨104, 20, 104, 26⟩)) (slice := (PySem.Expr.BinOp (left := (PySem.Expr.BinOp (left := (PySem.Expr.Call (func := (PySem.Expr.Name "len" ⟨104, 27, 104, 30⟩)) (args := [(PySem.Expr.Name "faults" ⟨104, 31, 104, 37⟩)]) (keywords := []) (pos := ⟨104, 27, 104, 38⟩))) (op := PySem.Operator.Sub) (right := (PySem.Expr.Constant (PySem.Const.int 1) 0 ⟨104, 41, 104, 42⟩)) (pos := ⟨104, 27, 104, 42⟩))) (op := PySem.Operator.Sub) (right := (PySem.Expr.Name "k" ⟨104, 45, 104, 46⟩)) (pos := ⟨104, 27, 104, 46⟩))) (pos := ⟨104, 20, 104, 47⟩))) (generators := [ { target := (PySem.Expr.Name "k" ⟨104, 52, 104, 53⟩), iter := (PySem.Expr.Call (func := (PySem.Expr.Name "range" ⟨104, 57, 104, 62⟩)) (args := [ (PySem.Expr.Call (func := (PySem.Expr.Name "len" ⟨104, 63, 104, 66⟩)) (args := [(PySem.Expr.Name "faults" ⟨104, 67, 104, 73⟩)]) (keywords := []) (pos := ⟨104, 63, 104, 74⟩))]) (keywords := []) (pos := ⟨104, 57, 104, 75⟩)), ifs := [], is_async := 0 : PySem.Comprehension }]) (scope := { kind := PySem.ScopeKind.function, names := [ (PySem.Str.ofString ".0", PySem.NameKind.local), (PySem.Str.ofString "k", PySem.NameKind.local), (PySem.Str.ofString "len", PySem.NameKind.globalImplicit), (PySem.Str.ofString "faults", PySem.NameKind.free)], isGenerator := false, isCoroutine := false, more := [] : PySem.Scope }) (pos := ⟨104, 19, 104, 76⟩))]) (keywords := []) (pos := ⟨104, 13, 104, 77⟩))) (pos := ⟨104, 4, 104, 77⟩)), (PySem.Stmt.For (target := (PySem.Expr.Name "turn" ⟨105, 8, 105, 12⟩)) (iter := (PySem.Expr.Call (func := (PySem.Expr.Name "range" ⟨105, 16, 105, 21⟩)) (args := [(PySem.Expr.Constant (PySem.Const.int 2) 0 ⟨105, 22, 105, 23⟩)]) (keywords := []) (pos := ⟨105, 16, 105, 24⟩))) (body := [ (PySem.Stmt.For (target := (PySem.Expr.Name "struck" ⟨106, 12, 106, 18⟩)) (iter := (PySem.Expr.Call (func := (PySem.Expr.Name "_law_subsets" ⟨106, 22, 106, 34⟩)) (args := [ (PySem.Expr.Call (func := (PySem.Expr.Name "list" ⟨106, 35, 106, 39⟩)) (args := [ (PySem.Expr.Call (func := (PySem.Expr.Name "range" ⟨106, 40, 106, 45⟩)) (args := [ (PySem.Expr.Call (func := (PySem.Expr.Name "len" ⟨106, 46, 106, 49⟩)) (args := [(PySem.Expr.Name "faults" ⟨106, 50, 106, 56⟩)]) (keywords := []) (pos := ⟨106, 46, 106, 57⟩))]) (keywords := []) (pos := ⟨106, 40, 106, 58⟩))]) (keywords := []) (pos := ⟨106, 35, 106, 59⟩))]) (keywords := []) (pos := ⟨106, 22, 106, 60⟩))) (body := [ (PySem.Stmt.For (target := (PySem.Expr.Name "row" ⟨107, 16, 107, 19⟩)) (iter := (PySem.Expr.Tuple (elts := [(PySem.Expr.Name "faults" ⟨107, 24, 107, 30⟩), (PySem.Expr.Name "turned" ⟨107, 32, 107, 38⟩)]) (k := 0) (pos := ⟨107, 23, 107, 39⟩))) (body := [ (PySem.Stmt.Assign (targets := [(PySem.Expr.Name "told" ⟨108, 16, 108, 20⟩)]) (value := (PySem.Expr.Call (func := (PySem.Expr.Name "broken_by" ⟨108, 23, 108, 32⟩)) (args := [ (PySem.Expr.Name "sensors" ⟨108, 33, 108, 40⟩), (PySem.Expr.Name "row" ⟨108, 42, 108, 45⟩), (PySem.Expr.Name "struck" ⟨108, 47, 108, 53⟩)]) (keywords := []) (pos := ⟨108, 23, 108, 54⟩))) (pos := ⟨108, 16, 108, 54⟩)), (PySem.Stmt.If (test := (PySem.Expr.BoolOp (op := PySem.BoolOp.Or) (values := [ (PySem.Expr.UnaryOp (op := PySem.UnaryOp.Not) (operand := (PySem.Expr.Call (func := (PySem.Expr.Name "isinstance" ⟨109, 23, 109, 33⟩)) (args := [(PySem.Expr.Name "told" ⟨109, 34, 109, 38⟩), (PySem.Expr.Name "tuple" ⟨109, 40, 109, 45⟩)]) (keywords := []) (pos := ⟨109, 23, 109, 46⟩))) (pos := ⟨109, 19, 109, 46⟩)), (PySem.Expr.Compare (left := (PySem.Expr.Name "told" ⟨109, 50, 109, 54⟩)) (ops := [PySem.CmpOp.NotEq]) (comparators := [ (PySem.Expr.Call (func := (PySem.Expr.Name "_law_broken" ⟨109, 58, 109, 69⟩)) (args := [ (PySem.Expr.Name "sensors" ⟨109, 70, 109, 77⟩), (PySem.Expr.Name "row" ⟨109, 79, 109, 82⟩), (PySem.Expr.Name "struck" ⟨109, 84, 109, 90⟩)]) (keywords := []) (pos := ⟨109, 58, 109, 91⟩))]) (pos := ⟨109, 50, 109, 91⟩))]) (pos := ⟨109, 19, 109, 91⟩))) (body := [ (PySem.Stmt.Return (value := (some (PySem.Expr.Constant (PySem.Const.bool false) 0 ⟨110, 27, 110, 32⟩))) (pos := ⟨110, 20, 110, 32⟩))]) (orelse := []) (pos := ⟨109, 16, 110, 32⟩)), (PySem.Stmt.For (target := (PySem.Expr.Name "most" ⟨111, 20, 111, 24⟩)) (iter := (PySem.Expr.Call (func := (PySem.Expr.Name "range" ⟨111, 28, 111, 33⟩)) (args := [ (PySem.Expr.Call (func := (PySem.Expr.Name "len" ⟨111, 34, 111, 37⟩)) (args := [(PySem.Expr.Name "struck" ⟨111, 38, 111, 44⟩)]) (keywords := []) (pos := ⟨111, 34, 111, 45⟩)), (PySem.Expr.Constant (PySem.Const.int 4) 0 ⟨111, 47, 111, 48⟩)]) (keywords := []) (pos := ⟨111, 28, 111, 49⟩))) (body := [ (PySem.Stmt.If (test := (PySem.Expr.UnaryOp (op := PySem.UnaryOp.Not) (operand := (PySem.Expr.Call (func := (PySem.Expr.Name "_law_right_chain" ⟨112, 27, 112, 43⟩)) (args := [ (PySem.Expr.Name "row" ⟨112, 44, 112, 47⟩), (PySem.Expr.Name "most" ⟨112, 49, 112, 53⟩), (PySem.Expr.Name "struck" ⟨112, 55, 112, 61⟩)]) (keywords := []) (pos := ⟨112, 27, 112, 62⟩))) (pos := ⟨112, 23, 112, 62⟩))) (body := [ (PySem.Stmt.Return (value := (some (PySem.Expr.Constant (PySem.Const.bool false) 0 ⟨113, 31, 113, 36⟩))) (pos := ⟨113, 24, 113, 36⟩))]) (orelse := []) (pos := ⟨112, 20, 113, 36⟩))]) (orelse := []) (pos := ⟨111, 16, 113, 36⟩))]) (orelse := []) (pos := ⟨107, 12, 113, 36⟩))]) (orelse := []) (pos := ⟨106, 8, 113, 36⟩))]) (orelse := []) (pos := ⟨105, 4, 113, 36⟩)), (PySem.Stmt.Return (value := (some (PySem.Expr.Constant (PySem.Const.bool true) 0 ⟨114, 11, 114, 15⟩))) (pos := ⟨114, 4, 114, 15⟩))] := rfl
theorem st_inside (cs : Cs) (a0 a1 : D) : runP cs df_inside [a0, a1] = valP (ssE (frame cs ⟨df_inside.drop, false⟩ 60) (fmOf df_inside) [ (PySem.Stmt.Return (value := (some (PySem.Expr.BoolOp (op := PySem.BoolOp.And) (values := [ (PySem.Expr.Compare (left := (PySem.Expr.Call (func := (PySem.Expr.Name "len" ⟨3, 11, 3, 14⟩)) (args := [(PySem.Expr.Name "first" ⟨3, 15, 3, 20⟩)]) (keywords := []) (pos := ⟨3, 11, 3, 21⟩))) (ops := [PySem.CmpOp.LtE]) (comparators := [ (PySem.Expr.Call (func := (PySem.Expr.Name "len" ⟨3, 25, 3, 28⟩)) (args := [(PySem.Expr.Name "second" ⟨3, 29, 3, 35⟩)]) (keywords := []) (pos := ⟨3, 25, 3, 36⟩))]) (pos := ⟨3, 11, 3, 36⟩)), (PySem.Expr.Compare (left := (PySem.Expr.Call (func := (PySem.Expr.Name "len" ⟨3, 41, 3, 44⟩)) (args := [ (PySem.Expr.BinOp (left := (PySem.Expr.Call (func := (PySem.Expr.Name "set" ⟨3, 45, 3, 48⟩)) (args := [(PySem.Expr.Name "first" ⟨3, 49, 3, 54⟩)]) (keywords := []) (pos := ⟨3, 45, 3, 55⟩))) (op := PySem.Operator.Sub) (right := (PySem.Expr.Call (func := (PySem.Expr.Name "set" ⟨3, 58, 3, 61⟩)) (args := [(PySem.Expr.Name "second" ⟨3, 62, 3, 68⟩)]) (keywords := []) (pos := ⟨3, 58, 3, 69⟩))) (pos := ⟨3, 45, 3, 69⟩))]) (keywords := []) (pos := ⟨3, 41, 3, 70⟩))) (ops := [PySem.CmpOp.Eq]) (comparators := [(PySem.Expr.Constant (PySem.Const.int 0) 0 ⟨3, 74, 3, 75⟩)]) (pos := ⟨3, 41, 3, 75⟩))]) (pos := ⟨3, 11, 3, 75⟩)))) (pos := ⟨3, 4, 3, 75⟩))] [Sl.val a0, Sl.val a1]) := runP_eq (k := 2) (m := 2) rfl rfl bd_inside rfl (show List.map Sl.val ([a0, a1] : List D) ++ List.replicate (2 - 2) Sl.non = [Sl.val a0, Sl.val a1] from rfl)
theorem st_subsets_of (cs : Cs) (a0 : D) : runP cs df_subsets_of [a0] = valP (ssE (frame cs ⟨df_subsets_of.drop, false⟩ 60) (fmOf df_subsets_of) [ (PySem.Stmt.Assign (targets := [(PySem.Expr.Name "found" ⟨5, 4, 5, 9⟩)]) (value := (PySem.Expr.List [(PySem.Expr.Tuple [] 0 ⟨5, 13, 5, 15⟩)] ⟨5, 12, 5, 16⟩)) (pos := ⟨5, 4, 5, 16⟩)), (PySem.Stmt.For (target := (PySem.Expr.Name "member" ⟨6, 8, 6, 14⟩)) (iter := (PySem.Expr.Name "members" ⟨6, 18, 6, 25⟩)) (body := [ (PySem.Stmt.Assign (targets := [(PySem.Expr.Name "found" ⟨7, 8, 7, 13⟩)]) (value := (PySem.Expr.BinOp (left := (PySem.Expr.Name "found" ⟨7, 16, 7, 21⟩)) (op := PySem.Operator.Add) (right := (PySem.Expr.ListComp (elt := (PySem.Expr.BinOp (left := (PySem.Expr.Name "some" ⟨7, 25, 7, 29⟩)) (op := PySem.Operator.Add) (right := (PySem.Expr.Tuple [(PySem.Expr.Name "member" ⟨7, 33, 7, 39⟩)] 0 ⟨7, 32, 7, 41⟩)) (pos := ⟨7, 25, 7, 41⟩))) (generators := [ { target := (PySem.Expr.Name "some" ⟨7, 46, 7, 50⟩), iter := (PySem.Expr.Name "found" ⟨7, 54, 7, 59⟩), ifs := [], is_async := 0 : PySem.Comprehension }]) (scope := { kind := PySem.ScopeKind.function, names := [ (PySem.Str.ofString ".0", PySem.NameKind.local), (PySem.Str.ofString "some", PySem.NameKind.local), (PySem.Str.ofString "member", PySem.NameKind.free)], isGenerator := false, isCoroutine := false, more := [] : PySem.Scope }) (pos := ⟨7, 24, 7, 60⟩))) (pos := ⟨7, 16, 7, 60⟩))) (pos := ⟨7, 8, 7, 60⟩))]) (orelse := []) (pos := ⟨6, 4, 7, 60⟩)), (PySem.Stmt.Return (value := (some (PySem.Expr.Call (func := (PySem.Expr.Name "tuple" ⟨8, 11, 8, 16⟩)) (args := [ (PySem.Expr.Call (func := (PySem.Expr.Name "sorted" ⟨8, 17, 8, 23⟩)) (args := [(PySem.Expr.Name "found" ⟨8, 24, 8, 29⟩)]) (keywords := []) (pos := ⟨8, 17, 8, 30⟩))]) (keywords := []) (pos := ⟨8, 11, 8, 31⟩)))) (pos := ⟨8, 4, 8, 31⟩))] [Sl.val a0, Sl.non, Sl.non, Sl.non]) := runP_eq (k := 1) (m := 4) rfl rfl bd_subsets_of rfl (show List.map Sl.val ([a0] : List D) ++ List.replicate (4 - 1) Sl.non = [Sl.val a0, Sl.non, Sl.non, Sl.non] from rfl)
theorem st_strikes (cs : Cs) (a0 a1 a2 : D) : runP cs df_strikes [a0, a1, a2] = valP (ssE (frame cs ⟨df_strikes.drop, false⟩ 60) (fmOf df_strikes) [ (PySem.Stmt.Assign (targets := [(PySem.Expr.Name "every" ⟨11, 4, 11, 9⟩)]) (value := (PySem.Expr.Call (func := (PySem.Expr.Name "subsets_of" ⟨11, 12, 11, 22⟩)) (args := [ (PySem.Expr.Call (func := (PySem.Expr.Name "tuple" ⟨11, 23, 11, 28⟩)) (args := [ (PySem.Expr.Call (func := (PySem.Expr.Name "range" ⟨11, 29, 11, 34⟩)) (args := [ (PySem.Expr.Call (func := (PySem.Expr.Name "len" ⟨11, 35, 11, 38⟩)) (args := [(PySem.Expr.Name "faults" ⟨11, 39, 11, 45⟩)]) (keywords := []) (pos := ⟨11, 35, 11, 46⟩))]) (keywords := []) (pos := ⟨11, 29, 11, 47⟩))]) (keywords := []) (pos := ⟨11, 23, 11, 48⟩))]) (keywords := []) (pos := ⟨11, 12, 11, 49⟩))) (pos := ⟨11, 4, 11, 49⟩)), (PySem.Stmt.Return (value := (some (PySem.Expr.Call (func := (PySem.Expr.Name "tuple" ⟨12, 11, 12, 16⟩)) (args := [ (PySem.Expr.ListComp (elt := (PySem.Expr.Name "some" ⟨12, 18, 12, 22⟩)) (generators := [ { target := (PySem.Expr.Name "some" ⟨12, 27, 12, 31⟩), iter := (PySem.Expr.Name "every" ⟨12, 35, 12, 40⟩), ifs := [ (PySem.Expr.BoolOp (op := PySem.BoolOp.And) (values := [ (PySem.Expr.Compare (left := (PySem.Expr.Call (func := (PySem.Expr.Name "len" ⟨12, 44, 12, 47⟩)) (args := [(PySem.Expr.Name "some" ⟨12, 48, 12, 52⟩)]) (keywords := []) (pos := ⟨12, 44, 12, 53⟩))) (ops := [PySem.CmpOp.LtE]) (comparators := [(PySem.Expr.Name "most" ⟨12, 57, 12, 61⟩)]) (pos := ⟨12, 44, 12, 61⟩)), (PySem.Expr.Call (func := (PySem.Expr.Name "inside" ⟨12, 66, 12, 72⟩)) (args := [(PySem.Expr.Name "struck" ⟨12, 73, 12, 79⟩), (PySem.Expr.Name "some" ⟨12, 81, 12, 85⟩)]) (keywords := []) (pos := ⟨12, 66, 12, 86⟩))]) (pos := ⟨12, 44, 12, 86⟩))], is_async := 0 : PySem.Comprehension }]) (scope := { kind := PySem.ScopeKind.function, names := [ (PySem.Str.ofString ".0", PySem.NameKind.local), (PySem.Str.ofString "some", PySem.NameKind.local), (PySem.Str.ofString "len", PySem.NameKind.globalImplicit), (PySem.Str.ofString "inside", PySem.NameKind.globalImplicit), (PySem.Str.ofString "most", PySem.NameKind.free), (PySem.Str.ofString "struck", PySem.NameKind.free)], isGenerator := false, isCoroutine := false, more := [] : PySem.Scope }) (pos := ⟨12, 17, 12, 87⟩))]) (keywords := []) (pos := ⟨12, 11, 12, 88⟩)))) (pos := ⟨12, 4, 12, 88⟩))] [Sl.val a0, Sl.val a1, Sl.val a2, Sl.non, Sl.non]) := runP_eq (k := 3) (m := 5) rfl rfl bd_strikes rfl (show List.map Sl.val ([a0, a1, a2] : List D) ++ List.replicate (5 - 3) Sl.non = [Sl.val a0, Sl.val a1, Sl.val a2, Sl.non, Sl.non] from rfl)
theorem st_broken_by (cs : Cs) (a0 a1 a2 : D) : runP cs df_broken_by [a0, a1, a2] = valP (ssE (frame cs ⟨df_broken_by.drop, false⟩ 60) (fmOf df_broken_by) [ (PySem.Stmt.Assign (targets := [(PySem.Expr.Name "present" ⟨14, 4, 14, 11⟩)]) (value := (PySem.Expr.ListComp (elt := (PySem.Expr.Subscript (value := (PySem.Expr.Name "faults" ⟨14, 15, 14, 21⟩)) (slice := (PySem.Expr.Name "number" ⟨14, 22, 14, 28⟩)) (pos := ⟨14, 15, 14, 29⟩))) (generators := [ { target := (PySem.Expr.Name "number" ⟨14, 34, 14, 40⟩), iter := (PySem.Expr.Name "struck" ⟨14, 44, 14, 50⟩), ifs := [], is_async := 0 : PySem.Comprehension }]) (scope := { kind := PySem.ScopeKind.function, names := [ (PySem.Str.ofString ".0", PySem.NameKind.local), (PySem.Str.ofString "number", PySem.NameKind.local), (PySem.Str.ofString "faults", PySem.NameKind.free)], isGenerator := false, isCoroutine := false, more := [] : PySem.Scope }) (pos := ⟨14, 14, 14, 51⟩))) (pos := ⟨14, 4, 14, 51⟩)), (PySem.Stmt.Return (value := (some (PySem.Expr.Call (func := (PySem.Expr.Name "tuple" ⟨15, 11, 15, 16⟩)) (args := [ (PySem.Expr.ListComp (elt := (PySem.Expr.Call (func := (PySem.Expr.Name "_broken" ⟨15, 18, 15, 25⟩)) (args := [(PySem.Expr.Name "present" ⟨15, 26, 15, 33⟩), (PySem.Expr.Name "sensor" ⟨15, 35, 15, 41⟩)]) (keywords := []) (pos := ⟨15, 18, 15, 42⟩))) (generators := [ { target := (PySem.Expr.Name "sensor" ⟨15, 47, 15, 53⟩), iter := (PySem.Expr.Call (func := (PySem.Expr.Name "range" ⟨15, 57, 15, 62⟩)) (args := [ (PySem.Expr.Call (func := (PySem.Expr.Name "len" ⟨15, 63, 15, 66⟩)) (args := [(PySem.Expr.Name "sensors" ⟨15, 67, 15, 74⟩)]) (keywords := []) (pos := ⟨15, 63, 15, 75⟩))]) (keywords := []) (pos := ⟨15, 57, 15, 76⟩)), ifs := [], is_async := 0 : PySem.Comprehension }]) (scope := { kind := PySem.ScopeKind.function, names := [ (PySem.Str.ofString ".0", PySem.NameKind.local), (PySem.Str.ofString "sensor", PySem.NameKind.local), (PySem.Str.ofString "_broken", PySem.NameKind.globalImplicit), (PySem.Str.ofString "present", PySem.NameKind.free)], isGenerator := false, isCoroutine := false, more := [] : PySem.Scope }) (pos := ⟨15, 17, 15, 77⟩))]) (keywords := []) (pos := ⟨15, 11, 15, 78⟩)))) (pos := ⟨15, 4, 15, 78⟩))] [Sl.val a0, Sl.val a1, Sl.val a2, Sl.non, Sl.non, Sl.non]) := runP_eq (k := 3) (m := 6) rfl rfl bd_broken_by rfl (show List.map Sl.val ([a0, a1, a2] : List D) ++ List.replicate (6 - 3) Sl.non = [Sl.val a0, Sl.val a1, Sl.val a2, Sl.non, Sl.non, Sl.non] from rfl)
theorem st_broken (cs : Cs) (a0 a1 : D) : runP cs df_broken [a0, a1] = valP (ssE (frame cs ⟨df_broken.drop, false⟩ 60) (fmOf df_broken) [ (PySem.Stmt.If (test := (PySem.Expr.Compare (left := (PySem.Expr.Tuple (elts := [ (PySem.Expr.Constant (PySem.Const.str "wild") 0 ⟨17, 8, 17, 14⟩), (PySem.Expr.Name "sensor" ⟨17, 16, 17, 22⟩)]) (k := 0) (pos := ⟨17, 7, 17, 23⟩))) (ops := [PySem.CmpOp.In]) (comparators := [(PySem.Expr.Name "present" ⟨17, 27, 17, 34⟩)]) (pos := ⟨17, 7, 17, 34⟩))) (body := [(PySem.Stmt.Return (some (PySem.Expr.Constant (PySem.Const.str "wild") 0 ⟨18, 15, 18, 21⟩)) ⟨18, 8, 18, 21⟩)]) (orelse := []) (pos := ⟨17, 4, 18, 21⟩)), (PySem.Stmt.Return (value := (some (PySem.Expr.IfExp (test := (PySem.Expr.Compare (left := (PySem.Expr.Tuple (elts := [ (PySem.Expr.Constant (PySem.Const.str "dead") 0 ⟨19, 22, 19, 28⟩), (PySem.Expr.Name "sensor" ⟨19, 30, 19, 36⟩)]) (k := 0) (pos := ⟨19, 21, 19, 37⟩))) (ops := [PySem.CmpOp.In]) (comparators := [(PySem.Expr.Name "present" ⟨19, 41, 19, 48⟩)]) (pos := ⟨19, 21, 19, 48⟩))) (body := (PySem.Expr.Constant (PySem.Const.str "dead") 0 ⟨19, 11, 19, 17⟩)) (orelse := (PySem.Expr.Constant PySem.Const.none 0 ⟨19, 54, 19, 58⟩)) (pos := ⟨19, 11, 19, 58⟩)))) (pos := ⟨19, 4, 19, 58⟩))] [Sl.val a0, Sl.val a1]) := runP_eq (k := 2) (m := 2) rfl rfl bd_broken rfl (show List.map Sl.val ([a0, a1] : List D) ++ List.replicate (2 - 2) Sl.non = [Sl.val a0, Sl.val a1] from rfl)
theorem st_law_begin (cs : Cs) (a0 : D) : runF cs df_law_begin [a0] = valF (ssE (frame cs ⟨df_law_begin.drop, true⟩ 60) (fmOf df_law_begin) [ (PySem.Stmt.Return (value := (some (PySem.Expr.List (elts := [ (PySem.Expr.ListComp (elt := (PySem.Expr.Call (func := (PySem.Expr.Name "int" ⟨22, 13, 22, 16⟩)) (args := [(PySem.Expr.Name "cell" ⟨22, 17, 22, 21⟩)]) (keywords := []) (pos := ⟨22, 13, 22, 22⟩))) (generators := [ { target := (PySem.Expr.Name "cell" ⟨22, 27, 22, 31⟩), iter := (PySem.Expr.Name "script" ⟨22, 35, 22, 41⟩), ifs := [], is_async := 0 : PySem.Comprehension }]) (scope := { kind := PySem.ScopeKind.function, names := [ (PySem.Str.ofString ".0", PySem.NameKind.local), (PySem.Str.ofString "cell", PySem.NameKind.local), (PySem.Str.ofString "int", PySem.NameKind.globalImplicit)], isGenerator := false, isCoroutine := false, more := [] : PySem.Scope }) (pos := ⟨22, 12, 22, 42⟩)), (PySem.Expr.Constant (PySem.Const.int 0) 0 ⟨22, 44, 22, 45⟩), (PySem.Expr.Constant (PySem.Const.int 0) 0 ⟨22, 47, 22, 48⟩), (PySem.Expr.Constant (PySem.Const.int 7) 0 ⟨22, 50, 22, 51⟩)]) (pos := ⟨22, 11, 22, 52⟩)))) (pos := ⟨22, 4, 22, 52⟩))] [Sl.val a0, Sl.non]) := runF_eq (k := 1) (m := 2) rfl rfl bd_law_begin rfl (show List.map Sl.val ([a0] : List D) ++ List.replicate (2 - 1) Sl.non = [Sl.val a0, Sl.non] from rfl)
theorem st_law_draw (cs : Cs) (d0 : Ct) (a0 : D) : runO cs df_law_draw d0 [a0] = valO (ssE (frame cs ⟨df_law_draw.drop, false⟩ 60) (fmOf df_law_draw) [ (PySem.Stmt.If (test := (PySem.Expr.Compare (left := (PySem.Expr.Subscript (value := (PySem.Expr.Name "d" ⟨24, 7, 24, 8⟩)) (slice := (PySem.Expr.Constant (PySem.Const.int 2) 0 ⟨24, 9, 24, 10⟩)) (pos := ⟨24, 7, 24, 11⟩))) (ops := [PySem.CmpOp.Gt]) (comparators := [(PySem.Expr.Constant (PySem.Const.int 0) 0 ⟨24, 14, 24, 15⟩)]) (pos := ⟨24, 7, 24, 15⟩))) (body := [ (PySem.Stmt.Assign (targets := [(PySem.Expr.Name "found" ⟨25, 8, 25, 13⟩)]) (value := (PySem.Expr.Subscript (value := (PySem.Expr.Name "d" ⟨25, 16, 25, 17⟩)) (slice := (PySem.Expr.Constant (PySem.Const.int 2) 0 ⟨25, 18, 25, 19⟩)) (pos := ⟨25, 16, 25, 20⟩))) (pos := ⟨25, 8, 25, 20⟩)), (PySem.Stmt.Assign (targets := [ (PySem.Expr.Subscript (value := (PySem.Expr.Name "d" ⟨26, 8, 26, 9⟩)) (slice := (PySem.Expr.Constant (PySem.Const.int 2) 0 ⟨26, 10, 26, 11⟩)) (pos := ⟨26, 8, 26, 12⟩))]) (value := (PySem.Expr.BinOp (left := (PySem.Expr.Name "found" ⟨26, 15, 26, 20⟩)) (op := PySem.Operator.FloorDiv) (right := (PySem.Expr.Name "many" ⟨26, 24, 26, 28⟩)) (pos := ⟨26, 15, 26, 28⟩))) (pos := ⟨26, 8, 26, 28⟩)), (PySem.Stmt.Return (value := (some (PySem.Expr.BinOp (left := (PySem.Expr.Call (func := (PySem.Expr.Name "int" ⟨27, 15, 27, 18⟩)) (args := [(PySem.Expr.Name "found" ⟨27, 19, 27, 24⟩)]) (keywords := []) (pos := ⟨27, 15, 27, 25⟩))) (op := PySem.Operator.Mod) (right := (PySem.Expr.Name "many" ⟨27, 28, 27, 32⟩)) (pos := ⟨27, 15, 27, 32⟩)))) (pos := ⟨27, 8, 27, 32⟩))]) (orelse := []) (pos := ⟨24, 4, 27, 32⟩)), (PySem.Stmt.Assign (targets := [(PySem.Expr.Name "size" ⟨28, 4, 28, 8⟩)]) (value := (PySem.Expr.Constant (PySem.Const.int 0) 0 ⟨28, 11, 28, 12⟩)) (pos := ⟨28, 4, 28, 12⟩)), (PySem.Stmt.If (test := (PySem.Expr.Compare (left := (PySem.Expr.Subscript (value := (PySem.Expr.Name "d" ⟨29, 7, 29, 8⟩)) (slice := (PySem.Expr.Constant (PySem.Const.int 1) 0 ⟨29, 9, 29, 10⟩)) (pos := ⟨29, 7, 29, 11⟩))) (ops := [PySem.CmpOp.Lt]) (comparators := [ (PySem.Expr.Call (func := (PySem.Expr.Name "len" ⟨29, 14, 29, 17⟩)) (args := [ (PySem.Expr.Subscript (value := (PySem.Expr.Name "d" ⟨29, 18, 29, 19⟩)) (slice := (PySem.Expr.Constant (PySem.Const.int 0) 0 ⟨29, 20, 29, 21⟩)) (pos := ⟨29, 18, 29, 22⟩))]) (keywords := []) (pos := ⟨29, 14, 29, 23⟩))]) (pos := ⟨29, 7, 29, 23⟩))) (body := [ (PySem.Stmt.Assign (targets := [(PySem.Expr.Name "cell" ⟨30, 8, 30, 12⟩)]) (value := (PySem.Expr.Subscript (value := (PySem.Expr.Subscript (value := (PySem.Expr.Name "d" ⟨30, 15, 30, 16⟩)) (slice := (PySem.Expr.Constant (PySem.Const.int 0) 0 ⟨30, 17, 30, 18⟩)) (pos := ⟨30, 15, 30, 19⟩))) (slice := (PySem.Expr.Subscript (value := (PySem.Expr.Name "d" ⟨30, 20, 30, 21⟩)) (slice := (PySem.Expr.Constant (PySem.Const.int 1) 0 ⟨30, 22, 30, 23⟩)) (pos := ⟨30, 20, 30, 24⟩))) (pos := ⟨30, 15, 30, 25⟩))) (pos := ⟨30, 8, 30, 25⟩)), (PySem.Stmt.Assign (targets := [(PySem.Expr.Name "size" ⟨31, 8, 31, 12⟩)]) (value := (PySem.Expr.BinOp (left := (PySem.Expr.BinOp (left := (PySem.Expr.Constant (PySem.Const.int 2) 0 ⟨31, 15, 31, 16⟩)) (op := PySem.Operator.Mult) (right := (PySem.Expr.Call (func := (PySem.Expr.Name "abs" ⟨31, 19, 31, 22⟩)) (args := [(PySem.Expr.Name "cell" ⟨31, 23, 31, 27⟩)]) (keywords := []) (pos := ⟨31, 19, 31, 28⟩))) (pos := ⟨31, 15, 31, 28⟩))) (op := PySem.Operator.Add) (right := (PySem.Expr.Call (func := (PySem.Expr.Name "int" ⟨31, 31, 31, 34⟩)) (args := [ (PySem.Expr.Compare (left := (PySem.Expr.Name "cell" ⟨31, 35, 31, 39⟩)) (ops := [PySem.CmpOp.Lt]) (comparators := [(PySem.Expr.Constant (PySem.Const.int 0) 0 ⟨31, 42, 31, 43⟩)]) (pos := ⟨31, 35, 31, 43⟩))]) (keywords := []) (pos := ⟨31, 31, 31, 44⟩))) (pos := ⟨31, 15, 31, 44⟩))) (pos := ⟨31, 8, 31, 44⟩))]) (orelse := []) (pos := ⟨29, 4, 31, 44⟩)), (PySem.Stmt.AugAssign (target := (PySem.Expr.Subscript (value := (PySem.Expr.Name "d" ⟨32, 4, 32, 5⟩)) (slice := (PySem.Expr.Constant (PySem.Const.int 1) 0 ⟨32, 6, 32, 7⟩)) (pos := ⟨32, 4, 32, 8⟩))) (op := PySem.Operator.Add) (value := (PySem.Expr.Constant (PySem.Const.int 1) 0 ⟨32, 12, 32, 13⟩)) (pos := ⟨32, 4, 32, 13⟩)), (PySem.Stmt.If (test := (PySem.Expr.Compare (left := (PySem.Expr.Name "size" ⟨33, 7, 33, 11⟩)) (ops := [PySem.CmpOp.GtE]) (comparators := [ (PySem.Expr.BinOp (left := (PySem.Expr.Constant (PySem.Const.int 2) 0 ⟨33, 15, 33, 16⟩)) (op := PySem.Operator.Mult) (right := (PySem.Expr.BinOp (left := (PySem.Expr.Constant (PySem.Const.int 10) 0 ⟨33, 19, 33, 21⟩)) (op := PySem.Operator.Pow) (right := (PySem.Expr.Constant (PySem.Const.int 18) 0 ⟨33, 25, 33, 27⟩)) (pos := ⟨33, 19, 33, 27⟩))) (pos := ⟨33, 15, 33, 27⟩))]) (pos := ⟨33, 7, 33, 27⟩))) (body := [ (PySem.Stmt.Assign (targets := [(PySem.Expr.Name "found" ⟨34, 8, 34, 13⟩)]) (value := (PySem.Expr.BinOp (left := (PySem.Expr.Call (func := (PySem.Expr.Name "int" ⟨34, 16, 34, 19⟩)) (args := [ (PySem.Expr.BinOp (left := (PySem.Expr.Name "size" ⟨34, 20, 34, 24⟩)) (op := PySem.Operator.FloorDiv) (right := (PySem.Expr.Constant (PySem.Const.int 2) 0 ⟨34, 28, 34, 29⟩)) (pos := ⟨34, 20, 34, 29⟩))]) (keywords := []) (pos := ⟨34, 16, 34, 30⟩))) (op := PySem.Operator.Mod) (right := (PySem.Expr.BinOp (left := (PySem.Expr.Constant (PySem.Const.int 1) 0 ⟨34, 34, 34, 35⟩)) (op := PySem.Operator.LShift) (right := (PySem.Expr.Constant (PySem.Const.int 6000) 0 ⟨34, 39, 34, 43⟩)) (pos := ⟨34, 34, 34, 43⟩))) (pos := ⟨34, 16, 34, 44⟩))) (pos := ⟨34, 8, 34, 44⟩)), (PySem.Stmt.Assign (targets := [ (PySem.Expr.Subscript (value := (PySem.Expr.Name "d" ⟨35, 8, 35, 9⟩)) (slice := (PySem.Expr.Constant (PySem.Const.int 2) 0 ⟨35, 10, 35, 11⟩)) (pos := ⟨35, 8, 35, 12⟩))]) (value := (PySem.Expr.BinOp (left := (PySem.Expr.Name "found" ⟨35, 15, 35, 20⟩)) (op := PySem.Operator.FloorDiv) (right := (PySem.Expr.Name "many" ⟨35, 24, 35, 28⟩)) (pos := ⟨35, 15, 35, 28⟩))) (pos := ⟨35, 8, 35, 28⟩)), (PySem.Stmt.Return (value := (some (PySem.Expr.BinOp (left := (PySem.Expr.Call (func := (PySem.Expr.Name "int" ⟨36, 15, 36, 18⟩)) (args := [(PySem.Expr.Name "found" ⟨36, 19, 36, 24⟩)]) (keywords := []) (pos := ⟨36, 15, 36, 25⟩))) (op := PySem.Operator.Mod) (right := (PySem.Expr.Name "many" ⟨36, 28, 36, 32⟩)) (pos := ⟨36, 15, 36, 32⟩)))) (pos := ⟨36, 8, 36, 32⟩))]) (orelse := []) (pos := ⟨33, 4, 36, 32⟩)), (PySem.Stmt.Assign (targets := [ (PySem.Expr.Subscript (value := (PySem.Expr.Name "d" ⟨37, 4, 37, 5⟩)) (slice := (PySem.Expr.Constant (PySem.Const.int 3) 0 ⟨37, 6, 37, 7⟩)) (pos := ⟨37, 4, 37, 8⟩))]) (value := (PySem.Expr.BinOp (left := (PySem.Expr.Call (func := (PySem.Expr.Name "int" ⟨37, 11, 37, 14⟩)) (args := [ (PySem.Expr.BinOp (left := (PySem.Expr.BinOp (left := (PySem.Expr.BinOp (left := (PySem.Expr.BinOp (left := (PySem.Expr.Subscript (value := (PySem.Expr.Name "d" ⟨37, 15, 37, 16⟩)) (slice := (PySem.Expr.Constant (PySem.Const.int 3) 0 ⟨37, 17, 37, 18⟩)) (pos := ⟨37, 15, 37, 19⟩))) (op := PySem.Operator.Mult) (right := (PySem.Expr.Constant (PySem.Const.int 48271) 0 ⟨37, 22, 37, 27⟩)) (pos := ⟨37, 15, 37, 27⟩))) (op := PySem.Operator.Add) (right := (PySem.Expr.BinOp (left := (PySem.Expr.BinOp (left := (PySem.Expr.Call (func := (PySem.Expr.Name "int" ⟨37, 30, 37, 33⟩)) (args := [(PySem.Expr.Name "size" ⟨37, 34, 37, 38⟩)]) (keywords := []) (pos := ⟨37, 30, 37, 39⟩))) (op := PySem.Operator.Mod) (right := (PySem.Expr.Constant (PySem.Const.int 2147483629) 0 ⟨37, 42, 37, 52⟩)) (pos := ⟨37, 30, 37, 52⟩))) (op := PySem.Operator.Mult) (right := (PySem.Expr.Constant (PySem.Const.int 16807) 0 ⟨37, 55, 37, 60⟩)) (pos := ⟨37, 30, 37, 60⟩))) (pos := ⟨37, 15, 37, 60⟩))) (op := PySem.Operator.Add) (right := (PySem.Expr.BinOp (left := (PySem.Expr.Subscript (value := (PySem.Expr.Name "d" ⟨37, 63, 37, 64⟩)) (slice := (PySem.Expr.Constant (PySem.Const.int 1) 0 ⟨37, 65, 37, 66⟩)) (pos := ⟨37, 63, 37, 67⟩))) (op := PySem.Operator.Mult) (right := (PySem.Expr.Constant (PySem.Const.int 69621) 0 ⟨37, 70, 37, 75⟩)) (pos := ⟨37, 63, 37, 75⟩))) (pos := ⟨37, 15, 37, 75⟩))) (op := PySem.Operator.Add) (right := (PySem.Expr.Constant (PySem.Const.int 11) 0 ⟨37, 78, 37, 80⟩)) (pos := ⟨37, 15, 37, 80⟩))]) (keywords := []) (pos := ⟨37, 11, 37, 81⟩))) (op := PySem.Operator.Mod) (right := (PySem.Expr.Constant (PySem.Const.int 2147483647) 0 ⟨37, 84, 37, 94⟩)) (pos := ⟨37, 11, 37, 94⟩))) (pos := ⟨37, 4, 37, 94⟩)), (PySem.Stmt.Return (value := (some (PySem.Expr.BinOp (left := (PySem.Expr.Call (func := (PySem.Expr.Name "int" ⟨38, 11, 38, 14⟩)) (args := [ (PySem.Expr.BinOp (left := (PySem.Expr.Subscript (value := (PySem.Expr.Name "d" ⟨38, 15, 38, 16⟩)) (slice := (PySem.Expr.Constant (PySem.Const.int 3) 0 ⟨38, 17, 38, 18⟩)) (pos := ⟨38, 15, 38, 19⟩))) (op := PySem.Operator.FloorDiv) (right := (PySem.Expr.Constant (PySem.Const.int 16) 0 ⟨38, 23, 38, 25⟩)) (pos := ⟨38, 15, 38, 25⟩))]) (keywords := []) (pos := ⟨38, 11, 38, 26⟩))) (op := PySem.Operator.Mod) (right := (PySem.Expr.Name "many" ⟨38, 29, 38, 33⟩)) (pos := ⟨38, 11, 38, 33⟩)))) (pos := ⟨38, 4, 38, 33⟩))] [Sl.own true d0, Sl.val a0, Sl.non, Sl.non, Sl.non]) := runO_eq (k := 2) (m := 5) rfl rfl bd_law_draw rfl (show Sl.own true d0 :: (List.map Sl.val ([a0] : List D) ++ List.replicate (5 - 2) Sl.non) = [Sl.own true d0, Sl.val a0, Sl.non, Sl.non, Sl.non] from rfl)
theorem st_law_pick (cs : Cs) (d0 : Ct) (a0 : D) : runO cs df_law_pick d0 [a0] = valO (ssE (frame cs ⟨df_law_pick.drop, false⟩ 60) (fmOf df_law_pick) [ (PySem.Stmt.Return (value := (some (PySem.Expr.Subscript (value := (PySem.Expr.Name "row" ⟨40, 11, 40, 14⟩)) (slice := (PySem.Expr.Call (func := (PySem.Expr.Name "_law_draw" ⟨40, 15, 40, 24⟩)) (args := [ (PySem.Expr.Name "d" ⟨40, 25, 40, 26⟩), (PySem.Expr.Call (func := (PySem.Expr.Name "len" ⟨40, 28, 40, 31⟩)) (args := [(PySem.Expr.Name "row" ⟨40, 32, 40, 35⟩)]) (keywords := []) (pos := ⟨40, 28, 40, 36⟩))]) (keywords := []) (pos := ⟨40, 15, 40, 37⟩))) (pos := ⟨40, 11, 40, 38⟩)))) (pos := ⟨40, 4, 40, 38⟩))] [Sl.own true d0, Sl.val a0]) := runO_eq (k := 2) (m := 2) rfl rfl bd_law_pick rfl (show Sl.own true d0 :: (List.map Sl.val ([a0] : List D) ++ List.replicate (2 - 2) Sl.non) = [Sl.own true d0, Sl.val a0] from rfl)
theorem st_law_is_int (cs : Cs) (a0 : D) : runP cs df_law_is_int [a0] = valP (ssE (frame cs ⟨df_law_is_int.drop, false⟩ 60) (fmOf df_law_is_int) [ (PySem.Stmt.Return (value := (some (PySem.Expr.BoolOp (op := PySem.BoolOp.And) (values := [ (PySem.Expr.Call (func := (PySem.Expr.Name "isinstance" ⟨42, 11, 42, 21⟩)) (args := [(PySem.Expr.Name "thing" ⟨42, 22, 42, 27⟩), (PySem.Expr.Name "int" ⟨42, 29, 42, 32⟩)]) (keywords := []) (pos := ⟨42, 11, 42, 33⟩)), (PySem.Expr.UnaryOp (op := PySem.UnaryOp.Not) (operand := (PySem.Expr.Call (func := (PySem.Expr.Name "isinstance" ⟨42, 43, 42, 53⟩)) (args := [(PySem.Expr.Name "thing" ⟨42, 54, 42, 59⟩), (PySem.Expr.Name "bool" ⟨42, 61, 42, 65⟩)]) (keywords := []) (pos := ⟨42, 43, 42, 66⟩))) (pos := ⟨42, 39, 42, 66⟩))]) (pos := ⟨42, 11, 42, 67⟩)))) (pos := ⟨42, 4, 42, 67⟩))] [Sl.val a0]) := runP_eq (k := 1) (m := 1) rfl rfl bd_law_is_int rfl (show List.map Sl.val ([a0] : List D) ++ List.replicate (1 - 1) Sl.non = [Sl.val a0] from rfl)
theorem st_law_is_ints (cs : Cs) (a0 : D) : runP cs df_law_is_ints [a0] = valP (ssE (frame cs ⟨df_law_is_ints.drop, false⟩ 60) (fmOf df_law_is_ints) [ (PySem.Stmt.Return (value := (some (PySem.Expr.BoolOp (op := PySem.BoolOp.And) (values := [ (PySem.Expr.Call (func := (PySem.Expr.Name "isinstance" ⟨44, 11, 44, 21⟩)) (args := [(PySem.Expr.Name "row" ⟨44, 22, 44, 25⟩), (PySem.Expr.Name "tuple" ⟨44, 27, 44, 32⟩)]) (keywords := []) (pos := ⟨44, 11, 44, 33⟩)), (PySem.Expr.Call (func := (PySem.Expr.Name "all" ⟨44, 38, 44, 41⟩)) (args := [ (PySem.Expr.ListComp (elt := (PySem.Expr.Call (func := (PySem.Expr.Name "_law_is_int" ⟨44, 43, 44, 54⟩)) (args := [(PySem.Expr.Name "part" ⟨44, 55, 44, 59⟩)]) (keywords := []) (pos := ⟨44, 43, 44, 60⟩))) (generators := [ { target := (PySem.Expr.Name "part" ⟨44, 65, 44, 69⟩), iter := (PySem.Expr.Name "row" ⟨44, 73, 44, 76⟩), ifs := [], is_async := 0 : PySem.Comprehension }]) (scope := { kind := PySem.ScopeKind.function, names := [ (PySem.Str.ofString ".0", PySem.NameKind.local), (PySem.Str.ofString "part", PySem.NameKind.local), (PySem.Str.ofString "_law_is_int", PySem.NameKind.globalImplicit)], isGenerator := false, isCoroutine := false, more := [] : PySem.Scope }) (pos := ⟨44, 42, 44, 77⟩))]) (keywords := []) (pos := ⟨44, 38, 44, 78⟩))]) (pos := ⟨44, 11, 44, 78⟩)))) (pos := ⟨44, 4, 44, 78⟩))] [Sl.val a0, Sl.non]) := runP_eq (k := 1) (m := 2) rfl rfl bd_law_is_ints rfl (show List.map Sl.val ([a0] : List D) ++ List.replicate (2 - 1) Sl.non = [Sl.val a0, Sl.non] from rfl)
theorem st_law_is_set (cs : Cs) (a0 : D) : runP cs df_law_is_set [a0] = valP (ssE (frame cs ⟨df_law_is_set.drop, false⟩ 60) (fmOf df_law_is_set) [ (PySem.Stmt.If (test := (PySem.Expr.UnaryOp (op := PySem.UnaryOp.Not) (operand := (PySem.Expr.Call (func := (PySem.Expr.Name "_law_is_ints" ⟨46, 11, 46, 23⟩)) (args := [(PySem.Expr.Name "row" ⟨46, 24, 46, 27⟩)]) (keywords := []) (pos := ⟨46, 11, 46, 28⟩))) (pos := ⟨46, 7, 46, 28⟩))) (body := [(PySem.Stmt.Return (some (PySem.Expr.Constant (PySem.Const.bool false) 0 ⟨47, 15, 47, 20⟩)) ⟨47, 8, 47, 20⟩)]) (orelse := []) (pos := ⟨46, 4, 47, 20⟩)), (PySem.Stmt.Return (value := (some (PySem.Expr.Call (func := (PySem.Expr.Name "all" ⟨48, 11, 48, 14⟩)) (args := [ (PySem.Expr.ListComp (elt := (PySem.Expr.Compare (left := (PySem.Expr.Subscript (value := (PySem.Expr.Name "row" ⟨48, 16, 48, 19⟩)) (slice := (PySem.Expr.BinOp (left := (PySem.Expr.Name "k" ⟨48, 20, 48, 21⟩)) (op := PySem.Operator.Sub) (right := (PySem.Expr.Constant (PySem.Const.int 1) 0 ⟨48, 24, 48, 25⟩)) (pos := ⟨48, 20, 48, 25⟩))) (pos := ⟨48, 16, 48, 26⟩))) (ops := [PySem.CmpOp.Lt]) (comparators := [ (PySem.Expr.Subscript (value := (PySem.Expr.Name "row" ⟨48, 29, 48, 32⟩)) (slice := (PySem.Expr.Name "k" ⟨48, 33, 48, 34⟩)) (pos := ⟨48, 29, 48, 35⟩))]) (pos := ⟨48, 16, 48, 35⟩))) (generators := [ { target := (PySem.Expr.Name "k" ⟨48, 40, 48, 41⟩), iter := (PySem.Expr.Call (func := (PySem.Expr.Name "range" ⟨48, 45, 48, 50⟩)) (args := [ (PySem.Expr.Constant (PySem.Const.int 1) 0 ⟨48, 51, 48, 52⟩), (PySem.Expr.Call (func := (PySem.Expr.Name "len" ⟨48, 54, 48, 57⟩)) (args := [(PySem.Expr.Name "row" ⟨48, 58, 48, 61⟩)]) (keywords := []) (pos := ⟨48, 54, 48, 62⟩))]) (keywords := []) (pos := ⟨48, 45, 48, 63⟩)), ifs := [], is_async := 0 : PySem.Comprehension }]) (scope := { kind := PySem.ScopeKind.function, names := [ (PySem.Str.ofString ".0", PySem.NameKind.local), (PySem.Str.ofString "k", PySem.NameKind.local), (PySem.Str.ofString "row", PySem.NameKind.free)], isGenerator := false, isCoroutine := false, more := [] : PySem.Scope }) (pos := ⟨48, 15, 48, 64⟩))]) (keywords := []) (pos := ⟨48, 11, 48, 65⟩)))) (pos := ⟨48, 4, 48, 65⟩))] [Sl.val a0, Sl.non]) := runP_eq (k := 1) (m := 2) rfl rfl bd_law_is_set rfl (show List.map Sl.val ([a0] : List D) ++ List.replicate (2 - 1) Sl.non = [Sl.val a0, Sl.non] from rfl)
theorem st_law_inside (cs : Cs) (a0 a1 : D) : runP cs df_law_inside [a0, a1] = valP (ssE (frame cs ⟨df_law_inside.drop, false⟩ 60) (fmOf df_law_inside) [ (PySem.Stmt.For (target := (PySem.Expr.Name "one" ⟨50, 8, 50, 11⟩)) (iter := (PySem.Expr.Name "first" ⟨50, 15, 50, 20⟩)) (body := [ (PySem.Stmt.If (test := (PySem.Expr.Compare (left := (PySem.Expr.Name "one" ⟨51, 11, 51, 14⟩)) (ops := [PySem.CmpOp.NotIn]) (comparators := [(PySem.Expr.Name "second" ⟨51, 22, 51, 28⟩)]) (pos := ⟨51, 11, 51, 28⟩))) (body := [ (PySem.Stmt.Return (some (PySem.Expr.Constant (PySem.Const.bool false) 0 ⟨52, 19, 52, 24⟩)) ⟨52, 12, 52, 24⟩)]) (orelse := []) (pos := ⟨51, 8, 52, 24⟩))]) (orelse := []) (pos := ⟨50, 4, 52, 24⟩)), (PySem.Stmt.Return (some (PySem.Expr.Constant (PySem.Const.bool true) 0 ⟨53, 11, 53, 15⟩)) ⟨53, 4, 53, 15⟩)] [Sl.val a0, Sl.val a1, Sl.non]) := runP_eq (k := 2) (m := 3) rfl rfl bd_law_inside rfl (show List.map Sl.val ([a0, a1] : List D) ++ List.replicate (3 - 2) Sl.non = [Sl.val a0, Sl.val a1, Sl.non] from rfl)
theorem st_law_subsets (cs : Cs) (a0 : D) : runP cs df_law_subsets [a0] = valP (ssE (frame cs ⟨df_law_subsets.drop, false⟩ 60) (fmOf df_law_subsets) [ (PySem.Stmt.Assign (targets := [(PySem.Expr.Name "found" ⟨55, 4, 55, 9⟩)]) (value := (PySem.Expr.List [(PySem.Expr.Tuple [] 0 ⟨55, 13, 55, 15⟩)] ⟨55, 12, 55, 16⟩)) (pos := ⟨55, 4, 55, 16⟩)), (PySem.Stmt.For (target := (PySem.Expr.Name "one" ⟨56, 8, 56, 11⟩)) (iter := (PySem.Expr.Name "row" ⟨56, 15, 56, 18⟩)) (body := [ (PySem.Stmt.Assign (targets := [(PySem.Expr.Name "found" ⟨57, 8, 57, 13⟩)]) (value := (PySem.Expr.BinOp (left := (PySem.Expr.Name "found" ⟨57, 16, 57, 21⟩)) (op := PySem.Operator.Add) (right := (PySem.Expr.ListComp (elt := (PySem.Expr.BinOp (left := (PySem.Expr.Name "part" ⟨57, 25, 57, 29⟩)) (op := PySem.Operator.Add) (right := (PySem.Expr.Tuple [(PySem.Expr.Name "one" ⟨57, 33, 57, 36⟩)] 0 ⟨57, 32, 57, 38⟩)) (pos := ⟨57, 25, 57, 38⟩))) (generators := [ { target := (PySem.Expr.Name "part" ⟨57, 43, 57, 47⟩), iter := (PySem.Expr.Name "found" ⟨57, 51, 57, 56⟩), ifs := [], is_async := 0 : PySem.Comprehension }]) (scope := { kind := PySem.ScopeKind.function, names := [ (PySem.Str.ofString ".0", PySem.NameKind.local), (PySem.Str.ofString "part", PySem.NameKind.local), (PySem.Str.ofString "one", PySem.NameKind.free)], isGenerator := false, isCoroutine := false, more := [] : PySem.Scope }) (pos := ⟨57, 24, 57, 57⟩))) (pos := ⟨57, 16, 57, 57⟩))) (pos := ⟨57, 8, 57, 57⟩))]) (orelse := []) (pos := ⟨56, 4, 57, 57⟩)), (PySem.Stmt.Return (some (PySem.Expr.Name "found" ⟨58, 11, 58, 16⟩)) ⟨58, 4, 58, 16⟩)] [Sl.val a0, Sl.non, Sl.non, Sl.non]) := runP_eq (k := 1) (m := 4) rfl rfl bd_law_subsets rfl (show List.map Sl.val ([a0] : List D) ++ List.replicate (4 - 1) Sl.non = [Sl.val a0, Sl.non, Sl.non, Sl.non] from rfl)
theorem st_law_strikes (cs : Cs) (a0 a1 a2 : D) : runP cs df_law_strikes [a0, a1, a2] = valP (ssE (frame cs ⟨df_law_strikes.drop, false⟩ 60) (fmOf df_law_strikes) [ (PySem.Stmt.Assign (targets := [(PySem.Expr.Name "found" ⟨60, 4, 60, 9⟩)]) (value := (PySem.Expr.List [] ⟨60, 12, 60, 14⟩)) (pos := ⟨60, 4, 60, 14⟩)), (PySem.Stmt.For (target := (PySem.Expr.Name "one" ⟨61, 8, 61, 11⟩)) (iter := (PySem.Expr.Call (func := (PySem.Expr.Name "_law_subsets" ⟨61, 15, 61, 27⟩)) (args := [ (PySem.Expr.Call (func := (PySem.Expr.Name "list" ⟨61, 28, 61, 32⟩)) (args := [ (PySem.Expr.Call (func := (PySem.Expr.Name "range" ⟨61, 33, 61, 38⟩)) (args := [(PySem.Expr.Name "many" ⟨61, 39, 61, 43⟩)]) (keywords := []) (pos := ⟨61, 33, 61, 44⟩))]) (keywords := []) (pos := ⟨61, 28, 61, 45⟩))]) (keywords := []) (pos := ⟨61, 15, 61, 46⟩))) (body := [ (PySem.Stmt.If (test := (PySem.Expr.BoolOp (op := PySem.BoolOp.And) (values := [ (PySem.Expr.Compare (left := (PySem.Expr.Call (func := (PySem.Expr.Name "len" ⟨62, 11, 62, 14⟩)) (args := [(PySem.Expr.Name "one" ⟨62, 15, 62, 18⟩)]) (keywords := []) (pos := ⟨62, 11, 62, 19⟩))) (ops := [PySem.CmpOp.LtE]) (comparators := [(PySem.Expr.Name "most" ⟨62, 23, 62, 27⟩)]) (pos := ⟨62, 11, 62, 27⟩)), (PySem.Expr.Call (func := (PySem.Expr.Name "_law_inside" ⟨62, 32, 62, 43⟩)) (args := [(PySem.Expr.Name "struck" ⟨62, 44, 62, 50⟩), (PySem.Expr.Name "one" ⟨62, 52, 62, 55⟩)]) (keywords := []) (pos := ⟨62, 32, 62, 56⟩))]) (pos := ⟨62, 11, 62, 56⟩))) (body := [ (PySem.Stmt.Expr (value := (PySem.Expr.Call (func := (PySem.Expr.Attribute (PySem.Expr.Name "found" ⟨63, 12, 63, 17⟩) "append" ⟨63, 12, 63, 24⟩)) (args := [(PySem.Expr.Name "one" ⟨63, 25, 63, 28⟩)]) (keywords := []) (pos := ⟨63, 12, 63, 29⟩))) (pos := ⟨63, 12, 63, 29⟩))]) (orelse := []) (pos := ⟨62, 8, 63, 29⟩))]) (orelse := []) (pos := ⟨61, 4, 63, 29⟩)), (PySem.Stmt.Return (value := (some (PySem.Expr.Call (func := (PySem.Expr.Name "sorted" ⟨64, 11, 64, 17⟩)) (args := [(PySem.Expr.Name "found" ⟨64, 18, 64, 23⟩)]) (keywords := []) (pos := ⟨64, 11, 64, 24⟩)))) (pos := ⟨64, 4, 64, 24⟩))] [Sl.val a0, Sl.val a1, Sl.val a2, Sl.non, Sl.non]) := runP_eq (k := 3) (m := 5) rfl rfl bd_law_strikes rfl (show List.map Sl.val ([a0, a1, a2] : List D) ++ List.replicate (5 - 3) Sl.non = [Sl.val a0, Sl.val a1, Sl.val a2, Sl.non, Sl.non] from rfl)
theorem st_law_broken (cs : Cs) (a0 a1 a2 : D) : runP cs df_law_broken [a0, a1, a2] = valP (ssE (frame cs ⟨df_law_broken.drop, false⟩ 60) (fmOf df_law_broken) [ (PySem.Stmt.Assign (targets := [(PySem.Expr.Name "words" ⟨66, 4, 66, 9⟩)]) (value := (PySem.Expr.BinOp (left := (PySem.Expr.List [(PySem.Expr.Constant PySem.Const.none 0 ⟨66, 13, 66, 17⟩)] ⟨66, 12, 66, 18⟩)) (op := PySem.Operator.Mult) (right := (PySem.Expr.Call (func := (PySem.Expr.Name "len" ⟨66, 21, 66, 24⟩)) (args := [(PySem.Expr.Name "sensors" ⟨66, 25, 66, 32⟩)]) (keywords := []) (pos := ⟨66, 21, 66, 33⟩))) (pos := ⟨66, 12, 66, 33⟩))) (pos := ⟨66, 4, 66, 33⟩)), (PySem.Stmt.For (target := (PySem.Expr.Name "word" ⟨67, 8, 67, 12⟩)) (iter := (PySem.Expr.Tuple (elts := [ (PySem.Expr.Constant (PySem.Const.str "dead") 0 ⟨67, 17, 67, 23⟩), (PySem.Expr.Constant (PySem.Const.str "wild") 0 ⟨67, 25, 67, 31⟩)]) (k := 0) (pos := ⟨67, 16, 67, 32⟩))) (body := [ (PySem.Stmt.For (target := (PySem.Expr.Name "s" ⟨68, 12, 68, 13⟩)) (iter := (PySem.Expr.Name "struck" ⟨68, 17, 68, 23⟩)) (body := [ (PySem.Stmt.If (test := (PySem.Expr.Compare (left := (PySem.Expr.Subscript (value := (PySem.Expr.Subscript (value := (PySem.Expr.Name "faults" ⟨69, 15, 69, 21⟩)) (slice := (PySem.Expr.Name "s" ⟨69, 22, 69, 23⟩)) (pos := ⟨69, 15, 69, 24⟩))) (slice := (PySem.Expr.Constant (PySem.Const.int 0) 0 ⟨69, 25, 69, 26⟩)) (pos := ⟨69, 15, 69, 27⟩))) (ops := [PySem.CmpOp.Eq]) (comparators := [(PySem.Expr.Name "word" ⟨69, 31, 69, 35⟩)]) (pos := ⟨69, 15, 69, 35⟩))) (body := [ (PySem.Stmt.Assign (targets := [ (PySem.Expr.Subscript (value := (PySem.Expr.Name "words" ⟨70, 16, 70, 21⟩)) (slice := (PySem.Expr.Subscript (value := (PySem.Expr.Subscript (value := (PySem.Expr.Name "faults" ⟨70, 22, 70, 28⟩)) (slice := (PySem.Expr.Name "s" ⟨70, 29, 70, 30⟩)) (pos := ⟨70, 22, 70, 31⟩))) (slice := (PySem.Expr.Constant (PySem.Const.int 1) 0 ⟨70, 32, 70, 33⟩)) (pos := ⟨70, 22, 70, 34⟩))) (pos := ⟨70, 16, 70, 35⟩))]) (value := (PySem.Expr.Name "word" ⟨70, 38, 70, 42⟩)) (pos := ⟨70, 16, 70, 42⟩))]) (orelse := []) (pos := ⟨69, 12, 70, 42⟩))]) (orelse := []) (pos := ⟨68, 8, 70, 42⟩))]) (orelse := []) (pos := ⟨67, 4, 70, 42⟩)), (PySem.Stmt.Return (value := (some (PySem.Expr.Call (func := (PySem.Expr.Name "tuple" ⟨71, 11, 71, 16⟩)) (args := [(PySem.Expr.Name "words" ⟨71, 17, 71, 22⟩)]) (keywords := []) (pos := ⟨71, 11, 71, 23⟩)))) (pos := ⟨71, 4, 71, 23⟩))] [Sl.val a0, Sl.val a1, Sl.val a2, Sl.non, Sl.non, Sl.non]) := runP_eq (k := 3) (m := 6) rfl rfl bd_law_broken rfl (show List.map Sl.val ([a0, a1, a2] : List D) ++ List.replicate (6 - 3) Sl.non = [Sl.val a0, Sl.val a1, Sl.val a2, Sl.non, Sl.non, Sl.non] from rfl)
theorem st_law_sensors (cs : Cs) (d0 : Ct) (a0 : D) : runO cs df_law_sensors d0 [a0] = valO (ssE (frame cs ⟨df_law_sensors.drop, false⟩ 60) (fmOf df_law_sensors) [ (PySem.Stmt.Assign (targets := [(PySem.Expr.Name "stock" ⟨73, 4, 73, 9⟩)]) (value := (PySem.Expr.List (elts := [ (PySem.Expr.Tuple [(PySem.Expr.Constant (PySem.Const.str "bump") 0 ⟨73, 14, 73, 20⟩)] 0 ⟨73, 13, 73, 22⟩), (PySem.Expr.Tuple (elts := [(PySem.Expr.Constant (PySem.Const.str "mark") 0 ⟨73, 25, 73, 31⟩), (PySem.Expr.Tuple [] 0 ⟨73, 33, 73, 35⟩)]) (k := 0) (pos := ⟨73, 24, 73, 36⟩)), (PySem.Expr.Tuple (elts := [ (PySem.Expr.Constant (PySem.Const.str "mark") 0 ⟨73, 39, 73, 45⟩), (PySem.Expr.Tuple (elts := [ (PySem.Expr.Tuple (elts := [ (PySem.Expr.Constant (PySem.Const.int 0) 0 ⟨73, 49, 73, 50⟩), (PySem.Expr.Constant (PySem.Const.int 1) 0 ⟨73, 52, 73, 53⟩)]) (k := 0) (pos := ⟨73, 48, 73, 54⟩)), (PySem.Expr.Tuple (elts := [ (PySem.Expr.Constant (PySem.Const.int 1) 0 ⟨73, 57, 73, 58⟩), (PySem.Expr.Constant (PySem.Const.int 0) 0 ⟨73, 60, 73, 61⟩)]) (k := 0) (pos := ⟨73, 56, 73, 62⟩))]) (k := 0) (pos := ⟨73, 47, 73, 63⟩))]) (k := 0) (pos := ⟨73, 38, 73, 64⟩)), (PySem.Expr.Tuple (elts := [ (PySem.Expr.Constant (PySem.Const.str "near") 0 ⟨73, 67, 73, 73⟩), (PySem.Expr.Constant (PySem.Const.int 0) 0 ⟨73, 75, 73, 76⟩), (PySem.Expr.Constant (PySem.Const.int 1) 0 ⟨73, 78, 73, 79⟩)]) (k := 0) (pos := ⟨73, 66, 73, 80⟩)), (PySem.Expr.Tuple (elts := [ (PySem.Expr.Constant (PySem.Const.str "near") 0 ⟨73, 83, 73, 89⟩), (PySem.Expr.Constant (PySem.Const.int 1) 0 ⟨73, 91, 73, 92⟩), (PySem.Expr.Constant (PySem.Const.int 1) 0 ⟨73, 94, 73, 95⟩)]) (k := 0) (pos := ⟨73, 82, 73, 96⟩)), (PySem.Expr.Tuple (elts := [ (PySem.Expr.Constant (PySem.Const.str "mark") 0 ⟨73, 99, 73, 105⟩), (PySem.Expr.Tuple (elts := [ (PySem.Expr.Tuple (elts := [ (PySem.Expr.Constant (PySem.Const.int 1) 0 ⟨73, 109, 73, 110⟩), (PySem.Expr.Constant (PySem.Const.int 2) 0 ⟨73, 112, 73, 113⟩)]) (k := 0) (pos := ⟨73, 108, 73, 114⟩))]) (k := 0) (pos := ⟨73, 107, 73, 116⟩))]) (k := 0) (pos := ⟨73, 98, 73, 117⟩))]) (pos := ⟨73, 12, 73, 118⟩))) (pos := ⟨73, 4, 73, 118⟩)), (PySem.Stmt.Assign (targets := [(PySem.Expr.Name "stock" ⟨74, 4, 74, 9⟩)]) (value := (PySem.Expr.BinOp (left := (PySem.Expr.Name "stock" ⟨74, 12, 74, 17⟩)) (op := PySem.Operator.Add) (right := (PySem.Expr.ListComp (elt := (PySem.Expr.Tuple (elts := [ (PySem.Expr.Constant (PySem.Const.str "range") 0 ⟨74, 22, 74, 29⟩), (PySem.Expr.Name "k" ⟨74, 31, 74, 32⟩), (PySem.Expr.BinOp (left := (PySem.Expr.Constant (PySem.Const.int 1) 0 ⟨74, 34, 74, 35⟩)) (op := PySem.Operator.Add) (right := (PySem.Expr.BinOp (left := (PySem.Expr.Name "k" ⟨74, 38, 74, 39⟩)) (op := PySem.Operator.FloorDiv) (right := (PySem.Expr.Constant (PySem.Const.int 2) 0 ⟨74, 43, 74, 44⟩)) (pos := ⟨74, 38, 74, 44⟩))) (pos := ⟨74, 34, 74, 44⟩)), (PySem.Expr.BinOp (left := (PySem.Expr.Name "k" ⟨74, 46, 74, 47⟩)) (op := PySem.Operator.FloorDiv) (right := (PySem.Expr.Constant (PySem.Const.int 3) 0 ⟨74, 51, 74, 52⟩)) (pos := ⟨74, 46, 74, 52⟩))]) (k := 0) (pos := ⟨74, 21, 74, 53⟩))) (generators := [ { target := (PySem.Expr.Name "k" ⟨74, 58, 74, 59⟩), iter := (PySem.Expr.Call (func := (PySem.Expr.Name "range" ⟨74, 63, 74, 68⟩)) (args := [(PySem.Expr.Constant (PySem.Const.int 4) 0 ⟨74, 69, 74, 70⟩)]) (keywords := []) (pos := ⟨74, 63, 74, 71⟩)), ifs := [], is_async := 0 : PySem.Comprehension }]) (scope := { kind := PySem.ScopeKind.function, names := [(PySem.Str.ofString ".0", PySem.NameKind.local), (PySem.Str.ofString "k", PySem.NameKind.local)], isGenerator := false, isCoroutine := false, more := [] : PySem.Scope }) (pos := ⟨74, 20, 74, 72⟩))) (pos := ⟨74, 12, 74, 72⟩))) (pos := ⟨74, 4, 74, 72⟩)), (PySem.Stmt.Return (value := (some (PySem.Expr.Call (func := (PySem.Expr.Name "tuple" ⟨75, 11, 75, 16⟩)) (args := [ (PySem.Expr.ListComp (elt := (PySem.Expr.Call (func := (PySem.Expr.Name "_law_pick" ⟨75, 18, 75, 27⟩)) (args := [(PySem.Expr.Name "d" ⟨75, 28, 75, 29⟩), (PySem.Expr.Name "stock" ⟨75, 31, 75, 36⟩)]) (keywords := []) (pos := ⟨75, 18, 75, 37⟩))) (generators := [ { target := (PySem.Expr.Name "k" ⟨75, 42, 75, 43⟩), iter := (PySem.Expr.Call (func := (PySem.Expr.Name "range" ⟨75, 47, 75, 52⟩)) (args := [ (PySem.Expr.Call (func := (PySem.Expr.Name "_law_draw" ⟨75, 53, 75, 62⟩)) (args := [ (PySem.Expr.Name "d" ⟨75, 63, 75, 64⟩), (PySem.Expr.BinOp (left := (PySem.Expr.Name "most" ⟨75, 66, 75, 70⟩)) (op := PySem.Operator.Add) (right := (PySem.Expr.Constant (PySem.Const.int 1) 0 ⟨75, 73, 75, 74⟩)) (pos := ⟨75, 66, 75, 74⟩))]) (keywords := []) (pos := ⟨75, 53, 75, 75⟩))]) (keywords := []) (pos := ⟨75, 47, 75, 76⟩)), ifs := [], is_async := 0 : PySem.Comprehension }]) (scope := { kind := PySem.ScopeKind.function, names := [ (PySem.Str.ofString ".0", PySem.NameKind.local), (PySem.Str.ofString "k", PySem.NameKind.local), (PySem.Str.ofString "_law_pick", PySem.NameKind.globalImplicit), (PySem.Str.ofString "d", PySem.NameKind.free), (PySem.Str.ofString "stock", PySem.NameKind.free)], isGenerator := false, isCoroutine := false, more := [] : PySem.Scope }) (pos := ⟨75, 17, 75, 77⟩))]) (keywords := []) (pos := ⟨75, 11, 75, 78⟩)))) (pos := ⟨75, 4, 75, 78⟩))] [Sl.own true d0, Sl.val a0, Sl.non, Sl.non]) := runO_eq (k := 2) (m := 4) rfl rfl bd_law_sensors rfl (show Sl.own true d0 :: (List.map Sl.val ([a0] : List D) ++ List.replicate (4 - 2) Sl.non) = [Sl.own true d0, Sl.val a0, Sl.non, Sl.non] from rfl)
theorem st_law_trail (cs : Cs) (d0 : Ct) : runO cs df_law_trail d0 [] = valO (ssE (frame cs ⟨df_law_trail.drop, false⟩ 60) (fmOf df_law_trail) [ (PySem.Stmt.Return (value := (some (PySem.Expr.Call (func := (PySem.Expr.Name "tuple" ⟨77, 11, 77, 16⟩)) (args := [ (PySem.Expr.ListComp (elt := (PySem.Expr.Call (func := (PySem.Expr.Name "_law_draw" ⟨77, 18, 77, 27⟩)) (args := [(PySem.Expr.Name "d" ⟨77, 28, 77, 29⟩), (PySem.Expr.Constant (PySem.Const.int 4) 0 ⟨77, 31, 77, 32⟩)]) (keywords := []) (pos := ⟨77, 18, 77, 33⟩))) (generators := [ { target := (PySem.Expr.Name "k" ⟨77, 38, 77, 39⟩), iter := (PySem.Expr.Call (func := (PySem.Expr.Name "range" ⟨77, 43, 77, 48⟩)) (args := [ (PySem.Expr.Subscript (value := (PySem.Expr.List (elts := [ (PySem.Expr.Constant (PySem.Const.int 1) 0 ⟨77, 50, 77, 51⟩), (PySem.Expr.Constant (PySem.Const.int 2) 0 ⟨77, 53, 77, 54⟩), (PySem.Expr.Constant (PySem.Const.int 3) 0 ⟨77, 56, 77, 57⟩), (PySem.Expr.Constant (PySem.Const.int 3) 0 ⟨77, 59, 77, 60⟩), (PySem.Expr.Constant (PySem.Const.int 0) 0 ⟨77, 62, 77, 63⟩), (PySem.Expr.Constant (PySem.Const.int 1) 0 ⟨77, 65, 77, 66⟩), (PySem.Expr.Constant (PySem.Const.int 2) 0 ⟨77, 68, 77, 69⟩), (PySem.Expr.Constant (PySem.Const.int 3) 0 ⟨77, 71, 77, 72⟩)]) (pos := ⟨77, 49, 77, 73⟩))) (slice := (PySem.Expr.Call (func := (PySem.Expr.Name "_law_draw" ⟨77, 74, 77, 83⟩)) (args := [(PySem.Expr.Name "d" ⟨77, 84, 77, 85⟩), (PySem.Expr.Constant (PySem.Const.int 8) 0 ⟨77, 87, 77, 88⟩)]) (keywords := []) (pos := ⟨77, 74, 77, 89⟩))) (pos := ⟨77, 49, 77, 90⟩))]) (keywords := []) (pos := ⟨77, 43, 77, 91⟩)), ifs := [], is_async := 0 : PySem.Comprehension }]) (scope := { kind := PySem.ScopeKind.function, names := [ (PySem.Str.ofString ".0", PySem.NameKind.local), (PySem.Str.ofString "k", PySem.NameKind.local), (PySem.Str.ofString "_law_draw", PySem.NameKind.globalImplicit), (PySem.Str.ofString "d", PySem.NameKind.free)], isGenerator := false, isCoroutine := false, more := [] : PySem.Scope }) (pos := ⟨77, 17, 77, 92⟩))]) (keywords := []) (pos := ⟨77, 11, 77, 93⟩)))) (pos := ⟨77, 4, 77, 93⟩))] [Sl.own true d0, Sl.non]) := runO_eq (k := 1) (m := 2) rfl rfl bd_law_trail rfl (show Sl.own true d0 :: (List.map Sl.val ([] : List D) ++ List.replicate (2 - 1) Sl.non) = [Sl.own true d0, Sl.non] from rfl)
theorem st_law_faults (cs : Cs) (d0 : Ct) (a0 : D) : runO cs df_law_faults d0 [a0] = valO (ssE (frame cs ⟨df_law_faults.drop, false⟩ 60) (fmOf df_law_faults) [ (PySem.Stmt.Assign (targets := [(PySem.Expr.Name "found" ⟨79, 4, 79, 9⟩)]) (value := (PySem.Expr.List [] ⟨79, 12, 79, 14⟩)) (pos := ⟨79, 4, 79, 14⟩)), (PySem.Stmt.For (target := (PySem.Expr.Name "k" ⟨80, 8, 80, 9⟩)) (iter := (PySem.Expr.Call (func := (PySem.Expr.Name "range" ⟨80, 13, 80, 18⟩)) (args := [ (PySem.Expr.Call (func := (PySem.Expr.Name "_law_draw" ⟨80, 19, 80, 28⟩)) (args := [(PySem.Expr.Name "d" ⟨80, 29, 80, 30⟩), (PySem.Expr.Constant (PySem.Const.int 4) 0 ⟨80, 32, 80, 33⟩)]) (keywords := []) (pos := ⟨80, 19, 80, 34⟩))]) (keywords := []) (pos := ⟨80, 13, 80, 35⟩))) (body := [ (PySem.Stmt.Assign (targets := [(PySem.Expr.Name "one" ⟨81, 8, 81, 11⟩)]) (value := (PySem.Expr.Tuple (elts := [ (PySem.Expr.Constant (PySem.Const.str "drift") 0 ⟨81, 15, 81, 22⟩), (PySem.Expr.BinOp (left := (PySem.Expr.Constant (PySem.Const.int 1) 0 ⟨81, 24, 81, 25⟩)) (op := PySem.Operator.Add) (right := (PySem.Expr.Call (func := (PySem.Expr.Name "_law_draw" ⟨81, 28, 81, 37⟩)) (args := [(PySem.Expr.Name "d" ⟨81, 38, 81, 39⟩), (PySem.Expr.Constant (PySem.Const.int 4) 0 ⟨81, 41, 81, 42⟩)]) (keywords := []) (pos := ⟨81, 28, 81, 43⟩))) (pos := ⟨81, 24, 81, 43⟩)), (PySem.Expr.Call (func := (PySem.Expr.Name "_law_trail" ⟨81, 45, 81, 55⟩)) (args := [(PySem.Expr.Name "d" ⟨81, 56, 81, 57⟩)]) (keywords := []) (pos := ⟨81, 45, 81, 58⟩))]) (k := 0) (pos := ⟨81, 14, 81, 59⟩))) (pos := ⟨81, 8, 81, 59⟩)), (PySem.Stmt.If (test := (PySem.Expr.BoolOp (op := PySem.BoolOp.And) (values := [ (PySem.Expr.Compare (left := (PySem.Expr.Name "sensors" ⟨82, 11, 82, 18⟩)) (ops := [PySem.CmpOp.Gt]) (comparators := [(PySem.Expr.Constant (PySem.Const.int 0) 0 ⟨82, 21, 82, 22⟩)]) (pos := ⟨82, 11, 82, 22⟩)), (PySem.Expr.Compare (left := (PySem.Expr.Call (func := (PySem.Expr.Name "_law_draw" ⟨82, 27, 82, 36⟩)) (args := [(PySem.Expr.Name "d" ⟨82, 37, 82, 38⟩), (PySem.Expr.Constant (PySem.Const.int 2) 0 ⟨82, 40, 82, 41⟩)]) (keywords := []) (pos := ⟨82, 27, 82, 42⟩))) (ops := [PySem.CmpOp.Eq]) (comparators := [(PySem.Expr.Constant (PySem.Const.int 1) 0 ⟨82, 46, 82, 47⟩)]) (pos := ⟨82, 27, 82, 47⟩))]) (pos := ⟨82, 11, 82, 47⟩))) (body := [ (PySem.Stmt.Assign (targets := [(PySem.Expr.Name "one" ⟨83, 12, 83, 15⟩)]) (value := (PySem.Expr.Tuple (elts := [ (PySem.Expr.Call (func := (PySem.Expr.Name "_law_pick" ⟨83, 19, 83, 28⟩)) (args := [ (PySem.Expr.Name "d" ⟨83, 29, 83, 30⟩), (PySem.Expr.List (elts := [ (PySem.Expr.Constant (PySem.Const.str "dead") 0 ⟨83, 33, 83, 39⟩), (PySem.Expr.Constant (PySem.Const.str "wild") 0 ⟨83, 41, 83, 47⟩)]) (pos := ⟨83, 32, 83, 48⟩))]) (keywords := []) (pos := ⟨83, 19, 83, 49⟩)), (PySem.Expr.Call (func := (PySem.Expr.Name "_law_draw" ⟨83, 51, 83, 60⟩)) (args := [(PySem.Expr.Name "d" ⟨83, 61, 83, 62⟩), (PySem.Expr.Name "sensors" ⟨83, 64, 83, 71⟩)]) (keywords := []) (pos := ⟨83, 51, 83, 72⟩))]) (k := 0) (pos := ⟨83, 18, 83, 73⟩))) (pos := ⟨83, 12, 83, 73⟩))]) (orelse := []) (pos := ⟨82, 8, 83, 73⟩)), (PySem.Stmt.If (test := (PySem.Expr.Compare (left := (PySem.Expr.Name "one" ⟨84, 11, 84, 14⟩)) (ops := [PySem.CmpOp.NotIn]) (comparators := [(PySem.Expr.Name "found" ⟨84, 22, 84, 27⟩)]) (pos := ⟨84, 11, 84, 27⟩))) (body := [ (PySem.Stmt.Expr (value := (PySem.Expr.Call (func := (PySem.Expr.Attribute (PySem.Expr.Name "found" ⟨85, 12, 85, 17⟩) "append" ⟨85, 12, 85, 24⟩)) (args := [(PySem.Expr.Name "one" ⟨85, 25, 85, 28⟩)]) (keywords := []) (pos := ⟨85, 12, 85, 29⟩))) (pos := ⟨85, 12, 85, 29⟩))]) (orelse := []) (pos := ⟨84, 8, 85, 29⟩))]) (orelse := []) (pos := ⟨80, 4, 85, 29⟩)), (PySem.Stmt.Return (value := (some (PySem.Expr.Call (func := (PySem.Expr.Name "tuple" ⟨86, 11, 86, 16⟩)) (args := [(PySem.Expr.Name "found" ⟨86, 17, 86, 22⟩)]) (keywords := []) (pos := ⟨86, 11, 86, 23⟩)))) (pos := ⟨86, 4, 86, 23⟩))] [Sl.own true d0, Sl.val a0, Sl.non, Sl.non, Sl.non]) := runO_eq (k := 2) (m := 5) rfl rfl bd_law_faults rfl (show Sl.own true d0 :: (List.map Sl.val ([a0] : List D) ++ List.replicate (5 - 2) Sl.non) = [Sl.own true d0, Sl.val a0, Sl.non, Sl.non, Sl.non] from rfl)
theorem st_law_right_strikes (cs : Cs) (a0 a1 : D) : runP cs df_law_right_strikes [a0, a1] = valP (ssE (frame cs ⟨df_law_right_strikes.drop, false⟩ 60) (fmOf df_law_right_strikes) [ (PySem.Stmt.If (test := (PySem.Expr.BoolOp (op := PySem.BoolOp.Or) (values := [ (PySem.Expr.UnaryOp (op := PySem.UnaryOp.Not) (operand := (PySem.Expr.Call (func := (PySem.Expr.Name "isinstance" ⟨88, 11, 88, 21⟩)) (args := [(PySem.Expr.Name "told" ⟨88, 22, 88, 26⟩), (PySem.Expr.Name "tuple" ⟨88, 28, 88, 33⟩)]) (keywords := []) (pos := ⟨88, 11, 88, 34⟩))) (pos := ⟨88, 7, 88, 34⟩)), (PySem.Expr.Compare (left := (PySem.Expr.Name "told" ⟨88, 38, 88, 42⟩)) (ops := [PySem.CmpOp.NotEq]) (comparators := [(PySem.Expr.Name "due" ⟨88, 46, 88, 49⟩)]) (pos := ⟨88, 38, 88, 49⟩))]) (pos := ⟨88, 7, 88, 49⟩))) (body := [(PySem.Stmt.Return (some (PySem.Expr.Constant (PySem.Const.bool false) 0 ⟨89, 15, 89, 20⟩)) ⟨89, 8, 89, 20⟩)]) (orelse := []) (pos := ⟨88, 4, 89, 20⟩)), (PySem.Stmt.Return (value := (some (PySem.Expr.Call (func := (PySem.Expr.Name "all" ⟨90, 11, 90, 14⟩)) (args := [ (PySem.Expr.ListComp (elt := (PySem.Expr.Call (func := (PySem.Expr.Name "_law_is_set" ⟨90, 16, 90, 27⟩)) (args := [(PySem.Expr.Name "one" ⟨90, 28, 90, 31⟩)]) (keywords := []) (pos := ⟨90, 16, 90, 32⟩))) (generators := [ { target := (PySem.Expr.Name "one" ⟨90, 37, 90, 40⟩), iter := (PySem.Expr.Name "told" ⟨90, 44, 90, 48⟩), ifs := [], is_async := 0 : PySem.Comprehension }]) (scope := { kind := PySem.ScopeKind.function, names := [ (PySem.Str.ofString ".0", PySem.NameKind.local), (PySem.Str.ofString "one", PySem.NameKind.local), (PySem.Str.ofString "_law_is_set", PySem.NameKind.globalImplicit)], isGenerator := false, isCoroutine := false, more := [] : PySem.Scope }) (pos := ⟨90, 15, 90, 49⟩))]) (keywords := []) (pos := ⟨90, 11, 90, 50⟩)))) (pos := ⟨90, 4, 90, 50⟩))] [Sl.val a0, Sl.val a1, Sl.non]) := runP_eq (k := 2) (m := 3) rfl rfl bd_law_right_strikes rfl (show List.map Sl.val ([a0, a1] : List D) ++ List.replicate (3 - 2) Sl.non = [Sl.val a0, Sl.val a1, Sl.non] from rfl)
theorem st_law_right_chain (cs : Cs) (a0 a1 a2 : D) : runP cs df_law_right_chain [a0, a1, a2] = valP (ssE (frame cs ⟨df_law_right_chain.drop, false⟩ 60) (fmOf df_law_right_chain) [ (PySem.Stmt.Assign (targets := [(PySem.Expr.Name "due" ⟨92, 4, 92, 7⟩)]) (value := (PySem.Expr.Call (func := (PySem.Expr.Name "tuple" ⟨92, 10, 92, 15⟩)) (args := [ (PySem.Expr.Call (func := (PySem.Expr.Name "_law_strikes" ⟨92, 16, 92, 28⟩)) (args := [ (PySem.Expr.Call (func := (PySem.Expr.Name "len" ⟨92, 29, 92, 32⟩)) (args := [(PySem.Expr.Name "faults" ⟨92, 33, 92, 39⟩)]) (keywords := []) (pos := ⟨92, 29, 92, 40⟩)), (PySem.Expr.Name "most" ⟨92, 42, 92, 46⟩), (PySem.Expr.Name "struck" ⟨92, 48, 92, 54⟩)]) (keywords := []) (pos := ⟨92, 16, 92, 55⟩))]) (keywords := []) (pos := ⟨92, 10, 92, 56⟩))) (pos := ⟨92, 4, 92, 56⟩)), (PySem.Stmt.If (test := (PySem.Expr.UnaryOp (op := PySem.UnaryOp.Not) (operand := (PySem.Expr.Call (func := (PySem.Expr.Name "_law_right_strikes" ⟨93, 11, 93, 29⟩)) (args := [ (PySem.Expr.Call (func := (PySem.Expr.Name "strikes" ⟨93, 30, 93, 37⟩)) (args := [ (PySem.Expr.Name "faults" ⟨93, 38, 93, 44⟩), (PySem.Expr.Name "most" ⟨93, 46, 93, 50⟩), (PySem.Expr.Name "struck" ⟨93, 52, 93, 58⟩)]) (keywords := []) (pos := ⟨93, 30, 93, 59⟩)), (PySem.Expr.Name "due" ⟨93, 61, 93, 64⟩)]) (keywords := []) (pos := ⟨93, 11, 93, 65⟩))) (pos := ⟨93, 7, 93, 65⟩))) (body := [(PySem.Stmt.Return (some (PySem.Expr.Constant (PySem.Const.bool false) 0 ⟨94, 15, 94, 20⟩)) ⟨94, 8, 94, 20⟩)]) (orelse := []) (pos := ⟨93, 4, 94, 20⟩)), (PySem.Stmt.For (target := (PySem.Expr.Name "one" ⟨95, 8, 95, 11⟩)) (iter := (PySem.Expr.Name "due" ⟨95, 15, 95, 18⟩)) (body := [ (PySem.Stmt.Assign (targets := [(PySem.Expr.Name "told" ⟨96, 8, 96, 12⟩)]) (value := (PySem.Expr.Call (func := (PySem.Expr.Name "strikes" ⟨96, 15, 96, 22⟩)) (args := [ (PySem.Expr.Name "faults" ⟨96, 23, 96, 29⟩), (PySem.Expr.Name "most" ⟨96, 31, 96, 35⟩), (PySem.Expr.Name "one" ⟨96, 37, 96, 40⟩)]) (keywords := []) (pos := ⟨96, 15, 96, 41⟩))) (pos := ⟨96, 8, 96, 41⟩)), (PySem.Stmt.If (test := (PySem.Expr.BoolOp (op := PySem.BoolOp.Or) (values := [ (PySem.Expr.UnaryOp (op := PySem.UnaryOp.Not) (operand := (PySem.Expr.Call (func := (PySem.Expr.Name "isinstance" ⟨97, 15, 97, 25⟩)) (args := [(PySem.Expr.Name "told" ⟨97, 26, 97, 30⟩), (PySem.Expr.Name "tuple" ⟨97, 32, 97, 37⟩)]) (keywords := []) (pos := ⟨97, 15, 97, 38⟩))) (pos := ⟨97, 11, 97, 38⟩)), (PySem.Expr.UnaryOp (op := PySem.UnaryOp.Not) (operand := (PySem.Expr.Call (func := (PySem.Expr.Name "all" ⟨97, 46, 97, 49⟩)) (args := [ (PySem.Expr.ListComp (elt := (PySem.Expr.Compare (left := (PySem.Expr.Name "later" ⟨97, 51, 97, 56⟩)) (ops := [PySem.CmpOp.In]) (comparators := [(PySem.Expr.Name "due" ⟨97, 60, 97, 63⟩)]) (pos := ⟨97, 51, 97, 63⟩))) (generators := [ { target := (PySem.Expr.Name "later" ⟨97, 68, 97, 73⟩), iter := (PySem.Expr.Name "told" ⟨97, 77, 97, 81⟩), ifs := [], is_async := 0 : PySem.Comprehension }]) (scope := { kind := PySem.ScopeKind.function, names := [ (PySem.Str.ofString ".0", PySem.NameKind.local), (PySem.Str.ofString "later", PySem.NameKind.local), (PySem.Str.ofString "due", PySem.NameKind.free)], isGenerator := false, isCoroutine := false, more := [] : PySem.Scope }) (pos := ⟨97, 50, 97, 82⟩))]) (keywords := []) (pos := ⟨97, 46, 97, 83⟩))) (pos := ⟨97, 42, 97, 83⟩)), (PySem.Expr.Compare (left := (PySem.Expr.Name "one" ⟨97, 87, 97, 90⟩)) (ops := [PySem.CmpOp.NotIn]) (comparators := [(PySem.Expr.Name "told" ⟨97, 98, 97, 102⟩)]) (pos := ⟨97, 87, 97, 102⟩))]) (pos := ⟨97, 11, 97, 102⟩))) (body := [ (PySem.Stmt.Return (some (PySem.Expr.Constant (PySem.Const.bool false) 0 ⟨98, 19, 98, 24⟩)) ⟨98, 12, 98, 24⟩)]) (orelse := []) (pos := ⟨97, 8, 98, 24⟩))]) (orelse := []) (pos := ⟨95, 4, 98, 24⟩)), (PySem.Stmt.Return (some (PySem.Expr.Constant (PySem.Const.bool true) 0 ⟨99, 11, 99, 15⟩)) ⟨99, 4, 99, 15⟩)] [Sl.val a0, Sl.val a1, Sl.val a2, Sl.non, Sl.non, Sl.non, Sl.non]) := runP_eq (k := 3) (m := 7) rfl rfl bd_law_right_chain rfl (show List.map Sl.val ([a0, a1, a2] : List D) ++ List.replicate (7 - 3) Sl.non = [Sl.val a0, Sl.val a1, Sl.val a2, Sl.non, Sl.non, Sl.non, Sl.non] from rfl)
theorem st_law (cs : Cs) (a0 : D) : runP cs df_law [a0] = valP (ssE (frame cs ⟨df_law.drop, false⟩ 60) (fmOf df_law) [ (PySem.Stmt.Assign (targets := [(PySem.Expr.Name "d" ⟨101, 4, 101, 5⟩)]) (value := (PySem.Expr.Call (func := (PySem.Expr.Name "_law_begin" ⟨101, 8, 101, 18⟩)) (args := [(PySem.Expr.Name "script" ⟨101, 19, 101, 25⟩)]) (keywords := []) (pos := ⟨101, 8, 101, 26⟩))) (pos := ⟨101, 4, 101, 26⟩)), (PySem.Stmt.Assign (targets := [(PySem.Expr.Name "sensors" ⟨102, 4, 102, 11⟩)]) (value := (PySem.Expr.Call (func := (PySem.Expr.Name "_law_sensors" ⟨102, 14, 102, 26⟩)) (args := [(PySem.Expr.Name "d" ⟨102, 27, 102, 28⟩), (PySem.Expr.Constant (PySem.Const.int 4) 0 ⟨102, 30, 102, 31⟩)]) (keywords := []) (pos := ⟨102, 14, 102, 32⟩))) (pos := ⟨102, 4, 102, 32⟩)), (PySem.Stmt.Assign (targets := [(PySem.Expr.Name "faults" ⟨103, 4, 103, 10⟩)]) (value := (PySem.Expr.Call (func := (PySem.Expr.Name "_law_faults" ⟨103, 13, 103, 24⟩)) (args := [ (PySem.Expr.Name "d" ⟨103, 25, 103, 26⟩), (PySem.Expr.Call (func := (PySem.Expr.Name "len" ⟨103, 28, 103, 31⟩)) (args := [(PySem.Expr.Name "sensors" ⟨103, 32, 103, 39⟩)]) (keywords := []) (pos := ⟨103, 28, 103, 40⟩))]) (keywords := []) (pos := ⟨103, 13, 103, 41⟩))) (pos := ⟨103, 4, 103, 41⟩)), (PySem.Stmt.Assign (targets := [(PySem.Expr.Name "turned" ⟨104, 4, 104, 10⟩)]) (value := (PySem.Expr.Call (func := (PySem.Expr.Name "tuple" ⟨104, 13, 104, 18⟩)) (args := [ (PySem.Expr.ListComp (elt := (PySem.Expr.Subscript (value := (PySem.Expr.Name "faults" ⟨104, 20, 104, 26⟩)) (slice := (PySem.Expr.BinOp (left := (PySem.Expr.BinOp (left := (PySem.Expr.Call (func := (PySem.Expr.Name "len" ⟨104, 27, 104, 30⟩)) (args := [(PySem.Expr.Name "faults" ⟨104, 31, 104, 37⟩)]) (keywords := []) (pos := ⟨104, 27, 104, 38⟩))) (op := PySem.Operator.Sub) (right := (PySem.Expr.Constant (PySem.Const.int 1) 0 ⟨104, 41, 104, 42⟩)) (pos := ⟨104, 27, 104, 42⟩))) (op := PySem.Operator.Sub) (right := (PySem.Expr.Name "k" ⟨104, 45, 104, 46⟩)) (pos := ⟨104, 27, 104, 46⟩))) (pos := ⟨104, 20, 104, 47⟩))) (generators := [ { target := (PySem.Expr.Name "k" ⟨104, 52, 104, 53⟩), iter := (PySem.Expr.Call (func := (PySem.Expr.Name "range" ⟨104, 57, 104, 62⟩)) (args := [ (PySem.Expr.Call (func := (PySem.Expr.Name "len" ⟨104, 63, 104, 66⟩)) (args := [(PySem.Expr.Name "faults" ⟨104, 67, 104, 73⟩)]) (keywords := []) (pos := ⟨104, 63, 104, 74⟩))]) (keywords := []) (pos := ⟨104, 57, 104, 75⟩)), ifs := [], is_async := 0 : PySem.Comprehension }]) (scope := { kind := PySem.ScopeKind.function, names := [ (PySem.Str.ofString ".0", PySem.NameKind.local), (PySem.Str.ofString "k", PySem.NameKind.local), (PySem.Str.ofString "len", PySem.NameKind.globalImplicit), (PySem.Str.ofString "faults", PySem.NameKind.free)], isGenerator := false, isCoroutine := false, more := [] : PySem.Scope }) (pos := ⟨104, 19, 104, 76⟩))]) (keywords := []) (pos := ⟨104, 13, 104, 77⟩))) (pos := ⟨104, 4, 104, 77⟩)), (PySem.Stmt.For (target := (PySem.Expr.Name "turn" ⟨105, 8, 105, 12⟩)) (iter := (PySem.Expr.Call (func := (PySem.Expr.Name "range" ⟨105, 16, 105, 21⟩)) (args := [(PySem.Expr.Constant (PySem.Const.int 2) 0 ⟨105, 22, 105, 23⟩)]) (keywords := []) (pos := ⟨105, 16, 105, 24⟩))) (body := [ (PySem.Stmt.For (target := (PySem.Expr.Name "struck" ⟨106, 12, 106, 18⟩)) (iter := (PySem.Expr.Call (func := (PySem.Expr.Name "_law_subsets" ⟨106, 22, 106, 34⟩)) (args := [ (PySem.Expr.Call (func := (PySem.Expr.Name "list" ⟨106, 35, 106, 39⟩)) (args := [ (PySem.Expr.Call (func := (PySem.Expr.Name "range" ⟨106, 40, 106, 45⟩)) (args := [ (PySem.Expr.Call (func := (PySem.Expr.Name "len" ⟨106, 46, 106, 49⟩)) (args := [(PySem.Expr.Name "faults" ⟨106, 50, 106, 56⟩)]) (keywords := []) (pos := ⟨106, 46, 106, 57⟩))]) (keywords := []) (pos := ⟨106, 40, 106, 58⟩))]) (keywords := []) (pos := ⟨106, 35, 106, 59⟩))]) (keywords := []) (pos := ⟨106, 22, 106, 60⟩))) (body := [ (PySem.Stmt.For (target := (PySem.Expr.Name "row" ⟨107, 16, 107, 19⟩)) (iter := (PySem.Expr.Tuple (elts := [(PySem.Expr.Name "faults" ⟨107, 24, 107, 30⟩), (PySem.Expr.Name "turned" ⟨107, 32, 107, 38⟩)]) (k := 0) (pos := ⟨107, 23, 107, 39⟩))) (body := [ (PySem.Stmt.Assign (targets := [(PySem.Expr.Name "told" ⟨108, 16, 108, 20⟩)]) (value := (PySem.Expr.Call (func := (PySem.Expr.Name "broken_by" ⟨108, 23, 108, 32⟩)) (args := [ (PySem.Expr.Name "sensors" ⟨108, 33, 108, 40⟩), (PySem.Expr.Name "row" ⟨108, 42, 108, 45⟩), (PySem.Expr.Name "struck" ⟨108, 47, 108, 53⟩)]) (keywords := []) (pos := ⟨108, 23, 108, 54⟩))) (pos := ⟨108, 16, 108, 54⟩)), (PySem.Stmt.If (test := (PySem.Expr.BoolOp (op := PySem.BoolOp.Or) (values := [ (PySem.Expr.UnaryOp (op := PySem.UnaryOp.Not) (operand := (PySem.Expr.Call (func := (PySem.Expr.Name "isinstance" ⟨109, 23, 109, 33⟩)) (args := [(PySem.Expr.Name "told" ⟨109, 34, 109, 38⟩), (PySem.Expr.Name "tuple" ⟨109, 40, 109, 45⟩)]) (keywords := []) (pos := ⟨109, 23, 109, 46⟩))) (pos := ⟨109, 19, 109, 46⟩)), (PySem.Expr.Compare (left := (PySem.Expr.Name "told" ⟨109, 50, 109, 54⟩)) (ops := [PySem.CmpOp.NotEq]) (comparators := [ (PySem.Expr.Call (func := (PySem.Expr.Name "_law_broken" ⟨109, 58, 109, 69⟩)) (args := [ (PySem.Expr.Name "sensors" ⟨109, 70, 109, 77⟩), (PySem.Expr.Name "row" ⟨109, 79, 109, 82⟩), (PySem.Expr.Name "struck" ⟨109, 84, 109, 90⟩)]) (keywords := []) (pos := ⟨109, 58, 109, 91⟩))]) (pos := ⟨109, 50, 109, 91⟩))]) (pos := ⟨109, 19, 109, 91⟩))) (body := [ (PySem.Stmt.Return (value := (some (PySem.Expr.Constant (PySem.Const.bool false) 0 ⟨110, 27, 110, 32⟩))) (pos := ⟨110, 20, 110, 32⟩))]) (orelse := []) (pos := ⟨109, 16, 110, 32⟩)), (PySem.Stmt.For (target := (PySem.Expr.Name "most" ⟨111, 20, 111, 24⟩)) (iter := (PySem.Expr.Call (func := (PySem.Expr.Name "range" ⟨111, 28, 111, 33⟩)) (args := [ (PySem.Expr.Call (func := (PySem.Expr.Name "len" ⟨111, 34, 111, 37⟩)) (args := [(PySem.Expr.Name "struck" ⟨111, 38, 111, 44⟩)]) (keywords := []) (pos := ⟨111, 34, 111, 45⟩)), (PySem.Expr.Constant (PySem.Const.int 4) 0 ⟨111, 47, 111, 48⟩)]) (keywords := []) (pos := ⟨111, 28, 111, 49⟩))) (body := [ (PySem.Stmt.If (test := (PySem.Expr.UnaryOp (op := PySem.UnaryOp.Not) (operand := (PySem.Expr.Call (func := (PySem.Expr.Name "_law_right_chain" ⟨112, 27, 112, 43⟩)) (args := [ (PySem.Expr.Name "row" ⟨112, 44, 112, 47⟩), (PySem.Expr.Name "most" ⟨112, 49, 112, 53⟩), (PySem.Expr.Name "struck" ⟨112, 55, 112, 61⟩)]) (keywords := []) (pos := ⟨112, 27, 112, 62⟩))) (pos := ⟨112, 23, 112, 62⟩))) (body := [ (PySem.Stmt.Return (value := (some (PySem.Expr.Constant (PySem.Const.bool false) 0 ⟨113, 31, 113, 36⟩))) (pos := ⟨113, 24, 113, 36⟩))]) (orelse := []) (pos := ⟨112, 20, 113, 36⟩))]) (orelse := []) (pos := ⟨111, 16, 113, 36⟩))]) (orelse := []) (pos := ⟨107, 12, 113, 36⟩))]) (orelse := []) (pos := ⟨106, 8, 113, 36⟩))]) (orelse := []) (pos := ⟨105, 4, 113, 36⟩)), (PySem.Stmt.Return (value := (some (PySem.Expr.Constant (PySem.Const.bool true) 0 ⟨114, 11, 114, 15⟩))) (pos := ⟨114, 4, 114, 15⟩))] [Sl.val a0, Sl.non, Sl.non, Sl.non, Sl.non, Sl.non, Sl.non, Sl.non, Sl.non, Sl.non, Sl.non]) := runP_eq (k := 1) (m := 11) rfl rfl bd_law rfl (show List.map Sl.val ([a0] : List D) ++ List.replicate (11 - 1) Sl.non = [Sl.val a0, Sl.non, Sl.non, Sl.non, Sl.non, Sl.non, Sl.non, Sl.non, Sl.non, Sl.non, Sl.non] from rfl)
abbrev FT_subsets_of_6 : Expr := (PySem.Expr.Name "member" ⟨6, 8, 6, 14⟩)
abbrev FB_subsets_of_6 : List Stmt := [ (PySem.Stmt.Assign (targets := [(PySem.Expr.Name "found" ⟨7, 8, 7, 13⟩)]) (value := (PySem.Expr.BinOp (left := (PySem.Expr.Name "found" ⟨7, 16, 7, 21⟩)) (op := PySem.Operator.Add) (right := (PySem.Expr.ListComp (elt := (PySem.Expr.BinOp (left := (PySem.Expr.Name "some" ⟨7, 25, 7, 29⟩)) (op := PySem.Operator.Add) (right := (PySem.Expr.Tuple [(PySem.Expr.Name "member" ⟨7, 33, 7, 39⟩)] 0 ⟨7, 32, 7, 41⟩)) (pos := ⟨7, 25, 7, 41⟩))) (generators := [ { target := (PySem.Expr.Name "some" ⟨7, 46, 7, 50⟩), iter := (PySem.Expr.Name "found" ⟨7, 54, 7, 59⟩), ifs := [], is_async := 0 : PySem.Comprehension }]) (scope := { kind := PySem.ScopeKind.function, names := [ (PySem.Str.ofString ".0", PySem.NameKind.local), (PySem.Str.ofString "some", PySem.NameKind.local), (PySem.Str.ofString "member", PySem.NameKind.free)], isGenerator := false, isCoroutine := false, more := [] : PySem.Scope }) (pos := ⟨7, 24, 7, 60⟩))) (pos := ⟨7, 16, 7, 60⟩))) (pos := ⟨7, 8, 7, 60⟩))]
abbrev EL_subsets_of_0 : Expr := (PySem.Expr.BinOp (left := (PySem.Expr.Name "some" ⟨7, 25, 7, 29⟩)) (op := PySem.Operator.Add) (right := (PySem.Expr.Tuple [(PySem.Expr.Name "member" ⟨7, 33, 7, 39⟩)] 0 ⟨7, 32, 7, 41⟩)) (pos := ⟨7, 25, 7, 41⟩))
abbrev SC_subsets_of_0 : Scope := { kind := PySem.ScopeKind.function, names := [ (PySem.Str.ofString ".0", PySem.NameKind.local), (PySem.Str.ofString "some", PySem.NameKind.local), (PySem.Str.ofString "member", PySem.NameKind.free)], isGenerator := false, isCoroutine := false, more := [] : PySem.Scope }
abbrev TG_subsets_of_0 : Expr := (PySem.Expr.Name "some" ⟨7, 46, 7, 50⟩)
abbrev IT_subsets_of_0 : Expr := (PySem.Expr.Name "found" ⟨7, 54, 7, 59⟩)
abbrev IF_subsets_of_0 : List Expr := []
abbrev EL_strikes_0 : Expr := (PySem.Expr.Name "some" ⟨12, 18, 12, 22⟩)
abbrev SC_strikes_0 : Scope := { kind := PySem.ScopeKind.function, names := [ (PySem.Str.ofString ".0", PySem.NameKind.local), (PySem.Str.ofString "some", PySem.NameKind.local), (PySem.Str.ofString "len", PySem.NameKind.globalImplicit), (PySem.Str.ofString "inside", PySem.NameKind.globalImplicit), (PySem.Str.ofString "most", PySem.NameKind.free), (PySem.Str.ofString "struck", PySem.NameKind.free)], isGenerator := false, isCoroutine := false, more := [] : PySem.Scope }
abbrev TG_strikes_0 : Expr := (PySem.Expr.Name "some" ⟨12, 27, 12, 31⟩)
abbrev IT_strikes_0 : Expr := (PySem.Expr.Name "every" ⟨12, 35, 12, 40⟩)
abbrev IF_strikes_0 : List Expr := [ (PySem.Expr.BoolOp (op := PySem.BoolOp.And) (values := [ (PySem.Expr.Compare (left := (PySem.Expr.Call (func := (PySem.Expr.Name "len" ⟨12, 44, 12, 47⟩)) (args := [(PySem.Expr.Name "some" ⟨12, 48, 12, 52⟩)]) (keywords := []) (pos := ⟨12, 44, 12, 53⟩))) (ops := [PySem.CmpOp.LtE]) (comparators := [(PySem.Expr.Name "most" ⟨12, 57, 12, 61⟩)]) (pos := ⟨12, 44, 12, 61⟩)), (PySem.Expr.Call (func := (PySem.Expr.Name "inside" ⟨12, 66, 12, 72⟩)) (args := [(PySem.Expr.Name "struck" ⟨12, 73, 12, 79⟩), (PySem.Expr.Name "some" ⟨12, 81, 12, 85⟩)]) (keywords := []) (pos := ⟨12, 66, 12, 86⟩))]) (pos := ⟨12, 44, 12, 86⟩))]
abbrev EL_broken_by_0 : Expr := (PySem.Expr.Subscript (value := (PySem.Expr.Name "faults" ⟨14, 15, 14, 21⟩)) (slice := (PySem.Expr.Name "number" ⟨14, 22, 14, 28⟩)) (pos := ⟨14, 15, 14, 29⟩))
abbrev SC_broken_by_0 : Scope := { kind := PySem.ScopeKind.function, names := [ (PySem.Str.ofString ".0", PySem.NameKind.local), (PySem.Str.ofString "number", PySem.NameKind.local), (PySem.Str.ofString "faults", PySem.NameKind.free)], isGenerator := false, isCoroutine := false, more := [] : PySem.Scope }
abbrev TG_broken_by_0 : Expr := (PySem.Expr.Name "number" ⟨14, 34, 14, 40⟩)
abbrev IT_broken_by_0 : Expr := (PySem.Expr.Name "struck" ⟨14, 44, 14, 50⟩)
abbrev IF_broken_by_0 : List Expr := []
abbrev EL_broken_by_1 : Expr := (PySem.Expr.Call (func := (PySem.Expr.Name "_broken" ⟨15, 18, 15, 25⟩)) (args := [(PySem.Expr.Name "present" ⟨15, 26, 15, 33⟩), (PySem.Expr.Name "sensor" ⟨15, 35, 15, 41⟩)]) (keywords := []) (pos := ⟨15, 18, 15, 42⟩))
abbrev SC_broken_by_1 : Scope := { kind := PySem.ScopeKind.function, names := [ (PySem.Str.ofString ".0", PySem.NameKind.local), (PySem.Str.ofString "sensor", PySem.NameKind.local), (PySem.Str.ofString "_broken", PySem.NameKind.globalImplicit), (PySem.Str.ofString "present", PySem.NameKind.free)], isGenerator := false, isCoroutine := false, more := [] : PySem.Scope }
abbrev TG_broken_by_1 : Expr := (PySem.Expr.Name "sensor" ⟨15, 47, 15, 53⟩)
abbrev IT_broken_by_1 : Expr := (PySem.Expr.Call (func := (PySem.Expr.Name "range" ⟨15, 57, 15, 62⟩)) (args := [ (PySem.Expr.Call (func := (PySem.Expr.Name "len" ⟨15, 63, 15, 66⟩)) (args := [(PySem.Expr.Name "sensors" ⟨15, 67, 15, 74⟩)]) (keywords := []) (pos := ⟨15, 63, 15, 75⟩))]) (keywords := []) (pos := ⟨15, 57, 15, 76⟩))
abbrev IF_broken_by_1 : List Expr := []
abbrev EL_law_begin_0 : Expr := (PySem.Expr.Call (func := (PySem.Expr.Name "int" ⟨22, 13, 22, 16⟩)) (args := [(PySem.Expr.Name "cell" ⟨22, 17, 22, 21⟩)]) (keywords := []) (pos := ⟨22, 13, 22, 22⟩))
abbrev SC_law_begin_0 : Scope := { kind := PySem.ScopeKind.function, names := [ (PySem.Str.ofString ".0", PySem.NameKind.local), (PySem.Str.ofString "cell", PySem.NameKind.local), (PySem.Str.ofString "int", PySem.NameKind.globalImplicit)], isGenerator := false, isCoroutine := false, more := [] : PySem.Scope }
abbrev TG_law_begin_0 : Expr := (PySem.Expr.Name "cell" ⟨22, 27, 22, 31⟩)
abbrev IT_law_begin_0 : Expr := (PySem.Expr.Name "script" ⟨22, 35, 22, 41⟩)
abbrev IF_law_begin_0 : List Expr := []
abbrev EL_law_is_ints_0 : Expr := (PySem.Expr.Call (func := (PySem.Expr.Name "_law_is_int" ⟨44, 43, 44, 54⟩)) (args := [(PySem.Expr.Name "part" ⟨44, 55, 44, 59⟩)]) (keywords := []) (pos := ⟨44, 43, 44, 60⟩))
abbrev SC_law_is_ints_0 : Scope := { kind := PySem.ScopeKind.function, names := [ (PySem.Str.ofString ".0", PySem.NameKind.local), (PySem.Str.ofString "part", PySem.NameKind.local), (PySem.Str.ofString "_law_is_int", PySem.NameKind.globalImplicit)], isGenerator := false, isCoroutine := false, more := [] : PySem.Scope }
abbrev TG_law_is_ints_0 : Expr := (PySem.Expr.Name "part" ⟨44, 65, 44, 69⟩)
abbrev IT_law_is_ints_0 : Expr := (PySem.Expr.Name "row" ⟨44, 73, 44, 76⟩)
abbrev IF_law_is_ints_0 : List Expr := []
abbrev EL_law_is_set_0 : Expr := (PySem.Expr.Compare (left := (PySem.Expr.Subscript (value := (PySem.Expr.Name "row" ⟨48, 16, 48, 19⟩)) (slice := (PySem.Expr.BinOp (left := (PySem.Expr.Name "k" ⟨48, 20, 48, 21⟩)) (op := PySem.Operator.Sub) (right := (PySem.Expr.Constant (PySem.Const.int 1) 0 ⟨48, 24, 48, 25⟩)) (pos := ⟨48, 20, 48, 25⟩))) (pos := ⟨48, 16, 48, 26⟩))) (ops := [PySem.CmpOp.Lt]) (comparators := [ (PySem.Expr.Subscript (value := (PySem.Expr.Name "row" ⟨48, 29, 48, 32⟩)) (slice := (PySem.Expr.Name "k" ⟨48, 33, 48, 34⟩)) (pos := ⟨48, 29, 48, 35⟩))]) (pos := ⟨48, 16, 48, 35⟩))
abbrev SC_law_is_set_0 : Scope := { kind := PySem.ScopeKind.function, names := [ (PySem.Str.ofString ".0", PySem.NameKind.local), (PySem.Str.ofString "k", PySem.NameKind.local), (PySem.Str.ofString "row", PySem.NameKind.free)], isGenerator := false, isCoroutine := false, more := [] : PySem.Scope }
abbrev TG_law_is_set_0 : Expr := (PySem.Expr.Name "k" ⟨48, 40, 48, 41⟩)
abbrev IT_law_is_set_0 : Expr := (PySem.Expr.Call (func := (PySem.Expr.Name "range" ⟨48, 45, 48, 50⟩)) (args := [ (PySem.Expr.Constant (PySem.Const.int 1) 0 ⟨48, 51, 48, 52⟩), (PySem.Expr.Call (func := (PySem.Expr.Name "len" ⟨48, 54, 48, 57⟩)) (args := [(PySem.Expr.Name "row" ⟨48, 58, 48, 61⟩)]) (keywords := []) (pos := ⟨48, 54, 48, 62⟩))]) (keywords := []) (pos := ⟨48, 45, 48, 63⟩))
abbrev IF_law_is_set_0 : List Expr := []
abbrev FT_law_inside_50 : Expr := (PySem.Expr.Name "one" ⟨50, 8, 50, 11⟩)
abbrev FB_law_inside_50 : List Stmt := [ (PySem.Stmt.If (test := (PySem.Expr.Compare (left := (PySem.Expr.Name "one" ⟨51, 11, 51, 14⟩)) (ops := [PySem.CmpOp.NotIn]) (comparators := [(PySem.Expr.Name "second" ⟨51, 22, 51, 28⟩)]) (pos := ⟨51, 11, 51, 28⟩))) (body := [ (PySem.Stmt.Return (some (PySem.Expr.Constant (PySem.Const.bool false) 0 ⟨52, 19, 52, 24⟩)) ⟨52, 12, 52, 24⟩)]) (orelse := []) (pos := ⟨51, 8, 52, 24⟩))]
abbrev FT_law_subsets_56 : Expr := (PySem.Expr.Name "one" ⟨56, 8, 56, 11⟩)
abbrev FB_law_subsets_56 : List Stmt := [ (PySem.Stmt.Assign (targets := [(PySem.Expr.Name "found" ⟨57, 8, 57, 13⟩)]) (value := (PySem.Expr.BinOp (left := (PySem.Expr.Name "found" ⟨57, 16, 57, 21⟩)) (op := PySem.Operator.Add) (right := (PySem.Expr.ListComp (elt := (PySem.Expr.BinOp (left := (PySem.Expr.Name "part" ⟨57, 25, 57, 29⟩)) (op := PySem.Operator.Add) (right := (PySem.Expr.Tuple [(PySem.Expr.Name "one" ⟨57, 33, 57, 36⟩)] 0 ⟨57, 32, 57, 38⟩)) (pos := ⟨57, 25, 57, 38⟩))) (generators := [ { target := (PySem.Expr.Name "part" ⟨57, 43, 57, 47⟩), iter := (PySem.Expr.Name "found" ⟨57, 51, 57, 56⟩), ifs := [], is_async := 0 : PySem.Comprehension }]) (scope := { kind := PySem.ScopeKind.function, names := [ (PySem.Str.ofString ".0", PySem.NameKind.local), (PySem.Str.ofString "part", PySem.NameKind.local), (PySem.Str.ofString "one", PySem.NameKind.free)], isGenerator := false, isCoroutine := false, more := [] : PySem.Scope }) (pos := ⟨57, 24, 57, 57⟩))) (pos := ⟨57, 16, 57, 57⟩))) (pos := ⟨57, 8, 57, 57⟩))]
abbrev EL_law_subsets_0 : Expr := (PySem.Expr.BinOp (left := (PySem.Expr.Name "part" ⟨57, 25, 57, 29⟩)) (op := PySem.Operator.Add) (right := (PySem.Expr.Tuple [(PySem.Expr.Name "one" ⟨57, 33, 57, 36⟩)] 0 ⟨57, 32, 57, 38⟩)) (pos := ⟨57, 25, 57, 38⟩))
abbrev SC_law_subsets_0 : Scope := { kind := PySem.ScopeKind.function, names := [ (PySem.Str.ofString ".0", PySem.NameKind.local), (PySem.Str.ofString "part", PySem.NameKind.local), (PySem.Str.ofString "one", PySem.NameKind.free)], isGenerator := false, isCoroutine := false, more := [] : PySem.Scope }
abbrev TG_law_subsets_0 : Expr := (PySem.Expr.Name "part" ⟨57, 43, 57, 47⟩)
abbrev IT_law_subsets_0 : Expr := (PySem.Expr.Name "found" ⟨57, 51, 57, 56⟩)
abbrev IF_law_subsets_0 : List Expr := []
abbrev FT_law_strikes_61 : Expr := (PySem.Expr.Name "one" ⟨61, 8, 61, 11⟩)
abbrev FB_law_strikes_61 : List Stmt := [ (PySem.Stmt.If (test := (PySem.Expr.BoolOp (op := PySem.BoolOp.And) (values := [ (PySem.Expr.Compare (left := (PySem.Expr.Call (func := (PySem.Expr.Name "len" ⟨62, 11, 62, 14⟩)) (args := [(PySem.Expr.Name "one" ⟨62, 15, 62, 18⟩)]) (keywords := []) (pos := ⟨62, 11, 62, 19⟩))) (ops := [PySem.CmpOp.LtE]) (comparators := [(PySem.Expr.Name "most" ⟨62, 23, 62, 27⟩)]) (pos := ⟨62, 11, 62, 27⟩)), (PySem.Expr.Call (func := (PySem.Expr.Name "_law_inside" ⟨62, 32, 62, 43⟩)) (args := [(PySem.Expr.Name "struck" ⟨62, 44, 62, 50⟩), (PySem.Expr.Name "one" ⟨62, 52, 62, 55⟩)]) (keywords := []) (pos := ⟨62, 32, 62, 56⟩))]) (pos := ⟨62, 11, 62, 56⟩))) (body := [ (PySem.Stmt.Expr (value := (PySem.Expr.Call (func := (PySem.Expr.Attribute (PySem.Expr.Name "found" ⟨63, 12, 63, 17⟩) "append" ⟨63, 12, 63, 24⟩)) (args := [(PySem.Expr.Name "one" ⟨63, 25, 63, 28⟩)]) (keywords := []) (pos := ⟨63, 12, 63, 29⟩))) (pos := ⟨63, 12, 63, 29⟩))]) (orelse := []) (pos := ⟨62, 8, 63, 29⟩))]
abbrev FT_law_broken_67 : Expr := (PySem.Expr.Name "word" ⟨67, 8, 67, 12⟩)
abbrev FB_law_broken_67 : List Stmt := [ (PySem.Stmt.For (target := (PySem.Expr.Name "s" ⟨68, 12, 68, 13⟩)) (iter := (PySem.Expr.Name "struck" ⟨68, 17, 68, 23⟩)) (body := [ (PySem.Stmt.If (test := (PySem.Expr.Compare (left := (PySem.Expr.Subscript (value := (PySem.Expr.Subscript (value := (PySem.Expr.Name "faults" ⟨69, 15, 69, 21⟩)) (slice := (PySem.Expr.Name "s" ⟨69, 22, 69, 23⟩)) (pos := ⟨69, 15, 69, 24⟩))) (slice := (PySem.Expr.Constant (PySem.Const.int 0) 0 ⟨69, 25, 69, 26⟩)) (pos := ⟨69, 15, 69, 27⟩))) (ops := [PySem.CmpOp.Eq]) (comparators := [(PySem.Expr.Name "word" ⟨69, 31, 69, 35⟩)]) (pos := ⟨69, 15, 69, 35⟩))) (body := [ (PySem.Stmt.Assign (targets := [ (PySem.Expr.Subscript (value := (PySem.Expr.Name "words" ⟨70, 16, 70, 21⟩)) (slice := (PySem.Expr.Subscript (value := (PySem.Expr.Subscript (value := (PySem.Expr.Name "faults" ⟨70, 22, 70, 28⟩)) (slice := (PySem.Expr.Name "s" ⟨70, 29, 70, 30⟩)) (pos := ⟨70, 22, 70, 31⟩))) (slice := (PySem.Expr.Constant (PySem.Const.int 1) 0 ⟨70, 32, 70, 33⟩)) (pos := ⟨70, 22, 70, 34⟩))) (pos := ⟨70, 16, 70, 35⟩))]) (value := (PySem.Expr.Name "word" ⟨70, 38, 70, 42⟩)) (pos := ⟨70, 16, 70, 42⟩))]) (orelse := []) (pos := ⟨69, 12, 70, 42⟩))]) (orelse := []) (pos := ⟨68, 8, 70, 42⟩))]
abbrev FT_law_broken_68 : Expr := (PySem.Expr.Name "s" ⟨68, 12, 68, 13⟩)
abbrev FB_law_broken_68 : List Stmt := [ (PySem.Stmt.If (test := (PySem.Expr.Compare (left := (PySem.Expr.Subscript (value := (PySem.Expr.Subscript (value := (PySem.Expr.Name "faults" ⟨69, 15, 69, 21⟩)) (slice := (PySem.Expr.Name "s" ⟨69, 22, 69, 23⟩)) (pos := ⟨69, 15, 69, 24⟩))) (slice := (PySem.Expr.Constant (PySem.Const.int 0) 0 ⟨69, 25, 69, 26⟩)) (pos := ⟨69, 15, 69, 27⟩))) (ops := [PySem.CmpOp.Eq]) (comparators := [(PySem.Expr.Name "word" ⟨69, 31, 69, 35⟩)]) (pos := ⟨69, 15, 69, 35⟩))) (body := [ (PySem.Stmt.Assign (targets := [ (PySem.Expr.Subscript (value := (PySem.Expr.Name "words" ⟨70, 16, 70, 21⟩)) (slice := (PySem.Expr.Subscript (value := (PySem.Expr.Subscript (value := (PySem.Expr.Name "faults" ⟨70, 22, 70, 28⟩)) (slice := (PySem.Expr.Name "s" ⟨70, 29, 70, 30⟩)) (pos := ⟨70, 22, 70, 31⟩))) (slice := (PySem.Expr.Constant (PySem.Const.int 1) 0 ⟨70, 32, 70, 33⟩)) (pos := ⟨70, 22, 70, 34⟩))) (pos := ⟨70, 16, 70, 35⟩))]) (value := (PySem.Expr.Name "word" ⟨70, 38, 70, 42⟩)) (pos := ⟨70, 16, 70, 42⟩))]) (orelse := []) (pos := ⟨69, 12, 70, 42⟩))]
abbrev EL_law_sensors_0 : Expr := (PySem.Expr.Tuple (elts := [ (PySem.Expr.Constant (PySem.Const.str "range") 0 ⟨74, 22, 74, 29⟩), (PySem.Expr.Name "k" ⟨74, 31, 74, 32⟩), (PySem.Expr.BinOp (left := (PySem.Expr.Constant (PySem.Const.int 1) 0 ⟨74, 34, 74, 35⟩)) (op := PySem.Operator.Add) (right := (PySem.Expr.BinOp (left := (PySem.Expr.Name "k" ⟨74, 38, 74, 39⟩)) (op := PySem.Operator.FloorDiv) (right := (PySem.Expr.Constant (PySem.Const.int 2) 0 ⟨74, 43, 74, 44⟩)) (pos := ⟨74, 38, 74, 44⟩))) (pos := ⟨74, 34, 74, 44⟩)), (PySem.Expr.BinOp (left := (PySem.Expr.Name "k" ⟨74, 46, 74, 47⟩)) (op := PySem.Operator.FloorDiv) (right := (PySem.Expr.Constant (PySem.Const.int 3) 0 ⟨74, 51, 74, 52⟩)) (pos := ⟨74, 46, 74, 52⟩))]) (k := 0) (pos := ⟨74, 21, 74, 53⟩))
abbrev SC_law_sensors_0 : Scope := { kind := PySem.ScopeKind.function, names := [(PySem.Str.ofString ".0", PySem.NameKind.local), (PySem.Str.ofString "k", PySem.NameKind.local)], isGenerator := false, isCoroutine := false, more := [] : PySem.Scope }
abbrev TG_law_sensors_0 : Expr := (PySem.Expr.Name "k" ⟨74, 58, 74, 59⟩)
abbrev IT_law_sensors_0 : Expr := (PySem.Expr.Call (func := (PySem.Expr.Name "range" ⟨74, 63, 74, 68⟩)) (args := [(PySem.Expr.Constant (PySem.Const.int 4) 0 ⟨74, 69, 74, 70⟩)]) (keywords := []) (pos := ⟨74, 63, 74, 71⟩))
abbrev IF_law_sensors_0 : List Expr := []
abbrev EL_law_sensors_1 : Expr := (PySem.Expr.Call (func := (PySem.Expr.Name "_law_pick" ⟨75, 18, 75, 27⟩)) (args := [(PySem.Expr.Name "d" ⟨75, 28, 75, 29⟩), (PySem.Expr.Name "stock" ⟨75, 31, 75, 36⟩)]) (keywords := []) (pos := ⟨75, 18, 75, 37⟩))
abbrev SC_law_sensors_1 : Scope := { kind := PySem.ScopeKind.function, names := [ (PySem.Str.ofString ".0", PySem.NameKind.local), (PySem.Str.ofString "k", PySem.NameKind.local), (PySem.Str.ofString "_law_pick", PySem.NameKind.globalImplicit), (PySem.Str.ofString "d", PySem.NameKind.free), (PySem.Str.ofString "stock", PySem.NameKind.free)], isGenerator := false, isCoroutine := false, more := [] : PySem.Scope }
abbrev TG_law_sensors_1 : Expr := (PySem.Expr.Name "k" ⟨75, 42, 75, 43⟩)
abbrev IT_law_sensors_1 : Expr := (PySem.Expr.Call (func := (PySem.Expr.Name "range" ⟨75, 47, 75, 52⟩)) (args := [ (PySem.Expr.Call (func := (PySem.Expr.Name "_law_draw" ⟨75, 53, 75, 62⟩)) (args := [ (PySem.Expr.Name "d" ⟨75, 63, 75, 64⟩), (PySem.Expr.BinOp (left := (PySem.Expr.Name "most" ⟨75, 66, 75, 70⟩)) (op := PySem.Operator.Add) (right := (PySem.Expr.Constant (PySem.Const.int 1) 0 ⟨75, 73, 75, 74⟩)) (pos := ⟨75, 66, 75, 74⟩))]) (keywords := []) (pos := ⟨75, 53, 75, 75⟩))]) (keywords := []) (pos := ⟨75, 47, 75, 76⟩))
abbrev IF_law_sensors_1 : List Expr := []
abbrev EL_law_trail_0 : Expr := (PySem.Expr.Call (func := (PySem.Expr.Name "_law_draw" ⟨77, 18, 77, 27⟩)) (args := [(PySem.Expr.Name "d" ⟨77, 28, 77, 29⟩), (PySem.Expr.Constant (PySem.Const.int 4) 0 ⟨77, 31, 77, 32⟩)]) (keywords := []) (pos := ⟨77, 18, 77, 33⟩))
abbrev SC_law_trail_0 : Scope := { kind := PySem.ScopeKind.function, names := [ (PySem.Str.ofString ".0", PySem.NameKind.local), (PySem.Str.ofString "k", PySem.NameKind.local), (PySem.Str.ofString "_law_draw", PySem.NameKind.globalImplicit), (PySem.Str.ofString "d", PySem.NameKind.free)], isGenerator := false, isCoroutine := false, more := [] : PySem.Scope }
abbrev TG_law_trail_0 : Expr := (PySem.Expr.Name "k" ⟨77, 38, 77, 39⟩)
abbrev IT_law_trail_0 : Expr := (PySem.Expr.Call (func := (PySem.Expr.Name "range" ⟨77, 43, 77, 48⟩)) (args := [ (PySem.Expr.Subscript (value := (PySem.Expr.List (elts := [ (PySem.Expr.Constant (PySem.Const.int 1) 0 ⟨77, 50, 77, 51⟩), (PySem.Expr.Constant (PySem.Const.int 2) 0 ⟨77, 53, 77, 54⟩), (PySem.Expr.Constant (PySem.Const.int 3) 0 ⟨77, 56, 77, 57⟩), (PySem.Expr.Constant (PySem.Const.int 3) 0 ⟨77, 59, 77, 60⟩), (PySem.Expr.Constant (PySem.Const.int 0) 0 ⟨77, 62, 77, 63⟩), (PySem.Expr.Constant (PySem.Const.int 1) 0 ⟨77, 65, 77, 66⟩), (PySem.Expr.Constant (PySem.Const.int 2) 0 ⟨77, 68, 77, 69⟩), (PySem.Expr.Constant (PySem.Const.int 3) 0 ⟨77, 71, 77, 72⟩)]) (pos := ⟨77, 49, 77, 73⟩))) (slice := (PySem.Expr.Call (func := (PySem.Expr.Name "_law_draw" ⟨77, 74, 77, 83⟩)) (args := [(PySem.Expr.Name "d" ⟨77, 84, 77, 85⟩), (PySem.Expr.Constant (PySem.Const.int 8) 0 ⟨77, 87, 77, 88⟩)]) (keywords := []) (pos := ⟨77, 74, 77, 89⟩))) (pos := ⟨77, 49, 77, 90⟩))]) (keywords := []) (pos := ⟨77, 43, 77, 91⟩))
abbrev IF_law_trail_0 : List Expr := []
abbrev FT_law_faults_80 : Expr := (PySem.Expr.Name "k" ⟨80, 8, 80, 9⟩)
abbrev FB_law_faults_80 : List Stmt := [ (PySem.Stmt.Assign (targets := [(PySem.Expr.Name "one" ⟨81, 8, 81, 11⟩)]) (value := (PySem.Expr.Tuple (elts := [ (PySem.Expr.Constant (PySem.Const.str "drift") 0 ⟨81, 15, 81, 22⟩), (PySem.Expr.BinOp (left := (PySem.Expr.Constant (PySem.Const.int 1) 0 ⟨81, 24, 81, 25⟩)) (op := PySem.Operator.Add) (right := (PySem.Expr.Call (func := (PySem.Expr.Name "_law_draw" ⟨81, 28, 81, 37⟩)) (args := [(PySem.Expr.Name "d" ⟨81, 38, 81, 39⟩), (PySem.Expr.Constant (PySem.Const.int 4) 0 ⟨81, 41, 81, 42⟩)]) (keywords := []) (pos := ⟨81, 28, 81, 43⟩))) (pos := ⟨81, 24, 81, 43⟩)), (PySem.Expr.Call (func := (PySem.Expr.Name "_law_trail" ⟨81, 45, 81, 55⟩)) (args := [(PySem.Expr.Name "d" ⟨81, 56, 81, 57⟩)]) (keywords := []) (pos := ⟨81, 45, 81, 58⟩))]) (k := 0) (pos := ⟨81, 14, 81, 59⟩))) (pos := ⟨81, 8, 81, 59⟩)), (PySem.Stmt.If (test := (PySem.Expr.BoolOp (op := PySem.BoolOp.And) (values := [ (PySem.Expr.Compare (left := (PySem.Expr.Name "sensors" ⟨82, 11, 82, 18⟩)) (ops := [PySem.CmpOp.Gt]) (comparators := [(PySem.Expr.Constant (PySem.Const.int 0) 0 ⟨82, 21, 82, 22⟩)]) (pos := ⟨82, 11, 82, 22⟩)), (PySem.Expr.Compare (left := (PySem.Expr.Call (func := (PySem.Expr.Name "_law_draw" ⟨82, 27, 82, 36⟩)) (args := [(PySem.Expr.Name "d" ⟨82, 37, 82, 38⟩), (PySem.Expr.Constant (PySem.Const.int 2) 0 ⟨82, 40, 82, 41⟩)]) (keywords := []) (pos := ⟨82, 27, 82, 42⟩))) (ops := [PySem.CmpOp.Eq]) (comparators := [(PySem.Expr.Constant (PySem.Const.int 1) 0 ⟨82, 46, 82, 47⟩)]) (pos := ⟨82, 27, 82, 47⟩))]) (pos := ⟨82, 11, 82, 47⟩))) (body := [ (PySem.Stmt.Assign (targets := [(PySem.Expr.Name "one" ⟨83, 12, 83, 15⟩)]) (value := (PySem.Expr.Tuple (elts := [ (PySem.Expr.Call (func := (PySem.Expr.Name "_law_pick" ⟨83, 19, 83, 28⟩)) (args := [ (PySem.Expr.Name "d" ⟨83, 29, 83, 30⟩), (PySem.Expr.List (elts := [ (PySem.Expr.Constant (PySem.Const.str "dead") 0 ⟨83, 33, 83, 39⟩), (PySem.Expr.Constant (PySem.Const.str "wild") 0 ⟨83, 41, 83, 47⟩)]) (pos := ⟨83, 32, 83, 48⟩))]) (keywords := []) (pos := ⟨83, 19, 83, 49⟩)), (PySem.Expr.Call (func := (PySem.Expr.Name "_law_draw" ⟨83, 51, 83, 60⟩)) (args := [(PySem.Expr.Name "d" ⟨83, 61, 83, 62⟩), (PySem.Expr.Name "sensors" ⟨83, 64, 83, 71⟩)]) (keywords := []) (pos := ⟨83, 51, 83, 72⟩))]) (k := 0) (pos := ⟨83, 18, 83, 73⟩))) (pos := ⟨83, 12, 83, 73⟩))]) (orelse := []) (pos := ⟨82, 8, 83, 73⟩)), (PySem.Stmt.If (test := (PySem.Expr.Compare (left := (PySem.Expr.Name "one" ⟨84, 11, 84, 14⟩)) (ops := [PySem.CmpOp.NotIn]) (comparators := [(PySem.Expr.Name "found" ⟨84, 22, 84, 27⟩)]) (pos := ⟨84, 11, 84, 27⟩))) (body := [ (PySem.Stmt.Expr (value := (PySem.Expr.Call (func := (PySem.Expr.Attribute (PySem.Expr.Name "found" ⟨85, 12, 85, 17⟩) "append" ⟨85, 12, 85, 24⟩)) (args := [(PySem.Expr.Name "one" ⟨85, 25, 85, 28⟩)]) (keywords := []) (pos := ⟨85, 12, 85, 29⟩))) (pos := ⟨85, 12, 85, 29⟩))]) (orelse := []) (pos := ⟨84, 8, 85, 29⟩))]
abbrev EL_law_right_strikes_0 : Expr := (PySem.Expr.Call (func := (PySem.Expr.Name "_law_is_set" ⟨90, 16, 90, 27⟩)) (args := [(PySem.Expr.Name "one" ⟨90, 28, 90, 31⟩)]) (keywords := []) (pos := ⟨90, 16, 90, 32⟩))
abbrev SC_law_right_strikes_0 : Scope := { kind := PySem.ScopeKind.function, names := [ (PySem.Str.ofString ".0", PySem.NameKind.local), (PySem.Str.ofString "one", PySem.NameKind.local), (PySem.Str.ofString "_law_is_set", PySem.NameKind.globalImplicit)], isGenerator := false, isCoroutine := false, more := [] : PySem.Scope }
abbrev TG_law_right_strikes_0 : Expr := (PySem.Expr.Name "one" ⟨90, 37, 90, 40⟩)
abbrev IT_law_right_strikes_0 : Expr := (PySem.Expr.Name "told" ⟨90, 44, 90, 48⟩)
abbrev IF_law_right_strikes_0 : List Expr := []
abbrev FT_law_right_chain_95 : Expr := (PySem.Expr.Name "one" ⟨95, 8, 95, 11⟩)
abbrev FB_law_right_chain_95 : List Stmt := [ (PySem.Stmt.Assign (targets := [(PySem.Expr.Name "told" ⟨96, 8, 96, 12⟩)]) (value := (PySem.Expr.Call (func := (PySem.Expr.Name "strikes" ⟨96, 15, 96, 22⟩)) (args := [ (PySem.Expr.Name "faults" ⟨96, 23, 96, 29⟩), (PySem.Expr.Name "most" ⟨96, 31, 96, 35⟩), (PySem.Expr.Name "one" ⟨96, 37, 96, 40⟩)]) (keywords := []) (pos := ⟨96, 15, 96, 41⟩))) (pos := ⟨96, 8, 96, 41⟩)), (PySem.Stmt.If (test := (PySem.Expr.BoolOp (op := PySem.BoolOp.Or) (values := [ (PySem.Expr.UnaryOp (op := PySem.UnaryOp.Not) (operand := (PySem.Expr.Call (func := (PySem.Expr.Name "isinstance" ⟨97, 15, 97, 25⟩)) (args := [(PySem.Expr.Name "told" ⟨97, 26, 97, 30⟩), (PySem.Expr.Name "tuple" ⟨97, 32, 97, 37⟩)]) (keywords := []) (pos := ⟨97, 15, 97, 38⟩))) (pos := ⟨97, 11, 97, 38⟩)), (PySem.Expr.UnaryOp (op := PySem.UnaryOp.Not) (operand := (PySem.Expr.Call (func := (PySem.Expr.Name "all" ⟨97, 46, 97, 49⟩)) (args := [ (PySem.Expr.ListComp (elt := (PySem.Expr.Compare (left := (PySem.Expr.Name "later" ⟨97, 51, 97, 56⟩)) (ops := [PySem.CmpOp.In]) (comparators := [(PySem.Expr.Name "due" ⟨97, 60, 97, 63⟩)]) (pos := ⟨97, 51, 97, 63⟩))) (generators := [ { target := (PySem.Expr.Name "later" ⟨97, 68, 97, 73⟩), iter := (PySem.Expr.Name "told" ⟨97, 77, 97, 81⟩), ifs := [], is_async := 0 : PySem.Comprehension }]) (scope := { kind := PySem.ScopeKind.function, names := [ (PySem.Str.ofString ".0", PySem.NameKind.local), (PySem.Str.ofString "later", PySem.NameKind.local), (PySem.Str.ofString "due", PySem.NameKind.free)], isGenerator := false, isCoroutine := false, more := [] : PySem.Scope }) (pos := ⟨97, 50, 97, 82⟩))]) (keywords := []) (pos := ⟨97, 46, 97, 83⟩))) (pos := ⟨97, 42, 97, 83⟩)), (PySem.Expr.Compare (left := (PySem.Expr.Name "one" ⟨97, 87, 97, 90⟩)) (ops := [PySem.CmpOp.NotIn]) (comparators := [(PySem.Expr.Name "told" ⟨97, 98, 97, 102⟩)]) (pos := ⟨97, 87, 97, 102⟩))]) (pos := ⟨97, 11, 97, 102⟩))) (body := [ (PySem.Stmt.Return (some (PySem.Expr.Constant (PySem.Const.bool false) 0 ⟨98, 19, 98, 24⟩)) ⟨98, 12, 98, 24⟩)]) (orelse := []) (pos := ⟨97, 8, 98, 24⟩))]
abbrev EL_law_right_chain_0 : Expr := (PySem.Expr.Compare (left := (PySem.Expr.Name "later" ⟨97, 51, 97, 56⟩)) (ops := [PySem.CmpOp.In]) (comparators := [(PySem.Expr.Name "due" ⟨97, 60, 97, 63⟩)]) (pos := ⟨97, 51, 97, 63⟩))
abbrev SC_law_right_chain_0 : Scope := { kind := PySem.ScopeKind.function, names := [ (PySem.Str.ofString ".0", PySem.NameKind.local), (PySem.Str.ofString "later", PySem.NameKind.local), (PySem.Str.ofString "due", PySem.NameKind.free)], isGenerator := false, isCoroutine := false, more := [] : PySem.Scope }
abbrev TG_law_right_chain_0 : Expr := (PySem.Expr.Name "later" ⟨97, 68, 97, 73⟩)
abbrev IT_law_right_chain_0 : Expr := (PySem.Expr.Name "told" ⟨97, 77, 97, 81⟩)
abbrev IF_law_right_chain_0 : List Expr := []
abbrev EL_law_0 : Expr := (PySem.Expr.Subscript (value := (PySem.Expr.Name "faults" ⟨104, 20, 104, 26⟩)) (slice := (PySem.Expr.BinOp (left := (PySem.Expr.BinOp (left := (PySem.Expr.Call (func := (PySem.Expr.Name "len" ⟨104, 27, 104, 30⟩)) (args := [(PySem.Expr.Name "faults" ⟨104, 31, 104, 37⟩)]) (keywords := []) (pos := ⟨104, 27, 104, 38⟩))) (op := PySem.Operator.Sub) (right := (PySem.Expr.Constant (PySem.Const.int 1) 0 ⟨104, 41, 104, 42⟩)) (pos := ⟨104, 27, 104, 42⟩))) (op := PySem.Operator.Sub) (right := (PySem.Expr.Name "k" ⟨104, 45, 104, 46⟩)) (pos := ⟨104, 27, 104, 46⟩))) (pos := ⟨104, 20, 104, 47⟩))
abbrev SC_law_0 : Scope := { kind := PySem.ScopeKind.function, names := [ (PySem.Str.ofString ".0", PySem.NameKind.local), (PySem.Str.ofString "k", PySem.NameKind.local), (PySem.Str.ofString "len", PySem.NameKind.globalImplicit), (PySem.Str.ofString "faults", PySem.NameKind.free)], isGenerator := false, isCoroutine := false, more := [] : PySem.Scope }
abbrev TG_law_0 : Expr := (PySem.Expr.Name "k" ⟨104, 52, 104, 53⟩)
abbrev IT_law_0 : Expr := (PySem.Expr.Call (func := (PySem.Expr.Name "range" ⟨104, 57, 104, 62⟩)) (args := [ (PySem.Expr.Call (func := (PySem.Expr.Name "len" ⟨104, 63, 104, 66⟩)) (args := [(PySem.Expr.Name "faults" ⟨104, 67, 104, 73⟩)]) (keywords := []) (pos := ⟨104, 63, 104, 74⟩))]) (keywords := []) (pos := ⟨104, 57, 104, 75⟩))
abbrev IF_law_0 : List Expr := []
abbrev FT_law_105 : Expr := (PySem.Expr.Name "turn" ⟨105, 8, 105, 12⟩)
abbrev FB_law_105 : List Stmt := [ (PySem.Stmt.For (target := (PySem.Expr.Name "struck" ⟨106, 12, 106, 18⟩)) (iter := (PySem.Expr.Call (func := (PySem.Expr.Name "_law_subsets" ⟨106, 22, 106, 34⟩)) (args := [ (PySem.Expr.Call (func := (PySem.Expr.Name "list" ⟨106, 35, 106, 39⟩)) (args := [ (PySem.Expr.Call (func := (PySem.Expr.Name "range" ⟨106, 40, 106, 45⟩)) (args := [ (PySem.Expr.Call (func := (PySem.Expr.Name "len" ⟨106, 46, 106, 49⟩)) (args := [(PySem.Expr.Name "faults" ⟨106, 50, 106, 56⟩)]) (keywords := []) (pos := ⟨106, 46, 106, 57⟩))]) (keywords := []) (pos := ⟨106, 40, 106, 58⟩))]) (keywords := []) (pos := ⟨106, 35, 106, 59⟩))]) (keywords := []) (pos := ⟨106, 22, 106, 60⟩))) (body := [ (PySem.Stmt.For (target := (PySem.Expr.Name "row" ⟨107, 16, 107, 19⟩)) (iter := (PySem.Expr.Tuple (elts := [(PySem.Expr.Name "faults" ⟨107, 24, 107, 30⟩), (PySem.Expr.Name "turned" ⟨107, 32, 107, 38⟩)]) (k := 0) (pos := ⟨107, 23, 107, 39⟩))) (body := [ (PySem.Stmt.Assign (targets := [(PySem.Expr.Name "told" ⟨108, 16, 108, 20⟩)]) (value := (PySem.Expr.Call (func := (PySem.Expr.Name "broken_by" ⟨108, 23, 108, 32⟩)) (args := [ (PySem.Expr.Name "sensors" ⟨108, 33, 108, 40⟩), (PySem.Expr.Name "row" ⟨108, 42, 108, 45⟩), (PySem.Expr.Name "struck" ⟨108, 47, 108, 53⟩)]) (keywords := []) (pos := ⟨108, 23, 108, 54⟩))) (pos := ⟨108, 16, 108, 54⟩)), (PySem.Stmt.If (test := (PySem.Expr.BoolOp (op := PySem.BoolOp.Or) (values := [ (PySem.Expr.UnaryOp (op := PySem.UnaryOp.Not) (operand := (PySem.Expr.Call (func := (PySem.Expr.Name "isinstance" ⟨109, 23, 109, 33⟩)) (args := [(PySem.Expr.Name "told" ⟨109, 34, 109, 38⟩), (PySem.Expr.Name "tuple" ⟨109, 40, 109, 45⟩)]) (keywords := []) (pos := ⟨109, 23, 109, 46⟩))) (pos := ⟨109, 19, 109, 46⟩)), (PySem.Expr.Compare (left := (PySem.Expr.Name "told" ⟨109, 50, 109, 54⟩)) (ops := [PySem.CmpOp.NotEq]) (comparators := [ (PySem.Expr.Call (func := (PySem.Expr.Name "_law_broken" ⟨109, 58, 109, 69⟩)) (args := [ (PySem.Expr.Name "sensors" ⟨109, 70, 109, 77⟩), (PySem.Expr.Name "row" ⟨109, 79, 109, 82⟩), (PySem.Expr.Name "struck" ⟨109, 84, 109, 90⟩)]) (keywords := []) (pos := ⟨109, 58, 109, 91⟩))]) (pos := ⟨109, 50, 109, 91⟩))]) (pos := ⟨109, 19, 109, 91⟩))) (body := [ (PySem.Stmt.Return (value := (some (PySem.Expr.Constant (PySem.Const.bool false) 0 ⟨110, 27, 110, 32⟩))) (pos := ⟨110, 20, 110, 32⟩))]) (orelse := []) (pos := ⟨109, 16, 110, 32⟩)), (PySem.Stmt.For (target := (PySem.Expr.Name "most" ⟨111, 20, 111, 24⟩)) (iter := (PySem.Expr.Call (func := (PySem.Expr.Name "range" ⟨111, 28, 111, 33⟩)) (args := [ (PySem.Expr.Call (func := (PySem.Expr.Name "len" ⟨111, 34, 111, 37⟩)) (args := [(PySem.Expr.Name "struck" ⟨111, 38, 111, 44⟩)]) (keywords := []) (pos := ⟨111, 34, 111, 45⟩)), (PySem.Expr.Constant (PySem.Const.int 4) 0 ⟨111, 47, 111, 48⟩)]) (keywords := []) (pos := ⟨111, 28, 111, 49⟩))) (body := [ (PySem.Stmt.If (test := (PySem.Expr.UnaryOp (op := PySem.UnaryOp.Not) (operand := (PySem.Expr.Call (func := (PySem.Expr.Name "_law_right_chain" ⟨112, 27, 112, 43⟩)) (args := [ (PySem.Expr.Name "row" ⟨112, 44, 112, 47⟩), (PySem.Expr.Name "most" ⟨112, 49, 112, 53⟩), (PySem.Expr.Name "struck" ⟨112, 55, 112, 61⟩)]) (keywords := []) (pos := ⟨112, 27, 112, 62⟩))) (pos := ⟨112, 23, 112, 62⟩))) (body := [ (PySem.Stmt.Return (value := (some (PySem.Expr.Constant (PySem.Const.bool false) 0 ⟨113, 31, 113, 36⟩))) (pos := ⟨113, 24, 113, 36⟩))]) (orelse := []) (pos := ⟨112, 20, 113, 36⟩))]) (orelse := []) (pos := ⟨111, 16, 113, 36⟩))]) (orelse := []) (pos := ⟨107, 12, 113, 36⟩))]) (orelse := []) (pos := ⟨106, 8, 113, 36⟩))]
abbrev FT_law_106 : Expr := (PySem.Expr.Name "struck" ⟨106, 12, 106, 18⟩)
abbrev FB_law_106 : List Stmt := [ (PySem.Stmt.For (target := (PySem.Expr.Name "row" ⟨107, 16, 107, 19⟩)) (iter := (PySem.Expr.Tuple (elts := [(PySem.Expr.Name "faults" ⟨107, 24, 107, 30⟩), (PySem.Expr.Name "turned" ⟨107, 32, 107, 38⟩)]) (k := 0) (pos := ⟨107, 23, 107, 39⟩))) (body := [ (PySem.Stmt.Assign (targets := [(PySem.Expr.Name "told" ⟨108, 16, 108, 20⟩)]) (value := (PySem.Expr.Call (func := (PySem.Expr.Name "broken_by" ⟨108, 23, 108, 32⟩)) (args := [ (PySem.Expr.Name "sensors" ⟨108, 33, 108, 40⟩), (PySem.Expr.Name "row" ⟨108, 42, 108, 45⟩), (PySem.Expr.Name "struck" ⟨108, 47, 108, 53⟩)]) (keywords := []) (pos := ⟨108, 23, 108, 54⟩))) (pos := ⟨108, 16, 108, 54⟩)), (PySem.Stmt.If (test := (PySem.Expr.BoolOp (op := PySem.BoolOp.Or) (values := [ (PySem.Expr.UnaryOp (op := PySem.UnaryOp.Not) (operand := (PySem.Expr.Call (func := (PySem.Expr.Name "isinstance" ⟨109, 23, 109, 33⟩)) (args := [(PySem.Expr.Name "told" ⟨109, 34, 109, 38⟩), (PySem.Expr.Name "tuple" ⟨109, 40, 109, 45⟩)]) (keywords := []) (pos := ⟨109, 23, 109, 46⟩))) (pos := ⟨109, 19, 109, 46⟩)), (PySem.Expr.Compare (left := (PySem.Expr.Name "told" ⟨109, 50, 109, 54⟩)) (ops := [PySem.CmpOp.NotEq]) (comparators := [ (PySem.Expr.Call (func := (PySem.Expr.Name "_law_broken" ⟨109, 58, 109, 69⟩)) (args := [ (PySem.Expr.Name "sensors" ⟨109, 70, 109, 77⟩), (PySem.Expr.Name "row" ⟨109, 79, 109, 82⟩), (PySem.Expr.Name "struck" ⟨109, 84, 109, 90⟩)]) (keywords := []) (pos := ⟨109, 58, 109, 91⟩))]) (pos := ⟨109, 50, 109, 91⟩))]) (pos := ⟨109, 19, 109, 91⟩))) (body := [ (PySem.Stmt.Return (value := (some (PySem.Expr.Constant (PySem.Const.bool false) 0 ⟨110, 27, 110, 32⟩))) (pos := ⟨110, 20, 110, 32⟩))]) (orelse := []) (pos := ⟨109, 16, 110, 32⟩)), (PySem.Stmt.For (target := (PySem.Expr.Name "most" ⟨111, 20, 111, 24⟩)) (iter := (PySem.Expr.Call (func := (PySem.Expr.Name "range" ⟨111, 28, 111, 33⟩)) (args := [ (PySem.Expr.Call (func := (PySem.Expr.Name "len" ⟨111, 34, 111, 37⟩)) (args := [(PySem.Expr.Name "struck" ⟨111, 38, 111, 44⟩)]) (keywords := []) (pos := ⟨111, 34, 111, 45⟩)), (PySem.Expr.Constant (PySem.Const.int 4) 0 ⟨111, 47, 111, 48⟩)]) (keywords := []) (pos := ⟨111, 28, 111, 49⟩))) (body := [ (PySem.Stmt.If (test := (PySem.Expr.UnaryOp (op := PySem.UnaryOp.Not) (operand := (PySem.Expr.Call (func := (PySem.Expr.Name "_law_right_chain" ⟨112, 27, 112, 43⟩)) (args := [ (PySem.Expr.Name "row" ⟨112, 44, 112, 47⟩), (PySem.Expr.Name "most" ⟨112, 49, 112, 53⟩), (PySem.Expr.Name "struck" ⟨112, 55, 112, 61⟩)]) (keywords := []) (pos := ⟨112, 27, 112, 62⟩))) (pos := ⟨112, 23, 112, 62⟩))) (body := [ (PySem.Stmt.Return (value := (some (PySem.Expr.Constant (PySem.Const.bool false) 0 ⟨113, 31, 113, 36⟩))) (pos := ⟨113, 24, 113, 36⟩))]) (orelse := []) (pos := ⟨112, 20, 113, 36⟩))]) (orelse := []) (pos := ⟨111, 16, 113, 36⟩))]) (orelse := []) (pos := ⟨107, 12, 113, 36⟩))]
abbrev FT_law_107 : Expr := (PySem.Expr.Name "row" ⟨107, 16, 107, 19⟩)
abbrev FB_law_107 : List Stmt := [ (PySem.Stmt.Assign (targets := [(PySem.Expr.Name "told" ⟨108, 16, 108, 20⟩)]) (value := (PySem.Expr.Call (func := (PySem.Expr.Name "broken_by" ⟨108, 23, 108, 32⟩)) (args := [ (PySem.Expr.Name "sensors" ⟨108, 33, 108, 40⟩), (PySem.Expr.Name "row" ⟨108, 42, 108, 45⟩), (PySem.Expr.Name "struck" ⟨108, 47, 108, 53⟩)]) (keywords := []) (pos := ⟨108, 23, 108, 54⟩))) (pos := ⟨108, 16, 108, 54⟩)), (PySem.Stmt.If (test := (PySem.Expr.BoolOp (op := PySem.BoolOp.Or) (values := [ (PySem.Expr.UnaryOp (op := PySem.UnaryOp.Not) (operand := (PySem.Expr.Call (func := (PySem.Expr.Name "isinstance" ⟨109, 23, 109, 33⟩)) (args := [(PySem.Expr.Name "told" ⟨109, 34, 109, 38⟩), (PySem.Expr.Name "tuple" ⟨109, 40, 109, 45⟩)]) (keywords := []) (pos := ⟨109, 23, 109, 46⟩))) (pos := ⟨109, 19, 109, 46⟩)), (PySem.Expr.Compare (left := (PySem.Expr.Name "told" ⟨109, 50, 109, 54⟩)) (ops := [PySem.CmpOp.NotEq]) (comparators := [ (PySem.Expr.Call (func := (PySem.Expr.Name "_law_broken" ⟨109, 58, 109, 69⟩)) (args := [ (PySem.Expr.Name "sensors" ⟨109, 70, 109, 77⟩), (PySem.Expr.Name "row" ⟨109, 79, 109, 82⟩), (PySem.Expr.Name "struck" ⟨109, 84, 109, 90⟩)]) (keywords := []) (pos := ⟨109, 58, 109, 91⟩))]) (pos := ⟨109, 50, 109, 91⟩))]) (pos := ⟨109, 19, 109, 91⟩))) (body := [ (PySem.Stmt.Return (value := (some (PySem.Expr.Constant (PySem.Const.bool false) 0 ⟨110, 27, 110, 32⟩))) (pos := ⟨110, 20, 110, 32⟩))]) (orelse := []) (pos := ⟨109, 16, 110, 32⟩)), (PySem.Stmt.For (target := (PySem.Expr.Name "most" ⟨111, 20, 111, 24⟩)) (iter := (PySem.Expr.Call (func := (PySem.Expr.Name "range" ⟨111, 28, 111, 33⟩)) (args := [ (PySem.Expr.Call (func := (PySem.Expr.Name "len" ⟨111, 34, 111, 37⟩)) (args := [(PySem.Expr.Name "struck" ⟨111, 38, 111, 44⟩)]) (keywords := []) (pos := ⟨111, 34, 111, 45⟩)), (PySem.Expr.Constant (PySem.Const.int 4) 0 ⟨111, 47, 111, 48⟩)]) (keywords := []) (pos := ⟨111, 28, 111, 49⟩))) (body := [ (PySem.Stmt.If (test := (PySem.Expr.UnaryOp (op := PySem.UnaryOp.Not) (operand := (PySem.Expr.Call (func := (PySem.Expr.Name "_law_right_chain" ⟨112, 27, 112, 43⟩)) (args := [ (PySem.Expr.Name "row" ⟨112, 44, 112, 47⟩), (PySem.Expr.Name "most" ⟨112, 49, 112, 53⟩), (PySem.Expr.Name "struck" ⟨112, 55, 112, 61⟩)]) (keywords := []) (pos := ⟨112, 27, 112, 62⟩))) (pos := ⟨112, 23, 112, 62⟩))) (body := [ (PySem.Stmt.Return (value := (some (PySem.Expr.Constant (PySem.Const.bool false) 0 ⟨113, 31, 113, 36⟩))) (pos := ⟨113, 24, 113, 36⟩))]) (orelse := []) (pos := ⟨112, 20, 113, 36⟩))]) (orelse := []) (pos := ⟨111, 16, 113, 36⟩))]
abbrev FT_law_111 : Expr := (PySem.Expr.Name "most" ⟨111, 20, 111, 24⟩)
abbrev FB_law_111 : List Stmt := [ (PySem.Stmt.If (test := (PySem.Expr.UnaryOp (op := PySem.UnaryOp.Not) (operand := (PySem.Expr.Call (func := (PySem.Expr.Name "_law_right_chain" ⟨112, 27, 112, 43⟩)) (args := [ (PySem.Expr.Name "row" ⟨112, 44, 112, 47⟩), (PySem.Expr.Name "most" ⟨112, 49, 112, 53⟩), (PySem.Expr.Name "struck" ⟨112, 55, 112, 61⟩)]) (keywords := []) (pos := ⟨112, 27, 112, 62⟩))) (pos := ⟨112, 23, 112, 62⟩))) (body := [ (PySem.Stmt.Return (value := (some (PySem.Expr.Constant (PySem.Const.bool false) 0 ⟨113, 31, 113, 36⟩))) (pos := ⟨113, 24, 113, 36⟩))]) (orelse := []) (pos := ⟨112, 20, 113, 36⟩))]
theorem nc_subsets_of_0 : Ev.ownOf (fmOf df_subsets_of) ({ kind := PySem.ScopeKind.function, names := [ (PySem.Str.ofString ".0", PySem.NameKind.local), (PySem.Str.ofString "some", PySem.NameKind.local), (PySem.Str.ofString "member", PySem.NameKind.free)], isGenerator := false, isCoroutine := false, more := [] : PySem.Scope } : Scope) = ([("some", 3)] : List (Str × Nat)) ∧ blkC (fmOf df_subsets_of).N ((fmOf df_subsets_of)).sc ({ kind := PySem.ScopeKind.function, names := [ (PySem.Str.ofString ".0", PySem.NameKind.local), (PySem.Str.ofString "some", PySem.NameKind.local), (PySem.Str.ofString "member", PySem.NameKind.free)], isGenerator := false, isCoroutine := false, more := [] : PySem.Scope } : Scope) ([("some", 3)] : List (Str × Nat)) = true ∧ lcFlags 4 [3] = [false, false, false, true] ∧ slot (blkFm (fmOf df_subsets_of) ({ kind := PySem.ScopeKind.function, names := [ (PySem.Str.ofString ".0", PySem.NameKind.local), (PySem.Str.ofString "some", PySem.NameKind.local), (PySem.Str.ofString "member", PySem.NameKind.free)], isGenerator := false, isCoroutine := false, more := [] : PySem.Scope } : Scope)) "some" = some 3 ∧ slotL (blkFm (fmOf df_subsets_of) ({ kind := PySem.ScopeKind.function, names := [ (PySem.Str.ofString ".0", PySem.NameKind.local), (PySem.Str.ofString "some", PySem.NameKind.local), (PySem.Str.ofString "member", PySem.NameKind.free)], isGenerator := false, isCoroutine := false, more := [] : PySem.Scope } : Scope)) "some" = some 3 ∧ slot (blkFm (fmOf df_subsets_of) ({ kind := PySem.ScopeKind.function, names := [ (PySem.Str.ofString ".0", PySem.NameKind.local), (PySem.Str.ofString "some", PySem.NameKind.local), (PySem.Str.ofString "member", PySem.NameKind.free)], isGenerator := false, isCoroutine := false, more := [] : PySem.Scope } : Scope)) "member" = some 2 := by
  refine ⟨?_, ?_, ?_, ?_, ?_, ?_⟩
  all_goals rfl
theorem nc_strikes_0 : Ev.ownOf (fmOf df_strikes) ({ kind := PySem.ScopeKind.function, names := [ (PySem.Str.ofString ".0", PySem.NameKind.local), (PySem.Str.ofString "some", PySem.NameKind.local), (PySem.Str.ofString "len", PySem.NameKind.globalImplicit), (PySem.Str.ofString "inside", PySem.NameKind.globalImplicit), (PySem.Str.ofString "most", PySem.NameKind.free), (PySem.Str.ofString "struck", PySem.NameKind.free)], isGenerator := false, isCoroutine := false, more := [] : PySem.Scope } : Scope) = ([("some", 4)] : List (Str × Nat)) ∧ blkC (fmOf df_strikes).N ((fmOf df_strikes)).sc ({ kind := PySem.ScopeKind.function, names := [ (PySem.Str.ofString ".0", PySem.NameKind.local), (PySem.Str.ofString "some", PySem.NameKind.local), (PySem.Str.ofString "len", PySem.NameKind.globalImplicit), (PySem.Str.ofString "inside", PySem.NameKind.globalImplicit), (PySem.Str.ofString "most", PySem.NameKind.free), (PySem.Str.ofString "struck", PySem.NameKind.free)], isGenerator := false, isCoroutine := false, more := [] : PySem.Scope } : Scope) ([("some", 4)] : List (Str × Nat)) = true ∧ lcFlags 5 [4] = [false, false, false, false, true] ∧ slot (blkFm (fmOf df_strikes) ({ kind := PySem.ScopeKind.function, names := [ (PySem.Str.ofString ".0", PySem.NameKind.local), (PySem.Str.ofString "some", PySem.NameKind.local), (PySem.Str.ofString "len", PySem.NameKind.globalImplicit), (PySem.Str.ofString "inside", PySem.NameKind.globalImplicit), (PySem.Str.ofString "most", PySem.NameKind.free), (PySem.Str.ofString "struck", PySem.NameKind.free)], isGenerator := false, isCoroutine := false, more := [] : PySem.Scope } : Scope)) "some" = some 4 ∧ slotL (blkFm (fmOf df_strikes) ({ kind := PySem.ScopeKind.function, names := [ (PySem.Str.ofString ".0", PySem.NameKind.local), (PySem.Str.ofString "some", PySem.NameKind.local), (PySem.Str.ofString "len", PySem.NameKind.globalImplicit), (PySem.Str.ofString "inside", PySem.NameKind.globalImplicit), (PySem.Str.ofString "most", PySem.NameKind.free), (PySem.Str.ofString "struck", PySem.NameKind.free)], isGenerator := false, isCoroutine := false, more := [] : PySem.Scope } : Scope)) "some" = some 4 ∧ slot (blkFm (fmOf df_strikes) ({ kind := PySem.ScopeKind.function, names := [ (PySem.Str.ofString ".0", PySem.NameKind.local), (PySem.Str.ofString "some", PySem.NameKind.local), (PySem.Str.ofString "len", PySem.NameKind.globalImplicit), (PySem.Str.ofString "inside", PySem.NameKind.globalImplicit), (PySem.Str.ofString "most", PySem.NameKind.free), (PySem.Str.ofString "struck", PySem.NameKind.free)], isGenerator := false, isCoroutine := false, more := [] : PySem.Scope } : Scope)) "len" = none ∧ glB (blkFm (fmOf df_strikes) ({ kind := PySem.ScopeKind.function, names := [ (PySem.Str.ofString ".0", PySem.NameKind.local), (PySem.Str.ofString "some", PySem.NameKind.local), (PySem.Str.ofString "len", PySem.NameKind.globalImplicit), (PySem.Str.ofString "inside", PySem.NameKind.globalImplicit), (PySem.Str.ofString "most", PySem.NameKind.free), (PySem.Str.ofString "struck", PySem.NameKind.free)], isGenerator := false, isCoroutine := false, more := [] : PySem.Scope } : Scope)).sc "len" = true ∧ slot (blkFm (fmOf df_strikes) ({ kind := PySem.ScopeKind.function, names := [ (PySem.Str.ofString ".0", PySem.NameKind.local), (PySem.Str.ofString "some", PySem.NameKind.local), (PySem.Str.ofString "len", PySem.NameKind.globalImplicit), (PySem.Str.ofString "inside", PySem.NameKind.globalImplicit), (PySem.Str.ofString "most", PySem.NameKind.free), (PySem.Str.ofString "struck", PySem.NameKind.free)], isGenerator := false, isCoroutine := false, more := [] : PySem.Scope } : Scope)) "inside" = none ∧ glB (blkFm (fmOf df_strikes) ({ kind := PySem.ScopeKind.function, names := [ (PySem.Str.ofString ".0", PySem.NameKind.local), (PySem.Str.ofString "some", PySem.NameKind.local), (PySem.Str.ofString "len", PySem.NameKind.globalImplicit), (PySem.Str.ofString "inside", PySem.NameKind.globalImplicit), (PySem.Str.ofString "most", PySem.NameKind.free), (PySem.Str.ofString "struck", PySem.NameKind.free)], isGenerator := false, isCoroutine := false, more := [] : PySem.Scope } : Scope)).sc "inside" = true ∧ slot (blkFm (fmOf df_strikes) ({ kind := PySem.ScopeKind.function, names := [ (PySem.Str.ofString ".0", PySem.NameKind.local), (PySem.Str.ofString "some", PySem.NameKind.local), (PySem.Str.ofString "len", PySem.NameKind.globalImplicit), (PySem.Str.ofString "inside", PySem.NameKind.globalImplicit), (PySem.Str.ofString "most", PySem.NameKind.free), (PySem.Str.ofString "struck", PySem.NameKind.free)], isGenerator := false, isCoroutine := false, more := [] : PySem.Scope } : Scope)) "most" = some 1 ∧ slot (blkFm (fmOf df_strikes) ({ kind := PySem.ScopeKind.function, names := [ (PySem.Str.ofString ".0", PySem.NameKind.local), (PySem.Str.ofString "some", PySem.NameKind.local), (PySem.Str.ofString "len", PySem.NameKind.globalImplicit), (PySem.Str.ofString "inside", PySem.NameKind.globalImplicit), (PySem.Str.ofString "most", PySem.NameKind.free), (PySem.Str.ofString "struck", PySem.NameKind.free)], isGenerator := false, isCoroutine := false, more := [] : PySem.Scope } : Scope)) "struck" = some 2 := by
  refine ⟨?_, ?_, ?_, ?_, ?_, ?_, ?_, ?_, ?_, ?_, ?_⟩
  all_goals rfl
theorem nc_broken_by_0 : Ev.ownOf (fmOf df_broken_by) ({ kind := PySem.ScopeKind.function, names := [ (PySem.Str.ofString ".0", PySem.NameKind.local), (PySem.Str.ofString "number", PySem.NameKind.local), (PySem.Str.ofString "faults", PySem.NameKind.free)], isGenerator := false, isCoroutine := false, more := [] : PySem.Scope } : Scope) = ([("number", 4)] : List (Str × Nat)) ∧ blkC (fmOf df_broken_by).N ((fmOf df_broken_by)).sc ({ kind := PySem.ScopeKind.function, names := [ (PySem.Str.ofString ".0", PySem.NameKind.local), (PySem.Str.ofString "number", PySem.NameKind.local), (PySem.Str.ofString "faults", PySem.NameKind.free)], isGenerator := false, isCoroutine := false, more := [] : PySem.Scope } : Scope) ([("number", 4)] : List (Str × Nat)) = true ∧ lcFlags 6 [4] = [false, false, false, false, true, false] ∧ slot (blkFm (fmOf df_broken_by) ({ kind := PySem.ScopeKind.function, names := [ (PySem.Str.ofString ".0", PySem.NameKind.local), (PySem.Str.ofString "number", PySem.NameKind.local), (PySem.Str.ofString "faults", PySem.NameKind.free)], isGenerator := false, isCoroutine := false, more := [] : PySem.Scope } : Scope)) "number" = some 4 ∧ slotL (blkFm (fmOf df_broken_by) ({ kind := PySem.ScopeKind.function, names := [ (PySem.Str.ofString ".0", PySem.NameKind.local), (PySem.Str.ofString "number", PySem.NameKind.local), (PySem.Str.ofString "faults", PySem.NameKind.free)], isGenerator := false, isCoroutine := false, more := [] : PySem.Scope } : Scope)) "number" = some 4 ∧ slot (blkFm (fmOf df_broken_by) ({ kind := PySem.ScopeKind.function, names := [ (PySem.Str.ofString ".0", PySem.NameKind.local), (PySem.Str.ofString "number", PySem.NameKind.local), (PySem.Str.ofString "faults", PySem.NameKind.free)], isGenerator := false, isCoroutine := false, more := [] : PySem.Scope } : Scope)) "faults" = some 1 := by
  refine ⟨?_, ?_, ?_, ?_, ?_, ?_⟩
  all_goals rfl
theorem nc_broken_by_1 : Ev.ownOf (fmOf df_broken_by) ({ kind := PySem.ScopeKind.function, names := [ (PySem.Str.ofString ".0", PySem.NameKind.local), (PySem.Str.ofString "sensor", PySem.NameKind.local), (PySem.Str.ofString "_broken", PySem.NameKind.globalImplicit), (PySem.Str.ofString "present", PySem.NameKind.free)], isGenerator := false, isCoroutine := false, more := [] : PySem.Scope } : Scope) = ([("sensor", 5)] : List (Str × Nat)) ∧ blkC (fmOf df_broken_by).N ((fmOf df_broken_by)).sc ({ kind := PySem.ScopeKind.function, names := [ (PySem.Str.ofString ".0", PySem.NameKind.local), (PySem.Str.ofString "sensor", PySem.NameKind.local), (PySem.Str.ofString "_broken", PySem.NameKind.globalImplicit), (PySem.Str.ofString "present", PySem.NameKind.free)], isGenerator := false, isCoroutine := false, more := [] : PySem.Scope } : Scope) ([("sensor", 5)] : List (Str × Nat)) = true ∧ lcFlags 6 [5] = [false, false, false, false, false, true] ∧ slot (blkFm (fmOf df_broken_by) ({ kind := PySem.ScopeKind.function, names := [ (PySem.Str.ofString ".0", PySem.NameKind.local), (PySem.Str.ofString "sensor", PySem.NameKind.local), (PySem.Str.ofString "_broken", PySem.NameKind.globalImplicit), (PySem.Str.ofString "present", PySem.NameKind.free)], isGenerator := false, isCoroutine := false, more := [] : PySem.Scope } : Scope)) "sensor" = some 5 ∧ slotL (blkFm (fmOf df_broken_by) ({ kind := PySem.ScopeKind.function, names := [ (PySem.Str.ofString ".0", PySem.NameKind.local), (PySem.Str.ofString "sensor", PySem.NameKind.local), (PySem.Str.ofString "_broken", PySem.NameKind.globalImplicit), (PySem.Str.ofString "present", PySem.NameKind.free)], isGenerator := false, isCoroutine := false, more := [] : PySem.Scope } : Scope)) "sensor" = some 5 ∧ slot (blkFm (fmOf df_broken_by) ({ kind := PySem.ScopeKind.function, names := [ (PySem.Str.ofString ".0", PySem.NameKind.local), (PySem.Str.ofString "sensor", PySem.NameKind.local), (PySem.Str.ofString "_broken", PySem.NameKind.globalImplicit), (PySem.Str.ofString "present", PySem.NameKind.free)], isGenerator := false, isCoroutine := false, more := [] : PySem.Scope } : Scope)) "_broken" = none ∧ glB (blkFm (fmOf df_broken_by) ({ kind := PySem.ScopeKind.function, names := [ (PySem.Str.ofString ".0", PySem.NameKind.local), (PySem.Str.ofString "sensor", PySem.NameKind.local), (PySem.Str.ofString "_broken", PySem.NameKind.globalImplicit), (PySem.Str.ofString "present", PySem.NameKind.free)], isGenerator := false, isCoroutine := false, more := [] : PySem.Scope } : Scope)).sc "_broken" = true ∧ slot (blkFm (fmOf df_broken_by) ({ kind := PySem.ScopeKind.function, names := [ (PySem.Str.ofString ".0", PySem.NameKind.local), (PySem.Str.ofString "sensor", PySem.NameKind.local), (PySem.Str.ofString "_broken", PySem.NameKind.globalImplicit), (PySem.Str.ofString "present", PySem.NameKind.free)], isGenerator := false, isCoroutine := false, more := [] : PySem.Scope } : Scope)) "present" = some 3 := by
  refine ⟨?_, ?_, ?_, ?_, ?_, ?_, ?_, ?_⟩
  all_goals rfl
theorem nc_law_begin_0 : Ev.ownOf (fmOf df_law_begin) ({ kind := PySem.ScopeKind.function, names := [ (PySem.Str.ofString ".0", PySem.NameKind.local), (PySem.Str.ofString "cell", PySem.NameKind.local), (PySem.Str.ofString "int", PySem.NameKind.globalImplicit)], isGenerator := false, isCoroutine := false, more := [] : PySem.Scope } : Scope) = ([("cell", 1)] : List (Str × Nat)) ∧ blkC (fmOf df_law_begin).N ((fmOf df_law_begin)).sc ({ kind := PySem.ScopeKind.function, names := [ (PySem.Str.ofString ".0", PySem.NameKind.local), (PySem.Str.ofString "cell", PySem.NameKind.local), (PySem.Str.ofString "int", PySem.NameKind.globalImplicit)], isGenerator := false, isCoroutine := false, more := [] : PySem.Scope } : Scope) ([("cell", 1)] : List (Str × Nat)) = true ∧ lcFlags 2 [1] = [false, true] ∧ slot (blkFm (fmOf df_law_begin) ({ kind := PySem.ScopeKind.function, names := [ (PySem.Str.ofString ".0", PySem.NameKind.local), (PySem.Str.ofString "cell", PySem.NameKind.local), (PySem.Str.ofString "int", PySem.NameKind.globalImplicit)], isGenerator := false, isCoroutine := false, more := [] : PySem.Scope } : Scope)) "cell" = some 1 ∧ slotL (blkFm (fmOf df_law_begin) ({ kind := PySem.ScopeKind.function, names := [ (PySem.Str.ofString ".0", PySem.NameKind.local), (PySem.Str.ofString "cell", PySem.NameKind.local), (PySem.Str.ofString "int", PySem.NameKind.globalImplicit)], isGenerator := false, isCoroutine := false, more := [] : PySem.Scope } : Scope)) "cell" = some 1 ∧ slot (blkFm (fmOf df_law_begin) ({ kind := PySem.ScopeKind.function, names := [ (PySem.Str.ofString ".0", PySem.NameKind.local), (PySem.Str.ofString "cell", PySem.NameKind.local), (PySem.Str.ofString "int", PySem.NameKind.globalImplicit)], isGenerator := false, isCoroutine := false, more := [] : PySem.Scope } : Scope)) "int" = none ∧ glB (blkFm (fmOf df_law_begin) ({ kind := PySem.ScopeKind.function, names := [ (PySem.Str.ofString ".0", PySem.NameKind.local), (PySem.Str.ofString "cell", PySem.NameKind.local), (PySem.Str.ofString "int", PySem.NameKind.globalImplicit)], isGenerator := false, isCoroutine := false, more := [] : PySem.Scope } : Scope)).sc "int" = true := by
  refine ⟨?_, ?_, ?_, ?_, ?_, ?_, ?_⟩
  all_goals rfl
theorem nc_law_is_ints_0 : Ev.ownOf (fmOf df_law_is_ints) ({ kind := PySem.ScopeKind.function, names := [ (PySem.Str.ofString ".0", PySem.NameKind.local), (PySem.Str.ofString "part", PySem.NameKind.local), (PySem.Str.ofString "_law_is_int", PySem.NameKind.globalImplicit)], isGenerator := false, isCoroutine := false, more := [] : PySem.Scope } : Scope) = ([("part", 1)] : List (Str × Nat)) ∧ blkC (fmOf df_law_is_ints).N ((fmOf df_law_is_ints)).sc ({ kind := PySem.ScopeKind.function, names := [ (PySem.Str.ofString ".0", PySem.NameKind.local), (PySem.Str.ofString "part", PySem.NameKind.local), (PySem.Str.ofString "_law_is_int", PySem.NameKind.globalImplicit)], isGenerator := false, isCoroutine := false, more := [] : PySem.Scope } : Scope) ([("part", 1)] : List (Str × Nat)) = true ∧ lcFlags 2 [1] = [false, true] ∧ slot (blkFm (fmOf df_law_is_ints) ({ kind := PySem.ScopeKind.function, names := [ (PySem.Str.ofString ".0", PySem.NameKind.local), (PySem.Str.ofString "part", PySem.NameKind.local), (PySem.Str.ofString "_law_is_int", PySem.NameKind.globalImplicit)], isGenerator := false, isCoroutine := false, more := [] : PySem.Scope } : Scope)) "part" = some 1 ∧ slotL (blkFm (fmOf df_law_is_ints) ({ kind := PySem.ScopeKind.function, names := [ (PySem.Str.ofString ".0", PySem.NameKind.local), (PySem.Str.ofString "part", PySem.NameKind.local), (PySem.Str.ofString "_law_is_int", PySem.NameKind.globalImplicit)], isGenerator := false, isCoroutine := false, more := [] : PySem.Scope } : Scope)) "part" = some 1 ∧ slot (blkFm (fmOf df_law_is_ints) ({ kind := PySem.ScopeKind.function, names := [ (PySem.Str.ofString ".0", PySem.NameKind.local), (PySem.Str.ofString "part", PySem.NameKind.local), (PySem.Str.ofString "_law_is_int", PySem.NameKind.globalImplicit)], isGenerator := false, isCoroutine := false, more := [] : PySem.Scope } : Scope)) "_law_is_int" = none ∧ glB (blkFm (fmOf df_law_is_ints) ({ kind := PySem.ScopeKind.function, names := [ (PySem.Str.ofString ".0", PySem.NameKind.local), (PySem.Str.ofString "part", PySem.NameKind.local), (PySem.Str.ofString "_law_is_int", PySem.NameKind.globalImplicit)], isGenerator := false, isCoroutine := false, more := [] : PySem.Scope } : Scope)).sc "_law_is_int" = true := by
  refine ⟨?_, ?_, ?_, ?_, ?_, ?_, ?_⟩
  all_goals rfl
theorem nc_law_is_set_0 : Ev.ownOf (fmOf df_law_is_set) ({ kind := PySem.ScopeKind.function, names := [ (PySem.Str.ofString ".0", PySem.NameKind.local), (PySem.Str.ofString "k", PySem.NameKind.local), (PySem.Str.ofString "row", PySem.NameKind.free)], isGenerator := false, isCoroutine := false, more := [] : PySem.Scope } : Scope) = ([("k", 1)] : List (Str × Nat)) ∧ blkC (fmOf df_law_is_set).N ((fmOf df_law_is_set)).sc ({ kind := PySem.ScopeKind.function, names := [ (PySem.Str.ofString ".0", PySem.NameKind.local), (PySem.Str.ofString "k", PySem.NameKind.local), (PySem.Str.ofString "row", PySem.NameKind.free)], isGenerator := false, isCoroutine := false, more := [] : PySem.Scope } : Scope) ([("k", 1)] : List (Str × Nat)) = true ∧ lcFlags 2 [1] = [false, true] ∧ slot (blkFm (fmOf df_law_is_set) ({ kind := PySem.ScopeKind.function, names := [ (PySem.Str.ofString ".0", PySem.NameKind.local), (PySem.Str.ofString "k", PySem.NameKind.local), (PySem.Str.ofString "row", PySem.NameKind.free)], isGenerator := false, isCoroutine := false, more := [] : PySem.Scope } : Scope)) "k" = some 1 ∧ slotL (blkFm (fmOf df_law_is_set) ({ kind := PySem.ScopeKind.function, names := [ (PySem.Str.ofString ".0", PySem.NameKind.local), (PySem.Str.ofString "k", PySem.NameKind.local), (PySem.Str.ofString "row", PySem.NameKind.free)], isGenerator := false, isCoroutine := false, more := [] : PySem.Scope } : Scope)) "k" = some 1 ∧ slot (blkFm (fmOf df_law_is_set) ({ kind := PySem.ScopeKind.function, names := [ (PySem.Str.ofString ".0", PySem.NameKind.local), (PySem.Str.ofString "k", PySem.NameKind.local), (PySem.Str.ofString "row", PySem.NameKind.free)], isGenerator := false, isCoroutine := false, more := [] : PySem.Scope } : Scope)) "row" = some 0 := by
  refine ⟨?_, ?_, ?_, ?_, ?_, ?_⟩
  all_goals rfl
theorem nc_law_subsets_0 : Ev.ownOf (fmOf df_law_subsets) ({ kind := PySem.ScopeKind.function, names := [ (PySem.Str.ofString ".0", PySem.NameKind.local), (PySem.Str.ofString "part", PySem.NameKind.local), (PySem.Str.ofString "one", PySem.NameKind.free)], isGenerator := false, isCoroutine := false, more := [] : PySem.Scope } : Scope) = ([("part", 3)] : List (Str × Nat)) ∧ blkC (fmOf df_law_subsets).N ((fmOf df_law_subsets)).sc ({ kind := PySem.ScopeKind.function, names := [ (PySem.Str.ofString ".0", PySem.NameKind.local), (PySem.Str.ofString "part", PySem.NameKind.local), (PySem.Str.ofString "one", PySem.NameKind.free)], isGenerator := false, isCoroutine := false, more := [] : PySem.Scope } : Scope) ([("part", 3)] : List (Str × Nat)) = true ∧ lcFlags 4 [3] = [false, false, false, true] ∧ slot (blkFm (fmOf df_law_subsets) ({ kind := PySem.ScopeKind.function, names := [ (PySem.Str.ofString ".0", PySem.NameKind.local), (PySem.Str.ofString "part", PySem.NameKind.local), (PySem.Str.ofString "one", PySem.NameKind.free)], isGenerator := false, isCoroutine := false, more := [] : PySem.Scope } : Scope)) "part" = some 3 ∧ slotL (blkFm (fmOf df_law_subsets) ({ kind := PySem.ScopeKind.function, names := [ (PySem.Str.ofString ".0", PySem.NameKind.local), (PySem.Str.ofString "part", PySem.NameKind.local), (PySem.Str.ofString "one", PySem.NameKind.free)], isGenerator := false, isCoroutine := false, more := [] : PySem.Scope } : Scope)) "part" = some 3 ∧ slot (blkFm (fmOf df_law_subsets) ({ kind := PySem.ScopeKind.function, names := [ (PySem.Str.ofString ".0", PySem.NameKind.local), (PySem.Str.ofString "part", PySem.NameKind.local), (PySem.Str.ofString "one", PySem.NameKind.free)], isGenerator := false, isCoroutine := false, more := [] : PySem.Scope } : Scope)) "one" = some 2 := by
  refine ⟨?_, ?_, ?_, ?_, ?_, ?_⟩
  all_goals rfl
theorem nc_law_sensors_0 : Ev.ownOf (fmOf df_law_sensors) ({ kind := PySem.ScopeKind.function, names := [(PySem.Str.ofString ".0", PySem.NameKind.local), (PySem.Str.ofString "k", PySem.NameKind.local)], isGenerator := false, isCoroutine := false, more := [] : PySem.Scope } : Scope) = ([("k", 3)] : List (Str × Nat)) ∧ blkC (fmOf df_law_sensors).N ((fmOf df_law_sensors)).sc ({ kind := PySem.ScopeKind.function, names := [(PySem.Str.ofString ".0", PySem.NameKind.local), (PySem.Str.ofString "k", PySem.NameKind.local)], isGenerator := false, isCoroutine := false, more := [] : PySem.Scope } : Scope) ([("k", 3)] : List (Str × Nat)) = true ∧ lcFlags 4 [3] = [false, false, false, true] ∧ slot (blkFm (fmOf df_law_sensors) ({ kind := PySem.ScopeKind.function, names := [(PySem.Str.ofString ".0", PySem.NameKind.local), (PySem.Str.ofString "k", PySem.NameKind.local)], isGenerator := false, isCoroutine := false, more := [] : PySem.Scope } : Scope)) "k" = some 3 ∧ slotL (blkFm (fmOf df_law_sensors) ({ kind := PySem.ScopeKind.function, names := [(PySem.Str.ofString ".0", PySem.NameKind.local), (PySem.Str.ofString "k", PySem.NameKind.local)], isGenerator := false, isCoroutine := false, more := [] : PySem.Scope } : Scope)) "k" = some 3 := by
  refine ⟨?_, ?_, ?_, ?_, ?_⟩
  all_goals rfl
theorem nc_law_sensors_1 : Ev.ownOf (fmOf df_law_sensors) ({ kind := PySem.ScopeKind.function, names := [ (PySem.Str.ofString ".0", PySem.NameKind.local), (PySem.Str.ofString "k", PySem.NameKind.local), (PySem.Str.ofString "_law_pick", PySem.NameKind.globalImplicit), (PySem.Str.ofString "d", PySem.NameKind.free), (PySem.Str.ofString "stock", PySem.NameKind.free)], isGenerator := false, isCoroutine := false, more := [] : PySem.Scope } : Scope) = ([("k", 3)] : List (Str × Nat)) ∧ blkC (fmOf df_law_sensors).N ((fmOf df_law_sensors)).sc ({ kind := PySem.ScopeKind.function, names := [ (PySem.Str.ofString ".0", PySem.NameKind.local), (PySem.Str.ofString "k", PySem.NameKind.local), (PySem.Str.ofString "_law_pick", PySem.NameKind.globalImplicit), (PySem.Str.ofString "d", PySem.NameKind.free), (PySem.Str.ofString "stock", PySem.NameKind.free)], isGenerator := false, isCoroutine := false, more := [] : PySem.Scope } : Scope) ([("k", 3)] : List (Str × Nat)) = true ∧ lcFlags 4 [3] = [false, false, false, true] ∧ slot (blkFm (fmOf df_law_sensors) ({ kind := PySem.ScopeKind.function, names := [ (PySem.Str.ofString ".0", PySem.NameKind.local), (PySem.Str.ofString "k", PySem.NameKind.local), (PySem.Str.ofString "_law_pick", PySem.NameKind.globalImplicit), (PySem.Str.ofString "d", PySem.NameKind.free), (PySem.Str.ofString "stock", PySem.NameKind.free)], isGenerator := false, isCoroutine := false, more := [] : PySem.Scope } : Scope)) "k" = some 3 ∧ slotL (blkFm (fmOf df_law_sensors) ({ kind := PySem.ScopeKind.function, names := [ (PySem.Str.ofString ".0", PySem.NameKind.local), (PySem.Str.ofString "k", PySem.NameKind.local), (PySem.Str.ofString "_law_pick", PySem.NameKind.globalImplicit), (PySem.Str.ofString "d", PySem.NameKind.free), (PySem.Str.ofString "stock", PySem.NameKind.free)], isGenerator := false, isCoroutine := false, more := [] : PySem.Scope } : Scope)) "k" = some 3 ∧ slot (blkFm (fmOf df_law_sensors) ({ kind := PySem.ScopeKind.function, names := [ (PySem.Str.ofString ".0", PySem.NameKind.local), (PySem.Str.ofString "k", PySem.NameKind.local), (PySem.Str.ofString "_law_pick", PySem.NameKind.globalImplicit), (PySem.Str.ofString "d", PySem.NameKind.free), (PySem.Str.ofString "stock", PySem.NameKind.free)], isGenerator := false, isCoroutine := false, more := [] : PySem.Scope } : Scope)) "_law_pick" = none ∧ glB (blkFm (fmOf df_law_sensors) ({ kind := PySem.ScopeKind.function, names := [ (PySem.Str.ofString ".0", PySem.NameKind.local), (PySem.Str.ofString "k", PySem.NameKind.local), (PySem.Str.ofString "_law_pick", PySem.NameKind.globalImplicit), (PySem.Str.ofString "d", PySem.NameKind.free), (PySem.Str.ofString "stock", PySem.NameKind.free)], isGenerator := false, isCoroutine := false, more := [] : PySem.Scope } : Scope)).sc "_law_pick" = true ∧ slot (blkFm (fmOf df_law_sensors) ({ kind := PySem.ScopeKind.function, names := [ (PySem.Str.ofString ".0", PySem.NameKind.local), (PySem.Str.ofString "k", PySem.NameKind.local), (PySem.Str.ofString "_law_pick", PySem.NameKind.globalImplicit), (PySem.Str.ofString "d", PySem.NameKind.free), (PySem.Str.ofString "stock", PySem.NameKind.free)], isGenerator := false, isCoroutine := false, more := [] : PySem.Scope } : Scope)) "d" = some 0 ∧ slot (blkFm (fmOf df_law_sensors) ({ kind := PySem.ScopeKind.function, names := [ (PySem.Str.ofString ".0", PySem.NameKind.local), (PySem.Str.ofString "k", PySem.NameKind.local), (PySem.Str.ofString "_law_pick", PySem.NameKind.globalImplicit), (PySem.Str.ofString "d", PySem.NameKind.free), (PySem.Str.ofString "stock", PySem.NameKind.free)], isGenerator := false, isCoroutine := false, more := [] : PySem.Scope } : Scope)) "stock" = some 2 := by
  refine ⟨?_, ?_, ?_, ?_, ?_, ?_, ?_, ?_, ?_⟩
  all_goals rfl
theorem nc_law_trail_0 : Ev.ownOf (fmOf df_law_trail) ({ kind := PySem.ScopeKind.function, names := [ (PySem.Str.ofString ".0", PySem.NameKind.local), (PySem.Str.ofString "k", PySem.NameKind.local), (PySem.Str.ofString "_law_draw", PySem.NameKind.globalImplicit), (PySem.Str.ofString "d", PySem.NameKind.free)], isGenerator := false, isCoroutine := false, more := [] : PySem.Scope } : Scope) = ([("k", 1)] : List (Str × Nat)) ∧ blkC (fmOf df_law_trail).N ((fmOf df_law_trail)).sc ({ kind := PySem.ScopeKind.function, names := [ (PySem.Str.ofString ".0", PySem.NameKind.local), (PySem.Str.ofString "k", PySem.NameKind.local), (PySem.Str.ofString "_law_draw", PySem.NameKind.globalImplicit), (PySem.Str.ofString "d", PySem.NameKind.free)], isGenerator := false, isCoroutine := false, more := [] : PySem.Scope } : Scope) ([("k", 1)] : List (Str × Nat)) = true ∧ lcFlags 2 [1] = [false, true] ∧ slot (blkFm (fmOf df_law_trail) ({ kind := PySem.ScopeKind.function, names := [ (PySem.Str.ofString ".0", PySem.NameKind.local), (PySem.Str.ofString "k", PySem.NameKind.local), (PySem.Str.ofString "_law_draw", PySem.NameKind.globalImplicit), (PySem.Str.ofString "d", PySem.NameKind.free)], isGenerator := false, isCoroutine := false, more := [] : PySem.Scope } : Scope)) "k" = some 1 ∧ slotL (blkFm (fmOf df_law_trail) ({ kind := PySem.ScopeKind.function, names := [ (PySem.Str.ofString ".0", PySem.NameKind.local), (PySem.Str.ofString "k", PySem.NameKind.local), (PySem.Str.ofString "_law_draw", PySem.NameKind.globalImplicit), (PySem.Str.ofString "d", PySem.NameKind.free)], isGenerator := false, isCoroutine := false, more := [] : PySem.Scope } : Scope)) "k" = some 1 ∧ slot (blkFm (fmOf df_law_trail) ({ kind := PySem.ScopeKind.function, names := [ (PySem.Str.ofString ".0", PySem.NameKind.local), (PySem.Str.ofString "k", PySem.NameKind.local), (PySem.Str.ofString "_law_draw", PySem.NameKind.globalImplicit), (PySem.Str.ofString "d", PySem.NameKind.free)], isGenerator := false, isCoroutine := false, more := [] : PySem.Scope } : Scope)) "_law_draw" = none ∧ glB (blkFm (fmOf df_law_trail) ({ kind := PySem.ScopeKind.function, names := [ (PySem.Str.ofString ".0", PySem.NameKind.local), (PySem.Str.ofString "k", PySem.NameKind.local), (PySem.Str.ofString "_law_draw", PySem.NameKind.globalImplicit), (PySem.Str.ofString "d", PySem.NameKind.free)], isGenerator := false, isCoroutine := false, more := [] : PySem.Scope } : Scope)).sc "_law_draw" = true ∧ slot (blkFm (fmOf df_law_trail) ({ kind := PySem.ScopeKind.function, names := [ (PySem.Str.ofString ".0", PySem.NameKind.local), (PySem.Str.ofString "k", PySem.NameKind.local), (PySem.Str.ofString "_law_draw", PySem.NameKind.globalImplicit), (PySem.Str.ofString "d", PySem.NameKind.free)], isGenerator := false, isCoroutine := false, more := [] : PySem.Scope } : Scope)) "d" = some 0 := by
  refine ⟨?_, ?_, ?_, ?_, ?_, ?_, ?_, ?_⟩
  all_goals rfl
theorem nc_law_right_strikes_0 : Ev.ownOf (fmOf df_law_right_strikes) ({ kind := PySem.ScopeKind.function, names := [ (PySem.Str.ofString ".0", PySem.NameKind.local), (PySem.Str.ofString "one", PySem.NameKind.local), (PySem.Str.ofString "_law_is_set", PySem.NameKind.globalImplicit)], isGenerator := false, isCoroutine := false, more := [] : PySem.Scope } : Scope) = ([("one", 2)] : List (Str × Nat)) ∧ blkC (fmOf df_law_right_strikes).N ((fmOf df_law_right_strikes)).sc ({ kind := PySem.ScopeKind.function, names := [ (PySem.Str.ofString ".0", PySem.NameKind.local), (PySem.Str.ofString "one", PySem.NameKind.local), (PySem.Str.ofString "_law_is_set", PySem.NameKind.globalImplicit)], isGenerator := false, isCoroutine := false, more := [] : PySem.Scope } : Scope) ([("one", 2)] : List (Str × Nat)) = true ∧ lcFlags 3 [2] = [false, false, true] ∧ slot (blkFm (fmOf df_law_right_strikes) ({ kind := PySem.ScopeKind.function, names := [ (PySem.Str.ofString ".0", PySem.NameKind.local), (PySem.Str.ofString "one", PySem.NameKind.local), (PySem.Str.ofString "_law_is_set", PySem.NameKind.globalImplicit)], isGenerator := false, isCoroutine := false, more := [] : PySem.Scope } : Scope)) "one" = some 2 ∧ slotL (blkFm (fmOf df_law_right_strikes) ({ kind := PySem.ScopeKind.function, names := [ (PySem.Str.ofString ".0", PySem.NameKind.local), (PySem.Str.ofString "one", PySem.NameKind.local), (PySem.Str.ofString "_law_is_set", PySem.NameKind.globalImplicit)], isGenerator := false, isCoroutine := false, more := [] : PySem.Scope } : Scope)) "one" = some 2 ∧ slot (blkFm (fmOf df_law_right_strikes) ({ kind := PySem.ScopeKind.function, names := [ (PySem.Str.ofString ".0", PySem.NameKind.local), (PySem.Str.ofString "one", PySem.NameKind.local), (PySem.Str.ofString "_law_is_set", PySem.NameKind.globalImplicit)], isGenerator := false, isCoroutine := false, more := [] : PySem.Scope } : Scope)) "_law_is_set" = none ∧ glB (blkFm (fmOf df_law_right_strikes) ({ kind := PySem.ScopeKind.function, names := [ (PySem.Str.ofString ".0", PySem.NameKind.local), (PySem.Str.ofString "one", PySem.NameKind.local), (PySem.Str.ofString "_law_is_set", PySem.NameKind.globalImplicit)], isGenerator := false, isCoroutine := false, more := [] : PySem.Scope } : Scope)).sc "_law_is_set" = true := by
  refine ⟨?_, ?_, ?_, ?_, ?_, ?_, ?_⟩
  all_goals rfl
theorem nc_law_right_chain_0 : Ev.ownOf (fmOf df_law_right_chain) ({ kind := PySem.ScopeKind.function, names := [ (PySem.Str.ofString ".0", PySem.NameKind.local), (PySem.Str.ofString "later", PySem.NameKind.local), (PySem.Str.ofString "due", PySem.NameKind.free)], isGenerator := false, isCoroutine := false, more := [] : PySem.Scope } : Scope) = ([("later", 6)] : List (Str × Nat)) ∧ blkC (fmOf df_law_right_chain).N ((fmOf df_law_right_chain)).sc ({ kind := PySem.ScopeKind.function, names := [ (PySem.Str.ofString ".0", PySem.NameKind.local), (PySem.Str.ofString "later", PySem.NameKind.local), (PySem.Str.ofString "due", PySem.NameKind.free)], isGenerator := false, isCoroutine := false, more := [] : PySem.Scope } : Scope) ([("later", 6)] : List (Str × Nat)) = true ∧ lcFlags 7 [6] = [false, false, false, false, false, false, true] ∧ slot (blkFm (fmOf df_law_right_chain) ({ kind := PySem.ScopeKind.function, names := [ (PySem.Str.ofString ".0", PySem.NameKind.local), (PySem.Str.ofString "later", PySem.NameKind.local), (PySem.Str.ofString "due", PySem.NameKind.free)], isGenerator := false, isCoroutine := false, more := [] : PySem.Scope } : Scope)) "later" = some 6 ∧ slotL (blkFm (fmOf df_law_right_chain) ({ kind := PySem.ScopeKind.function, names := [ (PySem.Str.ofString ".0", PySem.NameKind.local), (PySem.Str.ofString "later", PySem.NameKind.local), (PySem.Str.ofString "due", PySem.NameKind.free)], isGenerator := false, isCoroutine := false, more := [] : PySem.Scope } : Scope)) "later" = some 6 ∧ slot (blkFm (fmOf df_law_right_chain) ({ kind := PySem.ScopeKind.function, names := [ (PySem.Str.ofString ".0", PySem.NameKind.local), (PySem.Str.ofString "later", PySem.NameKind.local), (PySem.Str.ofString "due", PySem.NameKind.free)], isGenerator := false, isCoroutine := false, more := [] : PySem.Scope } : Scope)) "due" = some 3 := by
  refine ⟨?_, ?_, ?_, ?_, ?_, ?_⟩
  all_goals rfl
theorem nc_law_0 : Ev.ownOf (fmOf df_law) ({ kind := PySem.ScopeKind.function, names := [ (PySem.Str.ofString ".0", PySem.NameKind.local), (PySem.Str.ofString "k", PySem.NameKind.local), (PySem.Str.ofString "len", PySem.NameKind.globalImplicit), (PySem.Str.ofString "faults", PySem.NameKind.free)], isGenerator := false, isCoroutine := false, more := [] : PySem.Scope } : Scope) = ([("k", 8)] : List (Str × Nat)) ∧ blkC (fmOf df_law).N ((fmOf df_law)).sc ({ kind := PySem.ScopeKind.function, names := [ (PySem.Str.ofString ".0", PySem.NameKind.local), (PySem.Str.ofString "k", PySem.NameKind.local), (PySem.Str.ofString "len", PySem.NameKind.globalImplicit), (PySem.Str.ofString "faults", PySem.NameKind.free)], isGenerator := false, isCoroutine := false, more := [] : PySem.Scope } : Scope) ([("k", 8)] : List (Str × Nat)) = true ∧ lcFlags 11 [8] = [false, false, false, false, false, false, false, false, true, false, false] ∧ slot (blkFm (fmOf df_law) ({ kind := PySem.ScopeKind.function, names := [ (PySem.Str.ofString ".0", PySem.NameKind.local), (PySem.Str.ofString "k", PySem.NameKind.local), (PySem.Str.ofString "len", PySem.NameKind.globalImplicit), (PySem.Str.ofString "faults", PySem.NameKind.free)], isGenerator := false, isCoroutine := false, more := [] : PySem.Scope } : Scope)) "k" = some 8 ∧ slotL (blkFm (fmOf df_law) ({ kind := PySem.ScopeKind.function, names := [ (PySem.Str.ofString ".0", PySem.NameKind.local), (PySem.Str.ofString "k", PySem.NameKind.local), (PySem.Str.ofString "len", PySem.NameKind.globalImplicit), (PySem.Str.ofString "faults", PySem.NameKind.free)], isGenerator := false, isCoroutine := false, more := [] : PySem.Scope } : Scope)) "k" = some 8 ∧ slot (blkFm (fmOf df_law) ({ kind := PySem.ScopeKind.function, names := [ (PySem.Str.ofString ".0", PySem.NameKind.local), (PySem.Str.ofString "k", PySem.NameKind.local), (PySem.Str.ofString "len", PySem.NameKind.globalImplicit), (PySem.Str.ofString "faults", PySem.NameKind.free)], isGenerator := false, isCoroutine := false, more := [] : PySem.Scope } : Scope)) "len" = none ∧ glB (blkFm (fmOf df_law) ({ kind := PySem.ScopeKind.function, names := [ (PySem.Str.ofString ".0", PySem.NameKind.local), (PySem.Str.ofString "k", PySem.NameKind.local), (PySem.Str.ofString "len", PySem.NameKind.globalImplicit), (PySem.Str.ofString "faults", PySem.NameKind.free)], isGenerator := false, isCoroutine := false, more := [] : PySem.Scope } : Scope)).sc "len" = true ∧ slot (blkFm (fmOf df_law) ({ kind := PySem.ScopeKind.function, names := [ (PySem.Str.ofString ".0", PySem.NameKind.local), (PySem.Str.ofString "k", PySem.NameKind.local), (PySem.Str.ofString "len", PySem.NameKind.globalImplicit), (PySem.Str.ofString "faults", PySem.NameKind.free)], isGenerator := false, isCoroutine := false, more := [] : PySem.Scope } : Scope)) "faults" = some 3 := by
  refine ⟨?_, ?_, ?_, ?_, ?_, ?_, ?_, ?_⟩
  all_goals rfl
theorem sw_broken_by_14 : (swapB (fmOf df_broken_by) "present" ⟨14, 4, 14, 11⟩ ({ kind := PySem.ScopeKind.function, names := [ (PySem.Str.ofString ".0", PySem.NameKind.local), (PySem.Str.ofString "number", PySem.NameKind.local), (PySem.Str.ofString "faults", PySem.NameKind.free)], isGenerator := false, isCoroutine := false, more := [] : PySem.Scope }) ⟨14, 14, 14, 51⟩ || noSwap (fmOf df_broken_by) "present" ⟨14, 4, 14, 11⟩ ⟨14, 14, 14, 51⟩) = true := id rfl
end T17

set_option Elab.async false
set_option linter.all false
set_option maxRecDepth 100000
set_option maxHeartbeats 1000000
set_option exponentiation.threshold 10000
namespace T17
open PySem PySem.Spec PyProof.Rows L2 Lk Ev
-- MACRO
local macro_rules
  | `(tactic| simp! only [$a,*]) => `(tactic| simp (config := { implicitDefEqProofs := false }) only [c_li, fl_nx, fl_ct, fl_bk, fl_rt, fl_rf, fl_no, rs_nx, rs_bk, rs_rt, rs_rf, rs_no, vp_rt, vp_nx, vo_rt, vo_nx, vf_rf, cast_lit, b_addb, b_subb, k_ord, or_s, it_s, ↓in_S, ↓in_2, ↓in_1, ↓in_b, cS_nx, cS_rt, cS_rf, cS_bk, cS_ct, cS_no, c2_mk, c2_no, c1_mk, c1_no, t_call_, t_sub_, t_name_, Bool.true_or, Bool.or_true, s_asg_Dict, s_asg_Attr, s_asg_LC, s_asg_LC2, pairsE_nil, pairsE_cons, dOk_nil, dOk_cons, List.isEmpty_cons, ofO_some, ofO_none, blkN, List.reduceReplicate, p64, p64n, natAbs_lit, Nat.reduceLeDiff, Nat.reduceLT, Nat.reduceEqDiff, Nat.reduceBEq, Int.reduceLT, Int.reduceLE, Int.reduceEq, Int.reduceNeg, List.mem_cons, List.not_mem_nil, or_self, f_call_, ro_Name, ro_Call, ro_Lc, ro_Sub, li_s, forL_nil, tgV_Name, tgV_Tup, Option.toList_some, lc2E, q_ii, q_ss, q_bb, q_nn, q_in, q_ni, in_s, nonS_n, dropR_nil, dropR_nil2, dropR_f, dropR_v, dropR_n, dropR_o, dropR_t, blank_nil, blank_cons, lcCond_, ifs_nil, ifs_one, Nat.reduceAdd, lcE, iterE, iterE.seqE, f_Bin, Option.isSome_none, Option.isSome_some, ownAt_Constant, ownAt_Call, ownAt_BinOp, ownAt_UnaryOp, ownAt_BoolOp, ownAt_Compare, ownAt_Tuple, ownAt_List, ownAt_ListComp, ownAt_Subscript, ownAt_Attribute, ownAt_IfExp, ownAt_Dict, ownD_Constant, ownD_Call, ownD_BinOp, ownD_UnaryOp, ownD_BoolOp, ownD_Compare, ownD_Tuple, ownD_List, ownD_ListComp, ownD_Subscript, ownD_Attribute, ownD_IfExp, ownD_Dict, ownAt_Name, ownD_Name, tk_i, tk_s, e_get, e_dict, fb_Dict, fb_LC, f_Lst, f_LC, f_LC2, f_Dict, tg_Name, tg_Tup, tgs_nil, tgs_cons, getE, or_true, true_or, and_true, true_and, and_false, false_and, or_false, false_or, not_true_eq_false, not_false_eq_true, fb_Name, fb_Const, fb_Bin, fb_Un, fb_Sub, fb_Tup, fb_Lst, fb_If, fb_Cmp, fb_Bool, ad_Name, ad_Const, ad_Call, ad_Sub, ad_Un, ad_Tup, ad_Lst, ad_If, ad_add, ad_sub, ad_mul_L, ad_mul_N, ad_mul_K, ad_mul_C, ad_mul_B, ad_mul_S, ad_mul_T, ad_mod, ad_div, eq_self, decide_eq_true_eq, kit_ii, kit_ib, kit_bb, kit_bi, kit_nb, kit_ni, kit_si, kit_sb, kit_tt, kit_lt, kit_it, kit_nt, atI_lit, ixN_lit, toNat_lit, Option.map_none, List.length_cons, List.length_nil, fr_E, fr_F, fr_T, fr_S, e_name, e_int, e_bool, e_str, e_non, e_bin, e_not, e_neg, e_boolop, e_if, e_cmp, e_tup, e_sub, e_lst, e_lc, e_call, e_callF, t_bool, t_cmp_, t_not_, s_if_, s_ret_, s_aug_, s_expr_, s_for_, s_asg_Name, s_asg_Const, s_asg_Call, s_asg_Bin, s_asg_Un, s_asg_Sub, s_asg_Tup, s_asg_Lst, s_asg_If, s_asg_Cmp, s_asg_Bool, ss_nil_, ss_cons_, args_nil_, args_cons_, e_meth, fb_meth, notStar_Name, notStar_Constant, notStar_Call, notStar_BinOp, notStar_UnaryOp, notStar_BoolOp, notStar_Compare, notStar_Tuple, notStar_List, notStar_ListComp, notStar_Subscript, notStar_Attribute, notStar_IfExp, notStar_Slice, notStar_Dict, notStar_GeneratorExp, notComp_Name, notComp_Constant, notComp_Call, notComp_BinOp, notComp_UnaryOp, notComp_BoolOp, notComp_Compare, notComp_Tuple, notComp_List, notComp_ListComp, notComp_Subscript, notComp_Attribute, notComp_IfExp, notComp_Slice, notComp_Dict, notComp_GeneratorExp, plainT_Name, plainT_Constant, plainT_Call, plainT_BinOp, plainT_UnaryOp, plainT_BoolOp, plainT_Compare, plainT_Tuple, plainT_List, plainT_ListComp, plainT_Subscript, plainT_Attribute, plainT_IfExp, plainT_Slice, plainT_Dict, plainT_GeneratorExp, notIx_Name, notIx_Constant, notIx_Call, notIx_BinOp, notIx_UnaryOp, notIx_BoolOp, notIx_Compare, notIx_Tuple, notIx_List, notIx_ListComp, notIx_Subscript, notIx_Attribute, notIx_IfExp, notIx_Slice, notIx_Dict, notIx_GeneratorExp, notSet_Name, notSet_Constant, notSet_Call, notSet_BinOp, notSet_UnaryOp, notSet_BoolOp, notSet_Compare, notSet_Tuple, notSet_List, notSet_ListComp, notSet_Subscript, notSet_Attribute, notSet_IfExp, notSet_Slice, notSet_Dict, notSet_GeneratorExp, notCall_Name, notCall_Constant, notCall_Call, notCall_BinOp, notCall_UnaryOp, notCall_BoolOp, notCall_Compare, notCall_Tuple, notCall_List, notCall_ListComp, notCall_Subscript, notCall_Attribute, notCall_IfExp, notCall_Slice, notCall_Dict, notCall_GeneratorExp, notTup_Name, notTup_Constant, notTup_Call, notTup_BinOp, notTup_UnaryOp, notTup_BoolOp, notTup_Compare, notTup_Tuple, notTup_List, notTup_ListComp, notTup_Subscript, notTup_Attribute, notTup_IfExp, notTup_Slice, notTup_Dict, notTup_GeneratorExp, isNone_Name, isNone_Call, isNone_BinOp, isNone_UnaryOp, isNone_BoolOp, isNone_Compare, isNone_Tuple, isNone_List, isNone_ListComp, isNone_Subscript, isNone_Attribute, isNone_IfExp, isNone_Slice, isNone_Dict, isNone_GeneratorExp, isNone_c, isNone_i, isNone_s, nameE, cmpE, boolE, boolT, subE, callE, bltE_0, bltE_1, bltE_2, bltE0, methE, isSet_Name, isSet_Constant, isSet_Call1, isSet_Call0, isSet_Call2, isSet_CallA, isSet_UnaryOp, isSet_BoolOp, isSet_Compare, isSet_Tuple, isSet_List, isSet_ListComp, isSet_Subscript, isSet_Attribute, isSet_IfExp, isSet_GeneratorExp, isSet_BinOp, set1_Call1, set1_Call0, set1_Call2, set1_CallA, set1_Name, set1_Constant, set1_BinOp, set1_Subscript, set1_Tuple, set1_ListComp, set1_List, tupR_Name, tupR_Constant, tupR_Call, tupR_CallA, tupR_BinOp, tupR_UnaryOp, tupR_BoolOp, tupR_Compare, tupR_Tuple, tupR_List, tupR_ListComp, tupR_Subscript, tupR_Attribute, tupR_IfExp, tupR_GeneratorExp, rngE_1, rngE_2, lenSet_Name, lenSet_Constant, lenSet_Call, lenSet_BinOp, lenSet_UnaryOp, lenSet_BoolOp, lenSet_Compare, lenSet_Tuple, lenSet_List, lenSet_ListComp, lenSet_Subscript, lenSet_Attribute, lenSet_IfExp, lenSet_GeneratorExp, setE_Call, setE_BinOp, setE1_Call, seqI_l, seqI_t, opZ_sub, opZ_and, inOwn_eq, s_while_, List.isEmpty_nil, cmp1, retE, assignE, augE, exprE, forE_eq, lastMarks, partE, strsOf, intsOf, boolsOf, b_add, b_sub, b_addt, b_adds, b_mul, b_fdiv, b_mod, b_pow, b_shl, c_int, c_tup, c_str, c_ll, m_lt, m_le, m_gt, m_ge, m_eq, m_ne, m_eqs, m_nes, m_eqb, m_neb, m_eq_, m_ne_, m_in, m_nin, x_t, x_l, x_s, k_len, k_abs, k_max, k_min, k_sum, k_all, k_any, k_divmod, k_int, kt_int, k_tuple, kt_tuple, l_t, l_l, l_s, a_i, mx_2, mn_2, mx_l, mn_l, sm_l, al_l, an_l, dm_, it_i, it_b, tu_l, tu_t, li_l, li_t, tr_b, tr_i, tr_t, tr_l, tr_n, n_n, n_i, n_t, n_b, n_s, n_l, ty_i, ty_b, ty_s, ty_t, ty_l, ty_n, tyo_int, tyo_bool, tyo_str, tyo_tuple, tyo_list, fl_i, fl_b, fl_s, fl_n, au_a, au_s, sf_f, sj_l, sj_t, bm_, bm_c, bm_call, bm_b, bm_s, bm_t, bm_u, io_v, io_n, io_f, io_t, cst_i, List.getElem?_cons_zero, List.getElem?_cons_succ, List.set_cons_zero, List.set_cons_succ, List.all_cons, List.all_nil, List.map_cons, List.map_nil, Option.map_some, Bool.and_true, Bool.true_and, Bool.or_false, Bool.false_or, Bool.and_false, Bool.false_and, if_true, if_false, if_pos, Bool.not_true, Bool.not_false, reduceIte, reduceCtorEq, List.cons_append, List.nil_append, ite_true, ite_false, decide_true, decide_false, Bool.false_eq_true, $a,*])
-- END
theorem ev_law_is_int (n : Nat) (i : Int) : runP (csAt pg n) df_law_is_int [.int i] = some (.bool true) := by
  rw [st_law_is_int]
  simp! only [nm_law_is_int, nl_law_is_int, ok_isinstance, cd_isinstance, fb_isinstance, sq_isinstance_len, sq_isinstance_list, sq_isinstance_sorted, sq_isinstance_range, sq_isinstance_enumerate, sq_isinstance_zip, sq_isinstance_tuple, sq_isinstance_isinstance, sq_isinstance_int, sq_isinstance_set, sq_isinstance_dict, sq_isinstance_any, sq_isinstance_all, ok_int, cd_int, fb_int, sq_int_len, sq_int_list, sq_int_sorted, sq_int_range, sq_int_enumerate, sq_int_zip, sq_int_tuple, sq_int_isinstance, sq_int_int, sq_int_set, sq_int_dict, sq_int_any, sq_int_all, ok_bool, cd_bool, fb_bool]
theorem ev_law_is_int_n (n : Nat) : runP (csAt pg n) df_law_is_int [.none] = some (.bool false) := by
  rw [st_law_is_int]
  simp! only [nm_law_is_int, nl_law_is_int, ok_isinstance, cd_isinstance, fb_isinstance, sq_isinstance_len, sq_isinstance_list, sq_isinstance_sorted, sq_isinstance_range, sq_isinstance_enumerate, sq_isinstance_zip, sq_isinstance_tuple, sq_isinstance_isinstance, sq_isinstance_int, sq_isinstance_set, sq_isinstance_dict, sq_isinstance_any, sq_isinstance_all, ok_int, cd_int, fb_int, sq_int_len, sq_int_list, sq_int_sorted, sq_int_range, sq_int_enumerate, sq_int_zip, sq_int_tuple, sq_int_isinstance, sq_int_int, sq_int_set, sq_int_dict, sq_int_any, sq_int_all, ok_bool, cd_bool, fb_bool]
theorem ev_draw1 (n : Nat) (s : Dr) (many : Int) (hm : 0 < many ∧ many < 1073741824) (hh : 0 < s.hi) : runO (csAt pg n) df_law_draw (drC s) [.int many] = some (.int (s.hi % many), drC { s with hi := s.hi / many }) := by
  rw [st_law_draw]
  simp! only [nm_law_draw, nl_law_draw, ok_len, cd_len, fb_len, sq_len_len, sq_len_list, sq_len_sorted, sq_len_range, sq_len_enumerate, sq_len_zip, sq_len_tuple, sq_len_isinstance, sq_len_int, sq_len_set, sq_len_dict, sq_len_any, sq_len_all, ok_int, cd_int, fb_int, sq_int_len, sq_int_list, sq_int_sorted, sq_int_range, sq_int_enumerate, sq_int_zip, sq_int_tuple, sq_int_isinstance, sq_int_int, sq_int_set, sq_int_dict, sq_int_any, sq_int_all, ok_abs, cd_abs, fb_abs, sq_abs_len, sq_abs_list, sq_abs_sorted, sq_abs_range, sq_abs_enumerate, sq_abs_zip, sq_abs_tuple, sq_abs_isinstance, sq_abs_int, sq_abs_set, sq_abs_dict, sq_abs_any, sq_abs_all, drC, hm, hh]
theorem ev_draw2 (n : Nat) (s : Dr) (many : Int) (hm : 0 < many ∧ many < 1073741824) (hh : ¬ 0 < s.hi) (ha : ¬ s.at_ < (s.cells.length : Int)) : runO (csAt pg n) df_law_draw (drC s) [.int many] =
    some (.int ((s.seed * 48271 + 0 % 2147483629 * 16807 + (s.at_ + 1) * 69621 + 11) % 2147483647 / 16 % many), drC { s with at_ := s.at_ + 1, seed := (s.seed * 48271 + 0 % 2147483629 * 16807 + (s.at_ + 1) * 69621 + 11) % 2147483647 }) := by
  rw [st_law_draw]
  simp! only [nm_law_draw, nl_law_draw, ok_len, cd_len, fb_len, sq_len_len, sq_len_list, sq_len_sorted, sq_len_range, sq_len_enumerate, sq_len_zip, sq_len_tuple, sq_len_isinstance, sq_len_int, sq_len_set, sq_len_dict, sq_len_any, sq_len_all, ok_int, cd_int, fb_int, sq_int_len, sq_int_list, sq_int_sorted, sq_int_range, sq_int_enumerate, sq_int_zip, sq_int_tuple, sq_int_isinstance, sq_int_int, sq_int_set, sq_int_dict, sq_int_any, sq_int_all, ok_abs, cd_abs, fb_abs, sq_abs_len, sq_abs_list, sq_abs_sorted, sq_abs_range, sq_abs_enumerate, sq_abs_zip, sq_abs_tuple, sq_abs_isinstance, sq_abs_int, sq_abs_set, sq_abs_dict, sq_abs_any, sq_abs_all, drC, hm, hh, ha, List.length_map, p18]
theorem atI_m {cells : List Int} {i c : Int} (h : atI cells i = some c) : atI (cells.map PyData.int) i = some (.int c) := atI_map h
def sizeOf (c : Int) : Int := 2 * (if c < 0 then -c else c) + (if c < 0 then 1 else 0)
theorem ev_draw3 (n : Nat) (s : Dr) (many c : Int) (hm : 0 < many ∧ many < 1073741824) (hh : ¬ 0 < s.hi) (ha : s.at_ < (s.cells.length : Int)) (hc : atI (s.cells.map PyData.int) s.at_ = some (.int c))
    (hz : 2 * 10 ^ 18 ≤ 2 * (if c < 0 then -c else c) + (if c < 0 then 1 else 0)) : runO (csAt pg n) df_law_draw (drC s) [.int many] = some (.int (sizeOf c / 2 % (1 * 2 ^ 6000) % many), drC { s with at_ := s.at_ + 1, hi := sizeOf c / 2 % (1 * 2 ^ 6000) / many }) := by
  rw [st_law_draw]
  simp! only [nm_law_draw, nl_law_draw, ok_len, cd_len, fb_len, sq_len_len, sq_len_list, sq_len_sorted, sq_len_range, sq_len_enumerate, sq_len_zip, sq_len_tuple, sq_len_isinstance, sq_len_int, sq_len_set, sq_len_dict, sq_len_any, sq_len_all, ok_int, cd_int, fb_int, sq_int_len, sq_int_list, sq_int_sorted, sq_int_range, sq_int_enumerate, sq_int_zip, sq_int_tuple, sq_int_isinstance, sq_int_int, sq_int_set, sq_int_dict, sq_int_any, sq_int_all, ok_abs, cd_abs, fb_abs, sq_abs_len, sq_abs_list, sq_abs_sorted, sq_abs_range, sq_abs_enumerate, sq_abs_zip, sq_abs_tuple, sq_abs_isinstance, sq_abs_int, sq_abs_set, sq_abs_dict, sq_abs_any, sq_abs_all, drC, hm, hh, ha, hc, hz, List.length_map, sizeOf, p6000]
theorem ev_draw4 (n : Nat) (s : Dr) (many c : Int) (hm : 0 < many ∧ many < 1073741824) (hh : ¬ 0 < s.hi) (ha : s.at_ < (s.cells.length : Int)) (hc : atI (s.cells.map PyData.int) s.at_ = some (.int c))
    (hz : ¬ 2 * 10 ^ 18 ≤ 2 * (if c < 0 then -c else c) + (if c < 0 then 1 else 0)) : runO (csAt pg n) df_law_draw (drC s) [.int many] =
    some (.int ((s.seed * 48271 + sizeOf c % 2147483629 * 16807 + (s.at_ + 1) * 69621 + 11) % 2147483647 / 16 % many), drC { s with at_ := s.at_ + 1, seed := (s.seed * 48271 + sizeOf c % 2147483629 * 16807 + (s.at_ + 1) * 69621 + 11) % 2147483647 }) := by
  rw [st_law_draw]
  simp! only [nm_law_draw, nl_law_draw, ok_len, cd_len, fb_len, sq_len_len, sq_len_list, sq_len_sorted, sq_len_range, sq_len_enumerate, sq_len_zip, sq_len_tuple, sq_len_isinstance, sq_len_int, sq_len_set, sq_len_dict, sq_len_any, sq_len_all, ok_int, cd_int, fb_int, sq_int_len, sq_int_list, sq_int_sorted, sq_int_range, sq_int_enumerate, sq_int_zip, sq_int_tuple, sq_int_isinstance, sq_int_int, sq_int_set, sq_int_dict, sq_int_any, sq_int_all, ok_abs, cd_abs, fb_abs, sq_abs_len, sq_abs_list, sq_abs_sorted, sq_abs_range, sq_abs_enumerate, sq_abs_zip, sq_abs_tuple, sq_abs_isinstance, sq_abs_int, sq_abs_set, sq_abs_dict, sq_abs_any, sq_abs_all, drC, hm, hh, ha, hc, hz, List.length_map, sizeOf, p6000]
def Good (s : Dr) : Prop := 0 ≤ s.at_
theorem draw_ok (n : Nat) (s : Dr) (many : Int) (g : Good s) (hm : 0 < many ∧ many < 1073741824) : ∃ r s', 0 ≤ r ∧ r < many ∧ Good s' ∧ runO (csAt pg n) df_law_draw (drC s) [.int many] = some (.int r, drC s') := by
  have lo : ∀ x : Int, 0 ≤ x % many := fun x => Int.emod_nonneg _ (by omega)
  have up : ∀ x : Int, x % many < many := fun x => Int.emod_lt_of_pos _ hm.1
  by_cases hh : 0 < s.hi
  · refine ⟨_, _, lo _, up _, ?_, ev_draw1 n s many hm hh⟩; exact g
  by_cases ha : s.at_ < (s.cells.length : Int)
  · have g0 : 0 ≤ s.at_ := g
    have hc : ∃ c, atI (s.cells.map PyData.int) s.at_ = some (.int c) := by
      obtain ⟨k, hk⟩ := Int.eq_ofNat_of_zero_le g0
      rw [hk] at ha ⊢
      have hlt : k < s.cells.length := by omega
      exact ⟨s.cells[k], by rw [Ev.atI_nat, List.getElem?_map, List.getElem?_eq_getElem hlt]; rfl⟩
    obtain ⟨c, hc⟩ := hc
    have g2 : 0 ≤ s.at_ + 1 := by omega
    by_cases hz : 2 * 10 ^ 18 ≤ 2 * (if c < 0 then -c else c) + (if c < 0 then 1 else 0)
    · refine ⟨_, _, lo _, up _, ?_, ev_draw3 n s many c hm hh ha hc hz⟩; exact g2
    · refine ⟨_, _, lo _, up _, ?_, ev_draw4 n s many c hm hh ha hc hz⟩; exact g2
  · refine ⟨_, _, lo _, up _, ?_, ev_draw2 n s many hm hh ha⟩; have g0 : 0 ≤ s.at_ := g; show 0 ≤ s.at_ + 1; omega
theorem ev_begin (n : Nat) (ns : List Int) : runF (csAt pg n) df_law_begin [.list (ns.map .int)] = some (drC ⟨ns, 0, 0, 7⟩) := by
  rw [st_law_begin]
  simp! only [nm_law_begin, nl_law_begin, nc_law_begin_0, ok_int, cd_int, fb_int, sq_int_len, sq_int_list, sq_int_sorted, sq_int_range, sq_int_enumerate, sq_int_zip, sq_int_tuple, sq_int_isinstance, sq_int_int, sq_int_set, sq_int_dict, sq_int_any, sq_int_all, lcE, iterE, iterE.seqE]
  rw [lcL_map (α := Int) (β := Int) PyData.int PyData.int (fun x _ => by
    unfold lcTurn
    simp! only [nm_law_begin, nl_law_begin, nc_law_begin_0, ok_int, cd_int, fb_int, sq_int_len, sq_int_list, sq_int_sorted, sq_int_range, sq_int_enumerate, sq_int_zip, sq_int_tuple, sq_int_isinstance, sq_int_int, sq_int_set, sq_int_dict, sq_int_any, sq_int_all])]
  simp! only [nm_law_begin, nl_law_begin, nc_law_begin_0, ok_int, cd_int, fb_int, sq_int_len, sq_int_list, sq_int_sorted, sq_int_range, sq_int_enumerate, sq_int_zip, sq_int_tuple, sq_int_isinstance, sq_int_int, sq_int_set, sq_int_dict, sq_int_any, sq_int_all, drC]
theorem ev_pick (n : Nat) (s : Dr) (g : Good s) (xs : List D) (h0 : 0 < xs.length) (h1 : (xs.length : Int) < 1073741824) : ∃ r s' x, 0 ≤ r ∧ atI xs r = some x ∧ x ∈ xs ∧ Good s' ∧ runO (csAt pg (n + 1)) df_law_pick (drC s) [.list xs] = some (x, drC s') := by
  obtain ⟨r, s', h2, h3, g', hd⟩ := draw_ok n s xs.length g ⟨by omega, h1⟩
  obtain ⟨k, hk⟩ := Int.eq_ofNat_of_zero_le h2
  have hlt : k < xs.length := by omega
  have ha : atI xs r = some xs[k] := by rw [hk, Ev.atI_nat, List.getElem?_eq_getElem hlt]
  refine ⟨r, s', xs[k], h2, ha, List.getElem_mem hlt, g', ?_⟩
  rw [st_law_pick]
  simp! only [nm_law_pick, nl_law_pick, ok_law_draw, cd_law_draw, fb_law_draw, sq_law_draw_len, sq_law_draw_list, sq_law_draw_sorted, sq_law_draw_range, sq_law_draw_enumerate, sq_law_draw_zip, sq_law_draw_tuple, sq_law_draw_isinstance, sq_law_draw_int, sq_law_draw_set, sq_law_draw_dict, sq_law_draw_any, sq_law_draw_all, ok_len, cd_len, fb_len, sq_len_len, sq_len_list, sq_len_sorted, sq_len_range, sq_len_enumerate, sq_len_zip, sq_len_tuple, sq_len_isinstance, sq_len_int, sq_len_set, sq_len_dict, sq_len_any, sq_len_all, hd, ha]


set_option Elab.async false
set_option linter.all false
set_option maxRecDepth 100000
set_option maxHeartbeats 1000000
open PySem PySem.Spec PyProof.Rows L2 Lk Ev
/-- all parts, in the order in which they are made -/
def subF : List Int → List (List Int) → List (List Int)
  | [], L => L
  | m :: ms, L => subF ms (L ++ L.map fun s => s ++ [m])
theorem encI_app (s : List Int) (m : Int) : (.tuple (s.map .int ++ [.int m]) : D) = encI (s ++ [m]) := by unfold encI; rw [List.map_append]; rfl
theorem turn_subs (n : Nat) (L : List (List Int)) (m : Int) (h1 : L.length ≤ 8000) (h2 : ∀ s ∈ L, s.length ≤ 8000) : turnE (FR df_subsets_of n 59) (fmOf df_subsets_of) FT_subsets_of_6 FB_subsets_of_6 (df_subsets_of.drop 6) (.int m) [.non, .own false (.lst (L.map encI)), .non, .non] =
    some (.nx [.non, .own false (.lst ((L ++ L.map fun s => s ++ [m]).map encI)), .non, .non]) := by
  have B := lcL_map (β := Int) (s := [.non, .val (.list (L.map encI)), .val (.int m), .non]) (step := lcTurn (FR df_subsets_of n 55) (blkFm (fmOf df_subsets_of) SC_subsets_of_0) EL_subsets_of_0 TG_subsets_of_0 [] [3] 4) encI (fun s => encI (s ++ [m])) (xs := L) (fun s hs => by
    have hl : (s.length + 1 ≤ 16777216) = True := eq_true (by have := h2 s hs; omega)
    unfold lcTurn encI
    simp! only [nm_subsets_of, nl_subsets_of, dr_subsets_of_6, nc_subsets_of_0, ok_tuple, cd_tuple, fb_tuple, sq_tuple_len, sq_tuple_list, sq_tuple_sorted, sq_tuple_range, sq_tuple_enumerate, sq_tuple_zip, sq_tuple_tuple, sq_tuple_isinstance, sq_tuple_int, sq_tuple_set, sq_tuple_dict, sq_tuple_any, sq_tuple_all, ok_sorted, cd_sorted, fb_sorted, sq_sorted_len, sq_sorted_list, sq_sorted_sorted, sq_sorted_range, sq_sorted_enumerate, sq_sorted_zip, sq_sorted_tuple, sq_sorted_isinstance, sq_sorted_int, sq_sorted_set, sq_sorted_dict, sq_sorted_any, sq_sorted_all, List.length_map, hl, List.map_append])
  have hl : (L.length + L.length ≤ 16777216) = True := eq_true (by omega)
  rw [turnE_eq]
  simp! only [nm_subsets_of, nl_subsets_of, dr_subsets_of_6, nc_subsets_of_0, ok_tuple, cd_tuple, fb_tuple, sq_tuple_len, sq_tuple_list, sq_tuple_sorted, sq_tuple_range, sq_tuple_enumerate, sq_tuple_zip, sq_tuple_tuple, sq_tuple_isinstance, sq_tuple_int, sq_tuple_set, sq_tuple_dict, sq_tuple_any, sq_tuple_all, ok_sorted, cd_sorted, fb_sorted, sq_sorted_len, sq_sorted_list, sq_sorted_sorted, sq_sorted_range, sq_sorted_enumerate, sq_sorted_zip, sq_sorted_tuple, sq_sorted_isinstance, sq_sorted_int, sq_sorted_set, sq_sorted_dict, sq_sorted_any, sq_sorted_all, B, List.length_map, hl, List.map_append, List.map_map]
  rfl
theorem subF_len : ∀ (ms : List Int) (L : List (List Int)), (subF ms L).length = L.length * 2 ^ ms.length
  | [], L => by simp [subF]
  | m :: ms, L => by rw [subF, subF_len ms, List.length_append, List.length_map, List.length_cons, Nat.pow_succ, Nat.mul_comm (2 ^ ms.length) 2, ← Nat.mul_assoc]; congr 1; omega
theorem loop_subs (n : Nat) : ∀ (ms : List Int) (L : List (List Int)) (k : Nat), ms.length ≤ k → L.length * 2 ^ k ≤ 8000 → (∀ s ∈ L, s.length + k ≤ 8000) →
    forL (turnE (FR df_subsets_of n 59) (fmOf df_subsets_of) FT_subsets_of_6 FB_subsets_of_6 (df_subsets_of.drop 6)) (ms.map .int) [.non, .own false (.lst (L.map encI)), .non, .non] = some (.nx [.non, .own false (.lst ((subF ms L).map encI)), .non, .non])
  | [], L, k, _, _, _ => rfl
  | m :: ms, L, 0, h, _, _ => by simp at h
  | m :: ms, L, k + 1, h, h1, h2 => by
    have hp : 1 ≤ 2 ^ (k + 1) := Nat.one_le_two_pow
    have hL : L.length ≤ 8000 := Nat.le_trans (Nat.le_mul_of_pos_right _ hp) h1
    rw [List.map_cons, forL_cons, turn_subs n L m hL (fun s hs => by have := h2 s hs; omega)]
    simp only
    rw [loop_subs n ms _ k (by simpa using h) (by
      rw [List.length_append, List.length_map, ← Nat.two_mul, Nat.mul_comm 2, Nat.mul_assoc, Nat.mul_comm 2, ← Nat.pow_succ]
      exact h1) (fun s hs => by
      rcases List.mem_append.mp hs with e | e
      · have := h2 s e; omega
      · obtain ⟨t, ht, rfl⟩ := List.mem_map.mp e
        have := h2 t ht
        rw [List.length_append]; show t.length + 1 + k ≤ 8000; omega)]
    rfl
theorem ev_subsets (n : Nat) (ms : List Int) (M : List (List Int)) (hl : ms.length ≤ 6) (hp : (subF ms [[]]).Perm M) (hs : M.Pairwise fun a b => a < b) : runP (csAt pg n) df_subsets_of [.tuple (ms.map .int)] = some (.tuple (M.map encI)) := by
  have B := loop_subs n ms [[]] 6 hl (by decide) (fun s hs => by rw [List.mem_singleton] at hs; subst hs; decide)
  rw [show ([[]] : List (List Int)).map encI = [.tuple []] from rfl] at B
  have hb := sortB_I (subF ms [[]])
  have hd := sortD_I hp hs
  rw [st_subsets_of]
  simp! only [nm_subsets_of, nl_subsets_of, dr_subsets_of_6, nc_subsets_of_0, ok_tuple, cd_tuple, fb_tuple, sq_tuple_len, sq_tuple_list, sq_tuple_sorted, sq_tuple_range, sq_tuple_enumerate, sq_tuple_zip, sq_tuple_tuple, sq_tuple_isinstance, sq_tuple_int, sq_tuple_set, sq_tuple_dict, sq_tuple_any, sq_tuple_all, ok_sorted, cd_sorted, fb_sorted, sq_sorted_len, sq_sorted_list, sq_sorted_sorted, sq_sorted_range, sq_sorted_enumerate, sq_sorted_zip, sq_sorted_tuple, sq_sorted_isinstance, sq_sorted_int, sq_sorted_set, sq_sorted_dict, sq_sorted_any, sq_sorted_all, B, hb, hd]
def subP : Nat → List (List Int)
  | 0 => [[]]
  | 1 => [[], [0]]
  | 2 => [[], [0], [0, 1], [1]]
  | _ => [[], [0], [0, 1], [0, 1, 2], [0, 2], [1], [1, 2], [2]]
def upTo (n : Nat) : List Int := (List.range n).map fun i : Nat => (i : Int)
theorem rngL0 (n : Nat) : rngL 0 (n : Int) = upTo n := by unfold rngL upTo; simp
theorem subs_ok : ∀ n, n ≤ 3 → (subF (upTo n) [[]]).Perm (subP n) ∧ (subP n).Pairwise (fun a b => a < b) ∧ ∀ s ∈ subP n, s.Pairwise (· < ·)
  | 0, _ => by decide +kernel
  | 1, _ => by decide +kernel
  | 2, _ => by decide +kernel
  | 3, _ => by decide +kernel
  | n + 4, h => by omega
theorem ev_subs (k : Nat) (n : Nat) (h : n ≤ 3) : runP (csAt pg k) df_subsets_of [.tuple ((upTo n).map .int)] = some (.tuple ((subP n).map encI)) :=
  ev_subsets k (upTo n) (subP n) (by unfold upTo; rw [List.length_map, List.length_range]; omega) (subs_ok n h).1 (subs_ok n h).2.1
theorem ev_inside (n : Nat) (a b : List Int) (ha : a.Pairwise (· < ·)) (hb : b.Pairwise (· < ·)) (hl : b.length ≤ 4000) : runP (csAt pg n) df_inside [encI a, encI b] = some (.bool (decide (∀ x ∈ a, x ∈ b))) := by
  unfold encI
  by_cases h : a.length ≤ b.length
  · have h0 : ((a.length : Int) ≤ (b.length : Int)) = True := eq_true (by omega)
    have m1 := fun ρ => mkZ_le (ρ := ρ) (ns := a) (by omega)
    have m2 := fun ρ => mkZ_le (ρ := ρ) (ns := b) hl
    rw [sdd_self ha] at m1
    rw [sdd_self hb] at m2
    have hd : (a.length / 4 ≤ b.length) = True := eq_true (by omega)
    have hz : (((a.filter fun j => !decide (j ∈ b)).length : Int) = 0) = (∀ x ∈ a, x ∈ b) := by
      refine propext ⟨fun e x hx => ?_, fun e => ?_⟩
      · have e0 : (a.filter fun j => !decide (j ∈ b)) = [] := List.eq_nil_of_length_eq_zero (by omega)
        have := List.filter_eq_nil_iff.mp e0 x hx
        simpa using this
      · rw [List.filter_eq_nil_iff.mpr (fun x hx => by simp [e x hx])]; rfl
    rw [st_inside]
    simp! only [nm_inside, nl_inside, ok_len, cd_len, fb_len, sq_len_len, sq_len_list, sq_len_sorted, sq_len_range, sq_len_enumerate, sq_len_zip, sq_len_tuple, sq_len_isinstance, sq_len_int, sq_len_set, sq_len_dict, sq_len_any, sq_len_all, ok_set, cd_set, fb_set, sq_set_len, sq_set_list, sq_set_sorted, sq_set_range, sq_set_enumerate, sq_set_zip, sq_set_tuple, sq_set_isinstance, sq_set_int, sq_set_set, sq_set_dict, sq_set_any, sq_set_all, h0, List.length_map, intsOf_map, m1, m2, hd, hz]
  · have h0 : ((a.length : Int) ≤ (b.length : Int)) = False := eq_false (by omega)
    have hz : decide (∀ x ∈ a, x ∈ b) = false := decide_eq_false fun e => h (sub_len ha e)
    rw [st_inside]
    simp! only [nm_inside, nl_inside, ok_len, cd_len, fb_len, sq_len_len, sq_len_list, sq_len_sorted, sq_len_range, sq_len_enumerate, sq_len_zip, sq_len_tuple, sq_len_isinstance, sq_len_int, sq_len_set, sq_len_dict, sq_len_any, sq_len_all, ok_set, cd_set, fb_set, sq_set_len, sq_set_list, sq_set_sorted, sq_set_range, sq_set_enumerate, sq_set_zip, sq_set_tuple, sq_set_isinstance, sq_set_int, sq_set_set, sq_set_dict, sq_set_any, sq_set_all, h0, List.length_map, hz]


set_option Elab.async false
set_option linter.all false
set_option maxRecDepth 100000
set_option maxHeartbeats 1000000
open PySem PySem.Spec PyProof.Rows L2 Lk Ev
theorem rng_ok {n : Nat} (h : n ≤ 1000000) : rngOk 0 (n : Int) = true := by unfold rngOk; simp; omega
theorem rng_map (n : Nat) : (rngL 0 (n : Int)).map PyData.int = (List.range n).map fun k : Nat => PyData.int k := by
  unfold rngL
  rw [List.map_map]
  simp
theorem rng_len (n : Nat) : ((rngL 0 (n : Int)).map PyData.int).length = n := by rw [rng_map, List.length_map, List.length_range]
theorem upTo_map (n : Nat) : (upTo n).map PyData.int = (List.range n).map fun k : Nat => PyData.int k := by rw [← rngL0, rng_map]
theorem ints_list {P : Int → Prop} : ∀ {ys : List D}, (∀ y ∈ ys, ∃ b : Int, y = .int b ∧ P b) → ∃ xs : List Int, ys = xs.map .int ∧ ∀ b ∈ xs, P b
  | [], _ => ⟨[], rfl, fun b h => (by cases h)⟩
  | y :: ys, h => by
    obtain ⟨b, rfl, hb⟩ := h y (List.mem_cons_self ..)
    obtain ⟨xs, rfl, hx⟩ := ints_list fun z hz => h z (List.mem_cons_of_mem _ hz)
    exact ⟨b :: xs, rfl, fun z hz => (List.mem_cons.mp hz).elim (fun e => e ▸ hb) (hx z)⟩
/-- the parts that are asked -/
def askP (most : Int) (st : List Int) (s : List Int) : Bool := decide ((s.length : Int) ≤ most) && decide (∀ x ∈ st, x ∈ s)
def strikeP (n : Nat) (most : Int) (st : List Int) : List (List Int) := (subP n).filter (askP most st)
theorem subP_len : ∀ n, ∀ s ∈ subP n, s.length ≤ 3
  | 0 => by decide
  | 1 => by decide
  | 2 => by decide
  | n + 3 => by show ∀ s ∈ [[], [0], [0, 1], [0, 1, 2], [0, 2], [1], [1, 2], [2]], s.length ≤ 3; decide
theorem subP_card : ∀ n, (subP n).length ≤ 8
  | 0 => by decide
  | 1 => by decide
  | 2 => by decide
  | n + 3 => Nat.le_refl 8
theorem ev_strikes (n : Nat) (fs : List D) (most : Int) (st : List Int) (h : fs.length ≤ 3) (hs : st.Pairwise (· < ·)) : runP (csAt pg (n + 1)) df_strikes [.tuple fs, .int most, encI st] = some (.tuple ((strikeP fs.length most st).map encI)) := by
  have hv := ev_subs n fs.length h
  have hr := rng_ok (n := fs.length) (by omega)
  have B := lcL_filter (s := [.val (.tuple fs), .val (.int most), .val (encI st), .val (.tuple ((subP fs.length).map encI)), .non]) (step := lcTurn (FR df_strikes (n + 1) 56) (blkFm (fmOf df_strikes) SC_strikes_0) EL_strikes_0 TG_strikes_0 IF_strikes_0 [4] 5) encI encI (askP most st) (xs := subP fs.length) (fun s hx => by
    have e := ev_inside n st s hs ((subs_ok _ h).2.2 s hx) (by have := subP_len _ s hx; omega)
    unfold lcTurn askP
    by_cases h1 : (s.length : Int) ≤ most
    · by_cases h2 : ∀ x ∈ st, x ∈ s
      · have h1 := eq_true h1
        have h2 := eq_true h2
        simp only [encI] at e ⊢
        simp! only [nm_strikes, nl_strikes, nc_strikes_0, ok_subsets_of, cd_subsets_of, fb_subsets_of, sq_subsets_of_len, sq_subsets_of_list, sq_subsets_of_sorted, sq_subsets_of_range, sq_subsets_of_enumerate, sq_subsets_of_zip, sq_subsets_of_tuple, sq_subsets_of_isinstance, sq_subsets_of_int, sq_subsets_of_set, sq_subsets_of_dict, sq_subsets_of_any, sq_subsets_of_all, ok_tuple, cd_tuple, fb_tuple, sq_tuple_len, sq_tuple_list, sq_tuple_sorted, sq_tuple_range, sq_tuple_enumerate, sq_tuple_zip, sq_tuple_tuple, sq_tuple_isinstance, sq_tuple_int, sq_tuple_set, sq_tuple_dict, sq_tuple_any, sq_tuple_all, ok_range, cd_range, fb_range, sq_range_len, sq_range_list, sq_range_sorted, sq_range_range, sq_range_enumerate, sq_range_zip, sq_range_tuple, sq_range_isinstance, sq_range_int, sq_range_set, sq_range_dict, sq_range_any, sq_range_all, ok_len, cd_len, fb_len, sq_len_len, sq_len_list, sq_len_sorted, sq_len_range, sq_len_enumerate, sq_len_zip, sq_len_tuple, sq_len_isinstance, sq_len_int, sq_len_set, sq_len_dict, sq_len_any, sq_len_all, ok_inside, cd_inside, fb_inside, sq_inside_len, sq_inside_list, sq_inside_sorted, sq_inside_range, sq_inside_enumerate, sq_inside_zip, sq_inside_tuple, sq_inside_isinstance, sq_inside_int, sq_inside_set, sq_inside_dict, sq_inside_any, sq_inside_all, List.length_map, h1, h2, e]
      · have h1 := eq_true h1
        have h2 := eq_false h2
        simp only [encI] at e ⊢
        simp! only [nm_strikes, nl_strikes, nc_strikes_0, ok_subsets_of, cd_subsets_of, fb_subsets_of, sq_subsets_of_len, sq_subsets_of_list, sq_subsets_of_sorted, sq_subsets_of_range, sq_subsets_of_enumerate, sq_subsets_of_zip, sq_subsets_of_tuple, sq_subsets_of_isinstance, sq_subsets_of_int, sq_subsets_of_set, sq_subsets_of_dict, sq_subsets_of_any, sq_subsets_of_all, ok_tuple, cd_tuple, fb_tuple, sq_tuple_len, sq_tuple_list, sq_tuple_sorted, sq_tuple_range, sq_tuple_enumerate, sq_tuple_zip, sq_tuple_tuple, sq_tuple_isinstance, sq_tuple_int, sq_tuple_set, sq_tuple_dict, sq_tuple_any, sq_tuple_all, ok_range, cd_range, fb_range, sq_range_len, sq_range_list, sq_range_sorted, sq_range_range, sq_range_enumerate, sq_range_zip, sq_range_tuple, sq_range_isinstance, sq_range_int, sq_range_set, sq_range_dict, sq_range_any, sq_range_all, ok_len, cd_len, fb_len, sq_len_len, sq_len_list, sq_len_sorted, sq_len_range, sq_len_enumerate, sq_len_zip, sq_len_tuple, sq_len_isinstance, sq_len_int, sq_len_set, sq_len_dict, sq_len_any, sq_len_all, ok_inside, cd_inside, fb_inside, sq_inside_len, sq_inside_list, sq_inside_sorted, sq_inside_range, sq_inside_enumerate, sq_inside_zip, sq_inside_tuple, sq_inside_isinstance, sq_inside_int, sq_inside_set, sq_inside_dict, sq_inside_any, sq_inside_all, List.length_map, h1, h2, e]
    · have h1 := eq_false h1
      simp only [encI]
      simp! only [nm_strikes, nl_strikes, nc_strikes_0, ok_subsets_of, cd_subsets_of, fb_subsets_of, sq_subsets_of_len, sq_subsets_of_list, sq_subsets_of_sorted, sq_subsets_of_range, sq_subsets_of_enumerate, sq_subsets_of_zip, sq_subsets_of_tuple, sq_subsets_of_isinstance, sq_subsets_of_int, sq_subsets_of_set, sq_subsets_of_dict, sq_subsets_of_any, sq_subsets_of_all, ok_tuple, cd_tuple, fb_tuple, sq_tuple_len, sq_tuple_list, sq_tuple_sorted, sq_tuple_range, sq_tuple_enumerate, sq_tuple_zip, sq_tuple_tuple, sq_tuple_isinstance, sq_tuple_int, sq_tuple_set, sq_tuple_dict, sq_tuple_any, sq_tuple_all, ok_range, cd_range, fb_range, sq_range_len, sq_range_list, sq_range_sorted, sq_range_range, sq_range_enumerate, sq_range_zip, sq_range_tuple, sq_range_isinstance, sq_range_int, sq_range_set, sq_range_dict, sq_range_any, sq_range_all, ok_len, cd_len, fb_len, sq_len_len, sq_len_list, sq_len_sorted, sq_len_range, sq_len_enumerate, sq_len_zip, sq_len_tuple, sq_len_isinstance, sq_len_int, sq_len_set, sq_len_dict, sq_len_any, sq_len_all, ok_inside, cd_inside, fb_inside, sq_inside_len, sq_inside_list, sq_inside_sorted, sq_inside_range, sq_inside_enumerate, sq_inside_zip, sq_inside_tuple, sq_inside_isinstance, sq_inside_int, sq_inside_set, sq_inside_dict, sq_inside_any, sq_inside_all, List.length_map, h1])
  rw [st_strikes]
  simp! only [nm_strikes, nl_strikes, nc_strikes_0, ok_subsets_of, cd_subsets_of, fb_subsets_of, sq_subsets_of_len, sq_subsets_of_list, sq_subsets_of_sorted, sq_subsets_of_range, sq_subsets_of_enumerate, sq_subsets_of_zip, sq_subsets_of_tuple, sq_subsets_of_isinstance, sq_subsets_of_int, sq_subsets_of_set, sq_subsets_of_dict, sq_subsets_of_any, sq_subsets_of_all, ok_tuple, cd_tuple, fb_tuple, sq_tuple_len, sq_tuple_list, sq_tuple_sorted, sq_tuple_range, sq_tuple_enumerate, sq_tuple_zip, sq_tuple_tuple, sq_tuple_isinstance, sq_tuple_int, sq_tuple_set, sq_tuple_dict, sq_tuple_any, sq_tuple_all, ok_range, cd_range, fb_range, sq_range_len, sq_range_list, sq_range_sorted, sq_range_range, sq_range_enumerate, sq_range_zip, sq_range_tuple, sq_range_isinstance, sq_range_int, sq_range_set, sq_range_dict, sq_range_any, sq_range_all, ok_len, cd_len, fb_len, sq_len_len, sq_len_list, sq_len_sorted, sq_len_range, sq_len_enumerate, sq_len_zip, sq_len_tuple, sq_len_isinstance, sq_len_int, sq_len_set, sq_len_dict, sq_len_any, sq_len_all, ok_inside, cd_inside, fb_inside, sq_inside_len, sq_inside_list, sq_inside_sorted, sq_inside_range, sq_inside_enumerate, sq_inside_zip, sq_inside_tuple, sq_inside_isinstance, sq_inside_int, sq_inside_set, sq_inside_dict, sq_inside_any, sq_inside_all, rngL0, hr, hv, B, strikeP]
theorem ev_law_inside (n : Nat) (a b : List Int) : runP (csAt pg n) df_law_inside [encI a, encI b] = some (.bool (decide (∀ x ∈ a, x ∈ b))) := by
  have B := forL_first (step := turnE (FR df_law_inside n 59) (fmOf df_law_inside) FT_law_inside_50 FB_law_inside_50 (df_law_inside.drop 50)) (s := [.non, .val (encI b), .non]) PyData.int (fun x => (if x ∈ b then none else some (Sum.inl (PyData.bool false, ([.non, .val (encI b), .val (.int x)] : Rho))) : Option (Sum (D × Rho) (Ct × Rho)))) (xs := a) (fun x _ => by
    have hi := shaped_I b
    have hx : SeqAt.shaped (.int x) = true := enc_I.shaped (by decide) x
    have he : ((b.map PyData.int).any fun z => PyData.eqv z (.int x)) = decide (x ∈ b) := by
      rw [List.any_map, Bool.eq_iff_iff, List.any_eq_true, decide_eq_true_eq]
      simp [enc_I.eq]
    have hq : inD (.int x) (.tuple (b.map .int)) = some (decide (x ∈ b)) := by
      have hl : SeqAt.shaped (.list (b.map .int)) = true := (enc_L enc_I).shaped (by decide) b
      simp only [inD, hx, hl, he, Bool.and_self, if_true]
    rw [turnE_eq]
    by_cases h : x ∈ b
    · have h := eq_true h
      unfold encI
      simp! only [nm_law_inside, nl_law_inside, dr_law_inside_50, hq, h]
    · have h := eq_false h
      unfold encI
      simp! only [nm_law_inside, nl_law_inside, dr_law_inside_50, hq, h])
  by_cases h : ∀ x ∈ a, x ∈ b
  · rw [List.findSome?_eq_none_iff.mpr (fun x hx => if_pos (h x hx))] at B
    have h := eq_true h
    rw [st_law_inside]
    unfold encI at *
    simp! only [nm_law_inside, nl_law_inside, dr_law_inside_50, B, h]
  · have hd := eq_false h
    cases e : a.findSome? (fun x => (if x ∈ b then none else some (Sum.inl (PyData.bool false, ([.non, .val (encI b), .val (.int x)] : Rho))) : Option (Sum (D × Rho) (Ct × Rho)))) with
    | none => exact absurd (fun x hx => Decidable.byContradiction fun hn => by have := List.findSome?_eq_none_iff.mp e x hx; rw [if_neg hn] at this; cases this) h
    | some q =>
      rw [e] at B
      obtain ⟨x, hx, hq⟩ := List.exists_of_findSome?_eq_some e
      split at hq
      · cases hq
      · cases hq
        rw [st_law_inside]
        unfold encI at *
        simp! only [nm_law_inside, nl_law_inside, dr_law_inside_50, B, hd]
theorem turn_lsubs (n : Nat) (L : List (List Int)) (m : Int) (h1 : L.length ≤ 8000) (h2 : ∀ s ∈ L, s.length ≤ 8000) : turnE (FR df_law_subsets n 59) (fmOf df_law_subsets) FT_law_subsets_56 FB_law_subsets_56 (df_law_subsets.drop 56) (.int m) [.non, .own false (.lst (L.map encI)), .non, .non] =
    some (.nx [.non, .own false (.lst ((L ++ L.map fun s => s ++ [m]).map encI)), .non, .non]) := by
  have B := lcL_map (β := Int) (s := [.non, .val (.list (L.map encI)), .val (.int m), .non]) (step := lcTurn (FR df_law_subsets n 55) (blkFm (fmOf df_law_subsets) SC_law_subsets_0) EL_law_subsets_0 TG_law_subsets_0 [] [3] 4) encI (fun s => encI (s ++ [m])) (xs := L) (fun s hs => by
    have hl : (s.length + 1 ≤ 16777216) = True := eq_true (by have := h2 s hs; omega)
    unfold lcTurn encI
    simp! only [nm_law_subsets, nl_law_subsets, dr_law_subsets_56, nc_law_subsets_0, List.length_map, hl, List.map_append])
  have hl : (L.length + L.length ≤ 16777216) = True := eq_true (by omega)
  rw [turnE_eq]
  simp! only [nm_law_subsets, nl_law_subsets, dr_law_subsets_56, nc_law_subsets_0, B, List.length_map, hl, List.map_append, List.map_map]
  rfl
theorem loop_lsubs (n : Nat) : ∀ (ms : List Int) (L : List (List Int)) (k : Nat), ms.length ≤ k → L.length * 2 ^ k ≤ 8000 → (∀ s ∈ L, s.length + k ≤ 8000) →
    forL (turnE (FR df_law_subsets n 59) (fmOf df_law_subsets) FT_law_subsets_56 FB_law_subsets_56 (df_law_subsets.drop 56)) (ms.map .int) [.non, .own false (.lst (L.map encI)), .non, .non] = some (.nx [.non, .own false (.lst ((subF ms L).map encI)), .non, .non])
  | [], L, k, _, _, _ => rfl
  | m :: ms, L, 0, h, _, _ => by simp at h
  | m :: ms, L, k + 1, h, h1, h2 => by
    have hp : 1 ≤ 2 ^ (k + 1) := Nat.one_le_two_pow
    have hL : L.length ≤ 8000 := Nat.le_trans (Nat.le_mul_of_pos_right _ hp) h1
    rw [List.map_cons, forL_cons, turn_lsubs n L m hL (fun s hs => by have := h2 s hs; omega)]
    simp only
    rw [loop_lsubs n ms _ k (by simpa using h) (by
      rw [List.length_append, List.length_map, ← Nat.two_mul, Nat.mul_comm 2, Nat.mul_assoc, Nat.mul_comm 2, ← Nat.pow_succ]
      exact h1) (fun s hs => by
      rcases List.mem_append.mp hs with e | e
      · have := h2 s e; omega
      · obtain ⟨t, ht, rfl⟩ := List.mem_map.mp e
        have := h2 t ht
        rw [List.length_append]; show t.length + 1 + k ≤ 8000; omega)]
    rfl
theorem ev_lsubs (n : Nat) (ms : List Int) (hl : ms.length ≤ 6) : runP (csAt pg n) df_law_subsets [.list (ms.map .int)] = some (.list ((subF ms [[]]).map encI)) := by
  have B := loop_lsubs n ms [[]] 6 hl (by decide) (fun s hs => by rw [List.mem_singleton] at hs; subst hs; decide)
  rw [show ([[]] : List (List Int)).map encI = [.tuple []] from rfl] at B
  rw [st_law_subsets]
  simp! only [nm_law_subsets, nl_law_subsets, dr_law_subsets_56, nc_law_subsets_0, B]
theorem turn_lstr (n : Nat) (most : Int) (st s : List Int) (L : List (List Int)) (hl : L.length ≤ 1000) : turnE (FR df_law_strikes (n + 1) 59) (fmOf df_law_strikes) FT_law_strikes_61 FB_law_strikes_61 (df_law_strikes.drop 61) (encI s) [.non, .val (.int most), .val (encI st), .own false (.lst (L.map encI)), .non] =
    some (.nx [.non, .val (.int most), .val (encI st), .own false (.lst ((if askP most st s = true then L ++ [s] else L).map encI)), .non]) := by
  have e := ev_law_inside n st s
  have hl2 : (L.length < 16777216) = True := eq_true (by omega)
  rw [turnE_eq]
  by_cases h1 : (s.length : Int) ≤ most
  · by_cases h2 : ∀ x ∈ st, x ∈ s
    · have hk : askP most st s = true := by unfold askP; rw [decide_eq_true h1, decide_eq_true h2]; rfl
      have h1 := eq_true h1
      have h2 := eq_true h2
      rw [if_pos hk, List.map_append, List.map_singleton]
      simp only [encI] at e ⊢
      simp! only [nm_law_strikes, nl_law_strikes, dr_law_strikes_61, ok_law_subsets, cd_law_subsets, fb_law_subsets, sq_law_subsets_len, sq_law_subsets_list, sq_law_subsets_sorted, sq_law_subsets_range, sq_law_subsets_enumerate, sq_law_subsets_zip, sq_law_subsets_tuple, sq_law_subsets_isinstance, sq_law_subsets_int, sq_law_subsets_set, sq_law_subsets_dict, sq_law_subsets_any, sq_law_subsets_all, ok_sorted, cd_sorted, fb_sorted, sq_sorted_len, sq_sorted_list, sq_sorted_sorted, sq_sorted_range, sq_sorted_enumerate, sq_sorted_zip, sq_sorted_tuple, sq_sorted_isinstance, sq_sorted_int, sq_sorted_set, sq_sorted_dict, sq_sorted_any, sq_sorted_all, ok_list, cd_list, fb_list, sq_list_len, sq_list_list, sq_list_sorted, sq_list_range, sq_list_enumerate, sq_list_zip, sq_list_tuple, sq_list_isinstance, sq_list_int, sq_list_set, sq_list_dict, sq_list_any, sq_list_all, ok_range, cd_range, fb_range, sq_range_len, sq_range_list, sq_range_sorted, sq_range_range, sq_range_enumerate, sq_range_zip, sq_range_tuple, sq_range_isinstance, sq_range_int, sq_range_set, sq_range_dict, sq_range_any, sq_range_all, ok_law_inside, cd_law_inside, fb_law_inside, sq_law_inside_len, sq_law_inside_list, sq_law_inside_sorted, sq_law_inside_range, sq_law_inside_enumerate, sq_law_inside_zip, sq_law_inside_tuple, sq_law_inside_isinstance, sq_law_inside_int, sq_law_inside_set, sq_law_inside_dict, sq_law_inside_any, sq_law_inside_all, ok_len, cd_len, fb_len, sq_len_len, sq_len_list, sq_len_sorted, sq_len_range, sq_len_enumerate, sq_len_zip, sq_len_tuple, sq_len_isinstance, sq_len_int, sq_len_set, sq_len_dict, sq_len_any, sq_len_all, sq_append_append, sq_append_find, sq_append_get, sq_append_join, sq_append_list, sq_append_pop, sq_append_sorted, sq_append_split, List.length_map, h1, h2, e, hl2]
    · have hk : ¬ askP most st s = true := by unfold askP; rw [decide_eq_false h2, Bool.and_false]; decide
      have h1 := eq_true h1
      have h2 := eq_false h2
      rw [if_neg hk]
      simp only [encI] at e ⊢
      simp! only [nm_law_strikes, nl_law_strikes, dr_law_strikes_61, ok_law_subsets, cd_law_subsets, fb_law_subsets, sq_law_subsets_len, sq_law_subsets_list, sq_law_subsets_sorted, sq_law_subsets_range, sq_law_subsets_enumerate, sq_law_subsets_zip, sq_law_subsets_tuple, sq_law_subsets_isinstance, sq_law_subsets_int, sq_law_subsets_set, sq_law_subsets_dict, sq_law_subsets_any, sq_law_subsets_all, ok_sorted, cd_sorted, fb_sorted, sq_sorted_len, sq_sorted_list, sq_sorted_sorted, sq_sorted_range, sq_sorted_enumerate, sq_sorted_zip, sq_sorted_tuple, sq_sorted_isinstance, sq_sorted_int, sq_sorted_set, sq_sorted_dict, sq_sorted_any, sq_sorted_all, ok_list, cd_list, fb_list, sq_list_len, sq_list_list, sq_list_sorted, sq_list_range, sq_list_enumerate, sq_list_zip, sq_list_tuple, sq_list_isinstance, sq_list_int, sq_list_set, sq_list_dict, sq_list_any, sq_list_all, ok_range, cd_range, fb_range, sq_range_len, sq_range_list, sq_range_sorted, sq_range_range, sq_range_enumerate, sq_range_zip, sq_range_tuple, sq_range_isinstance, sq_range_int, sq_range_set, sq_range_dict, sq_range_any, sq_range_all, ok_law_inside, cd_law_inside, fb_law_inside, sq_law_inside_len, sq_law_inside_list, sq_law_inside_sorted, sq_law_inside_range, sq_law_inside_enumerate, sq_law_inside_zip, sq_law_inside_tuple, sq_law_inside_isinstance, sq_law_inside_int, sq_law_inside_set, sq_law_inside_dict, sq_law_inside_any, sq_law_inside_all, ok_len, cd_len, fb_len, sq_len_len, sq_len_list, sq_len_sorted, sq_len_range, sq_len_enumerate, sq_len_zip, sq_len_tuple, sq_len_isinstance, sq_len_int, sq_len_set, sq_len_dict, sq_len_any, sq_len_all, sq_append_append, sq_append_find, sq_append_get, sq_append_join, sq_append_list, sq_append_pop, sq_append_sorted, sq_append_split, List.length_map, h1, h2, e]
  · have hk : ¬ askP most st s = true := by unfold askP; rw [decide_eq_false h1, Bool.false_and]; decide
    have h1 := eq_false h1
    rw [if_neg hk]
    simp only [encI]
    simp! only [nm_law_strikes, nl_law_strikes, dr_law_strikes_61, ok_law_subsets, cd_law_subsets, fb_law_subsets, sq_law_subsets_len, sq_law_subsets_list, sq_law_subsets_sorted, sq_law_subsets_range, sq_law_subsets_enumerate, sq_law_subsets_zip, sq_law_subsets_tuple, sq_law_subsets_isinstance, sq_law_subsets_int, sq_law_subsets_set, sq_law_subsets_dict, sq_law_subsets_any, sq_law_subsets_all, ok_sorted, cd_sorted, fb_sorted, sq_sorted_len, sq_sorted_list, sq_sorted_sorted, sq_sorted_range, sq_sorted_enumerate, sq_sorted_zip, sq_sorted_tuple, sq_sorted_isinstance, sq_sorted_int, sq_sorted_set, sq_sorted_dict, sq_sorted_any, sq_sorted_all, ok_list, cd_list, fb_list, sq_list_len, sq_list_list, sq_list_sorted, sq_list_range, sq_list_enumerate, sq_list_zip, sq_list_tuple, sq_list_isinstance, sq_list_int, sq_list_set, sq_list_dict, sq_list_any, sq_list_all, ok_range, cd_range, fb_range, sq_range_len, sq_range_list, sq_range_sorted, sq_range_range, sq_range_enumerate, sq_range_zip, sq_range_tuple, sq_range_isinstance, sq_range_int, sq_range_set, sq_range_dict, sq_range_any, sq_range_all, ok_law_inside, cd_law_inside, fb_law_inside, sq_law_inside_len, sq_law_inside_list, sq_law_inside_sorted, sq_law_inside_range, sq_law_inside_enumerate, sq_law_inside_zip, sq_law_inside_tuple, sq_law_inside_isinstance, sq_law_inside_int, sq_law_inside_set, sq_law_inside_dict, sq_law_inside_any, sq_law_inside_all, ok_len, cd_len, fb_len, sq_len_len, sq_len_list, sq_len_sorted, sq_len_range, sq_len_enumerate, sq_len_zip, sq_len_tuple, sq_len_isinstance, sq_len_int, sq_len_set, sq_len_dict, sq_len_any, sq_len_all, sq_append_append, sq_append_find, sq_append_get, sq_append_join, sq_append_list, sq_append_pop, sq_append_sorted, sq_append_split, List.length_map, h1]
theorem fold_filter {α : Type} (p : α → Bool) : ∀ (xs L : List α), xs.foldl (fun L s => if p s = true then L ++ [s] else L) L = L ++ xs.filter p
  | [], L => (List.append_nil L).symm
  | x :: xs, L => by
    rw [List.foldl_cons, fold_filter p xs]
    cases e : p x with
    | true => rw [if_pos rfl, List.filter_cons_of_pos e, List.append_assoc]; rfl
    | false => rw [if_neg (by decide), List.filter_cons_of_neg (by simp [e])]
theorem loop_lstr (n : Nat) (most : Int) (st : List Int) : ∀ (xs L : List (List Int)), L.length + xs.length ≤ 1000 →
    forL (turnE (FR df_law_strikes (n + 1) 59) (fmOf df_law_strikes) FT_law_strikes_61 FB_law_strikes_61 (df_law_strikes.drop 61)) (xs.map encI) [.non, .val (.int most), .val (encI st), .own false (.lst (L.map encI)), .non] =
      some (.nx [.non, .val (.int most), .val (encI st), .own false (.lst ((L ++ xs.filter (askP most st)).map encI)), .non])
  | [], L, _ => by rw [List.filter_nil, List.append_nil]; rfl
  | x :: xs, L, h => by
    rw [List.length_cons] at h
    rw [List.map_cons, forL_cons, turn_lstr n most st x L (by omega)]
    simp only
    rw [loop_lstr n most st xs _ (by split
                                     · rw [List.length_append]; show L.length + 1 + _ ≤ _; omega
                                     · omega)]
    cases e : askP most st x with
    | true => rw [if_pos rfl, List.filter_cons_of_pos e, List.append_assoc]; rfl
    | false => rw [if_neg (by decide), List.filter_cons_of_neg (by simp [e])]
theorem ev_law_strikes (n : Nat) (m : Nat) (hm : m ≤ 3) (most : Int) (st : List Int) : runP (csAt pg (n + 1)) df_law_strikes [.int m, .int most, encI st] = some (.list ((strikeP m most st).map encI)) := by
  have hr := rng_ok (n := m) (by omega)
  have e := ev_lsubs n (upTo m) (by unfold upTo; rw [List.length_map, List.length_range]; omega)
  obtain ⟨hp, hs, _⟩ := subs_ok m hm
  have hlen : (subF (upTo m) [[]]).length ≤ 8 := by rw [hp.length_eq]; exact subP_card m
  have B := loop_lstr n most st (subF (upTo m) [[]]) [] (by rw [List.length_nil, Nat.zero_add]; exact Nat.le_trans hlen (by decide))
  rw [List.nil_append, List.map_nil] at B
  have hb := sortB_I ((subF (upTo m) [[]]).filter (askP most st))
  have hd := sortD_I (hp.filter (askP most st)) (hs.filter _)
  rw [st_law_strikes]
  simp! only [nm_law_strikes, nl_law_strikes, dr_law_strikes_61, ok_law_subsets, cd_law_subsets, fb_law_subsets, sq_law_subsets_len, sq_law_subsets_list, sq_law_subsets_sorted, sq_law_subsets_range, sq_law_subsets_enumerate, sq_law_subsets_zip, sq_law_subsets_tuple, sq_law_subsets_isinstance, sq_law_subsets_int, sq_law_subsets_set, sq_law_subsets_dict, sq_law_subsets_any, sq_law_subsets_all, ok_sorted, cd_sorted, fb_sorted, sq_sorted_len, sq_sorted_list, sq_sorted_sorted, sq_sorted_range, sq_sorted_enumerate, sq_sorted_zip, sq_sorted_tuple, sq_sorted_isinstance, sq_sorted_int, sq_sorted_set, sq_sorted_dict, sq_sorted_any, sq_sorted_all, ok_list, cd_list, fb_list, sq_list_len, sq_list_list, sq_list_sorted, sq_list_range, sq_list_enumerate, sq_list_zip, sq_list_tuple, sq_list_isinstance, sq_list_int, sq_list_set, sq_list_dict, sq_list_any, sq_list_all, ok_range, cd_range, fb_range, sq_range_len, sq_range_list, sq_range_sorted, sq_range_range, sq_range_enumerate, sq_range_zip, sq_range_tuple, sq_range_isinstance, sq_range_int, sq_range_set, sq_range_dict, sq_range_any, sq_range_all, ok_law_inside, cd_law_inside, fb_law_inside, sq_law_inside_len, sq_law_inside_list, sq_law_inside_sorted, sq_law_inside_range, sq_law_inside_enumerate, sq_law_inside_zip, sq_law_inside_tuple, sq_law_inside_isinstance, sq_law_inside_int, sq_law_inside_set, sq_law_inside_dict, sq_law_inside_any, sq_law_inside_all, ok_len, cd_len, fb_len, sq_len_len, sq_len_list, sq_len_sorted, sq_len_range, sq_len_enumerate, sq_len_zip, sq_len_tuple, sq_len_isinstance, sq_len_int, sq_len_set, sq_len_dict, sq_len_any, sq_len_all, sq_append_append, sq_append_find, sq_append_get, sq_append_join, sq_append_list, sq_append_pop, sq_append_sorted, sq_append_split, rngL0, hr, e, B, hb, hd, strikeP]


set_option Elab.async false
set_option linter.all false
set_option maxRecDepth 100000
set_option maxHeartbeats 1000000
open PySem PySem.Spec PyProof.Rows L2 Lk Ev
theorem bools_true {α : Type} (xs : List α) : boolsOf (xs.map fun _ => PyData.bool true) = some (xs.map fun _ => true) := by
  have := boolsOf_map (xs.map fun _ => true)
  rw [List.map_map] at this
  exact this
theorem all_true {α : Type} (xs : List α) : (xs.map fun _ => true).all id = true := by simp
theorem ev_is_ints (n : Nat) (xs : List Int) : runP (csAt pg (n + 1)) df_law_is_ints [encI xs] = some (.bool true) := by
  unfold encI
  have h := lcL_map (β := Int) (step := lcTurn (FR df_law_is_ints (n + 1) 55) (blkFm (fmOf df_law_is_ints) SC_law_is_ints_0) EL_law_is_ints_0 TG_law_is_ints_0 [] [1] 2) (s := [.val (.tuple (xs.map .int)), .non]) PyData.int (fun _ => .bool true) (xs := xs) (fun x _ => by
    have e := ev_law_is_int n x
    unfold lcTurn
    simp! only [nm_law_is_ints, nl_law_is_ints, nc_law_is_ints_0, ok_isinstance, cd_isinstance, fb_isinstance, sq_isinstance_len, sq_isinstance_list, sq_isinstance_sorted, sq_isinstance_range, sq_isinstance_enumerate, sq_isinstance_zip, sq_isinstance_tuple, sq_isinstance_isinstance, sq_isinstance_int, sq_isinstance_set, sq_isinstance_dict, sq_isinstance_any, sq_isinstance_all, ok_tuple, cd_tuple, fb_tuple, sq_tuple_len, sq_tuple_list, sq_tuple_sorted, sq_tuple_range, sq_tuple_enumerate, sq_tuple_zip, sq_tuple_tuple, sq_tuple_isinstance, sq_tuple_int, sq_tuple_set, sq_tuple_dict, sq_tuple_any, sq_tuple_all, ok_all, cd_all, fb_all, sq_all_len, sq_all_list, sq_all_sorted, sq_all_range, sq_all_enumerate, sq_all_zip, sq_all_tuple, sq_all_isinstance, sq_all_int, sq_all_set, sq_all_dict, sq_all_any, sq_all_all, ok_law_is_int, cd_law_is_int, fb_law_is_int, sq_law_is_int_len, sq_law_is_int_list, sq_law_is_int_sorted, sq_law_is_int_range, sq_law_is_int_enumerate, sq_law_is_int_zip, sq_law_is_int_tuple, sq_law_is_int_isinstance, sq_law_is_int_int, sq_law_is_int_set, sq_law_is_int_dict, sq_law_is_int_any, sq_law_is_int_all, e])
  have hb := bools_true xs
  have ha := all_true xs
  rw [st_law_is_ints]
  simp! only [nm_law_is_ints, nl_law_is_ints, nc_law_is_ints_0, ok_isinstance, cd_isinstance, fb_isinstance, sq_isinstance_len, sq_isinstance_list, sq_isinstance_sorted, sq_isinstance_range, sq_isinstance_enumerate, sq_isinstance_zip, sq_isinstance_tuple, sq_isinstance_isinstance, sq_isinstance_int, sq_isinstance_set, sq_isinstance_dict, sq_isinstance_any, sq_isinstance_all, ok_tuple, cd_tuple, fb_tuple, sq_tuple_len, sq_tuple_list, sq_tuple_sorted, sq_tuple_range, sq_tuple_enumerate, sq_tuple_zip, sq_tuple_tuple, sq_tuple_isinstance, sq_tuple_int, sq_tuple_set, sq_tuple_dict, sq_tuple_any, sq_tuple_all, ok_all, cd_all, fb_all, sq_all_len, sq_all_list, sq_all_sorted, sq_all_range, sq_all_enumerate, sq_all_zip, sq_all_tuple, sq_all_isinstance, sq_all_int, sq_all_set, sq_all_dict, sq_all_any, sq_all_all, ok_law_is_int, cd_law_is_int, fb_law_is_int, sq_law_is_int_len, sq_law_is_int_list, sq_law_is_int_sorted, sq_law_is_int_range, sq_law_is_int_enumerate, sq_law_is_int_zip, sq_law_is_int_tuple, sq_law_is_int_isinstance, sq_law_is_int_int, sq_law_is_int_set, sq_law_is_int_dict, sq_law_is_int_any, sq_law_is_int_all, h, hb, ha]
theorem mem_rngL {i j x : Int} (h : x ∈ rngL i j) : i ≤ x ∧ x < j := by
  unfold rngL at h
  obtain ⟨k, hk, rfl⟩ := List.mem_map.mp h
  rw [List.mem_range] at hk
  omega
theorem ev_is_set (n : Nat) (a : List Int) (ha : a.Pairwise (· < ·)) (hl : a.length ≤ 1000) : runP (csAt pg (n + 2)) df_law_is_set [encI a] = some (.bool true) := by
  have e0 := ev_is_ints n a
  unfold encI at *
  have hr : rngOk 1 (a.length : Int) = true := by unfold rngOk; simp; omega
  have h := lcL_map (β := Int) (step := lcTurn (FR df_law_is_set (n + 2) 56) (blkFm (fmOf df_law_is_set) SC_law_is_set_0) EL_law_is_set_0 TG_law_is_set_0 [] [1] 2) (s := [.val (.tuple (a.map .int)), .non]) PyData.int (fun _ => .bool true) (xs := rngL 1 a.length) (fun x hx => by
    obtain ⟨h1, h2⟩ := mem_rngL hx
    obtain ⟨j, rfl⟩ : ∃ j : Nat, x = (j : Int) + 1 := ⟨(x - 1).toNat, by omega⟩
    have hj : j + 1 < a.length := by omega
    have e1 : atI (a.map PyData.int) ((j : Int) + 1 - 1) = some (.int a[j]) := by
      rw [show (j : Int) + 1 - 1 = (j : Nat) by omega, Ev.atI_nat, List.getElem?_map, List.getElem?_eq_getElem (by omega)]; rfl
    have e2 : atI (a.map PyData.int) ((j : Int) + 1) = some (.int a[j + 1]) := by
      rw [show (j : Int) + 1 = ((j + 1 : Nat) : Int) by omega, Ev.atI_nat, List.getElem?_map, List.getElem?_eq_getElem hj]; rfl
    have hlt : (a[j] < a[j + 1]) = True := eq_true (List.pairwise_iff_getElem.mp ha j (j + 1) (by omega) hj (by omega))
    unfold lcTurn
    simp! only [nm_law_is_set, nl_law_is_set, nc_law_is_set_0, ok_all, cd_all, fb_all, sq_all_len, sq_all_list, sq_all_sorted, sq_all_range, sq_all_enumerate, sq_all_zip, sq_all_tuple, sq_all_isinstance, sq_all_int, sq_all_set, sq_all_dict, sq_all_any, sq_all_all, ok_law_is_ints, cd_law_is_ints, fb_law_is_ints, sq_law_is_ints_len, sq_law_is_ints_list, sq_law_is_ints_sorted, sq_law_is_ints_range, sq_law_is_ints_enumerate, sq_law_is_ints_zip, sq_law_is_ints_tuple, sq_law_is_ints_isinstance, sq_law_is_ints_int, sq_law_is_ints_set, sq_law_is_ints_dict, sq_law_is_ints_any, sq_law_is_ints_all, ok_range, cd_range, fb_range, sq_range_len, sq_range_list, sq_range_sorted, sq_range_range, sq_range_enumerate, sq_range_zip, sq_range_tuple, sq_range_isinstance, sq_range_int, sq_range_set, sq_range_dict, sq_range_any, sq_range_all, ok_len, cd_len, fb_len, sq_len_len, sq_len_list, sq_len_sorted, sq_len_range, sq_len_enumerate, sq_len_zip, sq_len_tuple, sq_len_isinstance, sq_len_int, sq_len_set, sq_len_dict, sq_len_any, sq_len_all, e1, e2, hlt])
  have hb := bools_true (rngL 1 a.length)
  have ha := all_true (rngL 1 a.length)
  rw [st_law_is_set]
  simp! only [nm_law_is_set, nl_law_is_set, nc_law_is_set_0, ok_all, cd_all, fb_all, sq_all_len, sq_all_list, sq_all_sorted, sq_all_range, sq_all_enumerate, sq_all_zip, sq_all_tuple, sq_all_isinstance, sq_all_int, sq_all_set, sq_all_dict, sq_all_any, sq_all_all, ok_law_is_ints, cd_law_is_ints, fb_law_is_ints, sq_law_is_ints_len, sq_law_is_ints_list, sq_law_is_ints_sorted, sq_law_is_ints_range, sq_law_is_ints_enumerate, sq_law_is_ints_zip, sq_law_is_ints_tuple, sq_law_is_ints_isinstance, sq_law_is_ints_int, sq_law_is_ints_set, sq_law_is_ints_dict, sq_law_is_ints_any, sq_law_is_ints_all, ok_range, cd_range, fb_range, sq_range_len, sq_range_list, sq_range_sorted, sq_range_range, sq_range_enumerate, sq_range_zip, sq_range_tuple, sq_range_isinstance, sq_range_int, sq_range_set, sq_range_dict, sq_range_any, sq_range_all, ok_len, cd_len, fb_len, sq_len_len, sq_len_list, sq_len_sorted, sq_len_range, sq_len_enumerate, sq_len_zip, sq_len_tuple, sq_len_isinstance, sq_len_int, sq_len_set, sq_len_dict, sq_len_any, sq_len_all, e0, List.length_map, hr, h, hb, ha]
/-- a fault -/
inductive Fa where
  | brk (w : Bool) (s : Nat)
  | drift (c : Int) (t : List Int)
deriving DecidableEq
def word : Bool → Str
  | true => "wild"
  | false => "dead"
def encF : Fa → D
  | .brk w s => .tuple [.str (word w), .int s]
  | .drift c t => .tuple [.str "drift", .int c, encI t]
theorem word_eq (a b : Bool) : (word a == word b) = decide (a = b) := by cases a <;> cases b <;> decide
theorem word_ok (a : Bool) : (PyData.str (word a)).canLay0 = true := by rw [PyData.canLay0]; cases a <;> decide +kernel
theorem drift_ok : (PyData.str "drift").canLay0 = true := by rw [PyData.canLay0]; decide +kernel
theorem enc_F : Enc encF 2 := by
  refine ⟨fun a b => ?_, fun a => ?_, fun a => ?_⟩
  · cases a with
    | brk w s => cases b with
      | brk w' s' =>
        simp only [encF, PyData.eqv, PyData.eqvAll, word_eq, Bool.and_true]
        by_cases h1 : w = w' <;> by_cases h2 : s = s' <;> simp [h1, h2] <;> omega
      | drift c t => simp [encF, PyData.eqv, PyData.eqvAll]
    | drift c t => cases b with
      | brk w' s' => simp [encF, PyData.eqv, PyData.eqvAll]
      | drift c' t' =>
        simp only [encF, PyData.eqv, PyData.eqvAll, eqv_I, Bool.and_true, beq_self_eq_true, Bool.true_and]
        by_cases h1 : c = c' <;> by_cases h2 : t = t' <;> simp [h1, h2]
  · cases a with
    | brk w s =>
      have := word_ok w
      simp only [encF, PyData.canLay0, PyData.canLayAll0] at this ⊢
      rw [this]; rfl
    | drift c t =>
      have h1 := drift_ok
      have h2 : (encI t).canLay0 = true := (enc_T enc_I).lay t
      simp only [encF, PyData.canLay0, PyData.canLayAll0, h2] at h1 ⊢
      rw [h1]; rfl
  · cases a with
    | brk w s => simp [encF, PyData.depth, PyData.depthAll]
    | drift c t =>
      have h2 : (encI t).depth ≤ 1 := (enc_T enc_I).dep t
      simp only [encF, PyData.depth, PyData.depthAll]
      omega
def encW : Option Bool → D
  | none => .none
  | some w => .str (word w)
theorem enc_W : Enc encW 0 := by
  refine ⟨fun a b => ?_, fun a => ?_, fun a => ?_⟩
  · cases a with
    | none => cases b with
      | none => simp [encW, PyData.eqv]
      | some w => simp [encW, PyData.eqv]
    | some w => cases b with
      | none => simp [encW, PyData.eqv]
      | some w' => simp [encW, PyData.eqv, word_eq]
  · cases a with
    | none => simp [encW, PyData.canLay0]
    | some w => exact word_ok w
  · cases a <;> simp [encW, PyData.depth]
/-- what each sensor is -/
def brokenOf (P : List Fa) (s : Nat) : Option Bool := if .brk true s ∈ P then some true else if .brk false s ∈ P then some false else none
def paint (w : Bool) (P : List Fa) (ws : List (Option Bool)) : List (Option Bool) := P.foldl (fun ws f => match f with
  | .brk w' s => if w' = w then ws.set s (some w) else ws
  | .drift _ _ => ws) ws
theorem paint_get (w : Bool) : ∀ (P : List Fa) (ws : List (Option Bool)), (paint w P ws).length = ws.length ∧ ∀ i, i < ws.length → (paint w P ws)[i]? = if .brk w i ∈ P then some (some w) else ws[i]?
  | [], ws => ⟨rfl, fun i h => rfl⟩
  | .drift c t :: P, ws => by
    obtain ⟨h1, h2⟩ := paint_get w P ws
    refine ⟨h1, fun i h => ?_⟩
    show (paint w P ws)[i]? = _
    rw [h2 i h]
    simp
  | .brk w' s :: P, ws => by
    by_cases hw : w' = w
    · subst hw
      obtain ⟨h1, h2⟩ := paint_get w' P (ws.set s (some w'))
      have e : paint w' (.brk w' s :: P) ws = paint w' P (ws.set s (some w')) := by
        show paint w' P (if w' = w' then _ else _) = _
        rw [if_pos rfl]
      rw [e]
      rw [List.length_set] at h1 h2
      refine ⟨h1, fun i h => ?_⟩
      rw [h2 i h]
      by_cases hi : s = i
      · subst hi
        by_cases hm : Fa.brk w' s ∈ P
        · rw [if_pos hm, if_pos (List.mem_cons_of_mem _ hm)]
        · rw [if_neg hm, if_pos (List.mem_cons_self ..), List.getElem?_set_self h]
      · rw [List.getElem?_set_ne hi]
        have : (Fa.brk w' i ∈ Fa.brk w' s :: P) = (Fa.brk w' i ∈ P) := propext ⟨fun h => (List.mem_cons.mp h).elim (fun e => by cases e; exact absurd rfl hi) id, List.mem_cons_of_mem _⟩
        simp only [this]
    · obtain ⟨h1, h2⟩ := paint_get w P ws
      have e : paint w (.brk w' s :: P) ws = paint w P ws := by
        show paint w P (if w' = w then _ else _) = _
        rw [if_neg hw]
      rw [e]
      refine ⟨h1, fun i h => ?_⟩
      rw [h2 i h]
      have : (Fa.brk w i ∈ Fa.brk w' s :: P) = (Fa.brk w i ∈ P) := propext ⟨fun h => (List.mem_cons.mp h).elim (fun e => by cases e; exact absurd rfl hw) id, List.mem_cons_of_mem _⟩
      simp only [this]
theorem painted (m : Nat) (P : List Fa) : paint true P (paint false P (List.replicate m none)) = (List.range m).map (brokenOf P) := by
  obtain ⟨h1, h2⟩ := paint_get false P (List.replicate m none)
  obtain ⟨h3, h4⟩ := paint_get true P (paint false P (List.replicate m none))
  rw [h1, List.length_replicate] at h3 h4
  rw [List.length_replicate] at h2
  refine List.ext_getElem? fun i => ?_
  by_cases hi : i < m
  · rw [h4 i hi, h2 i hi, List.getElem?_map, List.getElem?_range hi, List.getElem?_replicate, if_pos hi]
    show _ = some (brokenOf P i)
    unfold brokenOf
    split
    · rfl
    · split <;> rfl
  · rw [List.getElem?_eq_none (by omega), List.getElem?_eq_none (by rw [List.length_map, List.length_range]; omega)]
/-- what the sensors can be: each fault has a place -/
def FaOk (m : Nat) : Fa → Prop
  | .brk _ s => s < m
  | .drift _ _ => True


set_option Elab.async false
set_option linter.all false
set_option maxRecDepth 100000
set_option maxHeartbeats 1000000
open PySem PySem.Spec PyProof.Rows L2 Lk Ev
theorem encF_brk (w : Bool) (s : Nat) : encF (.brk w s) = .tuple [.str (word w), .int s] := rfl
theorem encF_drift (c : Int) (t : List Int) : encF (.drift c t) = .tuple [.str "drift", .int c, .tuple (t.map .int)] := rfl
theorem shaped_F (f : Fa) : SeqAt.shaped (encF f) = true := enc_F.shaped (by decide) f
theorem shaped_LF (P : List Fa) : SeqAt.shaped (.list (P.map encF)) = true := (enc_L enc_F).shaped (by decide) P
theorem any_F (P : List Fa) (f : Fa) : ((P.map encF).any fun z => PyData.eqv z (encF f)) = decide (f ∈ P) := by
  rw [List.any_map, Bool.eq_iff_iff, List.any_eq_true, decide_eq_true_eq]
  simp [enc_F.eq]
theorem in_F (P : List Fa) (f : Fa) : inD (encF f) (.list (P.map encF)) = some (decide (f ∈ P)) := by
  have h1 := shaped_F f
  have h2 := shaped_LF P
  have h3 := any_F P f
  cases f with
  | brk w s =>
    rw [encF_brk] at h1 h3 ⊢
    simp only [inD, h1, h2, h3, Bool.and_self, if_true]
  | drift c t =>
    rw [encF_drift] at h1 h3 ⊢
    simp only [inD, h1, h2, h3, Bool.and_self, if_true]
theorem ev_broken (n : Nat) (P : List Fa) (s : Nat) : runP (csAt pg n) df_broken [.list (P.map encF), .int s] = some (encW (brokenOf P s)) := by
  have h1 : inD (.tuple [.str "wild", .int s]) (.list (P.map encF)) = some (decide (Fa.brk true s ∈ P)) := in_F P (.brk true s)
  have h2 : inD (.tuple [.str "dead", .int s]) (.list (P.map encF)) = some (decide (Fa.brk false s ∈ P)) := in_F P (.brk false s)
  rw [st_broken]
  unfold brokenOf
  by_cases a : Fa.brk true s ∈ P
  · have a := eq_true a
    simp! only [nm_broken, nl_broken, h1, a, encW, word]
  · have a := eq_false a
    by_cases b : Fa.brk false s ∈ P
    · have b := eq_true b
      simp! only [nm_broken, nl_broken, h1, h2, a, b, encW, word]
    · have b := eq_false b
      simp! only [nm_broken, nl_broken, h1, h2, a, b, encW, word]
def pickF (fs : List Fa) (x : Int) : Fa := fs.getD x.toNat (.drift 0 [])
def InF (fs : List Fa) (st : List Int) : Prop := ∀ x ∈ st, 0 ≤ x ∧ x < fs.length
theorem pick_at {fs : List Fa} {x : Int} (h : 0 ≤ x ∧ x < fs.length) : atI (fs.map encF) x = some (encF (pickF fs x)) ∧ pickF fs x ∈ fs := by
  obtain ⟨k, rfl⟩ := Int.eq_ofNat_of_zero_le h.1
  have hk : k < fs.length := by omega
  have e : pickF fs (k : Int) = fs[k] := by unfold pickF; rw [Int.toNat_natCast, List.getD_eq_getElem?_getD, List.getElem?_eq_getElem hk]; rfl
  rw [e, Ev.atI_nat, List.getElem?_map, List.getElem?_eq_getElem hk]
  exact ⟨rfl, List.getElem_mem hk⟩
theorem ev_broken_by (n : Nat) (ss : List D) (fs : List Fa) (st : List Int) (hs : InF fs st) (hm : ss.length ≤ 1000) : runP (csAt pg (n + 1)) df_broken_by [.tuple ss, .tuple (fs.map encF), encI st] = some (.tuple (((List.range ss.length).map (brokenOf (st.map (pickF fs)))).map encW)) := by
  unfold encI
  have hr := rng_ok (n := ss.length) (by omega)
  have B := lcL_map (β := Int) (step := lcTurn (FR df_broken_by (n + 1) 59) (blkFm (fmOf df_broken_by) SC_broken_by_0) EL_broken_by_0 TG_broken_by_0 [] [4] 6) (s := [.val (.tuple ss), .val (.tuple (fs.map encF)), .val (.tuple (st.map .int)), .non, .non, .non]) PyData.int (fun x => encF (pickF fs x)) (xs := st) (fun x hx => by
    have e := (pick_at (hs x hx)).1
    unfold lcTurn
    simp! only [nm_broken_by, nl_broken_by, sw_broken_by_14, nc_broken_by_0, nc_broken_by_1, ok_tuple, cd_tuple, fb_tuple, sq_tuple_len, sq_tuple_list, sq_tuple_sorted, sq_tuple_range, sq_tuple_enumerate, sq_tuple_zip, sq_tuple_tuple, sq_tuple_isinstance, sq_tuple_int, sq_tuple_set, sq_tuple_dict, sq_tuple_any, sq_tuple_all, ok_broken, cd_broken, fb_broken, sq_broken_len, sq_broken_list, sq_broken_sorted, sq_broken_range, sq_broken_enumerate, sq_broken_zip, sq_broken_tuple, sq_broken_isinstance, sq_broken_int, sq_broken_set, sq_broken_dict, sq_broken_any, sq_broken_all, ok_range, cd_range, fb_range, sq_range_len, sq_range_list, sq_range_sorted, sq_range_range, sq_range_enumerate, sq_range_zip, sq_range_tuple, sq_range_isinstance, sq_range_int, sq_range_set, sq_range_dict, sq_range_any, sq_range_all, ok_len, cd_len, fb_len, sq_len_len, sq_len_list, sq_len_sorted, sq_len_range, sq_len_enumerate, sq_len_zip, sq_len_tuple, sq_len_isinstance, sq_len_int, sq_len_set, sq_len_dict, sq_len_any, sq_len_all, e])
  rw [show st.map (fun x => encF (pickF fs x)) = (st.map (pickF fs)).map encF from by rw [List.map_map]; rfl] at B
  generalize hP : st.map (pickF fs) = P at B ⊢
  let I : Rho → Prop := fun ρ => ρ = [.val (.tuple ss), .val (.tuple (fs.map encF)), .val (.tuple (st.map .int)), .own false (.lst (P.map encF)), .non, .non] ∨ ρ = [.val (.tuple ss), .val (.tuple (fs.map encF)), .val (.tuple (st.map .int)), .val (.list (P.map encF)), .non, .non]
  obtain ⟨s', C, hI⟩ := lcL_val (I := I) (step := lcTurn (FR df_broken_by (n + 1) 56) (blkFm (fmOf df_broken_by) SC_broken_by_1) EL_broken_by_1 TG_broken_by_1 [] [5] 6) (fun k : Nat => PyData.int k) (fun k => encW (brokenOf P k)) (xs := List.range ss.length) (fun k _ s hI => by
    have e := ev_broken n P k
    refine ⟨[.val (.tuple ss), .val (.tuple (fs.map encF)), .val (.tuple (st.map .int)), .val (.list (P.map encF)), .non, .non], ?_, Or.inr rfl⟩
    unfold lcTurn
    rcases hI with rfl | rfl
    · simp! only [nm_broken_by, nl_broken_by, sw_broken_by_14, nc_broken_by_0, nc_broken_by_1, ok_tuple, cd_tuple, fb_tuple, sq_tuple_len, sq_tuple_list, sq_tuple_sorted, sq_tuple_range, sq_tuple_enumerate, sq_tuple_zip, sq_tuple_tuple, sq_tuple_isinstance, sq_tuple_int, sq_tuple_set, sq_tuple_dict, sq_tuple_any, sq_tuple_all, ok_broken, cd_broken, fb_broken, sq_broken_len, sq_broken_list, sq_broken_sorted, sq_broken_range, sq_broken_enumerate, sq_broken_zip, sq_broken_tuple, sq_broken_isinstance, sq_broken_int, sq_broken_set, sq_broken_dict, sq_broken_any, sq_broken_all, ok_range, cd_range, fb_range, sq_range_len, sq_range_list, sq_range_sorted, sq_range_range, sq_range_enumerate, sq_range_zip, sq_range_tuple, sq_range_isinstance, sq_range_int, sq_range_set, sq_range_dict, sq_range_any, sq_range_all, ok_len, cd_len, fb_len, sq_len_len, sq_len_list, sq_len_sorted, sq_len_range, sq_len_enumerate, sq_len_zip, sq_len_tuple, sq_len_isinstance, sq_len_int, sq_len_set, sq_len_dict, sq_len_any, sq_len_all, e]
    · simp! only [nm_broken_by, nl_broken_by, sw_broken_by_14, nc_broken_by_0, nc_broken_by_1, ok_tuple, cd_tuple, fb_tuple, sq_tuple_len, sq_tuple_list, sq_tuple_sorted, sq_tuple_range, sq_tuple_enumerate, sq_tuple_zip, sq_tuple_tuple, sq_tuple_isinstance, sq_tuple_int, sq_tuple_set, sq_tuple_dict, sq_tuple_any, sq_tuple_all, ok_broken, cd_broken, fb_broken, sq_broken_len, sq_broken_list, sq_broken_sorted, sq_broken_range, sq_broken_enumerate, sq_broken_zip, sq_broken_tuple, sq_broken_isinstance, sq_broken_int, sq_broken_set, sq_broken_dict, sq_broken_any, sq_broken_all, ok_range, cd_range, fb_range, sq_range_len, sq_range_list, sq_range_sorted, sq_range_range, sq_range_enumerate, sq_range_zip, sq_range_tuple, sq_range_isinstance, sq_range_int, sq_range_set, sq_range_dict, sq_range_any, sq_range_all, ok_len, cd_len, fb_len, sq_len_len, sq_len_list, sq_len_sorted, sq_len_range, sq_len_enumerate, sq_len_zip, sq_len_tuple, sq_len_isinstance, sq_len_int, sq_len_set, sq_len_dict, sq_len_any, sq_len_all, e]) [.val (.tuple ss), .val (.tuple (fs.map encF)), .val (.tuple (st.map .int)), .own false (.lst (P.map encF)), .non, .non] (Or.inl rfl)
  rw [← rng_map] at C
  rw [st_broken_by]
  have C : lcL _ _ ([.val (.tuple ss), .val (.tuple (fs.map encF)), .val (.tuple (st.map .int)), .own false (.lst (P.map encF)), .non, .non] : Rho) = _ := C
  rcases hI with rfl | rfl
  · simp! only [nm_broken_by, nl_broken_by, sw_broken_by_14, nc_broken_by_0, nc_broken_by_1, ok_tuple, cd_tuple, fb_tuple, sq_tuple_len, sq_tuple_list, sq_tuple_sorted, sq_tuple_range, sq_tuple_enumerate, sq_tuple_zip, sq_tuple_tuple, sq_tuple_isinstance, sq_tuple_int, sq_tuple_set, sq_tuple_dict, sq_tuple_any, sq_tuple_all, ok_broken, cd_broken, fb_broken, sq_broken_len, sq_broken_list, sq_broken_sorted, sq_broken_range, sq_broken_enumerate, sq_broken_zip, sq_broken_tuple, sq_broken_isinstance, sq_broken_int, sq_broken_set, sq_broken_dict, sq_broken_any, sq_broken_all, ok_range, cd_range, fb_range, sq_range_len, sq_range_list, sq_range_sorted, sq_range_range, sq_range_enumerate, sq_range_zip, sq_range_tuple, sq_range_isinstance, sq_range_int, sq_range_set, sq_range_dict, sq_range_any, sq_range_all, ok_len, cd_len, fb_len, sq_len_len, sq_len_list, sq_len_sorted, sq_len_range, sq_len_enumerate, sq_len_zip, sq_len_tuple, sq_len_isinstance, sq_len_int, sq_len_set, sq_len_dict, sq_len_any, sq_len_all, B, hr, C, List.map_map]
    rfl
  · simp! only [nm_broken_by, nl_broken_by, sw_broken_by_14, nc_broken_by_0, nc_broken_by_1, ok_tuple, cd_tuple, fb_tuple, sq_tuple_len, sq_tuple_list, sq_tuple_sorted, sq_tuple_range, sq_tuple_enumerate, sq_tuple_zip, sq_tuple_tuple, sq_tuple_isinstance, sq_tuple_int, sq_tuple_set, sq_tuple_dict, sq_tuple_any, sq_tuple_all, ok_broken, cd_broken, fb_broken, sq_broken_len, sq_broken_list, sq_broken_sorted, sq_broken_range, sq_broken_enumerate, sq_broken_zip, sq_broken_tuple, sq_broken_isinstance, sq_broken_int, sq_broken_set, sq_broken_dict, sq_broken_any, sq_broken_all, ok_range, cd_range, fb_range, sq_range_len, sq_range_list, sq_range_sorted, sq_range_range, sq_range_enumerate, sq_range_zip, sq_range_tuple, sq_range_isinstance, sq_range_int, sq_range_set, sq_range_dict, sq_range_any, sq_range_all, ok_len, cd_len, fb_len, sq_len_len, sq_len_list, sq_len_sorted, sq_len_range, sq_len_enumerate, sq_len_zip, sq_len_tuple, sq_len_isinstance, sq_len_int, sq_len_set, sq_len_dict, sq_len_any, sq_len_all, B, hr, C, List.map_map]
    rfl
theorem turn_word (n : Nat) (fs : List Fa) (st : List Int) (m : Nat) (w : Bool) (x : Int) (hx : 0 ≤ x ∧ x < fs.length) (hf : FaOk m (pickF fs x)) (ws : List (Option Bool)) (hw : ws.length = m) :
    turnE (FR df_law_broken n 58) (fmOf df_law_broken) FT_law_broken_68 FB_law_broken_68 (df_law_broken.drop 68) (.int x) [.non, .val (.tuple (fs.map encF)), .val (encI st), .own false (.lst (ws.map encW)), .val (.str (word w)), .non] =
      some (.nx [.non, .val (.tuple (fs.map encF)), .val (encI st), .own false (.lst ((paint w [pickF fs x] ws).map encW)), .val (.str (word w)), .non]) := by
  have e := (pick_at hx).1
  rw [turnE_eq]
  cases h : pickF fs x with
  | drift c t =>
    have hn : ("drift" = word w) = False := eq_false (by cases w <;> decide)
    rw [h, encF_drift] at e
    simp! only [nm_law_broken, nl_law_broken, dr_law_broken_67, dr_law_broken_68, ok_tuple, cd_tuple, fb_tuple, sq_tuple_len, sq_tuple_list, sq_tuple_sorted, sq_tuple_range, sq_tuple_enumerate, sq_tuple_zip, sq_tuple_tuple, sq_tuple_isinstance, sq_tuple_int, sq_tuple_set, sq_tuple_dict, sq_tuple_any, sq_tuple_all, ok_len, cd_len, fb_len, sq_len_len, sq_len_list, sq_len_sorted, sq_len_range, sq_len_enumerate, sq_len_zip, sq_len_tuple, sq_len_isinstance, sq_len_int, sq_len_set, sq_len_dict, sq_len_any, sq_len_all, e, hn]
    rfl
  | brk w' s =>
    rw [h] at hf
    rw [h, encF_brk] at e
    have hs : s < ws.length := by rw [hw]; exact hf
    have hi : ixN ws.length (s : Int) = some s := by rw [Ev.ixN_nat, if_pos hs]
    by_cases hh : w' = w
    · subst hh
      have hp : (paint w' [Fa.brk w' s] ws).map encW = (ws.map encW).set s (.str (word w')) := by
        show (if w' = w' then ws.set s (some w') else ws).map encW = _
        rw [if_pos rfl, List.map_set]; rfl
      rw [hp]
      simp! only [nm_law_broken, nl_law_broken, dr_law_broken_67, dr_law_broken_68, ok_tuple, cd_tuple, fb_tuple, sq_tuple_len, sq_tuple_list, sq_tuple_sorted, sq_tuple_range, sq_tuple_enumerate, sq_tuple_zip, sq_tuple_tuple, sq_tuple_isinstance, sq_tuple_int, sq_tuple_set, sq_tuple_dict, sq_tuple_any, sq_tuple_all, ok_len, cd_len, fb_len, sq_len_len, sq_len_list, sq_len_sorted, sq_len_range, sq_len_enumerate, sq_len_zip, sq_len_tuple, sq_len_isinstance, sq_len_int, sq_len_set, sq_len_dict, sq_len_any, sq_len_all, e, List.length_map, hi]
    · have hn : (word w' = word w) = False := eq_false (fun e => hh (by revert e; cases w <;> cases w' <;> decide))
      have hp : paint w [Fa.brk w' s] ws = ws := if_neg hh
      rw [hp]
      simp! only [nm_law_broken, nl_law_broken, dr_law_broken_67, dr_law_broken_68, ok_tuple, cd_tuple, fb_tuple, sq_tuple_len, sq_tuple_list, sq_tuple_sorted, sq_tuple_range, sq_tuple_enumerate, sq_tuple_zip, sq_tuple_tuple, sq_tuple_isinstance, sq_tuple_int, sq_tuple_set, sq_tuple_dict, sq_tuple_any, sq_tuple_all, ok_len, cd_len, fb_len, sq_len_len, sq_len_list, sq_len_sorted, sq_len_range, sq_len_enumerate, sq_len_zip, sq_len_tuple, sq_len_isinstance, sq_len_int, sq_len_set, sq_len_dict, sq_len_any, sq_len_all, e, hn]
theorem loop_word (n : Nat) (fs : List Fa) (st : List Int) (m : Nat) (hf : ∀ f ∈ fs, FaOk m f) (w : Bool) : ∀ (xs : List Int) (ws : List (Option Bool)), InF fs xs → ws.length = m →
    forL (turnE (FR df_law_broken n 58) (fmOf df_law_broken) FT_law_broken_68 FB_law_broken_68 (df_law_broken.drop 68)) (xs.map .int) [.non, .val (.tuple (fs.map encF)), .val (encI st), .own false (.lst (ws.map encW)), .val (.str (word w)), .non] =
      some (.nx [.non, .val (.tuple (fs.map encF)), .val (encI st), .own false (.lst ((paint w (xs.map (pickF fs)) ws).map encW)), .val (.str (word w)), .non])
  | [], ws, _, _ => rfl
  | x :: xs, ws, hx, hw => by
    have h0 := hx x (List.mem_cons_self ..)
    rw [List.map_cons, forL_cons, turn_word n fs st m w x h0 (hf _ (pick_at h0).2) ws hw]
    simp only
    rw [loop_word n fs st m hf w xs _ (fun y hy => hx y (List.mem_cons_of_mem _ hy)) ((paint_get w _ ws).1.trans hw)]
    rfl
theorem turn_words (n : Nat) (fs : List Fa) (st : List Int) (m : Nat) (hf : ∀ f ∈ fs, FaOk m f) (hs : InF fs st) (w : Bool) (ws : List (Option Bool)) (hw : ws.length = m) :
    turnE (FR df_law_broken n 59) (fmOf df_law_broken) FT_law_broken_67 FB_law_broken_67 (df_law_broken.drop 67) (.str (word w)) [.non, .val (.tuple (fs.map encF)), .val (encI st), .own false (.lst (ws.map encW)), .non, .non] =
      some (.nx [.non, .val (.tuple (fs.map encF)), .val (encI st), .own false (.lst ((paint w (st.map (pickF fs)) ws).map encW)), .non, .non]) := by
  have B := loop_word n fs st m hf w st ws hs hw
  rw [turnE_eq]
  unfold encI at *
  simp! only [nm_law_broken, nl_law_broken, dr_law_broken_67, dr_law_broken_68, ok_tuple, cd_tuple, fb_tuple, sq_tuple_len, sq_tuple_list, sq_tuple_sorted, sq_tuple_range, sq_tuple_enumerate, sq_tuple_zip, sq_tuple_tuple, sq_tuple_isinstance, sq_tuple_int, sq_tuple_set, sq_tuple_dict, sq_tuple_any, sq_tuple_all, ok_len, cd_len, fb_len, sq_len_len, sq_len_list, sq_len_sorted, sq_len_range, sq_len_enumerate, sq_len_zip, sq_len_tuple, sq_len_isinstance, sq_len_int, sq_len_set, sq_len_dict, sq_len_any, sq_len_all, B]
theorem ev_law_broken (n : Nat) (ss : List D) (fs : List Fa) (st : List Int) (hs : InF fs st) (hf : ∀ f ∈ fs, FaOk ss.length f) (hm : ss.length ≤ 1000) : runP (csAt pg n) df_law_broken [.tuple ss, .tuple (fs.map encF), encI st] = some (.tuple (((List.range ss.length).map (brokenOf (st.map (pickF fs)))).map encW)) := by
  have B : forL (turnE (FR df_law_broken n 59) (fmOf df_law_broken) FT_law_broken_67 FB_law_broken_67 (df_law_broken.drop 67)) [.str "dead", .str "wild"] [.non, .val (.tuple (fs.map encF)), .val (encI st), .own false (.lst (List.replicate ss.length .none)), .non, .non] =
      some (.nx [.non, .val (.tuple (fs.map encF)), .val (encI st), .own false (.lst (((List.range ss.length).map (brokenOf (st.map (pickF fs)))).map encW)), .non, .non]) := by
    have h1 := turn_words n fs st ss.length hf hs false (List.replicate ss.length none) List.length_replicate
    have h2 := turn_words n fs st ss.length hf hs true (paint false (st.map (pickF fs)) (List.replicate ss.length none)) ((paint_get false _ _).1.trans List.length_replicate)
    rw [painted] at h2
    rw [List.map_replicate] at h1
    have h1 : turnE _ _ _ _ _ (.str "dead") [.non, .val (.tuple (fs.map encF)), .val (encI st), .own false (.lst (List.replicate ss.length .none)), .non, .non] = _ := h1
    have h2 : turnE _ _ _ _ _ (.str "wild") _ = _ := h2
    rw [forL_cons, h1]
    simp only
    rw [forL_cons, h2]
    rfl
  have q1 : (-(2 ^ 63 : Int) ≤ (ss.length : Int)) = True := eq_true (by omega)
  have q2 : ((ss.length : Int) < (2 ^ 63 : Int)) = True := eq_true (by omega)
  have q3 : (ss.length ≤ 16777216) = True := eq_true (by omega)
  have q4 : (List.replicate ss.length [PyData.none]).flatten = List.replicate ss.length PyData.none := by simp
  rw [st_law_broken]
  unfold encI at *
  simp! only [nm_law_broken, nl_law_broken, dr_law_broken_67, dr_law_broken_68, ok_tuple, cd_tuple, fb_tuple, sq_tuple_len, sq_tuple_list, sq_tuple_sorted, sq_tuple_range, sq_tuple_enumerate, sq_tuple_zip, sq_tuple_tuple, sq_tuple_isinstance, sq_tuple_int, sq_tuple_set, sq_tuple_dict, sq_tuple_any, sq_tuple_all, ok_len, cd_len, fb_len, sq_len_len, sq_len_list, sq_len_sorted, sq_len_range, sq_len_enumerate, sq_len_zip, sq_len_tuple, sq_len_isinstance, sq_len_int, sq_len_set, sq_len_dict, sq_len_any, sq_len_all, q1, q2, q3, Int.toNat_natCast, Nat.one_mul, q4, B]


set_option Elab.async false
set_option linter.all false
set_option maxRecDepth 100000
set_option maxHeartbeats 1000000
open PySem PySem.Spec PyProof.Rows L2 Lk Ev
theorem eq_TI (M : List (List Int)) : eqD (.tuple (M.map encI)) (.tuple (M.map encI)) = some true := by
  have h := shaped_TI M
  have e : PyData.eqv (.tuple (M.map encI)) (.tuple (M.map encI)) = true := by
    have := (enc_T (enc_T enc_I)).eq M M
    rw [decide_eq_true rfl] at this
    exact this
  show (if (SeqAt.shaped _ && SeqAt.shaped _) = true then some _ else none) = _
  rw [h, e]; rfl
theorem in_TI (M : List (List Int)) (s : List Int) : inD (encI s) (.tuple (M.map encI)) = some (decide (s ∈ M)) := by
  have h1 := shaped_I s
  have h2 := shaped_LI M
  have h3 : ((M.map encI).any fun z => PyData.eqv z (encI s)) = decide (s ∈ M) := by
    rw [List.any_map, Bool.eq_iff_iff, List.any_eq_true, decide_eq_true_eq]
    simp [eqv_I]
  show (if (SeqAt.shaped (encI s) && SeqAt.shaped (.list (M.map encI))) = true then some ((M.map encI).any fun z => PyData.eqv z (encI s)) else none) = _
  rw [h1, h2, h3]; rfl
theorem ev_right_strikes (n : Nat) (M : List (List Int)) (hM : ∀ s ∈ M, s.Pairwise (· < ·) ∧ s.length ≤ 3) : runP (csAt pg (n + 3)) df_law_right_strikes [.tuple (M.map encI), .tuple (M.map encI)] = some (.bool true) := by
  have q := eq_TI M
  have h := lcL_map (β := Int) (step := lcTurn (FR df_law_right_strikes (n + 3) 56) (blkFm (fmOf df_law_right_strikes) SC_law_right_strikes_0) EL_law_right_strikes_0 TG_law_right_strikes_0 [] [2] 3) (s := [.val (.tuple (M.map encI)), .val (.tuple (M.map encI)), .non]) encI (fun _ => .bool true) (xs := M) (fun s hs => by
    have e := ev_is_set n s (hM s hs).1 (by have := (hM s hs).2; omega)
    unfold lcTurn
    simp! only [nm_law_right_strikes, nl_law_right_strikes, nc_law_right_strikes_0, ok_all, cd_all, fb_all, sq_all_len, sq_all_list, sq_all_sorted, sq_all_range, sq_all_enumerate, sq_all_zip, sq_all_tuple, sq_all_isinstance, sq_all_int, sq_all_set, sq_all_dict, sq_all_any, sq_all_all, ok_isinstance, cd_isinstance, fb_isinstance, sq_isinstance_len, sq_isinstance_list, sq_isinstance_sorted, sq_isinstance_range, sq_isinstance_enumerate, sq_isinstance_zip, sq_isinstance_tuple, sq_isinstance_isinstance, sq_isinstance_int, sq_isinstance_set, sq_isinstance_dict, sq_isinstance_any, sq_isinstance_all, ok_tuple, cd_tuple, fb_tuple, sq_tuple_len, sq_tuple_list, sq_tuple_sorted, sq_tuple_range, sq_tuple_enumerate, sq_tuple_zip, sq_tuple_tuple, sq_tuple_isinstance, sq_tuple_int, sq_tuple_set, sq_tuple_dict, sq_tuple_any, sq_tuple_all, ok_law_is_set, cd_law_is_set, fb_law_is_set, sq_law_is_set_len, sq_law_is_set_list, sq_law_is_set_sorted, sq_law_is_set_range, sq_law_is_set_enumerate, sq_law_is_set_zip, sq_law_is_set_tuple, sq_law_is_set_isinstance, sq_law_is_set_int, sq_law_is_set_set, sq_law_is_set_dict, sq_law_is_set_any, sq_law_is_set_all, e])
  have hb := bools_true M
  have ha := all_true M
  rw [st_law_right_strikes]
  simp! only [nm_law_right_strikes, nl_law_right_strikes, nc_law_right_strikes_0, ok_all, cd_all, fb_all, sq_all_len, sq_all_list, sq_all_sorted, sq_all_range, sq_all_enumerate, sq_all_zip, sq_all_tuple, sq_all_isinstance, sq_all_int, sq_all_set, sq_all_dict, sq_all_any, sq_all_all, ok_isinstance, cd_isinstance, fb_isinstance, sq_isinstance_len, sq_isinstance_list, sq_isinstance_sorted, sq_isinstance_range, sq_isinstance_enumerate, sq_isinstance_zip, sq_isinstance_tuple, sq_isinstance_isinstance, sq_isinstance_int, sq_isinstance_set, sq_isinstance_dict, sq_isinstance_any, sq_isinstance_all, ok_tuple, cd_tuple, fb_tuple, sq_tuple_len, sq_tuple_list, sq_tuple_sorted, sq_tuple_range, sq_tuple_enumerate, sq_tuple_zip, sq_tuple_tuple, sq_tuple_isinstance, sq_tuple_int, sq_tuple_set, sq_tuple_dict, sq_tuple_any, sq_tuple_all, ok_law_is_set, cd_law_is_set, fb_law_is_set, sq_law_is_set_len, sq_law_is_set_list, sq_law_is_set_sorted, sq_law_is_set_range, sq_law_is_set_enumerate, sq_law_is_set_zip, sq_law_is_set_tuple, sq_law_is_set_isinstance, sq_law_is_set_int, sq_law_is_set_set, sq_law_is_set_dict, sq_law_is_set_any, sq_law_is_set_all, q, h, hb, ha]
theorem strike_in {n : Nat} {most : Int} {st one later : List Int} (h1 : one ∈ strikeP n most st) (h2 : later ∈ strikeP n most one) : later ∈ strikeP n most st := by
  unfold strikeP askP at *
  simp only [List.mem_filter, Bool.and_eq_true, decide_eq_true_eq] at *
  exact ⟨h2.1, h2.2.1, fun x hx => h2.2.2 x (h1.2.2 x hx)⟩
theorem strike_self {n : Nat} {most : Int} {st one : List Int} (h1 : one ∈ strikeP n most st) : one ∈ strikeP n most one := by
  unfold strikeP askP at *
  simp only [List.mem_filter, Bool.and_eq_true, decide_eq_true_eq] at *
  exact ⟨h1.1, h1.2.1, fun x hx => hx⟩
theorem strike_ok {n : Nat} (hn : n ≤ 3) {most : Int} {st one : List Int} (h1 : one ∈ strikeP n most st) : one.Pairwise (· < ·) ∧ one.length ≤ 3 := by
  unfold strikeP at h1
  have h := (List.mem_filter.mp h1).1
  exact ⟨(subs_ok n hn).2.2 one h, subP_len n one h⟩
theorem turn_chain (n : Nat) (fs : List D) (hn : fs.length ≤ 3) (most : Int) (st one : List Int) (h1 : one ∈ strikeP fs.length most st) :
    turnE (FR df_law_right_chain (n + 4) 59) (fmOf df_law_right_chain) FT_law_right_chain_95 FB_law_right_chain_95 (df_law_right_chain.drop 95) (encI one) [.val (.tuple fs), .val (.int most), .non, .val (.tuple ((strikeP fs.length most st).map encI)), .non, .non, .non] =
      some (.nx [.val (.tuple fs), .val (.int most), .non, .val (.tuple ((strikeP fs.length most st).map encI)), .non, .non, .non]) := by
  have e := ev_strikes (n + 2) fs most one hn (strike_ok hn h1).1
  have hin : inD (encI one) (.tuple ((strikeP fs.length most one).map encI)) = some true := by rw [in_TI, decide_eq_true (strike_self h1)]
  have h := lcL_map (β := Int) (step := lcTurn (FR df_law_right_chain (n + 4) 52) (blkFm (fmOf df_law_right_chain) SC_law_right_chain_0) EL_law_right_chain_0 TG_law_right_chain_0 [] [6] 7) (s := [.val (.tuple fs), .val (.int most), .non, .val (.tuple ((strikeP fs.length most st).map encI)), .val (encI one), .val (.tuple ((strikeP fs.length most one).map encI)), .non]) encI (fun _ => .bool true) (xs := strikeP fs.length most one) (fun s hs => by
    have e2 : inD (encI s) (.tuple ((strikeP fs.length most st).map encI)) = some true := by rw [in_TI, decide_eq_true (strike_in h1 hs)]
    unfold lcTurn
    simp! only [nm_law_right_chain, nl_law_right_chain, dr_law_right_chain_95, nc_law_right_chain_0, ok_tuple, cd_tuple, fb_tuple, sq_tuple_len, sq_tuple_list, sq_tuple_sorted, sq_tuple_range, sq_tuple_enumerate, sq_tuple_zip, sq_tuple_tuple, sq_tuple_isinstance, sq_tuple_int, sq_tuple_set, sq_tuple_dict, sq_tuple_any, sq_tuple_all, ok_law_strikes, cd_law_strikes, fb_law_strikes, sq_law_strikes_len, sq_law_strikes_list, sq_law_strikes_sorted, sq_law_strikes_range, sq_law_strikes_enumerate, sq_law_strikes_zip, sq_law_strikes_tuple, sq_law_strikes_isinstance, sq_law_strikes_int, sq_law_strikes_set, sq_law_strikes_dict, sq_law_strikes_any, sq_law_strikes_all, ok_law_right_strikes, cd_law_right_strikes, fb_law_right_strikes, sq_law_right_strikes_len, sq_law_right_strikes_list, sq_law_right_strikes_sorted, sq_law_right_strikes_range, sq_law_right_strikes_enumerate, sq_law_right_strikes_zip, sq_law_right_strikes_tuple, sq_law_right_strikes_isinstance, sq_law_right_strikes_int, sq_law_right_strikes_set, sq_law_right_strikes_dict, sq_law_right_strikes_any, sq_law_right_strikes_all, ok_strikes, cd_strikes, fb_strikes, sq_strikes_len, sq_strikes_list, sq_strikes_sorted, sq_strikes_range, sq_strikes_enumerate, sq_strikes_zip, sq_strikes_tuple, sq_strikes_isinstance, sq_strikes_int, sq_strikes_set, sq_strikes_dict, sq_strikes_any, sq_strikes_all, ok_len, cd_len, fb_len, sq_len_len, sq_len_list, sq_len_sorted, sq_len_range, sq_len_enumerate, sq_len_zip, sq_len_tuple, sq_len_isinstance, sq_len_int, sq_len_set, sq_len_dict, sq_len_any, sq_len_all, ok_isinstance, cd_isinstance, fb_isinstance, sq_isinstance_len, sq_isinstance_list, sq_isinstance_sorted, sq_isinstance_range, sq_isinstance_enumerate, sq_isinstance_zip, sq_isinstance_tuple, sq_isinstance_isinstance, sq_isinstance_int, sq_isinstance_set, sq_isinstance_dict, sq_isinstance_any, sq_isinstance_all, ok_all, cd_all, fb_all, sq_all_len, sq_all_list, sq_all_sorted, sq_all_range, sq_all_enumerate, sq_all_zip, sq_all_tuple, sq_all_isinstance, sq_all_int, sq_all_set, sq_all_dict, sq_all_any, sq_all_all, e2])
  have hb := bools_true (strikeP fs.length most one)
  have ha := all_true (strikeP fs.length most one)
  rw [turnE_eq]
  simp! only [nm_law_right_chain, nl_law_right_chain, dr_law_right_chain_95, nc_law_right_chain_0, ok_tuple, cd_tuple, fb_tuple, sq_tuple_len, sq_tuple_list, sq_tuple_sorted, sq_tuple_range, sq_tuple_enumerate, sq_tuple_zip, sq_tuple_tuple, sq_tuple_isinstance, sq_tuple_int, sq_tuple_set, sq_tuple_dict, sq_tuple_any, sq_tuple_all, ok_law_strikes, cd_law_strikes, fb_law_strikes, sq_law_strikes_len, sq_law_strikes_list, sq_law_strikes_sorted, sq_law_strikes_range, sq_law_strikes_enumerate, sq_law_strikes_zip, sq_law_strikes_tuple, sq_law_strikes_isinstance, sq_law_strikes_int, sq_law_strikes_set, sq_law_strikes_dict, sq_law_strikes_any, sq_law_strikes_all, ok_law_right_strikes, cd_law_right_strikes, fb_law_right_strikes, sq_law_right_strikes_len, sq_law_right_strikes_list, sq_law_right_strikes_sorted, sq_law_right_strikes_range, sq_law_right_strikes_enumerate, sq_law_right_strikes_zip, sq_law_right_strikes_tuple, sq_law_right_strikes_isinstance, sq_law_right_strikes_int, sq_law_right_strikes_set, sq_law_right_strikes_dict, sq_law_right_strikes_any, sq_law_right_strikes_all, ok_strikes, cd_strikes, fb_strikes, sq_strikes_len, sq_strikes_list, sq_strikes_sorted, sq_strikes_range, sq_strikes_enumerate, sq_strikes_zip, sq_strikes_tuple, sq_strikes_isinstance, sq_strikes_int, sq_strikes_set, sq_strikes_dict, sq_strikes_any, sq_strikes_all, ok_len, cd_len, fb_len, sq_len_len, sq_len_list, sq_len_sorted, sq_len_range, sq_len_enumerate, sq_len_zip, sq_len_tuple, sq_len_isinstance, sq_len_int, sq_len_set, sq_len_dict, sq_len_any, sq_len_all, ok_isinstance, cd_isinstance, fb_isinstance, sq_isinstance_len, sq_isinstance_list, sq_isinstance_sorted, sq_isinstance_range, sq_isinstance_enumerate, sq_isinstance_zip, sq_isinstance_tuple, sq_isinstance_isinstance, sq_isinstance_int, sq_isinstance_set, sq_isinstance_dict, sq_isinstance_any, sq_isinstance_all, ok_all, cd_all, fb_all, sq_all_len, sq_all_list, sq_all_sorted, sq_all_range, sq_all_enumerate, sq_all_zip, sq_all_tuple, sq_all_isinstance, sq_all_int, sq_all_set, sq_all_dict, sq_all_any, sq_all_all, e, h, hb, ha, hin]
theorem ev_chain (n : Nat) (fs : List D) (hn : fs.length ≤ 3) (most : Int) (st : List Int) (hs : st.Pairwise (· < ·)) : runP (csAt pg (n + 4)) df_law_right_chain [.tuple fs, .int most, encI st] = some (.bool true) := by
  have e1 := ev_law_strikes (n + 2) fs.length hn most st
  have e2 := ev_strikes (n + 2) fs most st hn hs
  have e3 := ev_right_strikes n (strikeP fs.length most st) (fun s h => strike_ok hn h)
  have B := forL_same (R := Sum (D × Rho) (Ct × Rho)) (step := turnE (FR df_law_right_chain (n + 4) 59) (fmOf df_law_right_chain) FT_law_right_chain_95 FB_law_right_chain_95 (df_law_right_chain.drop 95)) encI (xs := strikeP fs.length most st) (fun one h => turn_chain n fs hn most st one h)
  rw [st_law_right_chain]
  simp! only [nm_law_right_chain, nl_law_right_chain, dr_law_right_chain_95, nc_law_right_chain_0, ok_tuple, cd_tuple, fb_tuple, sq_tuple_len, sq_tuple_list, sq_tuple_sorted, sq_tuple_range, sq_tuple_enumerate, sq_tuple_zip, sq_tuple_tuple, sq_tuple_isinstance, sq_tuple_int, sq_tuple_set, sq_tuple_dict, sq_tuple_any, sq_tuple_all, ok_law_strikes, cd_law_strikes, fb_law_strikes, sq_law_strikes_len, sq_law_strikes_list, sq_law_strikes_sorted, sq_law_strikes_range, sq_law_strikes_enumerate, sq_law_strikes_zip, sq_law_strikes_tuple, sq_law_strikes_isinstance, sq_law_strikes_int, sq_law_strikes_set, sq_law_strikes_dict, sq_law_strikes_any, sq_law_strikes_all, ok_law_right_strikes, cd_law_right_strikes, fb_law_right_strikes, sq_law_right_strikes_len, sq_law_right_strikes_list, sq_law_right_strikes_sorted, sq_law_right_strikes_range, sq_law_right_strikes_enumerate, sq_law_right_strikes_zip, sq_law_right_strikes_tuple, sq_law_right_strikes_isinstance, sq_law_right_strikes_int, sq_law_right_strikes_set, sq_law_right_strikes_dict, sq_law_right_strikes_any, sq_law_right_strikes_all, ok_strikes, cd_strikes, fb_strikes, sq_strikes_len, sq_strikes_list, sq_strikes_sorted, sq_strikes_range, sq_strikes_enumerate, sq_strikes_zip, sq_strikes_tuple, sq_strikes_isinstance, sq_strikes_int, sq_strikes_set, sq_strikes_dict, sq_strikes_any, sq_strikes_all, ok_len, cd_len, fb_len, sq_len_len, sq_len_list, sq_len_sorted, sq_len_range, sq_len_enumerate, sq_len_zip, sq_len_tuple, sq_len_isinstance, sq_len_int, sq_len_set, sq_len_dict, sq_len_any, sq_len_all, ok_isinstance, cd_isinstance, fb_isinstance, sq_isinstance_len, sq_isinstance_list, sq_isinstance_sorted, sq_isinstance_range, sq_isinstance_enumerate, sq_isinstance_zip, sq_isinstance_tuple, sq_isinstance_isinstance, sq_isinstance_int, sq_isinstance_set, sq_isinstance_dict, sq_isinstance_any, sq_isinstance_all, ok_all, cd_all, fb_all, sq_all_len, sq_all_list, sq_all_sorted, sq_all_range, sq_all_enumerate, sq_all_zip, sq_all_tuple, sq_all_isinstance, sq_all_int, sq_all_set, sq_all_dict, sq_all_any, sq_all_all, e1, e2, e3, B]


set_option Elab.async false
set_option linter.all false
set_option maxRecDepth 100000
set_option maxHeartbeats 1000000
open PySem PySem.Spec PyProof.Rows L2 Lk Ev
theorem ev_trail (n : Nat) (s : Dr) (g : Good s) : ∃ (ts : List Int) (s' : Dr), runO (csAt pg (n + 1)) df_law_trail (drC s) [] = some (.tuple (ts.map .int), drC s') ∧ Good s' ∧ ts.length ≤ 3 := by
  obtain ⟨r, s1, h0, h1, g1, e1⟩ := draw_ok n s 8 g (by decide)
  have hk : ∃ k : Nat, atI ([.int 1, .int 2, .int 3, .int 3, .int 0, .int 1, .int 2, .int 3] : List D) r = some (.int (k : Nat)) ∧ k ≤ 3 := by
    obtain ⟨j, rfl⟩ := Int.eq_ofNat_of_zero_le h0
    rw [Ev.atI_nat]
    have hj : j < 8 := by omega
    have : j = 0 ∨ j = 1 ∨ j = 2 ∨ j = 3 ∨ j = 4 ∨ j = 5 ∨ j = 6 ∨ j = 7 := by omega
    rcases this with rfl | rfl | rfl | rfl | rfl | rfl | rfl | rfl
    · exact ⟨1, rfl, by decide⟩
    · exact ⟨2, rfl, by decide⟩
    · exact ⟨3, rfl, by decide⟩
    · exact ⟨3, rfl, by decide⟩
    · exact ⟨0, rfl, by decide⟩
    · exact ⟨1, rfl, by decide⟩
    · exact ⟨2, rfl, by decide⟩
    · exact ⟨3, rfl, by decide⟩
  obtain ⟨k, hk, hk3⟩ := hk
  let I1 : Rho → Prop := fun ρ => ∃ s, Good s ∧ ρ = [Sl.own true (drC s), .non]
  obtain ⟨ys, ρ', a, b, c, s', g', rfl⟩ := lcL_ex (I := I1) (Py := fun y => ∃ b : Int, y = .int b ∧ 0 ≤ b) (step := lcTurn (FR df_law_trail (n + 1) 56) (blkFm (fmOf df_law_trail) SC_law_trail_0) EL_law_trail_0 TG_law_trail_0 [] [1] 2) (xs := (rngL 0 (k : Int)).map PyData.int) (fun x hx ρ hI => by
    obtain ⟨s, g, rfl⟩ := hI
    obtain ⟨i, hi, rfl⟩ := List.mem_map.mp hx
    obtain ⟨r, s', h0, h1, g', e⟩ := draw_ok n s 4 g (by decide)
    unfold lcTurn
    simp! only [nm_law_trail, nl_law_trail, nc_law_trail_0, ok_tuple, cd_tuple, fb_tuple, sq_tuple_len, sq_tuple_list, sq_tuple_sorted, sq_tuple_range, sq_tuple_enumerate, sq_tuple_zip, sq_tuple_tuple, sq_tuple_isinstance, sq_tuple_int, sq_tuple_set, sq_tuple_dict, sq_tuple_any, sq_tuple_all, ok_law_draw, cd_law_draw, fb_law_draw, sq_law_draw_len, sq_law_draw_list, sq_law_draw_sorted, sq_law_draw_range, sq_law_draw_enumerate, sq_law_draw_zip, sq_law_draw_tuple, sq_law_draw_isinstance, sq_law_draw_int, sq_law_draw_set, sq_law_draw_dict, sq_law_draw_any, sq_law_draw_all, ok_range, cd_range, fb_range, sq_range_len, sq_range_list, sq_range_sorted, sq_range_range, sq_range_enumerate, sq_range_zip, sq_range_tuple, sq_range_isinstance, sq_range_int, sq_range_set, sq_range_dict, sq_range_any, sq_range_all, e]
    exact ⟨_, _, rfl, ⟨r, rfl, h0⟩, s', g', rfl⟩) [Sl.own true (drC s1), .non] ⟨s1, g1, rfl⟩
  obtain ⟨ts, rfl, _⟩ := ints_list c
  rw [rng_len, List.length_map] at b
  have hr := rng_ok (n := k) (by omega)
  rw [st_law_trail]
  simp! only [nm_law_trail, nl_law_trail, nc_law_trail_0, ok_tuple, cd_tuple, fb_tuple, sq_tuple_len, sq_tuple_list, sq_tuple_sorted, sq_tuple_range, sq_tuple_enumerate, sq_tuple_zip, sq_tuple_tuple, sq_tuple_isinstance, sq_tuple_int, sq_tuple_set, sq_tuple_dict, sq_tuple_any, sq_tuple_all, ok_law_draw, cd_law_draw, fb_law_draw, sq_law_draw_len, sq_law_draw_list, sq_law_draw_sorted, sq_law_draw_range, sq_law_draw_enumerate, sq_law_draw_zip, sq_law_draw_tuple, sq_law_draw_isinstance, sq_law_draw_int, sq_law_draw_set, sq_law_draw_dict, sq_law_draw_any, sq_law_draw_all, ok_range, cd_range, fb_range, sq_range_len, sq_range_list, sq_range_sorted, sq_range_range, sq_range_enumerate, sq_range_zip, sq_range_tuple, sq_range_isinstance, sq_range_int, sq_range_set, sq_range_dict, sq_range_any, sq_range_all, e1, hk, hr, a]
  exact ⟨ts, s', rfl, g', by omega⟩
theorem comp_stock (n : Nat) (c : Ct) (B : List D) : lcL (lcTurn (FR df_law_sensors (n + 2) 56) (blkFm (fmOf df_law_sensors) SC_law_sensors_0) EL_law_sensors_0 TG_law_sensors_0 [] [3] 4) [.int 0, .int 1, .int 2, .int 3] [.own true c, .val (.int 4), .val (.list B), .non] =
    some ([.tuple [.str "range", .int 0, .int (1 + 0 / 2), .int (0 / 3)], .tuple [.str "range", .int 1, .int (1 + 1 / 2), .int (1 / 3)], .tuple [.str "range", .int 2, .int (1 + 2 / 2), .int (2 / 3)], .tuple [.str "range", .int 3, .int (1 + 3 / 2), .int (3 / 3)]], [.own true c, .val (.int 4), .val (.list B), .non]) :=
  lcL_map (β := Int) (s := [.own true c, .val (.int 4), .val (.list B), .non]) (step := lcTurn (FR df_law_sensors (n + 2) 56) (blkFm (fmOf df_law_sensors) SC_law_sensors_0) EL_law_sensors_0 TG_law_sensors_0 [] [3] 4) PyData.int (fun k => .tuple [.str "range", .int k, .int (1 + k / 2), .int (k / 3)]) (xs := [0, 1, 2, 3]) (fun k _ => by
    unfold lcTurn
    simp! only [nm_law_sensors, nl_law_sensors, nc_law_sensors_0, nc_law_sensors_1, ok_tuple, cd_tuple, fb_tuple, sq_tuple_len, sq_tuple_list, sq_tuple_sorted, sq_tuple_range, sq_tuple_enumerate, sq_tuple_zip, sq_tuple_tuple, sq_tuple_isinstance, sq_tuple_int, sq_tuple_set, sq_tuple_dict, sq_tuple_any, sq_tuple_all, ok_law_pick, cd_law_pick, fb_law_pick, sq_law_pick_len, sq_law_pick_list, sq_law_pick_sorted, sq_law_pick_range, sq_law_pick_enumerate, sq_law_pick_zip, sq_law_pick_tuple, sq_law_pick_isinstance, sq_law_pick_int, sq_law_pick_set, sq_law_pick_dict, sq_law_pick_any, sq_law_pick_all, ok_range, cd_range, fb_range, sq_range_len, sq_range_list, sq_range_sorted, sq_range_range, sq_range_enumerate, sq_range_zip, sq_range_tuple, sq_range_isinstance, sq_range_int, sq_range_set, sq_range_dict, sq_range_any, sq_range_all, ok_law_draw, cd_law_draw, fb_law_draw, sq_law_draw_len, sq_law_draw_list, sq_law_draw_sorted, sq_law_draw_range, sq_law_draw_enumerate, sq_law_draw_zip, sq_law_draw_tuple, sq_law_draw_isinstance, sq_law_draw_int, sq_law_draw_set, sq_law_draw_dict, sq_law_draw_any, sq_law_draw_all])
theorem comp_pick (n : Nat) (ST : List D) (h0 : 0 < ST.length) (h1 : (ST.length : Int) < 1073741824) (k : Nat) (s : Dr) (g : Good s) : ∃ (ss : List D) (s' : Dr) (z : Sl),
    lcL (lcTurn (FR df_law_sensors (n + 2) 56) (blkFm (fmOf df_law_sensors) SC_law_sensors_1) EL_law_sensors_1 TG_law_sensors_1 [] [3] 4) ((rngL 0 (k : Int)).map .int) [.own true (drC s), .val (.int 4), .own false (.lst ST), .non] = some (ss, [.own true (drC s'), .val (.int 4), z, .non]) ∧ ss.length = k ∧ Good s' := by
  let I : Rho → Prop := fun ρ => ∃ s, Good s ∧ (ρ = [.own true (drC s), .val (.int 4), .own false (.lst ST), .non] ∨ ρ = [.own true (drC s), .val (.int 4), .val (.list ST), .non])
  obtain ⟨ys, ρ', a, b, _, s', g', hz⟩ := lcL_ex (I := I) (Py := fun _ => True) (step := lcTurn (FR df_law_sensors (n + 2) 56) (blkFm (fmOf df_law_sensors) SC_law_sensors_1) EL_law_sensors_1 TG_law_sensors_1 [] [3] 4) (xs := (rngL 0 (k : Int)).map PyData.int) (fun x hx ρ hI => by
    obtain ⟨s, g, hρ⟩ := hI
    obtain ⟨r, s', y, _, _, _, g', e⟩ := ev_pick n s g ST h0 h1
    refine ⟨y, [.own true (drC s'), .val (.int 4), .val (.list ST), .non], ?_, trivial, s', g', .inr rfl⟩
    unfold lcTurn
    obtain ⟨i, hi, rfl⟩ := List.mem_map.mp hx
    rcases hρ with rfl | rfl
    · simp! only [nm_law_sensors, nl_law_sensors, nc_law_sensors_0, nc_law_sensors_1, ok_tuple, cd_tuple, fb_tuple, sq_tuple_len, sq_tuple_list, sq_tuple_sorted, sq_tuple_range, sq_tuple_enumerate, sq_tuple_zip, sq_tuple_tuple, sq_tuple_isinstance, sq_tuple_int, sq_tuple_set, sq_tuple_dict, sq_tuple_any, sq_tuple_all, ok_law_pick, cd_law_pick, fb_law_pick, sq_law_pick_len, sq_law_pick_list, sq_law_pick_sorted, sq_law_pick_range, sq_law_pick_enumerate, sq_law_pick_zip, sq_law_pick_tuple, sq_law_pick_isinstance, sq_law_pick_int, sq_law_pick_set, sq_law_pick_dict, sq_law_pick_any, sq_law_pick_all, ok_range, cd_range, fb_range, sq_range_len, sq_range_list, sq_range_sorted, sq_range_range, sq_range_enumerate, sq_range_zip, sq_range_tuple, sq_range_isinstance, sq_range_int, sq_range_set, sq_range_dict, sq_range_any, sq_range_all, ok_law_draw, cd_law_draw, fb_law_draw, sq_law_draw_len, sq_law_draw_list, sq_law_draw_sorted, sq_law_draw_range, sq_law_draw_enumerate, sq_law_draw_zip, sq_law_draw_tuple, sq_law_draw_isinstance, sq_law_draw_int, sq_law_draw_set, sq_law_draw_dict, sq_law_draw_any, sq_law_draw_all, e]
    · simp! only [nm_law_sensors, nl_law_sensors, nc_law_sensors_0, nc_law_sensors_1, ok_tuple, cd_tuple, fb_tuple, sq_tuple_len, sq_tuple_list, sq_tuple_sorted, sq_tuple_range, sq_tuple_enumerate, sq_tuple_zip, sq_tuple_tuple, sq_tuple_isinstance, sq_tuple_int, sq_tuple_set, sq_tuple_dict, sq_tuple_any, sq_tuple_all, ok_law_pick, cd_law_pick, fb_law_pick, sq_law_pick_len, sq_law_pick_list, sq_law_pick_sorted, sq_law_pick_range, sq_law_pick_enumerate, sq_law_pick_zip, sq_law_pick_tuple, sq_law_pick_isinstance, sq_law_pick_int, sq_law_pick_set, sq_law_pick_dict, sq_law_pick_any, sq_law_pick_all, ok_range, cd_range, fb_range, sq_range_len, sq_range_list, sq_range_sorted, sq_range_range, sq_range_enumerate, sq_range_zip, sq_range_tuple, sq_range_isinstance, sq_range_int, sq_range_set, sq_range_dict, sq_range_any, sq_range_all, ok_law_draw, cd_law_draw, fb_law_draw, sq_law_draw_len, sq_law_draw_list, sq_law_draw_sorted, sq_law_draw_range, sq_law_draw_enumerate, sq_law_draw_zip, sq_law_draw_tuple, sq_law_draw_isinstance, sq_law_draw_int, sq_law_draw_set, sq_law_draw_dict, sq_law_draw_any, sq_law_draw_all, e]) [.own true (drC s), .val (.int 4), .own false (.lst ST), .non] ⟨s, g, .inl rfl⟩
  rw [rng_len] at b
  rcases hz with rfl | rfl
  · exact ⟨ys, s', _, a, b, g'⟩
  · exact ⟨ys, s', _, a, b, g'⟩
theorem ev_sensors (n : Nat) (s : Dr) (g : Good s) : ∃ (ss : List D) (s' : Dr), ss.length ≤ 4 ∧ Good s' ∧ runO (csAt pg (n + 2)) df_law_sensors (drC s) [.int 4] = some (.tuple ss, drC s') := by
  obtain ⟨r, s1, r0, r4, g1, e1⟩ := draw_ok (n + 1) s (4 + 1) g (by decide)
  obtain ⟨k, rfl⟩ := Int.eq_ofNat_of_zero_le r0
  have e2 := comp_stock n (drC s)
  have hr4 : rngOk 0 4 = true := by decide
  have hq : (rngL 0 4).map PyData.int = [.int 0, .int 1, .int 2, .int 3] := rfl
  have hr := rng_ok (n := k) (by omega)
  obtain ⟨ss, s2, z, e3, hl, g2⟩ := comp_pick n [.tuple [.str "bump"], .tuple [.str "mark", .tuple []], .tuple [.str "mark", .tuple [.tuple [.int 0, .int 1], .tuple [.int 1, .int 0]]], .tuple [.str "near", .int 0, .int 1], .tuple [.str "near", .int 1, .int 1], .tuple [.str "mark", .tuple [.tuple [.int 1, .int 2]]], .tuple [.str "range", .int 0, .int (1 + 0 / 2), .int (0 / 3)], .tuple [.str "range", .int 1, .int (1 + 1 / 2), .int (1 / 3)], .tuple [.str "range", .int 2, .int (1 + 2 / 2), .int (2 / 3)], .tuple [.str "range", .int 3, .int (1 + 3 / 2), .int (3 / 3)]] (by decide) (by decide) k s1 g1
  refine ⟨ss, s2, by omega, g2, ?_⟩
  rw [st_law_sensors]
  simp! only [nm_law_sensors, nl_law_sensors, nc_law_sensors_0, nc_law_sensors_1, ok_tuple, cd_tuple, fb_tuple, sq_tuple_len, sq_tuple_list, sq_tuple_sorted, sq_tuple_range, sq_tuple_enumerate, sq_tuple_zip, sq_tuple_tuple, sq_tuple_isinstance, sq_tuple_int, sq_tuple_set, sq_tuple_dict, sq_tuple_any, sq_tuple_all, ok_law_pick, cd_law_pick, fb_law_pick, sq_law_pick_len, sq_law_pick_list, sq_law_pick_sorted, sq_law_pick_range, sq_law_pick_enumerate, sq_law_pick_zip, sq_law_pick_tuple, sq_law_pick_isinstance, sq_law_pick_int, sq_law_pick_set, sq_law_pick_dict, sq_law_pick_any, sq_law_pick_all, ok_range, cd_range, fb_range, sq_range_len, sq_range_list, sq_range_sorted, sq_range_range, sq_range_enumerate, sq_range_zip, sq_range_tuple, sq_range_isinstance, sq_range_int, sq_range_set, sq_range_dict, sq_range_any, sq_range_all, ok_law_draw, cd_law_draw, fb_law_draw, sq_law_draw_len, sq_law_draw_list, sq_law_draw_sorted, sq_law_draw_range, sq_law_draw_enumerate, sq_law_draw_zip, sq_law_draw_tuple, sq_law_draw_isinstance, sq_law_draw_int, sq_law_draw_set, sq_law_draw_dict, sq_law_draw_any, sq_law_draw_all, hr4, hq, e2, e1, hr, e3]
def words2 : List D := [.str "dead", .str "wild"]
theorem turn_fault (n : Nat) (s : Dr) (g : Good s) (m : Nat) (hm : m ≤ 4) (x : D) (P : List Fa) (hP : P.length ≤ 1000) (hf : ∀ f ∈ P, FaOk m f) : ∃ (s' : Dr) (P' : List Fa), Good s' ∧ P'.length ≤ P.length + 1 ∧ (∀ f ∈ P', FaOk m f) ∧
    turnE (FR df_law_faults (n + 2) 59) (fmOf df_law_faults) FT_law_faults_80 FB_law_faults_80 (df_law_faults.drop 80) x [.own true (drC s), .val (.int m), .own false (.lst (P.map encF)), .non, .non] =
      some (.nx [.own true (drC s'), .val (.int m), .own false (.lst (P'.map encF)), .non, .non]) := by
  obtain ⟨r1, s1, _, _, g1, e1⟩ := draw_ok (n + 1) s 4 g (by decide)
  obtain ⟨t, s2, e2, g2, _⟩ := ev_trail n s1 g1
  obtain ⟨r3, s3, _, _, g3, e3⟩ := draw_ok (n + 1) s2 2 g2 (by decide)
  have add : ∀ (s' : Dr) (f : Fa), Good s' → FaOk m f → ∃ (s'' : Dr) (P' : List Fa), Good s'' ∧ P'.length ≤ P.length + 1 ∧ (∀ f ∈ P', FaOk m f) ∧ (some (Fl.nx (if f ∈ P then [.own true (drC s'), .val (.int m), .own false (.lst (P.map encF)), .non, .non] else [.own true (drC s'), .val (.int m), .own false (.lst (P.map encF ++ [encF f])), .non, .non])) : Option (Fl Rho (Sum (D × Rho) (Ct × Rho)))) =
      some (.nx [.own true (drC s''), .val (.int m), .own false (.lst (P'.map encF)), .non, .non]) := fun s' f g' hff => by
    by_cases h : f ∈ P
    · exact ⟨s', P, g', by omega, hf, by rw [if_pos h]⟩
    · refine ⟨s', P ++ [f], g', by rw [List.length_append]; exact Nat.le_refl _, fun x hx => ?_, by rw [if_neg h, List.map_append]; rfl⟩
      rcases List.mem_append.mp hx with hx | hx
      · exact hf x hx
      · rw [List.mem_singleton] at hx; subst hx; exact hff
  have hl2 : (P.length < 16777216) = True := eq_true (by omega)
  have sd := shaped_LF P
  by_cases h0 : (0 : Int) < m ∧ r3 = 1
  · have h01 := eq_true h0.1
    have h02 := eq_true h0.2
    obtain ⟨_, s4, y, _, _, hy, g4, e4⟩ := ev_pick n s3 g3 words2 (by decide) (by decide)
    obtain ⟨r5, s5, r50, r5m, g5, e5⟩ := draw_ok (n + 1) s4 m g4 ⟨h0.1, by omega⟩
    obtain ⟨k, rfl⟩ := Int.eq_ofNat_of_zero_le r50
    have hw : ∃ w, y = .str (word w) := by
      rcases List.mem_cons.mp hy with rfl | hy
      · exact ⟨false, rfl⟩
      · rcases List.mem_cons.mp hy with rfl | hy
        · exact ⟨true, rfl⟩
        · cases hy
    obtain ⟨w, rfl⟩ := hw
    obtain ⟨s', P', a, b, c, e⟩ := add s5 (.brk w k) g5 (by show k < m; omega)
    refine ⟨s', P', a, b, c, e ▸ ?_⟩
    have q1 := shaped_F (.brk w k)
    have q2 := any_F P (.brk w k)
    rw [encF_brk] at q1 q2 ⊢
    unfold words2 at e4
    rw [turnE_eq]
    by_cases h : Fa.brk w k ∈ P
    · have h := eq_true h
      simp! only [nm_law_faults, nl_law_faults, dr_law_faults_80, ok_range, cd_range, fb_range, sq_range_len, sq_range_list, sq_range_sorted, sq_range_range, sq_range_enumerate, sq_range_zip, sq_range_tuple, sq_range_isinstance, sq_range_int, sq_range_set, sq_range_dict, sq_range_any, sq_range_all, ok_tuple, cd_tuple, fb_tuple, sq_tuple_len, sq_tuple_list, sq_tuple_sorted, sq_tuple_range, sq_tuple_enumerate, sq_tuple_zip, sq_tuple_tuple, sq_tuple_isinstance, sq_tuple_int, sq_tuple_set, sq_tuple_dict, sq_tuple_any, sq_tuple_all, ok_law_draw, cd_law_draw, fb_law_draw, sq_law_draw_len, sq_law_draw_list, sq_law_draw_sorted, sq_law_draw_range, sq_law_draw_enumerate, sq_law_draw_zip, sq_law_draw_tuple, sq_law_draw_isinstance, sq_law_draw_int, sq_law_draw_set, sq_law_draw_dict, sq_law_draw_any, sq_law_draw_all, ok_law_trail, cd_law_trail, fb_law_trail, sq_law_trail_len, sq_law_trail_list, sq_law_trail_sorted, sq_law_trail_range, sq_law_trail_enumerate, sq_law_trail_zip, sq_law_trail_tuple, sq_law_trail_isinstance, sq_law_trail_int, sq_law_trail_set, sq_law_trail_dict, sq_law_trail_any, sq_law_trail_all, ok_law_pick, cd_law_pick, fb_law_pick, sq_law_pick_len, sq_law_pick_list, sq_law_pick_sorted, sq_law_pick_range, sq_law_pick_enumerate, sq_law_pick_zip, sq_law_pick_tuple, sq_law_pick_isinstance, sq_law_pick_int, sq_law_pick_set, sq_law_pick_dict, sq_law_pick_any, sq_law_pick_all, sq_append_append, sq_append_find, sq_append_get, sq_append_join, sq_append_list, sq_append_pop, sq_append_sorted, sq_append_split, e1, e2, e3, e4, e5, h01, h02, q1, q2, sd, h]
    · have h := eq_false h
      simp! only [nm_law_faults, nl_law_faults, dr_law_faults_80, ok_range, cd_range, fb_range, sq_range_len, sq_range_list, sq_range_sorted, sq_range_range, sq_range_enumerate, sq_range_zip, sq_range_tuple, sq_range_isinstance, sq_range_int, sq_range_set, sq_range_dict, sq_range_any, sq_range_all, ok_tuple, cd_tuple, fb_tuple, sq_tuple_len, sq_tuple_list, sq_tuple_sorted, sq_tuple_range, sq_tuple_enumerate, sq_tuple_zip, sq_tuple_tuple, sq_tuple_isinstance, sq_tuple_int, sq_tuple_set, sq_tuple_dict, sq_tuple_any, sq_tuple_all, ok_law_draw, cd_law_draw, fb_law_draw, sq_law_draw_len, sq_law_draw_list, sq_law_draw_sorted, sq_law_draw_range, sq_law_draw_enumerate, sq_law_draw_zip, sq_law_draw_tuple, sq_law_draw_isinstance, sq_law_draw_int, sq_law_draw_set, sq_law_draw_dict, sq_law_draw_any, sq_law_draw_all, ok_law_trail, cd_law_trail, fb_law_trail, sq_law_trail_len, sq_law_trail_list, sq_law_trail_sorted, sq_law_trail_range, sq_law_trail_enumerate, sq_law_trail_zip, sq_law_trail_tuple, sq_law_trail_isinstance, sq_law_trail_int, sq_law_trail_set, sq_law_trail_dict, sq_law_trail_any, sq_law_trail_all, ok_law_pick, cd_law_pick, fb_law_pick, sq_law_pick_len, sq_law_pick_list, sq_law_pick_sorted, sq_law_pick_range, sq_law_pick_enumerate, sq_law_pick_zip, sq_law_pick_tuple, sq_law_pick_isinstance, sq_law_pick_int, sq_law_pick_set, sq_law_pick_dict, sq_law_pick_any, sq_law_pick_all, sq_append_append, sq_append_find, sq_append_get, sq_append_join, sq_append_list, sq_append_pop, sq_append_sorted, sq_append_split, e1, e2, e3, e4, e5, h01, h02, q1, q2, sd, h, List.length_map, hl2]
  · obtain ⟨s', P', a, b, c, e⟩ := add (if (0 : Int) < m then s3 else s2) (.drift (1 + r1) t) (by split <;> assumption) trivial
    refine ⟨s', P', a, b, c, e ▸ ?_⟩
    have q1 := shaped_F (.drift (1 + r1) t)
    have q2 := any_F P (.drift (1 + r1) t)
    rw [encF_drift] at q1 q2 ⊢
    rw [turnE_eq]
    by_cases h1 : (0 : Int) < m
    · have h2 := eq_false fun e => h0 ⟨h1, e⟩
      have h1 := eq_true h1
      by_cases h : Fa.drift (1 + r1) t ∈ P
      · have h := eq_true h
        simp! only [nm_law_faults, nl_law_faults, dr_law_faults_80, ok_range, cd_range, fb_range, sq_range_len, sq_range_list, sq_range_sorted, sq_range_range, sq_range_enumerate, sq_range_zip, sq_range_tuple, sq_range_isinstance, sq_range_int, sq_range_set, sq_range_dict, sq_range_any, sq_range_all, ok_tuple, cd_tuple, fb_tuple, sq_tuple_len, sq_tuple_list, sq_tuple_sorted, sq_tuple_range, sq_tuple_enumerate, sq_tuple_zip, sq_tuple_tuple, sq_tuple_isinstance, sq_tuple_int, sq_tuple_set, sq_tuple_dict, sq_tuple_any, sq_tuple_all, ok_law_draw, cd_law_draw, fb_law_draw, sq_law_draw_len, sq_law_draw_list, sq_law_draw_sorted, sq_law_draw_range, sq_law_draw_enumerate, sq_law_draw_zip, sq_law_draw_tuple, sq_law_draw_isinstance, sq_law_draw_int, sq_law_draw_set, sq_law_draw_dict, sq_law_draw_any, sq_law_draw_all, ok_law_trail, cd_law_trail, fb_law_trail, sq_law_trail_len, sq_law_trail_list, sq_law_trail_sorted, sq_law_trail_range, sq_law_trail_enumerate, sq_law_trail_zip, sq_law_trail_tuple, sq_law_trail_isinstance, sq_law_trail_int, sq_law_trail_set, sq_law_trail_dict, sq_law_trail_any, sq_law_trail_all, ok_law_pick, cd_law_pick, fb_law_pick, sq_law_pick_len, sq_law_pick_list, sq_law_pick_sorted, sq_law_pick_range, sq_law_pick_enumerate, sq_law_pick_zip, sq_law_pick_tuple, sq_law_pick_isinstance, sq_law_pick_int, sq_law_pick_set, sq_law_pick_dict, sq_law_pick_any, sq_law_pick_all, sq_append_append, sq_append_find, sq_append_get, sq_append_join, sq_append_list, sq_append_pop, sq_append_sorted, sq_append_split, e1, e2, e3, h1, h2, q1, q2, sd, h]
      · have h := eq_false h
        simp! only [nm_law_faults, nl_law_faults, dr_law_faults_80, ok_range, cd_range, fb_range, sq_range_len, sq_range_list, sq_range_sorted, sq_range_range, sq_range_enumerate, sq_range_zip, sq_range_tuple, sq_range_isinstance, sq_range_int, sq_range_set, sq_range_dict, sq_range_any, sq_range_all, ok_tuple, cd_tuple, fb_tuple, sq_tuple_len, sq_tuple_list, sq_tuple_sorted, sq_tuple_range, sq_tuple_enumerate, sq_tuple_zip, sq_tuple_tuple, sq_tuple_isinstance, sq_tuple_int, sq_tuple_set, sq_tuple_dict, sq_tuple_any, sq_tuple_all, ok_law_draw, cd_law_draw, fb_law_draw, sq_law_draw_len, sq_law_draw_list, sq_law_draw_sorted, sq_law_draw_range, sq_law_draw_enumerate, sq_law_draw_zip, sq_law_draw_tuple, sq_law_draw_isinstance, sq_law_draw_int, sq_law_draw_set, sq_law_draw_dict, sq_law_draw_any, sq_law_draw_all, ok_law_trail, cd_law_trail, fb_law_trail, sq_law_trail_len, sq_law_trail_list, sq_law_trail_sorted, sq_law_trail_range, sq_law_trail_enumerate, sq_law_trail_zip, sq_law_trail_tuple, sq_law_trail_isinstance, sq_law_trail_int, sq_law_trail_set, sq_law_trail_dict, sq_law_trail_any, sq_law_trail_all, ok_law_pick, cd_law_pick, fb_law_pick, sq_law_pick_len, sq_law_pick_list, sq_law_pick_sorted, sq_law_pick_range, sq_law_pick_enumerate, sq_law_pick_zip, sq_law_pick_tuple, sq_law_pick_isinstance, sq_law_pick_int, sq_law_pick_set, sq_law_pick_dict, sq_law_pick_any, sq_law_pick_all, sq_append_append, sq_append_find, sq_append_get, sq_append_join, sq_append_list, sq_append_pop, sq_append_sorted, sq_append_split, e1, e2, e3, h1, h2, q1, q2, sd, h, List.length_map, hl2]
    · have h1 := eq_false h1
      by_cases h : Fa.drift (1 + r1) t ∈ P
      · have h := eq_true h
        simp! only [nm_law_faults, nl_law_faults, dr_law_faults_80, ok_range, cd_range, fb_range, sq_range_len, sq_range_list, sq_range_sorted, sq_range_range, sq_range_enumerate, sq_range_zip, sq_range_tuple, sq_range_isinstance, sq_range_int, sq_range_set, sq_range_dict, sq_range_any, sq_range_all, ok_tuple, cd_tuple, fb_tuple, sq_tuple_len, sq_tuple_list, sq_tuple_sorted, sq_tuple_range, sq_tuple_enumerate, sq_tuple_zip, sq_tuple_tuple, sq_tuple_isinstance, sq_tuple_int, sq_tuple_set, sq_tuple_dict, sq_tuple_any, sq_tuple_all, ok_law_draw, cd_law_draw, fb_law_draw, sq_law_draw_len, sq_law_draw_list, sq_law_draw_sorted, sq_law_draw_range, sq_law_draw_enumerate, sq_law_draw_zip, sq_law_draw_tuple, sq_law_draw_isinstance, sq_law_draw_int, sq_law_draw_set, sq_law_draw_dict, sq_law_draw_any, sq_law_draw_all, ok_law_trail, cd_law_trail, fb_law_trail, sq_law_trail_len, sq_law_trail_list, sq_law_trail_sorted, sq_law_trail_range, sq_law_trail_enumerate, sq_law_trail_zip, sq_law_trail_tuple, sq_law_trail_isinstance, sq_law_trail_int, sq_law_trail_set, sq_law_trail_dict, sq_law_trail_any, sq_law_trail_all, ok_law_pick, cd_law_pick, fb_law_pick, sq_law_pick_len, sq_law_pick_list, sq_law_pick_sorted, sq_law_pick_range, sq_law_pick_enumerate, sq_law_pick_zip, sq_law_pick_tuple, sq_law_pick_isinstance, sq_law_pick_int, sq_law_pick_set, sq_law_pick_dict, sq_law_pick_any, sq_law_pick_all, sq_append_append, sq_append_find, sq_append_get, sq_append_join, sq_append_list, sq_append_pop, sq_append_sorted, sq_append_split, e1, e2, h1, q1, q2, sd, h]
      · have h := eq_false h
        simp! only [nm_law_faults, nl_law_faults, dr_law_faults_80, ok_range, cd_range, fb_range, sq_range_len, sq_range_list, sq_range_sorted, sq_range_range, sq_range_enumerate, sq_range_zip, sq_range_tuple, sq_range_isinstance, sq_range_int, sq_range_set, sq_range_dict, sq_range_any, sq_range_all, ok_tuple, cd_tuple, fb_tuple, sq_tuple_len, sq_tuple_list, sq_tuple_sorted, sq_tuple_range, sq_tuple_enumerate, sq_tuple_zip, sq_tuple_tuple, sq_tuple_isinstance, sq_tuple_int, sq_tuple_set, sq_tuple_dict, sq_tuple_any, sq_tuple_all, ok_law_draw, cd_law_draw, fb_law_draw, sq_law_draw_len, sq_law_draw_list, sq_law_draw_sorted, sq_law_draw_range, sq_law_draw_enumerate, sq_law_draw_zip, sq_law_draw_tuple, sq_law_draw_isinstance, sq_law_draw_int, sq_law_draw_set, sq_law_draw_dict, sq_law_draw_any, sq_law_draw_all, ok_law_trail, cd_law_trail, fb_law_trail, sq_law_trail_len, sq_law_trail_list, sq_law_trail_sorted, sq_law_trail_range, sq_law_trail_enumerate, sq_law_trail_zip, sq_law_trail_tuple, sq_law_trail_isinstance, sq_law_trail_int, sq_law_trail_set, sq_law_trail_dict, sq_law_trail_any, sq_law_trail_all, ok_law_pick, cd_law_pick, fb_law_pick, sq_law_pick_len, sq_law_pick_list, sq_law_pick_sorted, sq_law_pick_range, sq_law_pick_enumerate, sq_law_pick_zip, sq_law_pick_tuple, sq_law_pick_isinstance, sq_law_pick_int, sq_law_pick_set, sq_law_pick_dict, sq_law_pick_any, sq_law_pick_all, sq_append_append, sq_append_find, sq_append_get, sq_append_join, sq_append_list, sq_append_pop, sq_append_sorted, sq_append_split, e1, e2, h1, q1, q2, sd, h, List.length_map, hl2]
theorem ev_faults (n : Nat) (s : Dr) (g : Good s) (m : Nat) (hm : m ≤ 4) : ∃ (fs : List Fa) (s' : Dr), fs.length ≤ 3 ∧ (∀ f ∈ fs, FaOk m f) ∧ Good s' ∧ runO (csAt pg (n + 2)) df_law_faults (drC s) [.int m] = some (.tuple (fs.map encF), drC s') := by
  obtain ⟨r, s1, r0, r4, g1, e1⟩ := draw_ok (n + 1) s 4 g (by decide)
  obtain ⟨k, rfl⟩ := Int.eq_ofNat_of_zero_le r0
  have hr := rng_ok (n := k) (by omega)
  let J : Nat → Rho → Prop := fun j ρ => ∃ (s : Dr) (P : List Fa), Good s ∧ P.length ≤ j ∧ j ≤ k ∧ (∀ f ∈ P, FaOk m f) ∧ ρ = [.own true (drC s), .val (.int m), .own false (.lst (P.map encF)), .non, .non]
  obtain ⟨ρ', B, s2, P, g2, hP, _, hf, rfl⟩ := forL_inv (R := Sum (D × Rho) (Ct × Rho)) (step := turnE (FR df_law_faults (n + 2) 59) (fmOf df_law_faults) FT_law_faults_80 FB_law_faults_80 (df_law_faults.drop 80)) J (xs := (rngL 0 (k : Int)).map .int) (k := 0) (fun i x ρ hx hJ => by
    obtain ⟨s, P, g, hP, hk, hf, rfl⟩ := hJ
    have hi : i < k := by
      have := (List.getElem?_eq_some_iff.mp hx).1
      rwa [rng_len] at this
    obtain ⟨s', P', g', hP', hf', e⟩ := turn_fault n s g m hm x P (by omega) hf
    exact ⟨_, e, s', P', g', by omega, by omega, hf', rfl⟩) [.own true (drC s1), .val (.int m), .own false (.lst (([] : List Fa).map encF)), .non, .non] ⟨s1, [], g1, Nat.le_refl _, Nat.zero_le _, fun x h => (by cases h), rfl⟩
  rw [rng_len] at hP
  refine ⟨P, s2, by omega, hf, g2, ?_⟩
  have B : forL _ _ ([.own true (drC s1), .val (.int m), .own false (.lst []), .non, .non] : Rho) = _ := B
  rw [st_law_faults]
  simp! only [nm_law_faults, nl_law_faults, dr_law_faults_80, ok_range, cd_range, fb_range, sq_range_len, sq_range_list, sq_range_sorted, sq_range_range, sq_range_enumerate, sq_range_zip, sq_range_tuple, sq_range_isinstance, sq_range_int, sq_range_set, sq_range_dict, sq_range_any, sq_range_all, ok_tuple, cd_tuple, fb_tuple, sq_tuple_len, sq_tuple_list, sq_tuple_sorted, sq_tuple_range, sq_tuple_enumerate, sq_tuple_zip, sq_tuple_tuple, sq_tuple_isinstance, sq_tuple_int, sq_tuple_set, sq_tuple_dict, sq_tuple_any, sq_tuple_all, ok_law_draw, cd_law_draw, fb_law_draw, sq_law_draw_len, sq_law_draw_list, sq_law_draw_sorted, sq_law_draw_range, sq_law_draw_enumerate, sq_law_draw_zip, sq_law_draw_tuple, sq_law_draw_isinstance, sq_law_draw_int, sq_law_draw_set, sq_law_draw_dict, sq_law_draw_any, sq_law_draw_all, ok_law_trail, cd_law_trail, fb_law_trail, sq_law_trail_len, sq_law_trail_list, sq_law_trail_sorted, sq_law_trail_range, sq_law_trail_enumerate, sq_law_trail_zip, sq_law_trail_tuple, sq_law_trail_isinstance, sq_law_trail_int, sq_law_trail_set, sq_law_trail_dict, sq_law_trail_any, sq_law_trail_all, ok_law_pick, cd_law_pick, fb_law_pick, sq_law_pick_len, sq_law_pick_list, sq_law_pick_sorted, sq_law_pick_range, sq_law_pick_enumerate, sq_law_pick_zip, sq_law_pick_tuple, sq_law_pick_isinstance, sq_law_pick_int, sq_law_pick_set, sq_law_pick_dict, sq_law_pick_any, sq_law_pick_all, sq_append_append, sq_append_find, sq_append_get, sq_append_join, sq_append_list, sq_append_pop, sq_append_sorted, sq_append_split, e1, hr, B]


set_option Elab.async false
set_option linter.all false
set_option maxRecDepth 100000
set_option maxHeartbeats 1000000
open PySem PySem.Spec PyProof.Rows L2 Lk Ev
theorem eq_TW (L : List (Option Bool)) : eqD (.tuple (L.map encW)) (.tuple (L.map encW)) = some true := by
  have h : SeqAt.shaped (.tuple (L.map encW)) = true := (enc_T enc_W).shaped (by decide) L
  have e : PyData.eqv (.tuple (L.map encW)) (.tuple (L.map encW)) = true := by
    have := (enc_T enc_W).eq L L
    rw [decide_eq_true rfl] at this
    exact this
  show (if (SeqAt.shaped _ && SeqAt.shaped _) = true then some _ else none) = _
  rw [h, e]; rfl
structure FsOk (m : Nat) (fs : List Fa) : Prop where
  l3 : fs.length ≤ 3
  ok : ∀ f ∈ fs, FaOk m f
theorem turn_most (fs : List Fa) {m : Nat} (h : FsOk m fs) (st : List Int) (hs : st.Pairwise (· < ·)) (S F T : D) (most : Int) :
    turnE (FR df_law 20 56) (fmOf df_law) FT_law_111 FB_law_111 (df_law.drop 111) (.int most) [.non, .non, .val S, .val F, .val T, .non, .val (encI st), .val (.tuple (fs.map encF)), .non, .non, .non] =
      some (.nx [.non, .non, .val S, .val F, .val T, .non, .val (encI st), .val (.tuple (fs.map encF)), .non, .non, .non]) := by
  have e := ev_chain 15 (fs.map encF) (by rw [List.length_map]; exact h.l3) most st hs
  rw [turnE_eq]
  simp! only [nm_law, nl_law, dr_law_105, dr_law_106, dr_law_107, dr_law_111, nc_law_0, ok_law_begin, cd_law_begin, fb_law_begin, sq_law_begin_len, sq_law_begin_list, sq_law_begin_sorted, sq_law_begin_range, sq_law_begin_enumerate, sq_law_begin_zip, sq_law_begin_tuple, sq_law_begin_isinstance, sq_law_begin_int, sq_law_begin_set, sq_law_begin_dict, sq_law_begin_any, sq_law_begin_all, ok_law_sensors, cd_law_sensors, fb_law_sensors, sq_law_sensors_len, sq_law_sensors_list, sq_law_sensors_sorted, sq_law_sensors_range, sq_law_sensors_enumerate, sq_law_sensors_zip, sq_law_sensors_tuple, sq_law_sensors_isinstance, sq_law_sensors_int, sq_law_sensors_set, sq_law_sensors_dict, sq_law_sensors_any, sq_law_sensors_all, ok_law_faults, cd_law_faults, fb_law_faults, sq_law_faults_len, sq_law_faults_list, sq_law_faults_sorted, sq_law_faults_range, sq_law_faults_enumerate, sq_law_faults_zip, sq_law_faults_tuple, sq_law_faults_isinstance, sq_law_faults_int, sq_law_faults_set, sq_law_faults_dict, sq_law_faults_any, sq_law_faults_all, ok_tuple, cd_tuple, fb_tuple, sq_tuple_len, sq_tuple_list, sq_tuple_sorted, sq_tuple_range, sq_tuple_enumerate, sq_tuple_zip, sq_tuple_tuple, sq_tuple_isinstance, sq_tuple_int, sq_tuple_set, sq_tuple_dict, sq_tuple_any, sq_tuple_all, ok_range, cd_range, fb_range, sq_range_len, sq_range_list, sq_range_sorted, sq_range_range, sq_range_enumerate, sq_range_zip, sq_range_tuple, sq_range_isinstance, sq_range_int, sq_range_set, sq_range_dict, sq_range_any, sq_range_all, ok_len, cd_len, fb_len, sq_len_len, sq_len_list, sq_len_sorted, sq_len_range, sq_len_enumerate, sq_len_zip, sq_len_tuple, sq_len_isinstance, sq_len_int, sq_len_set, sq_len_dict, sq_len_any, sq_len_all, ok_law_subsets, cd_law_subsets, fb_law_subsets, sq_law_subsets_len, sq_law_subsets_list, sq_law_subsets_sorted, sq_law_subsets_range, sq_law_subsets_enumerate, sq_law_subsets_zip, sq_law_subsets_tuple, sq_law_subsets_isinstance, sq_law_subsets_int, sq_law_subsets_set, sq_law_subsets_dict, sq_law_subsets_any, sq_law_subsets_all, ok_list, cd_list, fb_list, sq_list_len, sq_list_list, sq_list_sorted, sq_list_range, sq_list_enumerate, sq_list_zip, sq_list_tuple, sq_list_isinstance, sq_list_int, sq_list_set, sq_list_dict, sq_list_any, sq_list_all, ok_broken_by, cd_broken_by, fb_broken_by, sq_broken_by_len, sq_broken_by_list, sq_broken_by_sorted, sq_broken_by_range, sq_broken_by_enumerate, sq_broken_by_zip, sq_broken_by_tuple, sq_broken_by_isinstance, sq_broken_by_int, sq_broken_by_set, sq_broken_by_dict, sq_broken_by_any, sq_broken_by_all, ok_isinstance, cd_isinstance, fb_isinstance, sq_isinstance_len, sq_isinstance_list, sq_isinstance_sorted, sq_isinstance_range, sq_isinstance_enumerate, sq_isinstance_zip, sq_isinstance_tuple, sq_isinstance_isinstance, sq_isinstance_int, sq_isinstance_set, sq_isinstance_dict, sq_isinstance_any, sq_isinstance_all, ok_law_broken, cd_law_broken, fb_law_broken, sq_law_broken_len, sq_law_broken_list, sq_law_broken_sorted, sq_law_broken_range, sq_law_broken_enumerate, sq_law_broken_zip, sq_law_broken_tuple, sq_law_broken_isinstance, sq_law_broken_int, sq_law_broken_set, sq_law_broken_dict, sq_law_broken_any, sq_law_broken_all, ok_law_right_chain, cd_law_right_chain, fb_law_right_chain, sq_law_right_chain_len, sq_law_right_chain_list, sq_law_right_chain_sorted, sq_law_right_chain_range, sq_law_right_chain_enumerate, sq_law_right_chain_zip, sq_law_right_chain_tuple, sq_law_right_chain_isinstance, sq_law_right_chain_int, sq_law_right_chain_set, sq_law_right_chain_dict, sq_law_right_chain_any, sq_law_right_chain_all, e]
theorem turn_row (ss : List D) (hm : ss.length ≤ 4) (fs : List Fa) (h : FsOk ss.length fs) (st : List Int) (hi : InF fs st) (hs : st.Pairwise (· < ·)) (h3 : st.length ≤ 3) (F T : D) :
    turnE (FR df_law 20 57) (fmOf df_law) FT_law_107 FB_law_107 (df_law.drop 107) (.tuple (fs.map encF)) [.non, .non, .val (.tuple ss), .val F, .val T, .non, .val (encI st), .non, .non, .non, .non] =
      some (.nx [.non, .non, .val (.tuple ss), .val F, .val T, .non, .val (encI st), .non, .non, .non, .non]) := by
  have e1 := ev_broken_by 18 ss fs st hi (by omega)
  have e2 := ev_law_broken 19 ss fs st hi h.ok (by omega)
  have q := eq_TW ((List.range ss.length).map (brokenOf (st.map (pickF fs))))
  have hr : rngOk (st.length : Int) 4 = true := by unfold rngOk; simp; omega
  have B := forL_same (R := Sum (D × Rho) (Ct × Rho)) (step := turnE (FR df_law 20 56) (fmOf df_law) FT_law_111 FB_law_111 (df_law.drop 111)) PyData.int (xs := rngL st.length 4) (fun x _ => turn_most fs h st hs (.tuple ss) F T x)
  rw [turnE_eq]
  unfold encI at *
  simp! only [nm_law, nl_law, dr_law_105, dr_law_106, dr_law_107, dr_law_111, nc_law_0, ok_law_begin, cd_law_begin, fb_law_begin, sq_law_begin_len, sq_law_begin_list, sq_law_begin_sorted, sq_law_begin_range, sq_law_begin_enumerate, sq_law_begin_zip, sq_law_begin_tuple, sq_law_begin_isinstance, sq_law_begin_int, sq_law_begin_set, sq_law_begin_dict, sq_law_begin_any, sq_law_begin_all, ok_law_sensors, cd_law_sensors, fb_law_sensors, sq_law_sensors_len, sq_law_sensors_list, sq_law_sensors_sorted, sq_law_sensors_range, sq_law_sensors_enumerate, sq_law_sensors_zip, sq_law_sensors_tuple, sq_law_sensors_isinstance, sq_law_sensors_int, sq_law_sensors_set, sq_law_sensors_dict, sq_law_sensors_any, sq_law_sensors_all, ok_law_faults, cd_law_faults, fb_law_faults, sq_law_faults_len, sq_law_faults_list, sq_law_faults_sorted, sq_law_faults_range, sq_law_faults_enumerate, sq_law_faults_zip, sq_law_faults_tuple, sq_law_faults_isinstance, sq_law_faults_int, sq_law_faults_set, sq_law_faults_dict, sq_law_faults_any, sq_law_faults_all, ok_tuple, cd_tuple, fb_tuple, sq_tuple_len, sq_tuple_list, sq_tuple_sorted, sq_tuple_range, sq_tuple_enumerate, sq_tuple_zip, sq_tuple_tuple, sq_tuple_isinstance, sq_tuple_int, sq_tuple_set, sq_tuple_dict, sq_tuple_any, sq_tuple_all, ok_range, cd_range, fb_range, sq_range_len, sq_range_list, sq_range_sorted, sq_range_range, sq_range_enumerate, sq_range_zip, sq_range_tuple, sq_range_isinstance, sq_range_int, sq_range_set, sq_range_dict, sq_range_any, sq_range_all, ok_len, cd_len, fb_len, sq_len_len, sq_len_list, sq_len_sorted, sq_len_range, sq_len_enumerate, sq_len_zip, sq_len_tuple, sq_len_isinstance, sq_len_int, sq_len_set, sq_len_dict, sq_len_any, sq_len_all, ok_law_subsets, cd_law_subsets, fb_law_subsets, sq_law_subsets_len, sq_law_subsets_list, sq_law_subsets_sorted, sq_law_subsets_range, sq_law_subsets_enumerate, sq_law_subsets_zip, sq_law_subsets_tuple, sq_law_subsets_isinstance, sq_law_subsets_int, sq_law_subsets_set, sq_law_subsets_dict, sq_law_subsets_any, sq_law_subsets_all, ok_list, cd_list, fb_list, sq_list_len, sq_list_list, sq_list_sorted, sq_list_range, sq_list_enumerate, sq_list_zip, sq_list_tuple, sq_list_isinstance, sq_list_int, sq_list_set, sq_list_dict, sq_list_any, sq_list_all, ok_broken_by, cd_broken_by, fb_broken_by, sq_broken_by_len, sq_broken_by_list, sq_broken_by_sorted, sq_broken_by_range, sq_broken_by_enumerate, sq_broken_by_zip, sq_broken_by_tuple, sq_broken_by_isinstance, sq_broken_by_int, sq_broken_by_set, sq_broken_by_dict, sq_broken_by_any, sq_broken_by_all, ok_isinstance, cd_isinstance, fb_isinstance, sq_isinstance_len, sq_isinstance_list, sq_isinstance_sorted, sq_isinstance_range, sq_isinstance_enumerate, sq_isinstance_zip, sq_isinstance_tuple, sq_isinstance_isinstance, sq_isinstance_int, sq_isinstance_set, sq_isinstance_dict, sq_isinstance_any, sq_isinstance_all, ok_law_broken, cd_law_broken, fb_law_broken, sq_law_broken_len, sq_law_broken_list, sq_law_broken_sorted, sq_law_broken_range, sq_law_broken_enumerate, sq_law_broken_zip, sq_law_broken_tuple, sq_law_broken_isinstance, sq_law_broken_int, sq_law_broken_set, sq_law_broken_dict, sq_law_broken_any, sq_law_broken_all, ok_law_right_chain, cd_law_right_chain, fb_law_right_chain, sq_law_right_chain_len, sq_law_right_chain_list, sq_law_right_chain_sorted, sq_law_right_chain_range, sq_law_right_chain_enumerate, sq_law_right_chain_zip, sq_law_right_chain_tuple, sq_law_right_chain_isinstance, sq_law_right_chain_int, sq_law_right_chain_set, sq_law_right_chain_dict, sq_law_right_chain_any, sq_law_right_chain_all, e1, e2, q, List.length_map, hr, B]
theorem turn_struck (ss : List D) (hm : ss.length ≤ 4) (fs gs : List Fa) (h : FsOk ss.length fs) (g : FsOk ss.length gs) (hl : gs.length = fs.length) (st : List Int) (hi : InF fs st) (hs : st.Pairwise (· < ·)) (h3 : st.length ≤ 3) :
    turnE (FR df_law 20 58) (fmOf df_law) FT_law_106 FB_law_106 (df_law.drop 106) (encI st) [.non, .non, .val (.tuple ss), .val (.tuple (fs.map encF)), .val (.tuple (gs.map encF)), .non, .non, .non, .non, .non, .non] =
      some (.nx [.non, .non, .val (.tuple ss), .val (.tuple (fs.map encF)), .val (.tuple (gs.map encF)), .non, .non, .non, .non, .non, .non]) := by
  have B : forL _ [PyData.tuple (fs.map encF), PyData.tuple (gs.map encF)] _ = _ := forL_same (R := Sum (D × Rho) (Ct × Rho)) (s := [.non, .non, .val (.tuple ss), .val (.tuple (fs.map encF)), .val (.tuple (gs.map encF)), .non, .val (encI st), .non, .non, .non, .non]) (step := turnE (FR df_law 20 57) (fmOf df_law) FT_law_107 FB_law_107 (df_law.drop 107)) (fun L : List Fa => PyData.tuple (L.map encF)) (xs := [fs, gs]) (fun L hL => by
    rcases List.mem_cons.mp hL with rfl | hL
    · exact turn_row ss hm L h st hi hs h3 _ _
    · rcases List.mem_cons.mp hL with rfl | hL
      · exact turn_row ss hm L g st (fun x hx => by rw [hl]; exact hi x hx) hs h3 _ _
      · cases hL)
  rw [turnE_eq]
  simp! only [nm_law, nl_law, dr_law_105, dr_law_106, dr_law_107, dr_law_111, nc_law_0, ok_law_begin, cd_law_begin, fb_law_begin, sq_law_begin_len, sq_law_begin_list, sq_law_begin_sorted, sq_law_begin_range, sq_law_begin_enumerate, sq_law_begin_zip, sq_law_begin_tuple, sq_law_begin_isinstance, sq_law_begin_int, sq_law_begin_set, sq_law_begin_dict, sq_law_begin_any, sq_law_begin_all, ok_law_sensors, cd_law_sensors, fb_law_sensors, sq_law_sensors_len, sq_law_sensors_list, sq_law_sensors_sorted, sq_law_sensors_range, sq_law_sensors_enumerate, sq_law_sensors_zip, sq_law_sensors_tuple, sq_law_sensors_isinstance, sq_law_sensors_int, sq_law_sensors_set, sq_law_sensors_dict, sq_law_sensors_any, sq_law_sensors_all, ok_law_faults, cd_law_faults, fb_law_faults, sq_law_faults_len, sq_law_faults_list, sq_law_faults_sorted, sq_law_faults_range, sq_law_faults_enumerate, sq_law_faults_zip, sq_law_faults_tuple, sq_law_faults_isinstance, sq_law_faults_int, sq_law_faults_set, sq_law_faults_dict, sq_law_faults_any, sq_law_faults_all, ok_tuple, cd_tuple, fb_tuple, sq_tuple_len, sq_tuple_list, sq_tuple_sorted, sq_tuple_range, sq_tuple_enumerate, sq_tuple_zip, sq_tuple_tuple, sq_tuple_isinstance, sq_tuple_int, sq_tuple_set, sq_tuple_dict, sq_tuple_any, sq_tuple_all, ok_range, cd_range, fb_range, sq_range_len, sq_range_list, sq_range_sorted, sq_range_range, sq_range_enumerate, sq_range_zip, sq_range_tuple, sq_range_isinstance, sq_range_int, sq_range_set, sq_range_dict, sq_range_any, sq_range_all, ok_len, cd_len, fb_len, sq_len_len, sq_len_list, sq_len_sorted, sq_len_range, sq_len_enumerate, sq_len_zip, sq_len_tuple, sq_len_isinstance, sq_len_int, sq_len_set, sq_len_dict, sq_len_any, sq_len_all, ok_law_subsets, cd_law_subsets, fb_law_subsets, sq_law_subsets_len, sq_law_subsets_list, sq_law_subsets_sorted, sq_law_subsets_range, sq_law_subsets_enumerate, sq_law_subsets_zip, sq_law_subsets_tuple, sq_law_subsets_isinstance, sq_law_subsets_int, sq_law_subsets_set, sq_law_subsets_dict, sq_law_subsets_any, sq_law_subsets_all, ok_list, cd_list, fb_list, sq_list_len, sq_list_list, sq_list_sorted, sq_list_range, sq_list_enumerate, sq_list_zip, sq_list_tuple, sq_list_isinstance, sq_list_int, sq_list_set, sq_list_dict, sq_list_any, sq_list_all, ok_broken_by, cd_broken_by, fb_broken_by, sq_broken_by_len, sq_broken_by_list, sq_broken_by_sorted, sq_broken_by_range, sq_broken_by_enumerate, sq_broken_by_zip, sq_broken_by_tuple, sq_broken_by_isinstance, sq_broken_by_int, sq_broken_by_set, sq_broken_by_dict, sq_broken_by_any, sq_broken_by_all, ok_isinstance, cd_isinstance, fb_isinstance, sq_isinstance_len, sq_isinstance_list, sq_isinstance_sorted, sq_isinstance_range, sq_isinstance_enumerate, sq_isinstance_zip, sq_isinstance_tuple, sq_isinstance_isinstance, sq_isinstance_int, sq_isinstance_set, sq_isinstance_dict, sq_isinstance_any, sq_isinstance_all, ok_law_broken, cd_law_broken, fb_law_broken, sq_law_broken_len, sq_law_broken_list, sq_law_broken_sorted, sq_law_broken_range, sq_law_broken_enumerate, sq_law_broken_zip, sq_law_broken_tuple, sq_law_broken_isinstance, sq_law_broken_int, sq_law_broken_set, sq_law_broken_dict, sq_law_broken_any, sq_law_broken_all, ok_law_right_chain, cd_law_right_chain, fb_law_right_chain, sq_law_right_chain_len, sq_law_right_chain_list, sq_law_right_chain_sorted, sq_law_right_chain_range, sq_law_right_chain_enumerate, sq_law_right_chain_zip, sq_law_right_chain_tuple, sq_law_right_chain_isinstance, sq_law_right_chain_int, sq_law_right_chain_set, sq_law_right_chain_dict, sq_law_right_chain_any, sq_law_right_chain_all, B]
theorem subP_lt : ∀ n, n ≤ 3 → ∀ s ∈ subP n, ∀ x ∈ s, 0 ≤ x ∧ x < (n : Int)
  | 0, _ => by decide +kernel
  | 1, _ => by decide +kernel
  | 2, _ => by decide +kernel
  | 3, _ => by decide +kernel
  | n + 4, h => by omega
theorem subP_in {fs : List Fa} (h : fs.length ≤ 3) {st : List Int} (hs : st ∈ subP fs.length) : InF fs st := fun x hx => subP_lt _ h st hs x hx
theorem turn_turn (ss : List D) (hm : ss.length ≤ 4) (fs gs : List Fa) (h : FsOk ss.length fs) (g : FsOk ss.length gs) (hl : gs.length = fs.length) (x : D) :
    turnE (FR df_law 20 59) (fmOf df_law) FT_law_105 FB_law_105 (df_law.drop 105) x [.non, .non, .val (.tuple ss), .val (.tuple (fs.map encF)), .val (.tuple (gs.map encF)), .non, .non, .non, .non, .non, .non] =
      some (.nx [.non, .non, .val (.tuple ss), .val (.tuple (fs.map encF)), .val (.tuple (gs.map encF)), .non, .non, .non, .non, .non, .non]) := by
  have h3 := h.l3
  have hr := rng_ok (n := fs.length) (by omega)
  have e := ev_lsubs 19 (upTo fs.length) (by unfold upTo; rw [List.length_map, List.length_range]; omega)
  obtain ⟨hp, _, hq⟩ := subs_ok fs.length h3
  have B := forL_same (R := Sum (D × Rho) (Ct × Rho)) (s := [.non, .non, .val (.tuple ss), .val (.tuple (fs.map encF)), .val (.tuple (gs.map encF)), .non, .non, .non, .non, .non, .non]) (step := turnE (FR df_law 20 58) (fmOf df_law) FT_law_106 FB_law_106 (df_law.drop 106)) encI (xs := subF (upTo fs.length) [[]]) (fun st hst => by
    have hst := hp.mem_iff.mp hst
    exact turn_struck ss hm fs gs h g hl st (subP_in h3 hst) (hq st hst) (subP_len _ _ hst))
  rw [turnE_eq]
  simp! only [nm_law, nl_law, dr_law_105, dr_law_106, dr_law_107, dr_law_111, nc_law_0, ok_law_begin, cd_law_begin, fb_law_begin, sq_law_begin_len, sq_law_begin_list, sq_law_begin_sorted, sq_law_begin_range, sq_law_begin_enumerate, sq_law_begin_zip, sq_law_begin_tuple, sq_law_begin_isinstance, sq_law_begin_int, sq_law_begin_set, sq_law_begin_dict, sq_law_begin_any, sq_law_begin_all, ok_law_sensors, cd_law_sensors, fb_law_sensors, sq_law_sensors_len, sq_law_sensors_list, sq_law_sensors_sorted, sq_law_sensors_range, sq_law_sensors_enumerate, sq_law_sensors_zip, sq_law_sensors_tuple, sq_law_sensors_isinstance, sq_law_sensors_int, sq_law_sensors_set, sq_law_sensors_dict, sq_law_sensors_any, sq_law_sensors_all, ok_law_faults, cd_law_faults, fb_law_faults, sq_law_faults_len, sq_law_faults_list, sq_law_faults_sorted, sq_law_faults_range, sq_law_faults_enumerate, sq_law_faults_zip, sq_law_faults_tuple, sq_law_faults_isinstance, sq_law_faults_int, sq_law_faults_set, sq_law_faults_dict, sq_law_faults_any, sq_law_faults_all, ok_tuple, cd_tuple, fb_tuple, sq_tuple_len, sq_tuple_list, sq_tuple_sorted, sq_tuple_range, sq_tuple_enumerate, sq_tuple_zip, sq_tuple_tuple, sq_tuple_isinstance, sq_tuple_int, sq_tuple_set, sq_tuple_dict, sq_tuple_any, sq_tuple_all, ok_range, cd_range, fb_range, sq_range_len, sq_range_list, sq_range_sorted, sq_range_range, sq_range_enumerate, sq_range_zip, sq_range_tuple, sq_range_isinstance, sq_range_int, sq_range_set, sq_range_dict, sq_range_any, sq_range_all, ok_len, cd_len, fb_len, sq_len_len, sq_len_list, sq_len_sorted, sq_len_range, sq_len_enumerate, sq_len_zip, sq_len_tuple, sq_len_isinstance, sq_len_int, sq_len_set, sq_len_dict, sq_len_any, sq_len_all, ok_law_subsets, cd_law_subsets, fb_law_subsets, sq_law_subsets_len, sq_law_subsets_list, sq_law_subsets_sorted, sq_law_subsets_range, sq_law_subsets_enumerate, sq_law_subsets_zip, sq_law_subsets_tuple, sq_law_subsets_isinstance, sq_law_subsets_int, sq_law_subsets_set, sq_law_subsets_dict, sq_law_subsets_any, sq_law_subsets_all, ok_list, cd_list, fb_list, sq_list_len, sq_list_list, sq_list_sorted, sq_list_range, sq_list_enumerate, sq_list_zip, sq_list_tuple, sq_list_isinstance, sq_list_int, sq_list_set, sq_list_dict, sq_list_any, sq_list_all, ok_broken_by, cd_broken_by, fb_broken_by, sq_broken_by_len, sq_broken_by_list, sq_broken_by_sorted, sq_broken_by_range, sq_broken_by_enumerate, sq_broken_by_zip, sq_broken_by_tuple, sq_broken_by_isinstance, sq_broken_by_int, sq_broken_by_set, sq_broken_by_dict, sq_broken_by_any, sq_broken_by_all, ok_isinstance, cd_isinstance, fb_isinstance, sq_isinstance_len, sq_isinstance_list, sq_isinstance_sorted, sq_isinstance_range, sq_isinstance_enumerate, sq_isinstance_zip, sq_isinstance_tuple, sq_isinstance_isinstance, sq_isinstance_int, sq_isinstance_set, sq_isinstance_dict, sq_isinstance_any, sq_isinstance_all, ok_law_broken, cd_law_broken, fb_law_broken, sq_law_broken_len, sq_law_broken_list, sq_law_broken_sorted, sq_law_broken_range, sq_law_broken_enumerate, sq_law_broken_zip, sq_law_broken_tuple, sq_law_broken_isinstance, sq_law_broken_int, sq_law_broken_set, sq_law_broken_dict, sq_law_broken_any, sq_law_broken_all, ok_law_right_chain, cd_law_right_chain, fb_law_right_chain, sq_law_right_chain_len, sq_law_right_chain_list, sq_law_right_chain_sorted, sq_law_right_chain_range, sq_law_right_chain_enumerate, sq_law_right_chain_zip, sq_law_right_chain_tuple, sq_law_right_chain_isinstance, sq_law_right_chain_int, sq_law_right_chain_set, sq_law_right_chain_dict, sq_law_right_chain_any, sq_law_right_chain_all, List.length_map, rngL0, hr, e, B]
theorem law_true (ns : List Int) : runP (csAt pg 20) df_law [.list (ns.map .int)] = some (.bool true) := by
  have e0 := ev_begin 19 ns
  obtain ⟨ss, s1, hm, g1, e1⟩ := ev_sensors 17 ⟨ns, 0, 0, 7⟩ (Int.le_refl 0)
  obtain ⟨fs, s2, hl, hf, g2, e2⟩ := ev_faults 17 s1 g1 ss.length hm
  have h : FsOk ss.length fs := ⟨hl, hf⟩
  have hr := rng_ok (n := fs.length) (by omega)
  let gs : List Fa := (List.range fs.length).map fun k => pickF fs (fs.length - 1 - (k : Nat))
  have hg : gs.length = fs.length := by show ((List.range fs.length).map _).length = _; rw [List.length_map, List.length_range]
  have hk : ∀ k ∈ List.range fs.length, 0 ≤ ((fs.length : Int) - 1 - (k : Nat)) ∧ ((fs.length : Int) - 1 - (k : Nat)) < fs.length := fun k hk => by rw [List.mem_range] at hk; omega
  have g : FsOk ss.length gs := ⟨by rw [hg]; exact hl, fun f hff => by
    obtain ⟨k, hk', rfl⟩ := List.mem_map.mp hff
    exact hf _ (pick_at (hk k hk')).2⟩
  have C := lcL_map (β := Int) (step := lcTurn (FR df_law 20 56) (blkFm (fmOf df_law) SC_law_0) EL_law_0 TG_law_0 [] [8] 11) (s := [.val (.list (ns.map .int)), .own false (drC s2), .val (.tuple ss), .val (.tuple (fs.map encF)), .non, .non, .non, .non, .non, .non, .non]) (fun k : Nat => PyData.int k) (fun k => encF (pickF fs (fs.length - 1 - (k : Nat)))) (xs := List.range fs.length) (fun k hk' => by
    have e := (pick_at (hk k hk')).1
    unfold lcTurn
    simp! only [nm_law, nl_law, dr_law_105, dr_law_106, dr_law_107, dr_law_111, nc_law_0, ok_law_begin, cd_law_begin, fb_law_begin, sq_law_begin_len, sq_law_begin_list, sq_law_begin_sorted, sq_law_begin_range, sq_law_begin_enumerate, sq_law_begin_zip, sq_law_begin_tuple, sq_law_begin_isinstance, sq_law_begin_int, sq_law_begin_set, sq_law_begin_dict, sq_law_begin_any, sq_law_begin_all, ok_law_sensors, cd_law_sensors, fb_law_sensors, sq_law_sensors_len, sq_law_sensors_list, sq_law_sensors_sorted, sq_law_sensors_range, sq_law_sensors_enumerate, sq_law_sensors_zip, sq_law_sensors_tuple, sq_law_sensors_isinstance, sq_law_sensors_int, sq_law_sensors_set, sq_law_sensors_dict, sq_law_sensors_any, sq_law_sensors_all, ok_law_faults, cd_law_faults, fb_law_faults, sq_law_faults_len, sq_law_faults_list, sq_law_faults_sorted, sq_law_faults_range, sq_law_faults_enumerate, sq_law_faults_zip, sq_law_faults_tuple, sq_law_faults_isinstance, sq_law_faults_int, sq_law_faults_set, sq_law_faults_dict, sq_law_faults_any, sq_law_faults_all, ok_tuple, cd_tuple, fb_tuple, sq_tuple_len, sq_tuple_list, sq_tuple_sorted, sq_tuple_range, sq_tuple_enumerate, sq_tuple_zip, sq_tuple_tuple, sq_tuple_isinstance, sq_tuple_int, sq_tuple_set, sq_tuple_dict, sq_tuple_any, sq_tuple_all, ok_range, cd_range, fb_range, sq_range_len, sq_range_list, sq_range_sorted, sq_range_range, sq_range_enumerate, sq_range_zip, sq_range_tuple, sq_range_isinstance, sq_range_int, sq_range_set, sq_range_dict, sq_range_any, sq_range_all, ok_len, cd_len, fb_len, sq_len_len, sq_len_list, sq_len_sorted, sq_len_range, sq_len_enumerate, sq_len_zip, sq_len_tuple, sq_len_isinstance, sq_len_int, sq_len_set, sq_len_dict, sq_len_any, sq_len_all, ok_law_subsets, cd_law_subsets, fb_law_subsets, sq_law_subsets_len, sq_law_subsets_list, sq_law_subsets_sorted, sq_law_subsets_range, sq_law_subsets_enumerate, sq_law_subsets_zip, sq_law_subsets_tuple, sq_law_subsets_isinstance, sq_law_subsets_int, sq_law_subsets_set, sq_law_subsets_dict, sq_law_subsets_any, sq_law_subsets_all, ok_list, cd_list, fb_list, sq_list_len, sq_list_list, sq_list_sorted, sq_list_range, sq_list_enumerate, sq_list_zip, sq_list_tuple, sq_list_isinstance, sq_list_int, sq_list_set, sq_list_dict, sq_list_any, sq_list_all, ok_broken_by, cd_broken_by, fb_broken_by, sq_broken_by_len, sq_broken_by_list, sq_broken_by_sorted, sq_broken_by_range, sq_broken_by_enumerate, sq_broken_by_zip, sq_broken_by_tuple, sq_broken_by_isinstance, sq_broken_by_int, sq_broken_by_set, sq_broken_by_dict, sq_broken_by_any, sq_broken_by_all, ok_isinstance, cd_isinstance, fb_isinstance, sq_isinstance_len, sq_isinstance_list, sq_isinstance_sorted, sq_isinstance_range, sq_isinstance_enumerate, sq_isinstance_zip, sq_isinstance_tuple, sq_isinstance_isinstance, sq_isinstance_int, sq_isinstance_set, sq_isinstance_dict, sq_isinstance_any, sq_isinstance_all, ok_law_broken, cd_law_broken, fb_law_broken, sq_law_broken_len, sq_law_broken_list, sq_law_broken_sorted, sq_law_broken_range, sq_law_broken_enumerate, sq_law_broken_zip, sq_law_broken_tuple, sq_law_broken_isinstance, sq_law_broken_int, sq_law_broken_set, sq_law_broken_dict, sq_law_broken_any, sq_law_broken_all, ok_law_right_chain, cd_law_right_chain, fb_law_right_chain, sq_law_right_chain_len, sq_law_right_chain_list, sq_law_right_chain_sorted, sq_law_right_chain_range, sq_law_right_chain_enumerate, sq_law_right_chain_zip, sq_law_right_chain_tuple, sq_law_right_chain_isinstance, sq_law_right_chain_int, sq_law_right_chain_set, sq_law_right_chain_dict, sq_law_right_chain_any, sq_law_right_chain_all, List.length_map, e])
  rw [← rng_map, show (List.range fs.length).map (fun k => encF (pickF fs (fs.length - 1 - (k : Nat)))) = gs.map encF from by show _ = ((List.range fs.length).map _).map encF; rw [List.map_map]; rfl] at C
  have B : forL _ [PyData.int 0, PyData.int 1] _ = _ := forL_same (R := Sum (D × Rho) (Ct × Rho)) (s := [.non, .non, .val (.tuple ss), .val (.tuple (fs.map encF)), .val (.tuple (gs.map encF)), .non, .non, .non, .non, .non, .non]) (step := turnE (FR df_law 20 59) (fmOf df_law) FT_law_105 FB_law_105 (df_law.drop 105)) PyData.int (xs := [0, 1]) (fun x _ => turn_turn ss hm fs gs h g hg (.int x))
  have hr2 : rngOk 0 2 = true := by decide
  have hq2 : (rngL 0 2).map PyData.int = [.int 0, .int 1] := rfl
  rw [st_law]
  simp! only [nm_law, nl_law, dr_law_105, dr_law_106, dr_law_107, dr_law_111, nc_law_0, ok_law_begin, cd_law_begin, fb_law_begin, sq_law_begin_len, sq_law_begin_list, sq_law_begin_sorted, sq_law_begin_range, sq_law_begin_enumerate, sq_law_begin_zip, sq_law_begin_tuple, sq_law_begin_isinstance, sq_law_begin_int, sq_law_begin_set, sq_law_begin_dict, sq_law_begin_any, sq_law_begin_all, ok_law_sensors, cd_law_sensors, fb_law_sensors, sq_law_sensors_len, sq_law_sensors_list, sq_law_sensors_sorted, sq_law_sensors_range, sq_law_sensors_enumerate, sq_law_sensors_zip, sq_law_sensors_tuple, sq_law_sensors_isinstance, sq_law_sensors_int, sq_law_sensors_set, sq_law_sensors_dict, sq_law_sensors_any, sq_law_sensors_all, ok_law_faults, cd_law_faults, fb_law_faults, sq_law_faults_len, sq_law_faults_list, sq_law_faults_sorted, sq_law_faults_range, sq_law_faults_enumerate, sq_law_faults_zip, sq_law_faults_tuple, sq_law_faults_isinstance, sq_law_faults_int, sq_law_faults_set, sq_law_faults_dict, sq_law_faults_any, sq_law_faults_all, ok_tuple, cd_tuple, fb_tuple, sq_tuple_len, sq_tuple_list, sq_tuple_sorted, sq_tuple_range, sq_tuple_enumerate, sq_tuple_zip, sq_tuple_tuple, sq_tuple_isinstance, sq_tuple_int, sq_tuple_set, sq_tuple_dict, sq_tuple_any, sq_tuple_all, ok_range, cd_range, fb_range, sq_range_len, sq_range_list, sq_range_sorted, sq_range_range, sq_range_enumerate, sq_range_zip, sq_range_tuple, sq_range_isinstance, sq_range_int, sq_range_set, sq_range_dict, sq_range_any, sq_range_all, ok_len, cd_len, fb_len, sq_len_len, sq_len_list, sq_len_sorted, sq_len_range, sq_len_enumerate, sq_len_zip, sq_len_tuple, sq_len_isinstance, sq_len_int, sq_len_set, sq_len_dict, sq_len_any, sq_len_all, ok_law_subsets, cd_law_subsets, fb_law_subsets, sq_law_subsets_len, sq_law_subsets_list, sq_law_subsets_sorted, sq_law_subsets_range, sq_law_subsets_enumerate, sq_law_subsets_zip, sq_law_subsets_tuple, sq_law_subsets_isinstance, sq_law_subsets_int, sq_law_subsets_set, sq_law_subsets_dict, sq_law_subsets_any, sq_law_subsets_all, ok_list, cd_list, fb_list, sq_list_len, sq_list_list, sq_list_sorted, sq_list_range, sq_list_enumerate, sq_list_zip, sq_list_tuple, sq_list_isinstance, sq_list_int, sq_list_set, sq_list_dict, sq_list_any, sq_list_all, ok_broken_by, cd_broken_by, fb_broken_by, sq_broken_by_len, sq_broken_by_list, sq_broken_by_sorted, sq_broken_by_range, sq_broken_by_enumerate, sq_broken_by_zip, sq_broken_by_tuple, sq_broken_by_isinstance, sq_broken_by_int, sq_broken_by_set, sq_broken_by_dict, sq_broken_by_any, sq_broken_by_all, ok_isinstance, cd_isinstance, fb_isinstance, sq_isinstance_len, sq_isinstance_list, sq_isinstance_sorted, sq_isinstance_range, sq_isinstance_enumerate, sq_isinstance_zip, sq_isinstance_tuple, sq_isinstance_isinstance, sq_isinstance_int, sq_isinstance_set, sq_isinstance_dict, sq_isinstance_any, sq_isinstance_all, ok_law_broken, cd_law_broken, fb_law_broken, sq_law_broken_len, sq_law_broken_list, sq_law_broken_sorted, sq_law_broken_range, sq_law_broken_enumerate, sq_law_broken_zip, sq_law_broken_tuple, sq_law_broken_isinstance, sq_law_broken_int, sq_law_broken_set, sq_law_broken_dict, sq_law_broken_any, sq_law_broken_all, ok_law_right_chain, cd_law_right_chain, fb_law_right_chain, sq_law_right_chain_len, sq_law_right_chain_list, sq_law_right_chain_sorted, sq_law_right_chain_range, sq_law_right_chain_enumerate, sq_law_right_chain_zip, sq_law_right_chain_tuple, sq_law_right_chain_isinstance, sq_law_right_chain_int, sq_law_right_chain_set, sq_law_right_chain_dict, sq_law_right_chain_any, sq_law_right_chain_all, e0, e1, e2, List.length_map, hr, C, hr2, hq2, B]


set_option Elab.async false
set_option linter.all false
set_option maxRecDepth 100000
open PySem PySem.Spec PyProof.Rows L2 Lk Ev
theorem all_mk {l : PySem.W.OpenLaw} {w : World} {K : PySem.W.Frag} {h : Heap} {mg : Str → Option Value} {fa : Addr} (X : K.In h) (G : h.Ns mainGlobals mg) (hfa : mg "law" = some (.ref fa))
    {f0 : Addr} {od0 an0 : Option Addr} {sl0 : Array (Option Value)} {oc0 kV0 dc0 pm0 cd0 ct0 : Value} {f1 : Addr} {od1 an1 : Option Addr} {sl1 : Array (Option Value)} {oc1 kV1 dc1 pm1 cd1 ct1 : Value} {f2 : Addr} {od2 an2 : Option Addr} {sl2 : Array (Option Value)} {oc2 kV2 dc2 pm2 cd2 ct2 : Value} {f3 : Addr} {od3 an3 : Option Addr} {sl3 : Array (Option Value)} {oc3 kV3 dc3 pm3 cd3 ct3 : Value} {f4 : Addr} {od4 an4 : Option Addr} {sl4 : Array (Option Value)} {oc4 kV4 dc4 pm4 cd4 ct4 : Value} {f5 : Addr} {od5 an5 : Option Addr} {sl5 : Array (Option Value)} {oc5 kV5 dc5 pm5 cd5 ct5 : Value} {f6 : Addr} {od6 an6 : Option Addr} {sl6 : Array (Option Value)} {oc6 kV6 dc6 pm6 cd6 ct6 : Value} {f7 : Addr} {od7 an7 : Option Addr} {sl7 : Array (Option Value)} {oc7 kV7 dc7 pm7 cd7 ct7 : Value} {f8 : Addr} {od8 an8 : Option Addr} {sl8 : Array (Option Value)} {oc8 kV8 dc8 pm8 cd8 ct8 : Value} {f9 : Addr} {od9 an9 : Option Addr} {sl9 : Array (Option Value)} {oc9 kV9 dc9 pm9 cd9 ct9 : Value} {f10 : Addr} {od10 an10 : Option Addr} {sl10 : Array (Option Value)} {oc10 kV10 dc10 pm10 cd10 ct10 : Value} {f11 : Addr} {od11 an11 : Option Addr} {sl11 : Array (Option Value)} {oc11 kV11 dc11 pm11 cd11 ct11 : Value} {f12 : Addr} {od12 an12 : Option Addr} {sl12 : Array (Option Value)} {oc12 kV12 dc12 pm12 cd12 ct12 : Value} {f13 : Addr} {od13 an13 : Option Addr} {sl13 : Array (Option Value)} {oc13 kV13 dc13 pm13 cd13 ct13 : Value} {f14 : Addr} {od14 an14 : Option Addr} {sl14 : Array (Option Value)} {oc14 kV14 dc14 pm14 cd14 ct14 : Value} {f15 : Addr} {od15 an15 : Option Addr} {sl15 : Array (Option Value)} {oc15 kV15 dc15 pm15 cd15 ct15 : Value} {f16 : Addr} {od16 an16 : Option Addr} {sl16 : Array (Option Value)} {oc16 kV16 dc16 pm16 cd16 ct16 : Value} {f17 : Addr} {od17 an17 : Option Addr} {sl17 : Array (Option Value)} {oc17 kV17 dc17 pm17 cd17 ct17 : Value} {f18 : Addr} {od18 an18 : Option Addr} {sl18 : Array (Option Value)} {oc18 kV18 dc18 pm18 cd18 ct18 : Value} {f19 : Addr} {od19 an19 : Option Addr} {sl19 : Array (Option Value)} {oc19 kV19 dc19 pm19 cd19 ct19 : Value} {f20 : Addr} {od20 an20 : Option Addr} {sl20 : Array (Option Value)} {oc20 kV20 dc20 pm20 cd20 ct20 : Value}
    (a0 : PySem.W.nsIn K mainGlobals "inside" = some (some (.ref f0)))
    (l0 : K.lookup f0 = some ⟨oc0, od0, .func (PySem.W.fnOf "inside" "inside" (defArgs (topS 1)) (defBody (topS 1)) (defScope (topS 1)) .none kV0 dc0 pm0 an0 cd0 ct0), sl0⟩)
    (c0 : PySem.W.codeIn K cd0 "inside" = true) (k0 : PySem.W.keepIn K (.ref f0) = true)
    (a1 : PySem.W.nsIn K mainGlobals "subsets_of" = some (some (.ref f1)))
    (l1 : K.lookup f1 = some ⟨oc1, od1, .func (PySem.W.fnOf "subsets_of" "subsets_of" (defArgs (topS 2)) (defBody (topS 2)) (defScope (topS 2)) .none kV1 dc1 pm1 an1 cd1 ct1), sl1⟩)
    (c1 : PySem.W.codeIn K cd1 "subsets_of" = true) (k1 : PySem.W.keepIn K (.ref f1) = true)
    (a2 : PySem.W.nsIn K mainGlobals "strikes" = some (some (.ref f2)))
    (l2 : K.lookup f2 = some ⟨oc2, od2, .func (PySem.W.fnOf "strikes" "strikes" (defArgs (topS 4)) (defBody (topS 4)) (defScope (topS 4)) .none kV2 dc2 pm2 an2 cd2 ct2), sl2⟩)
    (c2 : PySem.W.codeIn K cd2 "strikes" = true) (k2 : PySem.W.keepIn K (.ref f2) = true)
    (a3 : PySem.W.nsIn K mainGlobals "broken_by" = some (some (.ref f3)))
    (l3 : K.lookup f3 = some ⟨oc3, od3, .func (PySem.W.fnOf "broken_by" "broken_by" (defArgs (topS 5)) (defBody (topS 5)) (defScope (topS 5)) .none kV3 dc3 pm3 an3 cd3 ct3), sl3⟩)
    (c3 : PySem.W.codeIn K cd3 "broken_by" = true) (k3 : PySem.W.keepIn K (.ref f3) = true)
    (a4 : PySem.W.nsIn K mainGlobals "_broken" = some (some (.ref f4)))
    (l4 : K.lookup f4 = some ⟨oc4, od4, .func (PySem.W.fnOf "_broken" "_broken" (defArgs (topS 6)) (defBody (topS 6)) (defScope (topS 6)) .none kV4 dc4 pm4 an4 cd4 ct4), sl4⟩)
    (c4 : PySem.W.codeIn K cd4 "_broken" = true) (k4 : PySem.W.keepIn K (.ref f4) = true)
    (a5 : PySem.W.nsIn K mainGlobals "_law_begin" = some (some (.ref f5)))
    (l5 : K.lookup f5 = some ⟨oc5, od5, .func (PySem.W.fnOf "_law_begin" "_law_begin" (defArgs (topS 8)) (defBody (topS 8)) (defScope (topS 8)) .none kV5 dc5 pm5 an5 cd5 ct5), sl5⟩)
    (c5 : PySem.W.codeIn K cd5 "_law_begin" = true) (k5 : PySem.W.keepIn K (.ref f5) = true)
    (a6 : PySem.W.nsIn K mainGlobals "_law_draw" = some (some (.ref f6)))
    (l6 : K.lookup f6 = some ⟨oc6, od6, .func (PySem.W.fnOf "_law_draw" "_law_draw" (defArgs (topS 9)) (defBody (topS 9)) (defScope (topS 9)) .none kV6 dc6 pm6 an6 cd6 ct6), sl6⟩)
    (c6 : PySem.W.codeIn K cd6 "_law_draw" = true) (k6 : PySem.W.keepIn K (.ref f6) = true)
    (a7 : PySem.W.nsIn K mainGlobals "_law_pick" = some (some (.ref f7)))
    (l7 : K.lookup f7 = some ⟨oc7, od7, .func (PySem.W.fnOf "_law_pick" "_law_pick" (defArgs (topS 10)) (defBody (topS 10)) (defScope (topS 10)) .none kV7 dc7 pm7 an7 cd7 ct7), sl7⟩)
    (c7 : PySem.W.codeIn K cd7 "_law_pick" = true) (k7 : PySem.W.keepIn K (.ref f7) = true)
    (a8 : PySem.W.nsIn K mainGlobals "_law_is_int" = some (some (.ref f8)))
    (l8 : K.lookup f8 = some ⟨oc8, od8, .func (PySem.W.fnOf "_law_is_int" "_law_is_int" (defArgs (topS 11)) (defBody (topS 11)) (defScope (topS 11)) .none kV8 dc8 pm8 an8 cd8 ct8), sl8⟩)
    (c8 : PySem.W.codeIn K cd8 "_law_is_int" = true) (k8 : PySem.W.keepIn K (.ref f8) = true)
    (a9 : PySem.W.nsIn K mainGlobals "_law_is_ints" = some (some (.ref f9)))
    (l9 : K.lookup f9 = some ⟨oc9, od9, .func (PySem.W.fnOf "_law_is_ints" "_law_is_ints" (defArgs (topS 12)) (defBody (topS 12)) (defScope (topS 12)) .none kV9 dc9 pm9 an9 cd9 ct9), sl9⟩)
    (c9 : PySem.W.codeIn K cd9 "_law_is_ints" = true) (k9 : PySem.W.keepIn K (.ref f9) = true)
    (a10 : PySem.W.nsIn K mainGlobals "_law_is_set" = some (some (.ref f10)))
    (l10 : K.lookup f10 = some ⟨oc10, od10, .func (PySem.W.fnOf "_law_is_set" "_law_is_set" (defArgs (topS 13)) (defBody (topS 13)) (defScope (topS 13)) .none kV10 dc10 pm10 an10 cd10 ct10), sl10⟩)
    (c10 : PySem.W.codeIn K cd10 "_law_is_set" = true) (k10 : PySem.W.keepIn K (.ref f10) = true)
    (a11 : PySem.W.nsIn K mainGlobals "_law_inside" = some (some (.ref f11)))
    (l11 : K.lookup f11 = some ⟨oc11, od11, .func (PySem.W.fnOf "_law_inside" "_law_inside" (defArgs (topS 14)) (defBody (topS 14)) (defScope (topS 14)) .none kV11 dc11 pm11 an11 cd11 ct11), sl11⟩)
    (c11 : PySem.W.codeIn K cd11 "_law_inside" = true) (k11 : PySem.W.keepIn K (.ref f11) = true)
    (a12 : PySem.W.nsIn K mainGlobals "_law_subsets" = some (some (.ref f12)))
    (l12 : K.lookup f12 = some ⟨oc12, od12, .func (PySem.W.fnOf "_law_subsets" "_law_subsets" (defArgs (topS 15)) (defBody (topS 15)) (defScope (topS 15)) .none kV12 dc12 pm12 an12 cd12 ct12), sl12⟩)
    (c12 : PySem.W.codeIn K cd12 "_law_subsets" = true) (k12 : PySem.W.keepIn K (.ref f12) = true)
    (a13 : PySem.W.nsIn K mainGlobals "_law_strikes" = some (some (.ref f13)))
    (l13 : K.lookup f13 = some ⟨oc13, od13, .func (PySem.W.fnOf "_law_strikes" "_law_strikes" (defArgs (topS 16)) (defBody (topS 16)) (defScope (topS 16)) .none kV13 dc13 pm13 an13 cd13 ct13), sl13⟩)
    (c13 : PySem.W.codeIn K cd13 "_law_strikes" = true) (k13 : PySem.W.keepIn K (.ref f13) = true)
    (a14 : PySem.W.nsIn K mainGlobals "_law_broken" = some (some (.ref f14)))
    (l14 : K.lookup f14 = some ⟨oc14, od14, .func (PySem.W.fnOf "_law_broken" "_law_broken" (defArgs (topS 17)) (defBody (topS 17)) (defScope (topS 17)) .none kV14 dc14 pm14 an14 cd14 ct14), sl14⟩)
    (c14 : PySem.W.codeIn K cd14 "_law_broken" = true) (k14 : PySem.W.keepIn K (.ref f14) = true)
    (a15 : PySem.W.nsIn K mainGlobals "_law_sensors" = some (some (.ref f15)))
    (l15 : K.lookup f15 = some ⟨oc15, od15, .func (PySem.W.fnOf "_law_sensors" "_law_sensors" (defArgs (topS 18)) (defBody (topS 18)) (defScope (topS 18)) .none kV15 dc15 pm15 an15 cd15 ct15), sl15⟩)
    (c15 : PySem.W.codeIn K cd15 "_law_sensors" = true) (k15 : PySem.W.keepIn K (.ref f15) = true)
    (a16 : PySem.W.nsIn K mainGlobals "_law_trail" = some (some (.ref f16)))
    (l16 : K.lookup f16 = some ⟨oc16, od16, .func (PySem.W.fnOf "_law_trail" "_law_trail" (defArgs (topS 19)) (defBody (topS 19)) (defScope (topS 19)) .none kV16 dc16 pm16 an16 cd16 ct16), sl16⟩)
    (c16 : PySem.W.codeIn K cd16 "_law_trail" = true) (k16 : PySem.W.keepIn K (.ref f16) = true)
    (a17 : PySem.W.nsIn K mainGlobals "_law_faults" = some (some (.ref f17)))
    (l17 : K.lookup f17 = some ⟨oc17, od17, .func (PySem.W.fnOf "_law_faults" "_law_faults" (defArgs (topS 20)) (defBody (topS 20)) (defScope (topS 20)) .none kV17 dc17 pm17 an17 cd17 ct17), sl17⟩)
    (c17 : PySem.W.codeIn K cd17 "_law_faults" = true) (k17 : PySem.W.keepIn K (.ref f17) = true)
    (a18 : PySem.W.nsIn K mainGlobals "_law_right_strikes" = some (some (.ref f18)))
    (l18 : K.lookup f18 = some ⟨oc18, od18, .func (PySem.W.fnOf "_law_right_strikes" "_law_right_strikes" (defArgs (topS 21)) (defBody (topS 21)) (defScope (topS 21)) .none kV18 dc18 pm18 an18 cd18 ct18), sl18⟩)
    (c18 : PySem.W.codeIn K cd18 "_law_right_strikes" = true) (k18 : PySem.W.keepIn K (.ref f18) = true)
    (a19 : PySem.W.nsIn K mainGlobals "_law_right_chain" = some (some (.ref f19)))
    (l19 : K.lookup f19 = some ⟨oc19, od19, .func (PySem.W.fnOf "_law_right_chain" "_law_right_chain" (defArgs (topS 22)) (defBody (topS 22)) (defScope (topS 22)) .none kV19 dc19 pm19 an19 cd19 ct19), sl19⟩)
    (c19 : PySem.W.codeIn K cd19 "_law_right_chain" = true) (k19 : PySem.W.keepIn K (.ref f19) = true)
    (a20 : PySem.W.nsIn K mainGlobals "law" = some (some (.ref f20)))
    (l20 : K.lookup f20 = some ⟨oc20, od20, .func (PySem.W.fnOf "law" "law" (defArgs (topS 23)) (defBody (topS 23)) (defScope (topS 23)) .none kV20 dc20 pm20 an20 cd20 ct20), sl20⟩)
    (c20 : PySem.W.codeIn K cd20 "law" = true) (k20 : PySem.W.keepIn K (.ref f20) = true)
    (z0 : PySem.W.nsIn K mainGlobals "abs" = some none)
    (z1 : PySem.W.nsIn K mainGlobals "all" = some none)
    (z2 : PySem.W.nsIn K mainGlobals "bool" = some none)
    (z3 : PySem.W.nsIn K mainGlobals "int" = some none)
    (z4 : PySem.W.nsIn K mainGlobals "isinstance" = some none)
    (z5 : PySem.W.nsIn K mainGlobals "len" = some none)
    (z6 : PySem.W.nsIn K mainGlobals "list" = some none)
    (z7 : PySem.W.nsIn K mainGlobals "range" = some none)
    (z8 : PySem.W.nsIn K mainGlobals "set" = some none)
    (z9 : PySem.W.nsIn K mainGlobals "sorted" = some none)
    (z10 : PySem.W.nsIn K mainGlobals "tuple" = some none) :
    ∃ fd : FuncData, (∀ (s : Shared) (v : Value), BindsTo s fd ⟨[v], []⟩ [("script", v)]) ∧ ∀ base : Heap, K.In base → base.Ns mainGlobals mg → FnOk l.prog w K mg base CX0 (20 + 1) fa fd ["script"] (SpP K fun ds d => runP (csAt pg 20) df_law ds = some d) := by
  have e := hfa.symm.trans (PySem.W.mg_of X G a20)
  cases e
  have F0 := fun_mk (st := topS 1) l0 c0 k0
  have b0 := F0.binds (ps := ["first", "second"]) fun _ _ _ _ _ _ us hl => match us, hl with | [_, _], _ => rfl
  have S0 : FnScope df_inside.N df_inside.ps (defScope df_inside.st) := ⟨rfl, rfl, rfl, by decide +kernel, rfl, by decide +kernel, by decide +kernel⟩
  have F1 := fun_mk (st := topS 2) l1 c1 k1
  have b1 := F1.binds (ps := ["members"]) fun _ _ _ _ _ _ us hl => match us, hl with | [_], _ => rfl
  have S1 : FnScope df_subsets_of.N df_subsets_of.ps (defScope df_subsets_of.st) := ⟨rfl, rfl, rfl, by decide +kernel, rfl, by decide +kernel, by decide +kernel⟩
  have F2 := fun_mk (st := topS 4) l2 c2 k2
  have b2 := F2.binds (ps := ["faults", "most", "struck"]) fun _ _ _ _ _ _ us hl => match us, hl with | [_, _, _], _ => rfl
  have S2 : FnScope df_strikes.N df_strikes.ps (defScope df_strikes.st) := ⟨rfl, rfl, rfl, by decide +kernel, rfl, by decide +kernel, by decide +kernel⟩
  have F3 := fun_mk (st := topS 5) l3 c3 k3
  have b3 := F3.binds (ps := ["sensors", "faults", "struck"]) fun _ _ _ _ _ _ us hl => match us, hl with | [_, _, _], _ => rfl
  have S3 : FnScope df_broken_by.N df_broken_by.ps (defScope df_broken_by.st) := ⟨rfl, rfl, rfl, by decide +kernel, rfl, by decide +kernel, by decide +kernel⟩
  have F4 := fun_mk (st := topS 6) l4 c4 k4
  have b4 := F4.binds (ps := ["present", "sensor"]) fun _ _ _ _ _ _ us hl => match us, hl with | [_, _], _ => rfl
  have S4 : FnScope df_broken.N df_broken.ps (defScope df_broken.st) := ⟨rfl, rfl, rfl, by decide +kernel, rfl, by decide +kernel, by decide +kernel⟩
  have F5 := fun_mk (st := topS 8) l5 c5 k5
  have b5 := F5.binds (ps := ["script"]) fun _ _ _ _ _ _ us hl => match us, hl with | [_], _ => rfl
  have S5 : FnScope df_law_begin.N df_law_begin.ps (defScope df_law_begin.st) := ⟨rfl, rfl, rfl, by decide +kernel, rfl, by decide +kernel, by decide +kernel⟩
  have F6 := fun_mk (st := topS 9) l6 c6 k6
  have b6 := F6.binds (ps := ["d", "many"]) fun _ _ _ _ _ _ us hl => match us, hl with | [_, _], _ => rfl
  have S6 : FnScope df_law_draw.N df_law_draw.ps (defScope df_law_draw.st) := ⟨rfl, rfl, rfl, by decide +kernel, rfl, by decide +kernel, by decide +kernel⟩
  have F7 := fun_mk (st := topS 10) l7 c7 k7
  have b7 := F7.binds (ps := ["d", "row"]) fun _ _ _ _ _ _ us hl => match us, hl with | [_, _], _ => rfl
  have S7 : FnScope df_law_pick.N df_law_pick.ps (defScope df_law_pick.st) := ⟨rfl, rfl, rfl, by decide +kernel, rfl, by decide +kernel, by decide +kernel⟩
  have F8 := fun_mk (st := topS 11) l8 c8 k8
  have b8 := F8.binds (ps := ["thing"]) fun _ _ _ _ _ _ us hl => match us, hl with | [_], _ => rfl
  have S8 : FnScope df_law_is_int.N df_law_is_int.ps (defScope df_law_is_int.st) := ⟨rfl, rfl, rfl, by decide +kernel, rfl, by decide +kernel, by decide +kernel⟩
  have F9 := fun_mk (st := topS 12) l9 c9 k9
  have b9 := F9.binds (ps := ["row"]) fun _ _ _ _ _ _ us hl => match us, hl with | [_], _ => rfl
  have S9 : FnScope df_law_is_ints.N df_law_is_ints.ps (defScope df_law_is_ints.st) := ⟨rfl, rfl, rfl, by decide +kernel, rfl, by decide +kernel, by decide +kernel⟩
  have F10 := fun_mk (st := topS 13) l10 c10 k10
  have b10 := F10.binds (ps := ["row"]) fun _ _ _ _ _ _ us hl => match us, hl with | [_], _ => rfl
  have S10 : FnScope df_law_is_set.N df_law_is_set.ps (defScope df_law_is_set.st) := ⟨rfl, rfl, rfl, by decide +kernel, rfl, by decide +kernel, by decide +kernel⟩
  have F11 := fun_mk (st := topS 14) l11 c11 k11
  have b11 := F11.binds (ps := ["first", "second"]) fun _ _ _ _ _ _ us hl => match us, hl with | [_, _], _ => rfl
  have S11 : FnScope df_law_inside.N df_law_inside.ps (defScope df_law_inside.st) := ⟨rfl, rfl, rfl, by decide +kernel, rfl, by decide +kernel, by decide +kernel⟩
  have F12 := fun_mk (st := topS 15) l12 c12 k12
  have b12 := F12.binds (ps := ["row"]) fun _ _ _ _ _ _ us hl => match us, hl with | [_], _ => rfl
  have S12 : FnScope df_law_subsets.N df_law_subsets.ps (defScope df_law_subsets.st) := ⟨rfl, rfl, rfl, by decide +kernel, rfl, by decide +kernel, by decide +kernel⟩
  have F13 := fun_mk (st := topS 16) l13 c13 k13
  have b13 := F13.binds (ps := ["many", "most", "struck"]) fun _ _ _ _ _ _ us hl => match us, hl with | [_, _, _], _ => rfl
  have S13 : FnScope df_law_strikes.N df_law_strikes.ps (defScope df_law_strikes.st) := ⟨rfl, rfl, rfl, by decide +kernel, rfl, by decide +kernel, by decide +kernel⟩
  have F14 := fun_mk (st := topS 17) l14 c14 k14
  have b14 := F14.binds (ps := ["sensors", "faults", "struck"]) fun _ _ _ _ _ _ us hl => match us, hl with | [_, _, _], _ => rfl
  have S14 : FnScope df_law_broken.N df_law_broken.ps (defScope df_law_broken.st) := ⟨rfl, rfl, rfl, by decide +kernel, rfl, by decide +kernel, by decide +kernel⟩
  have F15 := fun_mk (st := topS 18) l15 c15 k15
  have b15 := F15.binds (ps := ["d", "most"]) fun _ _ _ _ _ _ us hl => match us, hl with | [_, _], _ => rfl
  have S15 : FnScope df_law_sensors.N df_law_sensors.ps (defScope df_law_sensors.st) := ⟨rfl, rfl, rfl, by decide +kernel, rfl, by decide +kernel, by decide +kernel⟩
  have F16 := fun_mk (st := topS 19) l16 c16 k16
  have b16 := F16.binds (ps := ["d"]) fun _ _ _ _ _ _ us hl => match us, hl with | [_], _ => rfl
  have S16 : FnScope df_law_trail.N df_law_trail.ps (defScope df_law_trail.st) := ⟨rfl, rfl, rfl, by decide +kernel, rfl, by decide +kernel, by decide +kernel⟩
  have F17 := fun_mk (st := topS 20) l17 c17 k17
  have b17 := F17.binds (ps := ["d", "sensors"]) fun _ _ _ _ _ _ us hl => match us, hl with | [_, _], _ => rfl
  have S17 : FnScope df_law_faults.N df_law_faults.ps (defScope df_law_faults.st) := ⟨rfl, rfl, rfl, by decide +kernel, rfl, by decide +kernel, by decide +kernel⟩
  have F18 := fun_mk (st := topS 21) l18 c18 k18
  have b18 := F18.binds (ps := ["told", "due"]) fun _ _ _ _ _ _ us hl => match us, hl with | [_, _], _ => rfl
  have S18 : FnScope df_law_right_strikes.N df_law_right_strikes.ps (defScope df_law_right_strikes.st) := ⟨rfl, rfl, rfl, by decide +kernel, rfl, by decide +kernel, by decide +kernel⟩
  have F19 := fun_mk (st := topS 22) l19 c19 k19
  have b19 := F19.binds (ps := ["faults", "most", "struck"]) fun _ _ _ _ _ _ us hl => match us, hl with | [_, _, _], _ => rfl
  have S19 : FnScope df_law_right_chain.N df_law_right_chain.ps (defScope df_law_right_chain.st) := ⟨rfl, rfl, rfl, by decide +kernel, rfl, by decide +kernel, by decide +kernel⟩
  have F20 := fun_mk (st := topS 23) l20 c20 k20
  have b20 := F20.binds (ps := ["script"]) fun _ _ _ _ _ _ us hl => match us, hl with | [_], _ => rfl
  have S20 : FnScope df_law.N df_law.ps (defScope df_law.st) := ⟨rfl, rfl, rfl, by decide +kernel, rfl, by decide +kernel, by decide +kernel⟩
  refine ⟨PySem.W.fnOf "law" "law" (defArgs (topS 23)) (defBody (topS 23)) (defScope (topS 23)) .none kV20 dc20 pm20 an20 cd20 ct20, fun s v => .of_eq rfl, fun base _ _ => ?_⟩
  have L : Lnk pg l.prog w K mg base := by
    refine ⟨fun x kd df hx => ?_, fun x d hx => ?_, fun x kvs hx => ?_, fun x hx => ?_⟩
    · simp only [pg] at hx
      by_cases e0 : x = "inside"
      · subst e0
        cases hx
        exact ⟨_, _, F0, PySem.W.mg_of X G a0, b0, S0, by decide⟩
      rw [if_neg e0] at hx
      by_cases e1 : x = "subsets_of"
      · subst e1
        cases hx
        exact ⟨_, _, F1, PySem.W.mg_of X G a1, b1, S1, by decide⟩
      rw [if_neg e1] at hx
      by_cases e2 : x = "strikes"
      · subst e2
        cases hx
        exact ⟨_, _, F2, PySem.W.mg_of X G a2, b2, S2, by decide⟩
      rw [if_neg e2] at hx
      by_cases e3 : x = "broken_by"
      · subst e3
        cases hx
        exact ⟨_, _, F3, PySem.W.mg_of X G a3, b3, S3, by decide⟩
      rw [if_neg e3] at hx
      by_cases e4 : x = "_broken"
      · subst e4
        cases hx
        exact ⟨_, _, F4, PySem.W.mg_of X G a4, b4, S4, by decide⟩
      rw [if_neg e4] at hx
      by_cases e5 : x = "_law_begin"
      · subst e5
        cases hx
        exact ⟨_, _, F5, PySem.W.mg_of X G a5, b5, S5, by decide⟩
      rw [if_neg e5] at hx
      by_cases e6 : x = "_law_draw"
      · subst e6
        cases hx
        exact ⟨_, _, F6, PySem.W.mg_of X G a6, b6, S6, by decide⟩
      rw [if_neg e6] at hx
      by_cases e7 : x = "_law_pick"
      · subst e7
        cases hx
        exact ⟨_, _, F7, PySem.W.mg_of X G a7, b7, S7, by decide⟩
      rw [if_neg e7] at hx
      by_cases e8 : x = "_law_is_int"
      · subst e8
        cases hx
        exact ⟨_, _, F8, PySem.W.mg_of X G a8, b8, S8, by decide⟩
      rw [if_neg e8] at hx
      by_cases e9 : x = "_law_is_ints"
      · subst e9
        cases hx
        exact ⟨_, _, F9, PySem.W.mg_of X G a9, b9, S9, by decide⟩
      rw [if_neg e9] at hx
      by_cases e10 : x = "_law_is_set"
      · subst e10
        cases hx
        exact ⟨_, _, F10, PySem.W.mg_of X G a10, b10, S10, by decide⟩
      rw [if_neg e10] at hx
      by_cases e11 : x = "_law_inside"
      · subst e11
        cases hx
        exact ⟨_, _, F11, PySem.W.mg_of X G a11, b11, S11, by decide⟩
      rw [if_neg e11] at hx
      by_cases e12 : x = "_law_subsets"
      · subst e12
        cases hx
        exact ⟨_, _, F12, PySem.W.mg_of X G a12, b12, S12, by decide⟩
      rw [if_neg e12] at hx
      by_cases e13 : x = "_law_strikes"
      · subst e13
        cases hx
        exact ⟨_, _, F13, PySem.W.mg_of X G a13, b13, S13, by decide⟩
      rw [if_neg e13] at hx
      by_cases e14 : x = "_law_broken"
      · subst e14
        cases hx
        exact ⟨_, _, F14, PySem.W.mg_of X G a14, b14, S14, by decide⟩
      rw [if_neg e14] at hx
      by_cases e15 : x = "_law_sensors"
      · subst e15
        cases hx
        exact ⟨_, _, F15, PySem.W.mg_of X G a15, b15, S15, by decide⟩
      rw [if_neg e15] at hx
      by_cases e16 : x = "_law_trail"
      · subst e16
        cases hx
        exact ⟨_, _, F16, PySem.W.mg_of X G a16, b16, S16, by decide⟩
      rw [if_neg e16] at hx
      by_cases e17 : x = "_law_faults"
      · subst e17
        cases hx
        exact ⟨_, _, F17, PySem.W.mg_of X G a17, b17, S17, by decide⟩
      rw [if_neg e17] at hx
      by_cases e18 : x = "_law_right_strikes"
      · subst e18
        cases hx
        exact ⟨_, _, F18, PySem.W.mg_of X G a18, b18, S18, by decide⟩
      rw [if_neg e18] at hx
      by_cases e19 : x = "_law_right_chain"
      · subst e19
        cases hx
        exact ⟨_, _, F19, PySem.W.mg_of X G a19, b19, S19, by decide⟩
      rw [if_neg e19] at hx
      by_cases e20 : x = "law"
      · subst e20
        cases hx
        exact ⟨_, _, F20, PySem.W.mg_of X G a20, b20, S20, by decide⟩
      rw [if_neg e20] at hx
      cases hx
    · simp only [pg] at hx
      cases hx
    · simp only [pg] at hx
      cases hx
    · have hx := of_decide_eq_true hx
      simp only [List.mem_cons, List.not_mem_nil, or_false] at hx
      rcases hx with rfl | rfl | rfl | rfl | rfl | rfl | rfl | rfl | rfl | rfl | rfl
      · exact PySem.W.mg_none_of X G z0
      · exact PySem.W.mg_none_of X G z1
      · exact PySem.W.mg_none_of X G z2
      · exact PySem.W.mg_none_of X G z3
      · exact PySem.W.mg_none_of X G z4
      · exact PySem.W.mg_none_of X G z5
      · exact PySem.W.mg_none_of X G z6
      · exact PySem.W.mg_none_of X G z7
      · exact PySem.W.mg_none_of X G z8
      · exact PySem.W.mg_none_of X G z9
      · exact PySem.W.mg_none_of X G z10
  exact law_fn L 20 F20 S20 (by decide)
end T17
open PySem PySem.W PyProof.Rows
set_option maxHeartbeats 0 in
theorem PySem.Challenge.cw_doubtborne_k17_faults_strike_holds : PySem.Challenge.rw_doubtborne_k17_faults_strike.Holds := by
  w_on; o_law; k_head; (case hw => w_witness2)
  k_fill
  refine L2.walk_of (l := PySem.Challenge.rw_doubtborne_k17_faults_strike) (n := 63) (k := 20 + 1) (x := "script") (CX := fun _ => L2.CX0) (sp := fun w => Lk.SpP _ fun ds d => Ev.runP (Ev.csAt T17.pg 20) T17.df_law ds = some d) rfl (by decide) rfl ⟨rfl, by decide, by decide⟩ (fun w h Y => PySem.W.kIn_of Y) ?F (fun _ _ a ns hl _ hS => Ev.law_sp hS (T17.law_true ns)) (fun _ _ _ _ _ h => h)
  case F =>
    intro w mg fa h KX G hmg
    refine' T17.all_mk KX G hmg ?a0 ?l0 ?c0 ?k0 ?a1 ?l1 ?c1 ?k1 ?a2 ?l2 ?c2 ?k2 ?a3 ?l3 ?c3 ?k3 ?a4 ?l4 ?c4 ?k4 ?a5 ?l5 ?c5 ?k5 ?a6 ?l6 ?c6 ?k6 ?a7 ?l7 ?c7 ?k7 ?a8 ?l8 ?c8 ?k8 ?a9 ?l9 ?c9 ?k9 ?a10 ?l10 ?c10 ?k10 ?a11 ?l11 ?c11 ?k11 ?a12 ?l12 ?c12 ?k12 ?a13 ?l13 ?c13 ?k13 ?a14 ?l14 ?c14 ?k14 ?a15 ?l15 ?c15 ?k15 ?a16 ?l16 ?c16 ?k16 ?a17 ?l17 ?c17 ?k17 ?a18 ?l18 ?c18 ?k18 ?a19 ?l19 ?c19 ?k19 ?a20 ?l20 ?c20 ?k20 ?z0 ?z1 ?z2 ?z3 ?z4 ?z5 ?z6 ?z7 ?z8 ?z9 ?z10
    (case a0 => k_is); (case l0 => k_is); (case c0 => k_is); (case k0 => k_is); (case a1 => k_is); (case l1 => k_is); (case c1 => k_is); (case k1 => k_is); (case a2 => k_is); (case l2 => k_is); (case c2 => k_is); (case k2 => k_is); (case a3 => k_is); (case l3 => k_is); (case c3 => k_is); (case k3 => k_is); (case a4 => k_is); (case l4 => k_is); (case c4 => k_is); (case k4 => k_is); (case a5 => k_is); (case l5 => k_is); (case c5 => k_is); (case k5 => k_is); (case a6 => k_is); (case l6 => k_is); (case c6 => k_is); (case k6 => k_is); (case a7 => k_is); (case l7 => k_is); (case c7 => k_is); (case k7 => k_is); (case a8 => k_is); (case l8 => k_is); (case c8 => k_is); (case k8 => k_is); (case a9 => k_is); (case l9 => k_is); (case c9 => k_is); (case k9 => k_is); (case a10 => k_is); (case l10 => k_is); (case c10 => k_is); (case k10 => k_is); (case a11 => k_is); (case l11 => k_is); (case c11 => k_is); (case k11 => k_is); (case a12 => k_is); (case l12 => k_is); (case c12 => k_is); (case k12 => k_is); (case a13 => k_is); (case l13 => k_is); (case c13 => k_is); (case k13 => k_is); (case a14 => k_is); (case l14 => k_is); (case c14 => k_is); (case k14 => k_is); (case a15 => k_is); (case l15 => k_is); (case c15 => k_is); (case k15 => k_is); (case a16 => k_is); (case l16 => k_is); (case c16 => k_is); (case k16 => k_is); (case a17 => k_is); (case l17 => k_is); (case c17 => k_is); (case k17 => k_is); (case a18 => k_is); (case l18 => k_is); (case c18 => k_is); (case k18 => k_is); (case a19 => k_is); (case l19 => k_is); (case c19 => k_is); (case k19 => k_is); (case a20 => k_is); (case l20 => k_is); (case c20 => k_is); (case k20 => k_is); (case z0 => k_is); (case z1 => k_is); (case z2 => k_is); (case z3 => k_is); (case z4 => k_is); (case z5 => k_is); (case z6 => k_is); (case z7 => k_is); (case z8 => k_is); (case z9 => k_is); (case z10 => k_is)
