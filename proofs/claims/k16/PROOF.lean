import PyProof.Rows.All
import HandS.ForMost
import HandS.Flow
import HandS.IsInst
import HandS.Deep
import HandS.TupAny
import HandS.Text
import HandS.Iter
import HandS.Zip
import HandS.TupMul
import KE.DataCmp
import KE.SortData
import HandS.Conv
import PyProof.Rows.SeqMore
import PyProof.Rows.IntBool
import PyProof.ListStr
import PySem.Challenge.RW_doubtborne_k16_trails_walked
set_option Elab.async false
set_option linter.all false
set_option maxRecDepth 100000
namespace Lk
open PySem PySem.Spec PyProof.Rows L2

abbrev D := PyData
noncomputable def cut (O : Addr → Prop) (H : Hp) : Hp := fun a => open Classical in if O a then none else H a
theorem cut_some {O : Addr → Prop} {H : Hp} {a : Addr} {o : HO} : cut O H a = some o ↔ ¬ O a ∧ H a = some o := by
  unfold cut
  by_cases h : O a <;> simp [h]

def Sub (H H' : Hp) : Prop := ∀ a o, H a = some o → H' a = some o
theorem Sub.refl (H : Hp) : Sub H H := fun _ _ h => h
theorem Sub.trans {A B C : Hp} (a : Sub A B) (b : Sub B C) : Sub A C := fun x o h => b x o (a x o h)
theorem Sub.upd {H : Hp} {p : Addr} {o : HO} (h : H p = none) : Sub H (upd H p o) := fun a u e => by
  rw [upd_ne (ne_of_none e h)]
  exact e
theorem Sub.l {K : PySem.W.Frag} {H H' : Hp} {a : Addr} {xs : List V} (e : Sub H H') (h : SqL K H a xs) : SqL K H' a xs := by
  rcases h with (h | ⟨o, h⟩) | h
  · exact .inl (.inl (e _ _ h))
  · exact .inl (.inr ⟨o, e _ _ h⟩)
  · exact .inr h
theorem Sub.t {K : PySem.W.Frag} {H H' : Hp} {a : Addr} {xs : List V} (e : Sub H H') (h : SqT K H a xs) : SqT K H' a xs := by
  rcases h with (h | ⟨o, h⟩) | h
  · exact .inl (.inl (e _ _ h))
  · exact .inl (.inr ⟨o, e _ _ h⟩)
  · exact .inr h
theorem cut_sub {O : Addr → Prop} {H : Hp} : Sub (cut O H) H := fun _ _ h => (cut_some.mp h).2
mutual
theorem dp_mono {K : PySem.W.Frag} {H H' : Hp} (e : Sub H H') : ∀ (d : D) (v : V), Dp K H v d → Dp K H' v d
  | .none, _, h => by cases h; exact .non
  | .bool b, _, h => by cases h; exact .bl b
  | .int i, _, h => by cases h; exact .int i
  | .str x, _, h => by cases h; exact .str x
  | .list ds, _, h => by
    cases h with
    | lst hs ha => exact .lst (e.l hs) (dpa_mono e ds _ ha)
  | .tuple ds, _, h => by
    cases h with
    | tup hs ha => exact .tup (e.t hs) (dpa_mono e ds _ ha)
  | .dict _, _, h => by cases h
theorem dpa_mono {K : PySem.W.Frag} {H H' : Hp} (e : Sub H H') : ∀ (ds : List D) (vs : List V), DpAll K H vs ds → DpAll K H' vs ds
  | [], _, h => by cases h; exact .nil
  | d :: ds, _, h => by
    cases h with
    | cons h1 h2 => exact .cons (dp_mono e d _ h1) (dpa_mono e ds _ h2)
end
theorem dpa_len {K : PySem.W.Frag} {H : Hp} : ∀ {ds : List D} {vs : List V}, DpAll K H vs ds → vs.length = ds.length
  | [], _, h => by cases h; rfl
  | _ :: ds, _, h => by
    cases h with
    | cons h1 h2 => rw [List.length_cons, List.length_cons, dpa_len h2]
theorem dpa_get {K : PySem.W.Frag} {H : Hp} : ∀ {ds : List D} {vs : List V}, DpAll K H vs ds → ∀ (i : Nat) (v : V), vs[i]? = some v → ∃ d, ds[i]? = some d ∧ Dp K H v d
  | [], _, h, i, v, e => by cases h; simp at e
  | d :: ds, _, h, i, v, e => by
    cases h with
    | cons h1 h2 =>
      cases i with
      | zero => simp at e; subst e; exact ⟨d, rfl, h1⟩
      | succ i => simpa using dpa_get h2 i v (by simpa using e)
theorem dpa_get' {K : PySem.W.Frag} {H : Hp} {ds : List D} {vs : List V} (h : DpAll K H vs ds) {i : Nat} {d : D} (e : ds[i]? = some d) : ∃ v, vs[i]? = some v ∧ Dp K H v d := by
  have hl := dpa_len h
  obtain ⟨hi, _⟩ := List.getElem?_eq_some_iff.mp e
  obtain ⟨d', e', q⟩ := dpa_get h i (vs[i]'(by omega)) (List.getElem?_eq_getElem _)
  rw [e] at e'; cases e'
  exact ⟨_, List.getElem?_eq_getElem _, q⟩
theorem dpa_app {K : PySem.W.Frag} {H : Hp} : ∀ {ds es : List D} {vs us : List V}, DpAll K H vs ds → DpAll K H us es → DpAll K H (vs ++ us) (ds ++ es)
  | [], _, _, _, h, h' => by cases h; exact h'
  | _ :: _, _, _, _, h, h' => by
    cases h with
    | cons h1 h2 => exact .cons h1 (dpa_app h2 h')
theorem dpa_set {K : PySem.W.Frag} {H : Hp} {v : V} {d : D} (q : Dp K H v d) : ∀ {ds : List D} {vs : List V}, DpAll K H vs ds → ∀ (i : Nat), DpAll K H (vs.set i v) (ds.set i d)
  | [], _, h, i => by cases h; exact .nil
  | _ :: _, _, h, i => by
    cases h with
    | cons h1 h2 =>
      cases i with
      | zero => exact .cons q h2
      | succ i => exact .cons h1 (dpa_set q h2 i)
theorem dpa_take {K : PySem.W.Frag} {H : Hp} : ∀ {ds : List D} {vs : List V}, DpAll K H vs ds → ∀ (i : Nat), DpAll K H (vs.take i) (ds.take i)
  | [], _, h, i => by cases h; simp; exact .nil
  | _ :: _, _, h, i => by
    cases h with
    | cons h1 h2 =>
      cases i with
      | zero => exact .nil
      | succ i => exact .cons h1 (dpa_take h2 i)
theorem dpa_drop {K : PySem.W.Frag} {H : Hp} : ∀ {ds : List D} {vs : List V}, DpAll K H vs ds → ∀ (i : Nat), DpAll K H (vs.drop i) (ds.drop i)
  | [], _, h, i => by cases h; simp; exact .nil
  | _ :: _, _, h, i => by
    cases h with
    | cons h1 h2 =>
      cases i with
      | zero => exact .cons h1 h2
      | succ i => exact dpa_drop h2 i

/-- what an object of one's own holds: a list, a dict (keys ints and texts; tuples of such), a set of ints -/
inductive Ct where
  | lst (ds : List D) | dK (kvs : List (Key × D)) | dT (kvs : List (List Key × D))
def KvOk {κ : Type} (K : PySem.W.Frag) (H : Hp) : List (κ × V) → List (κ × D) → Prop
  | [], [] => True
  | (k, v) :: r, (k', d) :: s => k = k' ∧ Dp K H v d ∧ KvOk K H r s
  | _, _ => False
def CtOk (K : PySem.W.Frag) (H : Hp) : HO → Ct → Prop
  | .lst us, .lst ds => DpAll K H us ds
  | .dK kvs, .dK es => KvOk K H kvs es
  | .dT kvs, .dT es => KvOk K H kvs es
  | _, _ => False
theorem kv_mono {κ : Type} {K : PySem.W.Frag} {H H' : Hp} (e : Sub H H') : ∀ {a : List (κ × V)} {b : List (κ × D)}, KvOk K H a b → KvOk K H' a b
  | [], [], _ => trivial
  | (_, v) :: r, (_, d) :: s, h => ⟨h.1, dp_mono e d v h.2.1, kv_mono e h.2.2⟩
  | [], _ :: _, h => h.elim
  | _ :: _, [], h => h.elim
theorem ct_mono {K : PySem.W.Frag} {H H' : Hp} (e : Sub H H') {o : HO} {c : Ct} (h : CtOk K H o c) : CtOk K H' o c := by
  cases o <;> cases c <;> first | exact h.elim | exact dpa_mono e _ _ h | exact kv_mono e h
theorem ct_lst {K : PySem.W.Frag} {H : Hp} {o : HO} {ds : List D} (h : CtOk K H o (.lst ds)) : ∃ us, o = .lst us ∧ DpAll K H us ds := by
  cases o <;> first | exact ⟨_, rfl, h⟩ | exact h.elim
/-- a place of the def: forgotten, a value, an object of its own that may change (true: it came as an argument) -/
inductive Sl where
  | non | val (d : D) | own (b : Bool) (c : Ct)
abbrev Rho := List Sl
structure Wd where
  H0 : Hp
  B : Addr → Prop
  ioL : List (Nat × Addr)
def Wd.io (W : Wd) (a : Addr) : Prop := ∃ i, (i, a) ∈ W.ioL

structure Mt (K : PySem.W.Frag) (W : Wd) (ρ : Rho) (σ : L2.St) (H : Hp) (O : Addr → Prop) : Prop where
  len : σ.length = ρ.length
  val : ∀ (i : Nat) d, ρ[i]? = some (Sl.val d) → ∃ v, σ[i]? = some (some v) ∧ Dp K (cut O H) v d
  own : ∀ (i : Nat) b ds, ρ[i]? = some (Sl.own b ds) → ∃ p us, σ[i]? = some (some (V.ref p)) ∧ O p ∧ H p = some us ∧ CtOk K (cut O H) us ds ∧ (b = false → W.H0 p = none) ∧ (b = true → W.io p)
  apart : ∀ (i j : Nat) b c ds es p, i ≠ j → ρ[i]? = some (Sl.own b ds) → ρ[j]? = some (Sl.own c es) → σ[i]? = some (some (V.ref p)) → σ[j]? ≠ some (some (V.ref p))
  ios : ∀ q ∈ W.ioL, σ[q.1]? = some (some (V.ref q.2)) ∧ ∃ ds, ρ[q.1]? = some (Sl.own true ds)
  ex : ∀ a, O a → ∃ o, H a = some o
  keep : ∀ a o, W.H0 a = some o → ¬ W.io a → H a = some o
  sub : ∀ a, W.B a → O a
  new : ∀ a, O a → W.B a ∨ W.H0 a = none
  wf1 : ∀ a, W.B a → ∃ o, W.H0 a = some o
  wf2 : ∀ a, W.io a → W.B a
  old : ∀ a o, W.H0 a = some o → ∃ o', H a = some o'

/-- what is not one's own stays -/
def Ext (H : Hp) (O : Addr → Prop) (H' : Hp) (O' : Addr → Prop) : Prop := ∀ a o, H a = some o → ¬ O a → H' a = some o ∧ ¬ O' a
theorem Ext.refl (H : Hp) (O : Addr → Prop) : Ext H O H O := fun _ _ h h' => ⟨h, h'⟩
theorem Ext.trans {H H1 H2 : Hp} {O O1 O2 : Addr → Prop} (a : Ext H O H1 O1) (b : Ext H1 O1 H2 O2) : Ext H O H2 O2 := fun x o h n => let ⟨h1, n1⟩ := a x o h n; b x o h1 n1
theorem Ext.sub {H H' : Hp} {O O' : Addr → Prop} (e : Ext H O H' O') : Sub (cut O H) (cut O' H') := fun a o h => by
  obtain ⟨n, h⟩ := cut_some.mp h
  obtain ⟨h1, n1⟩ := e a o h n
  exact cut_some.mpr ⟨n1, h1⟩
theorem Ext.grow {H H' : Hp} {O : Addr → Prop} (e : Sub H H') : Ext H O H' O := fun a o h n => ⟨e a o h, n⟩
theorem cut_grow {H H' : Hp} {O : Addr → Prop} (e : Sub H H') : Sub (cut O H) (cut O H') := (Ext.grow e).sub

section
variable {K : PySem.W.Frag} {W : Wd} {ρ : Rho} {σ : L2.St} {H H' : Hp} {O : Addr → Prop}
theorem Mt.grow (M : Mt K W ρ σ H O) (e : Sub H H') : Mt K W ρ σ H' O where
  len := M.len
  val := fun i d h => let ⟨v, a, b⟩ := M.val i d h; ⟨v, a, dp_mono (cut_grow e) _ _ b⟩
  own := fun i b ds h => let ⟨p, us, a, b, c, d, e1⟩ := M.own i b ds h; ⟨p, us, a, b, e _ _ c, ct_mono (cut_grow e) d, e1⟩
  apart := M.apart
  ios := M.ios
  ex := fun a h => let ⟨o, q⟩ := M.ex a h; ⟨o, e _ _ q⟩
  keep := fun a o h n => e _ _ (M.keep a o h n)
  sub := M.sub
  new := M.new
  wf1 := M.wf1
  wf2 := M.wf2
  old := fun a o h => let ⟨o', q⟩ := M.old a o h; ⟨o', e _ _ q⟩
theorem Mt.fresh (M : Mt K W ρ σ H O) {p : Addr} (h : H p = none) : ¬ O p := fun q => by
  obtain ⟨o, e⟩ := M.ex p q
  rw [h] at e; cases e
end

/-! ### expressions -/
def wE (X : Cx) (e : Expr) : TE := fun σ H Q => ∀ pins s, Inv X pins σ H s → wpAny (model X.prog X.w) X.A (eval e X.env) (EP X pins σ Q) X.xe s
theorem pe_w {X : Cx} {e : Expr} : PE X e (wE X e) := ⟨fun pins s σ H Q I h => h pins s I⟩
theorem _root_.L2.PE.w {X : Cx} {e : Expr} {t : TE} (h : PE X e t) {σ : L2.St} {H : Hp} {Q : VK} (q : t σ H Q) : wE X e σ H Q := fun pins s I => h.run pins s σ H Q I q
def wT (X : Cx) (e : Expr) : TT := fun σ H Q => ∀ pins s, Inv X pins σ H s → wpAny (model X.prog X.w) X.A (isTrue e X.env (eval e X.env)) (TP X pins σ Q) X.xe s
theorem pt_w {X : Cx} {e : Expr} : PT X e (wT X e) := ⟨fun pins s σ H Q I h => h pins s I⟩
theorem _root_.L2.PT.w {X : Cx} {e : Expr} {t : TT} (h : PT X e t) {σ : L2.St} {H : Hp} {Q : Bool → Hp → Prop} (q : t σ H Q) : wT X e σ H Q := fun pins s I => h.run pins s σ H Q I q
def wW (X : Cx) (e : Expr) : TT := fun σ H Q => ∀ whole pins s, Inv X pins σ H s → wpAny (model X.prog X.w) X.A (isTrue e X.env whole) (TP X pins σ Q) X.xe s
theorem pw_w {X : Cx} {e : Expr} : PW X e (wW X e) := ⟨fun whole pins s σ H Q I h => h whole pins s I⟩
theorem _root_.L2.PW.w {X : Cx} {e : Expr} {t : TT} (h : PW X e t) {σ : L2.St} {H : Hp} {Q : Bool → Hp → Prop} (q : t σ H Q) : wW X e σ H Q := fun whole pins s I => h.run whole pins s σ H Q I q
def wA (X : Cx) (es : List Expr) : TA := fun σ H Q => ∀ pos pins s, Inv X pins σ H s → wpAny (model X.prog X.w) X.A (spliced (backTo pos (starEach es X.env))) (AP X pins σ Q) X.xe s
theorem pa_w {X : Cx} {es : List Expr} : PA X es (wA X es) := ⟨fun pos pins s σ H Q I h => h pos pins s I⟩
theorem _root_.L2.PA.w {X : Cx} {es : List Expr} {t : TA} (h : PA X es t) {σ : L2.St} {H : Hp} {Q : List V → Hp → Prop} (q : t σ H Q) : wA X es σ H Q := fun pos pins s I => h.run pos pins s σ H Q I q

def EX (X : Cx) (e : Expr) (ρ : Rho) (k : D → Rho → Prop) : Prop :=
  ∀ W σ H O, Mt X.K W ρ σ H O → ∀ Q : VK, (∀ v d ρ' H' O', Mt X.K W ρ' σ H' O' → Ext H O H' O' → Dp X.K (cut O' H') v d → k d ρ' → Q v H') → wE X e σ H Q
def TX (X : Cx) (e : Expr) (ρ : Rho) (k : Bool → Rho → Prop) : Prop :=
  ∀ W σ H O, Mt X.K W ρ σ H O → ∀ Q : Bool → Hp → Prop, (∀ b ρ' H' O', Mt X.K W ρ' σ H' O' → Ext H O H' O' → k b ρ' → Q b H') → wT X e σ H Q
def WX (X : Cx) (e : Expr) (ρ : Rho) (k : Bool → Rho → Prop) : Prop :=
  ∀ W σ H O, Mt X.K W ρ σ H O → ∀ Q : Bool → Hp → Prop, (∀ b ρ' H' O', Mt X.K W ρ' σ H' O' → Ext H O H' O' → k b ρ' → Q b H') → wW X e σ H Q

section
variable {X : Cx} {ρ : Rho} {k : D → Rho → Prop} {pos : Pos} {a b : Expr}
theorem x_var {i : Nat} {x : Str} {d : D} (hN : X.N[i]? = some x) (hv : Vis X.env.scope x) (hs : ρ[i]? = some (Sl.val d)) (hk : k d ρ)
    (hd : (x == ("__debug__" : Str)) = false := by decide) (hcd : (x == ("__classdict__" : Str)) = false := by decide) : EX X (.Name x pos) ρ k := fun W σ H O M Q q => by
  obtain ⟨v, e, r⟩ := M.val i d hs
  exact (pe_var hN hv hd hcd).w ⟨v, e, q v d ρ H O M (Ext.refl _ _) r hk⟩
theorem x_int {i : Int} {j : Nat} (hk : k (.int i) ρ) : EX X (.Constant (.int i) j pos) ρ k := fun W σ H O M Q q =>
  pe_int.w (q _ _ ρ H O M (Ext.refl _ _) (.int i) hk)
theorem x_bl {i : Bool} {j : Nat} (hk : k (.bool i) ρ) : EX X (.Constant (.bool i) j pos) ρ k := fun W σ H O M Q q =>
  pe_bl.w (q _ _ ρ H O M (Ext.refl _ _) (.bl i) hk)
theorem x_non {j : Nat} (hk : k .none ρ) : EX X (.Constant .none j pos) ρ k := fun W σ H O M Q q =>
  pe_non.w (q _ _ ρ H O M (Ext.refl _ _) .non hk)
theorem x_str {i : Str} {j : Nat} (hk : k (.str i) ρ) : EX X (.Constant (.str i) j pos) ρ k := fun W σ H O M Q q =>
  pe_str.w (q _ _ ρ H O M (Ext.refl _ _) (.str i) hk)
/-- a module's constant -/
theorem x_glob {x : Str} {u : Value} {v : V} {d : D} (hg : Gl X x) (hm : X.mg x = some u) (r : RelV v u) (hd : ∀ H, Dp X.K H v d) (hk : k d ρ) (hdb : (x == ("__debug__" : Str)) = false := by decide) : EX X (.Name x pos) ρ k := fun W σ H O M Q q =>
  (pe_glob hg hm r hdb).w (q v d ρ H O M (Ext.refl _ _) (hd _) hk)

/-! two-place operations, by what they are worth -/
def wOp (X : Cx) (f : Value → Value → Sem Value) : R2 := fun x y H Q => ∀ pins s σ v u, Inv X pins σ H s → RelV x v → RelV y u → wpAny (model X.prog X.w) X.A (f v u) (EP X pins σ Q) X.xe s
theorem op_w {f : Value → Value → Sem Value} : OpR X f (wOp X f) := fun pins s σ H x y v u Q I rx ry h => h pins s σ v u I rx ry
theorem OpRw {f : Value → Value → Sem Value} {r : R2} (h : OpR X f r) {x y : V} {H : Hp} {Q : VK} (q : r x y H Q) : wOp X f x y H Q := fun pins s σ v u I rx ry => h pins s σ H x y v u Q I rx ry q
def OpD (X : Cx) (f : Value → Value → Sem Value) (dx dy dz : D) : Prop :=
  ∀ (H : Hp) (O : Addr → Prop) (x y : V) (Q : VK), (∀ a, O a → ∃ o, H a = some o) → Dp X.K (cut O H) x dx → Dp X.K (cut O H) y dy → (∀ z H', Sub H H' → Dp X.K (cut O H') z dz → Q z H') → wOp X f x y H Q
theorem x_bin {op : Operator} (h : EX X a ρ fun dx ρ1 => EX X b ρ1 fun dy ρ2 => ∃ dz, OpD X (binaryOp op) dx dy dz ∧ k dz ρ2) : EX X (.BinOp a op b pos) ρ k := fun W σ H O M Q q =>
  (pe_op op_w pe_w pe_w).w (h W σ H O M _ fun x dx ρ1 H1 O1 M1 E1 rx h1 => h1 W σ H1 O1 M1 _ fun y dy ρ2 H2 O2 M2 E2 ry h2 => by
    obtain ⟨dz, ho, hk⟩ := h2
    exact ho H2 O2 x y Q M2.ex (dp_mono E2.sub _ _ rx) ry fun z H' hs hz => q z dz ρ2 H' O2 (M2.grow hs) ((E1.trans E2).trans (Ext.grow hs)) hz hk)
theorem x_cmp {op : CmpOp} (hm : behindInMarks op b = false) (h : EX X a ρ fun dx ρ1 => EX X b ρ1 fun dy ρ2 => ∃ dz, OpD X (compareOp op) dx dy dz ∧ k dz ρ2) : EX X (.Compare a [op] [b] pos) ρ k := fun W σ H O M Q q =>
  (pe_cmpR op_w pe_w pe_w hm).w (h W σ H O M _ fun x dx ρ1 H1 O1 M1 E1 rx h1 => h1 W σ H1 O1 M1 _ fun y dy ρ2 H2 O2 M2 E2 ry h2 => by
    obtain ⟨dz, ho, hk⟩ := h2
    exact ho H2 O2 x y Q M2.ex (dp_mono E2.sub _ _ rx) ry fun z H' hs hz => q z dz ρ2 H' O2 (M2.grow hs) ((E1.trans E2).trans (Ext.grow hs)) hz hk)
theorem t_cmp {op : CmpOp} {k : Bool → Rho → Prop} (hm : behindInMarks op b = false) (h : EX X a ρ fun dx ρ1 => EX X b ρ1 fun dy ρ2 => ∃ c, OpD X (compareOp op) dx dy (.bool c) ∧ k c ρ2) : TX X (.Compare a [op] [b] pos) ρ k := fun W σ H O M Q q =>
  (pt_cmpR op_w pe_w pe_w hm).w (h W σ H O M _ fun x dx ρ1 H1 O1 M1 E1 rx h1 => h1 W σ H1 O1 M1 _ fun y dy ρ2 H2 O2 M2 E2 ry h2 => by
    obtain ⟨c, ho, hk⟩ := h2
    refine ho H2 O2 x y _ M2.ex (dp_mono E2.sub _ _ rx) ry fun z H' hs hz => ?_
    cases hz
    exact ⟨c, rfl, q c ρ2 H' O2 (M2.grow hs) ((E1.trans E2).trans (Ext.grow hs)) hk⟩)
theorem od_I0 {f : Value → Value → Sem Value} {g : Int → Int → V} {x y : Int} {dz : D} (h : OpR X f (rI0 g)) (hz : ∀ H, Dp X.K H (g x y) dz) : OpD X f (.int x) (.int y) dz := fun H O v u Q _ hx hy q => by
  cases hx; cases hy
  exact OpRw h ⟨x, y, rfl, rfl, q _ H (Sub.refl H) (hz _)⟩
theorem od_I {f : Value → Value → Sem Value} {C : Int → Int → Prop} {g : Int → Int → V} {x y : Int} {dz : D} (h : OpR X f (rI C g)) (hc : C x y) (hz : ∀ H, Dp X.K H (g x y) dz) : OpD X f (.int x) (.int y) dz := fun H O v u Q _ hx hy q => by
  cases hx; cases hy
  exact OpRw h ⟨x, y, rfl, rfl, hc, q _ H (Sub.refl H) (hz _)⟩
theorem od_add {x y : Int} : OpD X (binaryOp .Add) (.int x) (.int y) (.int (x + y)) := od_I0 op_add fun _ => .int _
theorem od_sub {x y : Int} : OpD X (binaryOp .Sub) (.int x) (.int y) (.int (x - y)) := od_I0 op_sub fun _ => .int _
theorem od_mulL {x y : Int} (h : -(2 ^ 64) < x ∧ x < 2 ^ 64 := by decide) : OpD X (binaryOp .Mult) (.int x) (.int y) (.int (x * y)) := od_I op_mul (.inl h) fun _ => .int _
theorem od_mulR {x y : Int} (h : -(2 ^ 64) < y ∧ y < 2 ^ 64 := by decide) : OpD X (binaryOp .Mult) (.int x) (.int y) (.int (x * y)) := od_I op_mul (.inr h) fun _ => .int _
theorem od_fdiv {x y : Int} (h : CDiv x y) : OpD X (binaryOp .FloorDiv) (.int x) (.int y) (.int (x / y)) := od_I op_fdiv h fun _ => .int _
theorem od_mod {x y : Int} (h : 0 < y) : OpD X (binaryOp .Mod) (.int x) (.int y) (.int (x % y)) := od_I op_mod h fun _ => .int _
theorem od_lt {x y : Int} : OpD X (compareOp .Lt) (.int x) (.int y) (.bool (decide (x < y))) := od_I0 op_lt fun _ => .bl _
theorem od_le {x y : Int} : OpD X (compareOp .LtE) (.int x) (.int y) (.bool (decide (x ≤ y))) := od_I0 op_le fun _ => .bl _
theorem od_gt {x y : Int} : OpD X (compareOp .Gt) (.int x) (.int y) (.bool (decide (y < x))) := od_I0 op_gt fun _ => .bl _
theorem od_ge {x y : Int} : OpD X (compareOp .GtE) (.int x) (.int y) (.bool (decide (y ≤ x))) := od_I0 op_ge fun _ => .bl _
end
end Lk

set_option Elab.async false
set_option linter.all false
set_option maxRecDepth 100000
namespace Lk
open PySem PySem.Spec PyProof.Rows L2

/-! ### changing what is one's own -/
def isIo : Option Sl → Bool
  | some (.own true _) => true
  | _ => false
section
variable {K : PySem.W.Frag} {W : Wd} {ρ : Rho} {σ : L2.St} {H H' : Hp} {O : Addr → Prop}
theorem Mt.noio (M : Mt K W ρ σ H O) {i : Nat} (h : isIo ρ[i]? = false) : ∀ q ∈ W.ioL, q.1 ≠ i := fun q hq e => by
  obtain ⟨_, ds, h2⟩ := M.ios q hq
  rw [e] at h2
  rw [h2] at h
  cases h
theorem Mt.set (M : Mt K W ρ σ H O) {i : Nat} {v : V} {d : D} (h : isIo ρ[i]? = false) (r : Dp K (cut O H) v d) : Mt K W (ρ.set i (.val d)) (σ.set i (some v)) H O where
  len := by simpa using M.len
  val := fun j e hj => by
    by_cases q : i = j
    · subst q
      have hi : i < ρ.length := by
        obtain ⟨q, _⟩ := List.getElem?_eq_some_iff.mp hj
        simpa using q
      rw [List.getElem?_set_self hi] at hj
      cases hj
      exact ⟨v, by rw [List.getElem?_set_self (by rw [M.len]; exact hi)], r⟩
    · rw [List.getElem?_set_ne q] at hj
      obtain ⟨u, a, b⟩ := M.val j e hj
      exact ⟨u, by rw [List.getElem?_set_ne q]; exact a, b⟩
  own := fun j b ds hj => by
    by_cases q : i = j
    · subst q
      have hi : i < ρ.length := by
        obtain ⟨q, _⟩ := List.getElem?_eq_some_iff.mp hj
        simpa using q
      rw [List.getElem?_set_self hi] at hj
      cases hj
    · rw [List.getElem?_set_ne q] at hj ⊢
      exact M.own j b ds hj
  apart := fun j l b c ds es p hn hj hl => by
    by_cases q : i = j
    · subst q
      have hi : i < ρ.length := by
        obtain ⟨q, _⟩ := List.getElem?_eq_some_iff.mp hj
        simpa using q
      rw [List.getElem?_set_self hi] at hj
      cases hj
    · by_cases q2 : i = l
      · subst q2
        have hi : i < ρ.length := by
          obtain ⟨q, _⟩ := List.getElem?_eq_some_iff.mp hl
          simpa using q
        rw [List.getElem?_set_self hi] at hl
        cases hl
      · rw [List.getElem?_set_ne q] at hj ⊢
        rw [List.getElem?_set_ne q2] at hl ⊢
        exact M.apart j l b c ds es p hn hj hl
  ios := fun q hq => by
    have ne := M.noio h q hq
    rw [List.getElem?_set_ne (Ne.symm ne), List.getElem?_set_ne (Ne.symm ne)]
    exact M.ios q hq
  ex := M.ex
  keep := M.keep
  sub := M.sub
  new := M.new
  wf1 := M.wf1
  wf2 := M.wf2
  old := M.old
/-- what is of one's own is given away -/
theorem Mt.freeze (M : Mt K W ρ σ H O) {i : Nat} {ds : List D} {p : Addr} (h : ρ[i]? = some (Sl.own false (.lst ds))) (hp : σ[i]? = some (some (V.ref p))) :
    Mt K W (ρ.set i (.val (.list ds))) σ H (fun a => O a ∧ a ≠ p) ∧ Ext H O H (fun a => O a ∧ a ≠ p) ∧ Dp K (cut (fun a => O a ∧ a ≠ p) H) (.ref p) (.list ds) := by
  obtain ⟨p', ho, e1, e2, e3, e4, e5, _⟩ := M.own i false (.lst ds) h
  rw [hp] at e1
  cases e1
  obtain ⟨us, rfl, e4⟩ := ct_lst e4
  have hx : Ext H O H (fun a => O a ∧ a ≠ p) := fun a o ho hn => ⟨ho, fun z => hn z.1⟩
  have hi : i < ρ.length := (List.getElem?_eq_some_iff.mp h).1
  have rp : Dp K (cut (fun a => O a ∧ a ≠ p) H) (.ref p) (.list ds) :=
    .lst (SqL.of (cut_some.mpr ⟨fun z => z.2 rfl, e3⟩)) (dpa_mono hx.sub _ _ e4)
  refine ⟨⟨by simpa using M.len, fun j d hj => ?_, fun j b es hj => ?_, fun j l b c ds' es q hn hj hl => ?_, fun q hq => ?_, fun a ha => M.ex a ha.1, M.keep, fun a ha => ⟨M.sub a ha, fun z => ?_⟩, fun a ha => M.new a ha.1, M.wf1, M.wf2, M.old⟩, hx, rp⟩
  · by_cases q : i = j
    · subst q
      rw [List.getElem?_set_self hi] at hj
      cases hj
      exact ⟨_, hp, rp⟩
    · rw [List.getElem?_set_ne q] at hj
      obtain ⟨u, a, b⟩ := M.val j d hj
      exact ⟨u, a, dp_mono hx.sub _ _ b⟩
  · by_cases q : i = j
    · subst q
      rw [List.getElem?_set_self hi] at hj
      cases hj
    · rw [List.getElem?_set_ne q] at hj
      obtain ⟨p2, us2, f1, f2, f3, f4, f5⟩ := M.own j b es hj
      exact ⟨p2, us2, f1, ⟨f2, fun z => M.apart i j _ _ _ _ p q h hj hp (by rw [f1, z])⟩, f3, ct_mono hx.sub f4, f5⟩
  · by_cases q1 : i = j
    · subst q1
      rw [List.getElem?_set_self hi] at hj
      cases hj
    · by_cases q2 : i = l
      · subst q2
        rw [List.getElem?_set_self hi] at hl
        cases hl
      · rw [List.getElem?_set_ne q1] at hj
        rw [List.getElem?_set_ne q2] at hl
        exact M.apart j l b c ds' es q hn hj hl
  · have ne := M.noio (i := i) (by rw [h]; rfl) q hq
    rw [List.getElem?_set_ne (Ne.symm ne)]
    exact M.ios q hq
  · obtain ⟨o, ho⟩ := M.wf1 a ha
    rw [z, e5 rfl] at ho
    cases ho
/-- the list of one's own in slot i has changed -/
theorem Mt.mut (M : Mt K W ρ σ H O) {i : Nat} {b : Bool} {ds es : Ct} {p : Addr} {us : HO} (h : ρ[i]? = some (Sl.own b ds)) (hp : σ[i]? = some (some (V.ref p)))
    (kp : ∀ a o, H a = some o → a ≠ p → H' a = some o) (hp' : H' p = some us) (r : CtOk K (cut O H') us es) : Mt K W (ρ.set i (.own b es)) σ H' O ∧ Ext H O H' O := by
  obtain ⟨p', us', e1, e2, e3, e4, e5, e6⟩ := M.own i b ds h
  rw [hp] at e1
  cases e1
  have hx : Ext H O H' O := fun a o ho hn => ⟨kp a o ho (fun z => hn (by rw [z]; exact e2)), hn⟩
  have hi : i < ρ.length := (List.getElem?_eq_some_iff.mp h).1
  refine ⟨⟨by simpa using M.len, fun j d hj => ?_, fun j c fs hj => ?_, fun j l c1 c2 ds' fs q hn hj hl => ?_, fun q hq => ?_, fun a ha => ?_, fun a o ho hn => ?_, M.sub, M.new, M.wf1, M.wf2, fun a o ho => ?_⟩, hx⟩
  · by_cases q : i = j
    · subst q
      rw [List.getElem?_set_self hi] at hj
      cases hj
    · rw [List.getElem?_set_ne q] at hj
      obtain ⟨u, a, c⟩ := M.val j d hj
      exact ⟨u, a, dp_mono hx.sub _ _ c⟩
  · by_cases q : i = j
    · subst q
      rw [List.getElem?_set_self hi] at hj
      cases hj
      exact ⟨p, us, hp, e2, hp', r, e5, e6⟩
    · rw [List.getElem?_set_ne q] at hj
      obtain ⟨p2, us2, f1, f2, f3, f4, f5⟩ := M.own j c fs hj
      exact ⟨p2, us2, f1, f2, kp _ _ f3 (fun z => M.apart i j _ _ _ _ p q h hj hp (by rw [f1, z])), ct_mono hx.sub f4, f5⟩
  · by_cases q1 : i = j
    · subst q1
      by_cases q2 : i = l
      · exact absurd q2 hn
      · rw [List.getElem?_set_ne q2] at hl
        intro hj'
        have := M.apart i l b c2 ds fs p q2 h hl hp
        exact fun z => this (by rw [z]; exact (hp.symm.trans hj').symm ▸ rfl)
    · rw [List.getElem?_set_ne q1] at hj
      by_cases q2 : i = l
      · subst q2
        exact M.apart j i c1 b ds' ds q hn hj h
      · rw [List.getElem?_set_ne q2] at hl
        exact M.apart j l c1 c2 ds' fs q hn hj hl
  · obtain ⟨h1, ds1, h2⟩ := M.ios q hq
    refine ⟨h1, ?_⟩
    by_cases z : i = q.1
    · rw [← z] at h2 ⊢
      rw [h] at h2
      cases h2
      exact ⟨es, List.getElem?_set_self hi⟩
    · rw [List.getElem?_set_ne z]
      exact ⟨ds1, h2⟩
  · obtain ⟨o, ho⟩ := M.ex a ha
    by_cases z : a = p
    · rw [z]
      exact ⟨_, hp'⟩
    · exact ⟨o, kp a o ho z⟩
  · refine kp a o (M.keep a o ho hn) fun z => ?_
    subst z
    cases b with
    | false => rw [e5 rfl] at ho; cases ho
    | true => exact hn (e6 rfl)
  · obtain ⟨o', ho'⟩ := M.old a o ho
    by_cases z : a = p
    · rw [z]
      exact ⟨_, hp'⟩
    · exact ⟨o', kp a o' ho' z⟩
/-- a new list becomes one's own -/
theorem Mt.adopt (M : Mt K W ρ σ H O) {i : Nat} {ds : Ct} {p : Addr} {us : HO} (h : isIo ρ[i]? = false) (hp : O p) (hn : ∀ (j : Nat) b es, ρ[j]? = some (Sl.own b es) → σ[j]? ≠ some (some (V.ref p))) (h0 : W.H0 p = none)
    (hp' : H p = some us) (r : CtOk K (cut O H) us ds) : Mt K W (ρ.set i (.own false ds)) (σ.set i (some (.ref p))) H O := by
  have hl := M.len
  refine ⟨by simpa using M.len, fun j d hj => ?_, fun j c fs hj => ?_, fun j l c1 c2 ds' fs q hne hj hl' => ?_, fun q hq => ?_, M.ex, M.keep, M.sub, M.new, M.wf1, M.wf2, M.old⟩
  · by_cases q : i = j
    · subst q
      have hi : i < ρ.length := by
        obtain ⟨q, _⟩ := List.getElem?_eq_some_iff.mp hj
        simpa using q
      rw [List.getElem?_set_self hi] at hj
      cases hj
    · rw [List.getElem?_set_ne q] at hj ⊢
      exact M.val j d hj
  · by_cases q : i = j
    · subst q
      have hi : i < ρ.length := by
        obtain ⟨q, _⟩ := List.getElem?_eq_some_iff.mp hj
        simpa using q
      rw [List.getElem?_set_self hi] at hj
      cases hj
      exact ⟨p, us, List.getElem?_set_self (by omega), hp, hp', r, fun _ => h0, fun z => nomatch z⟩
    · rw [List.getElem?_set_ne q] at hj ⊢
      exact M.own j c fs hj
  · by_cases q1 : i = j
    · subst q1
      have hi : i < ρ.length := by
        obtain ⟨q, _⟩ := List.getElem?_eq_some_iff.mp hj
        simpa using q
      rw [List.getElem?_set_self (by omega)]
      intro z
      cases z
      rw [List.getElem?_set_ne hne] at hl' ⊢
      exact hn l _ _ hl'
    · rw [List.getElem?_set_ne q1] at hj ⊢
      by_cases q2 : i = l
      · subst q2
        have hi : i < ρ.length := by
          obtain ⟨q, _⟩ := List.getElem?_eq_some_iff.mp hl'
          simpa using q
        rw [List.getElem?_set_self (by omega)]
        intro z1 z2
        cases z2
        exact hn j _ _ hj z1
      · rw [List.getElem?_set_ne q2] at hl' ⊢
        exact M.apart j l c1 c2 ds' fs q hne hj hl'
  · have ne := M.noio h q hq
    rw [List.getElem?_set_ne (Ne.symm ne), List.getElem?_set_ne (Ne.symm ne)]
    exact M.ios q hq
end

/-! ### forgetting -/
inductive Weak : Rho → Rho → Prop where
  | nil : Weak [] []
  | keep {s : Sl} {a b : Rho} : Weak a b → Weak (s :: a) (s :: b)
  | drop {s : Sl} {a b : Rho} : isIo (some s) = false → Weak a b → Weak (s :: a) (.non :: b)
theorem Weak.refl : ∀ ρ : Rho, Weak ρ ρ
  | [] => .nil
  | _ :: r => .keep (Weak.refl r)
theorem weak_at : ∀ {ρ : Rho} {i : Nat}, i < ρ.length → isIo ρ[i]? = false → Weak ρ (ρ.set i .non)
  | s :: r, 0, _, h => .drop h (Weak.refl r)
  | s :: r, i + 1, hl, h => .keep (weak_at (by simpa using hl) (by simpa using h))
theorem Weak.len : ∀ {ρ ρ' : Rho}, Weak ρ ρ' → ρ.length = ρ'.length
  | _, _, .nil => rfl
  | _, _, .keep h => by rw [List.length_cons, List.length_cons, h.len]
  | _, _, .drop _ h => by rw [List.length_cons, List.length_cons, h.len]
theorem Weak.at : ∀ {ρ ρ' : Rho}, Weak ρ ρ' → ∀ (i : Nat) (s : Sl), ρ'[i]? = some s → ρ[i]? = some s ∨ (s = .non ∧ isIo ρ[i]? = false)
  | _, _, .nil, i, s, h => by simp at h
  | _, _, .keep q, 0, s, h => .inl h
  | _, _, .keep q, i + 1, s, h => by simpa using q.at i s (by simpa using h)
  | _, _, .drop z q, 0, s, h => by
    simp at h
    exact .inr ⟨h.symm, by simpa using z⟩
  | _, _, .drop z q, i + 1, s, h => by simpa using q.at i s (by simpa using h)
theorem Mt.weak {K : PySem.W.Frag} {W : Wd} {ρ ρ' : Rho} {σ : L2.St} {H : Hp} {O : Addr → Prop} (M : Mt K W ρ σ H O) (w : Weak ρ ρ') : Mt K W ρ' σ H O where
  len := M.len.trans w.len
  val := fun i d h => by
    rcases w.at i _ h with q | ⟨q, _⟩
    · exact M.val i d q
    · cases q
  own := fun i b ds h => by
    rcases w.at i _ h with q | ⟨q, _⟩
    · exact M.own i b ds q
    · cases q
  apart := fun i j b c ds es p hn h1 h2 => by
    rcases w.at i _ h1 with q | ⟨q, _⟩
    · rcases w.at j _ h2 with q2 | ⟨q2, _⟩
      · exact M.apart i j b c ds es p hn q q2
      · cases q2
    · cases q
  ios := fun q hq => by
    obtain ⟨h1, ds, h2⟩ := M.ios q hq
    refine ⟨h1, ds, ?_⟩
    have hi : q.1 < ρ'.length := by rw [← w.len]; exact (List.getElem?_eq_some_iff.mp h2).1
    rcases w.at q.1 _ (List.getElem?_eq_getElem hi) with z | ⟨_, z⟩
    · rw [List.getElem?_eq_getElem hi, ← z, h2]
    · rw [h2] at z; cases z
  ex := M.ex
  keep := M.keep
  sub := M.sub
  new := M.new
  wf1 := M.wf1
  wf2 := M.wf2
  old := M.old

/-! ### a new list, argument lists -/
def FX (X : Cx) (e : Expr) (ρ : Rho) (k : Ct → Rho → Prop) : Prop :=
  ∀ W σ H O, Mt X.K W ρ σ H O → ∀ Q : VK, (∀ p us ds ρ' H' O', Mt X.K W ρ' σ H' O' → O' p → (∀ (j : Nat) b es, ρ'[j]? = some (Sl.own b es) → σ[j]? ≠ some (some (V.ref p))) → W.H0 p = none → H' p = some us → CtOk X.K (cut O' H') us ds →
    Ext H O H' O' → k ds ρ' → Q (.ref p) H') → wE X e σ H Q
def AX (X : Cx) (es : List Expr) (ρ : Rho) (k : List D → Rho → Prop) : Prop :=
  ∀ W σ H O, Mt X.K W ρ σ H O → ∀ Q : List V → Hp → Prop, (∀ vs ds ρ' H' O', Mt X.K W ρ' σ H' O' → Ext H O H' O' → DpAll X.K (cut O' H') vs ds → k ds ρ' → Q vs H') → wA X es σ H Q

section
variable {X : Cx} {ρ : Rho} {pos : Pos} {a b e : Expr} {es : List Expr}
theorem Mt.new_list {K : PySem.W.Frag} {W : Wd} {σ : L2.St} {H H' : Hp} {O : Addr → Prop} {p : Addr} {us : HO} (M : Mt K W ρ σ H O) (hp : H p = none) (hs : Sub H H') (hp' : H' p = some us) :
    Mt K W ρ σ H' (fun a => O a ∨ a = p) ∧ Ext H O H' (fun a => O a ∨ a = p) ∧ (∀ (j : Nat) b es, ρ[j]? = some (Sl.own b es) → σ[j]? ≠ some (some (V.ref p))) ∧ W.H0 p = none := by
  have hx : Ext H O H' (fun a => O a ∨ a = p) := fun a o ho hn => ⟨hs a o ho, fun z => by
    rcases z with z | z
    · exact hn z
    · rw [z, hp] at ho; cases ho⟩
  have h0 : W.H0 p = none := by
    cases e : W.H0 p with
    | none => rfl
    | some o =>
      obtain ⟨o', q⟩ := M.old p o e
      rw [hp] at q; cases q
  have M' := M.grow hs
  refine ⟨⟨M'.len, fun i d h => ?_, fun i b ds h => ?_, M'.apart, M'.ios, fun a ha => ?_, M'.keep, fun a ha => .inl (M'.sub a ha), fun a ha => ?_, M'.wf1, M'.wf2, M'.old⟩, hx, fun j b es h z => ?_, h0⟩
  · obtain ⟨v, q, r⟩ := M.val i d h
    exact ⟨v, q, dp_mono hx.sub _ _ r⟩
  · obtain ⟨p', us', q1, q2, q3, q4, q5⟩ := M.own i b ds h
    exact ⟨p', us', q1, .inl q2, hs _ _ q3, ct_mono hx.sub q4, q5⟩
  · rcases ha with ha | ha
    · exact M'.ex a ha
    · rw [ha]; exact ⟨_, hp'⟩
  · rcases ha with ha | ha
    · exact M'.new a ha
    · rw [ha]; exact .inr h0
  · obtain ⟨p', us', q1, q2, q3, _⟩ := M.own j b es h
    rw [z] at q1
    cases q1
    rw [hp] at q3; cases q3
/-- a new list as a value -/
theorem x_frL {k : D → Rho → Prop} (h : FX X e ρ fun c ρ1 => ∃ ds, c = .lst ds ∧ k (.list ds) ρ1) : EX X e ρ k := fun W σ H O M Q q =>
  h W σ H O M _ fun p us c ρ' H' O' M' hp hn h0 hl r hx ⟨ds, hc, hk⟩ => by
    subst hc
    obtain ⟨us, rfl, r⟩ := ct_lst r
    have hx2 : Ext H' O' H' (fun a => O' a ∧ a ≠ p) := fun a o ho hn => ⟨ho, fun z => hn z.1⟩
    refine q _ _ ρ' H' (fun a => O' a ∧ a ≠ p) ⟨M'.len, fun i d h => ?_, fun i b ds h => ?_, M'.apart, M'.ios, fun a ha => M'.ex a ha.1, M'.keep, fun a ha => ⟨M'.sub a ha, fun z => ?_⟩, fun a ha => M'.new a ha.1, M'.wf1, M'.wf2, M'.old⟩ (hx.trans hx2)
      (.lst (SqL.of (cut_some.mpr ⟨fun z => z.2 rfl, hl⟩)) (dpa_mono hx2.sub _ _ r)) hk
    · obtain ⟨v, q, r⟩ := M'.val i d h
      exact ⟨v, q, dp_mono hx2.sub _ _ r⟩
    · obtain ⟨p', us', q1, q2, q3, q4, q5⟩ := M'.own i b ds h
      exact ⟨p', us', q1, ⟨q2, fun z => hn i b ds h (by rw [q1, z])⟩, q3, ct_mono hx2.sub q4, q5⟩
    · obtain ⟨o, ho⟩ := M'.wf1 a ha
      rw [z, h0] at ho; cases ho
theorem a_nil {k : List D → Rho → Prop} (hk : k [] ρ) : AX X [] ρ k := fun W σ H O M Q q => pa_nil.w (q [] [] ρ H O M (Ext.refl _ _) .nil hk)
theorem a_cons {k : List D → Rho → Prop} (h : EX X e ρ fun d ρ1 => AX X es ρ1 fun ds ρ2 => k (d :: ds) ρ2) (hs : starEach (e :: es) X.env = (false, eval e X.env) :: starEach es X.env := by rfl) : AX X (e :: es) ρ k := fun W σ H O M Q q =>
  (pa_cons pe_w pa_w hs).w (h W σ H O M _ fun v d ρ1 H1 O1 M1 E1 r1 h1 => h1 W σ H1 O1 M1 _ fun vs ds ρ2 H2 O2 M2 E2 r2 h2 =>
    q (v :: vs) (d :: ds) ρ2 H2 O2 M2 (E1.trans E2) (.cons (dp_mono E2.sub _ _ r1) r2) h2)
/-- (a, b, ..) -/
theorem x_tup {k : D → Rho → Prop} {x1} (h : AX X es ρ fun ds ρ1 => ds.length ≤ 1000 ∧ k (.tuple ds) ρ1) : EX X (.Tuple es x1 pos) ρ k := fun W σ H O M Q q =>
  (pe_tup pa_w).w (h W σ H O M _ fun vs ds ρ1 H1 O1 M1 E1 r1 ⟨hl, hk⟩ => by
    refine ⟨?_, fun p hp => ?_⟩
    · have e := dpa_len r1
      exact Nat.le_of_lt (small1000 (by omega))
    · have hs : Sub H1 (upd H1 p (.tup vs)) := Sub.upd hp
      refine q _ _ ρ1 _ O1 (M1.grow hs) (E1.trans (Ext.grow hs)) (.tup (SqT.of (cut_some.mpr ⟨M1.fresh hp, upd_same⟩)) (dpa_mono (cut_grow hs) _ _ r1)) hk)
/-- [a, b, ..] -/
theorem f_lst {k : Ct → Rho → Prop} (h : AX X es ρ fun ds ρ1 => ds.length ≤ 1000 ∧ k (.lst ds) ρ1) : FX X (.List es pos) ρ k := fun W σ H O M Q q =>
  (pe_lst pa_w).w (h W σ H O M _ fun vs ds ρ1 H1 O1 M1 E1 r1 ⟨hl, hk⟩ => by
    refine ⟨?_, fun p hp => ?_⟩
    · have e := dpa_len r1
      exact Nat.le_of_lt (small1000 (by omega))
    · have hs : Sub H1 (upd H1 p (.lst vs)) := Sub.upd hp
      obtain ⟨M2, E2, n2, h0⟩ := M1.new_list hp hs upd_same
      exact q p (.lst vs) (.lst ds) ρ1 _ _ M2 (.inr rfl) n2 h0 upd_same (dpa_mono E2.sub _ _ r1) (E1.trans E2) hk)
/-- a list of one's own as a value: it is given away -/
theorem x_frz {k : D → Rho → Prop} {i : Nat} {x : Str} {ds : List D} (hN : X.N[i]? = some x) (hv : Vis X.env.scope x) (hs : ρ[i]? = some (Sl.own false (.lst ds))) (hk : k (.list ds) (ρ.set i (.val (.list ds))))
    (hd : (x == ("__debug__" : Str)) = false := by decide) (hcd : (x == ("__classdict__" : Str)) = false := by decide) : EX X (.Name x pos) ρ k := fun W σ H O M Q q => by
  obtain ⟨p, us, e, _⟩ := M.own i false (.lst ds) hs
  obtain ⟨M2, E2, r⟩ := M.freeze hs e
  exact (pe_var hN hv hd hcd).w ⟨_, e, q _ _ _ H _ M2 E2 r hk⟩
end

/-! ### statements -/
def wS (X : Cx) (st : Stmt) : TS := fun Dn σ H => ∀ pins s, Inv X pins σ H s → wpAny (model X.prog X.w) X.A (exec st X.env) (SP X pins Dn) X.xe s
theorem ps_w {X : Cx} {st : Stmt} : PS X st (wS X st) := ⟨fun pins s σ H Dn I h => h pins s I⟩
theorem _root_.L2.PS.w {X : Cx} {st : Stmt} {t : TS} (h : PS X st t) {σ : L2.St} {H : Hp} {Dn : Ends} (q : t Dn σ H) : wS X st Dn σ H := fun pins s I => h.run pins s σ H Dn I q
def wSs (X : Cx) (st : List Stmt) : TS := fun Dn σ H => ∀ pins s, Inv X pins σ H s → wpAny (model X.prog X.w) X.A (execs st X.env) (SP X pins Dn) X.xe s
theorem pss_w {X : Cx} {st : List Stmt} : PSs X st (wSs X st) := ⟨fun pins s σ H Dn I h => h pins s I⟩
theorem _root_.L2.PSs.w {X : Cx} {st : List Stmt} {t : TS} (h : PSs X st t) {σ : L2.St} {H : Hp} {Dn : Ends} (q : t Dn σ H) : wSs X st Dn σ H := fun pins s I => h.run pins s σ H Dn I q

/-- what is wanted behind a statement -/
structure Wish where
  nx : Rho → Prop
  rt : D → Rho → Prop
  bk : Rho → Prop := fun _ => False
  ct : Rho → Prop := fun _ => False
  /-- a new object of one's own is handed back -/
  rf : Ct → Rho → Prop := fun _ _ => False
structure EndsOk (K : PySem.W.Frag) (W : Wd) (H : Hp) (O : Addr → Prop) (N : Wish) (Dn : Ends) : Prop where
  nx : ∀ ρ' σ' H' O', Mt K W ρ' σ' H' O' → Ext H O H' O' → N.nx ρ' → Dn.nx σ' H'
  rt : ∀ v d ρ' σ' H' O', Mt K W ρ' σ' H' O' → Ext H O H' O' → Dp K (cut O' H') v d → N.rt d ρ' → Dn.rt v H'
  bk : ∀ ρ' σ' H' O', Mt K W ρ' σ' H' O' → Ext H O H' O' → N.bk ρ' → Dn.bk σ' H'
  ct : ∀ ρ' σ' H' O', Mt K W ρ' σ' H' O' → Ext H O H' O' → N.ct ρ' → Dn.ct σ' H'
  rf : ∀ p us c ρ' σ' H' O', Mt K W ρ' σ' H' O' → Ext H O H' O' → O' p → (∀ (j : Nat) b es, ρ'[j]? = some (Sl.own b es) → σ'[j]? ≠ some (some (V.ref p))) → W.H0 p = none → H' p = some us → CtOk K (cut O' H') us c → N.rf c ρ' → Dn.rt (.ref p) H'
theorem EndsOk.ext {K : PySem.W.Frag} {W : Wd} {H H1 : Hp} {O O1 : Addr → Prop} {N : Wish} {Dn : Ends} (h : EndsOk K W H O N Dn) (e : Ext H O H1 O1) : EndsOk K W H1 O1 N Dn where
  nx := fun ρ' σ' H' O' M x => h.nx ρ' σ' H' O' M (e.trans x)
  rt := fun v d ρ' σ' H' O' M x => h.rt v d ρ' σ' H' O' M (e.trans x)
  bk := fun ρ' σ' H' O' M x => h.bk ρ' σ' H' O' M (e.trans x)
  ct := fun ρ' σ' H' O' M x => h.ct ρ' σ' H' O' M (e.trans x)
  rf := fun p us c ρ' σ' H' O' M x => h.rf p us c ρ' σ' H' O' M (e.trans x)
def SX (X : Cx) (st : Stmt) (ρ : Rho) (N : Wish) : Prop := ∀ W σ H O, Mt X.K W ρ σ H O → ∀ Dn : Ends, EndsOk X.K W H O N Dn → wS X st Dn σ H
def SXs (X : Cx) (st : List Stmt) (ρ : Rho) (N : Wish) : Prop := ∀ W σ H O, Mt X.K W ρ σ H O → ∀ Dn : Ends, EndsOk X.K W H O N Dn → wSs X st Dn σ H
section
variable {X : Cx} {ρ : Rho} {pos : Pos} {e c : Expr} {st : Stmt} {rest A B : List Stmt} {N : Wish}
theorem ss_nil (h : N.nx ρ) : SXs X [] ρ N := fun W σ H O M Dn q => pss_nil.w (q.nx ρ σ H O M (Ext.refl _ _) h)
theorem ss_cons (h : SX X st ρ { N with nx := fun ρ1 => SXs X rest ρ1 N }) : SXs X (st :: rest) ρ N := fun W σ H O M Dn q =>
  (pss_cons ps_w pss_w).w (h W σ H O M _ ⟨fun ρ' σ' H' O' M' x h' => h' W σ' H' O' M' Dn (q.ext x), q.rt, q.bk, q.ct, q.rf⟩)
/-- behind a statement something is gathered -/
theorem ss_join {P : Rho → Prop} (h : SX X st ρ { N with nx := P }) (h2 : ∀ ρ1, P ρ1 → SXs X rest ρ1 N) : SXs X (st :: rest) ρ N := ss_cons fun W σ H O M Dn q =>
  h W σ H O M Dn ⟨fun ρ' σ' H' O' M' x h' => q.nx ρ' σ' H' O' M' x (h2 ρ' h'), q.rt, q.bk, q.ct, q.rf⟩
theorem ss_weak {ρ' : Rho} (w : Weak ρ ρ') (h : SXs X rest ρ' N) : SXs X rest ρ N := fun W σ H O M Dn q => h W σ H O (M.weak w) Dn q
theorem s_set {i : Nat} {x : Str} {pos' : Pos} (hN : X.N.Nodup) (hi : X.N[i]? = some x) (hx : Loc X.env.scope x) (h : EX X e ρ fun d ρ1 => isIo ρ1[i]? = false ∧ N.nx (ρ1.set i (.val d)))
    (hs : swapsWith e (some (.Name x pos')) pos.line X.env = pure false := by rfl) (hf : X.fn x = true ∨ X.env.scope.names.lookup x = some .local := by first | exact .inl rfl | exact .inr rfl | assumption) :
    SX X (.Assign [.Name x pos'] e pos) ρ N := fun W σ H O M Dn q =>
  (ps_set hN hi hx pe_w hs hf).w (h W σ H O M _ fun v d ρ1 H1 O1 M1 E1 r ⟨h1, hk⟩ => q.nx _ _ H1 O1 (M1.set h1 r) E1 hk)
theorem s_setO {i : Nat} {x : Str} {pos' : Pos} (hN : X.N.Nodup) (hi : X.N[i]? = some x) (hx : Loc X.env.scope x) (h : FX X e ρ fun ds ρ1 => isIo ρ1[i]? = false ∧ N.nx (ρ1.set i (.own false ds)))
    (hs : swapsWith e (some (.Name x pos')) pos.line X.env = pure false := by rfl) (hf : X.fn x = true ∨ X.env.scope.names.lookup x = some .local := by first | exact .inl rfl | exact .inr rfl | assumption) :
    SX X (.Assign [.Name x pos'] e pos) ρ N := fun W σ H O M Dn q =>
  (ps_set hN hi hx pe_w hs hf).w (h W σ H O M _ fun p us ds ρ1 H1 O1 M1 hp hn h0 hl r E1 ⟨h1, hk⟩ => q.nx _ _ H1 O1 (M1.adopt h1 hp hn h0 hl r) E1 hk)
theorem s_ret (h : EX X e ρ N.rt) : SX X (.Return (some e) pos) ρ N := fun W σ H O M Dn q =>
  (ps_ret pe_w).w (h W σ H O M _ fun v d ρ1 H1 O1 M1 E1 r hk => q.rt v d ρ1 σ H1 O1 M1 E1 r hk)
theorem s_retF (h : FX X e ρ N.rf) : SX X (.Return (some e) pos) ρ N := fun W σ H O M Dn q =>
  (ps_ret pe_w).w (h W σ H O M _ fun p us c ρ1 H1 O1 M1 hp hn h0 hl r E1 hk => q.rf p us c ρ1 σ H1 O1 M1 E1 hp hn h0 hl r hk)
/-- a list of one's own is handed back as such -/
theorem s_retO {i : Nat} {x : Str} {py : Pos} {c : Ct} (hN : X.N[i]? = some x) (hv : Vis X.env.scope x) (hs : ρ[i]? = some (Sl.own false c)) (hi : N.rf c (ρ.set i .non))
    (hd : (x == ("__debug__" : Str)) = false := by decide) (hcd : (x == ("__classdict__" : Str)) = false := by decide) : SX X (.Return (some (.Name x py)) pos) ρ N := fun W σ H O M Dn q => by
  obtain ⟨p, us, e1, e2, e3, e4, e5, _⟩ := M.own i false c hs
  have hlt : i < ρ.length := (List.getElem?_eq_some_iff.mp hs).1
  refine (ps_ret (pe_var hN hv hd hcd)).w ⟨_, e1, q.rf p us c (ρ.set i .non) σ H O (M.weak (weak_at hlt (by rw [hs]; rfl))) (Ext.refl _ _) e2 (fun j b es hj z => ?_) (e5 rfl) e3 e4 hi⟩
  by_cases q : i = j
  · subst q
    rw [List.getElem?_set_self hlt] at hj
    cases hj
  · rw [List.getElem?_set_ne q] at hj
    exact M.apart i j _ _ _ _ p q hs hj e1 z
theorem s_if (h : TX X c ρ fun b ρ1 => (b = true → SXs X A ρ1 N) ∧ (b = false → SXs X B ρ1 N)) : SX X (.If c A B pos) ρ N := fun W σ H O M Dn q =>
  (ps_if pt_w pss_w pss_w).w (h W σ H O M _ fun b ρ1 H1 O1 M1 E1 ⟨h1, h2⟩ => by
    cases b with
    | true => exact h1 rfl W σ H1 O1 M1 Dn (q.ext E1)
    | false => exact h2 rfl W σ H1 O1 M1 Dn (q.ext E1))
theorem s_break (h : N.bk ρ) : SX X (.Break pos) ρ N := fun W σ H O M Dn q => ps_break.w (q.bk ρ σ H O M (Ext.refl _ _) h)
theorem s_cont (h : N.ct ρ) : SX X (.Continue pos) ρ N := fun W σ H O M Dn q => ps_continue.w (q.ct ρ σ H O M (Ext.refl _ _) h)
theorem s_pass (h : N.nx ρ) : SX X (.Pass pos) ρ N := fun W σ H O M Dn q => ps_pass.w (q.nx ρ σ H O M (Ext.refl _ _) h)
theorem s_expr (h : EX X e ρ fun _ ρ1 => N.nx ρ1) (hs : swapsWith e none pos.line X.env = pure false := by rfl) : SX X (.Expr e pos) ρ N := fun W σ H O M Dn q =>
  (ps_expr pe_w hs).w (h W σ H O M _ fun v d ρ1 H1 O1 M1 E1 r hk => q.nx ρ1 σ H1 O1 M1 E1 hk)
end

/-! ### what a def promises -/
def SpP (K : PySem.W.Frag) (Rel : List D → D → Prop) : Sp := fun vs H Q _ => ∃ (O : Addr → Prop) (ds : List D) (d : D), DpAll K (cut O H) vs ds ∧ (∀ a, O a → ∃ o, H a = some o) ∧ Rel ds d ∧ ∀ v H', Sub H H' → Dp K (cut O H') v d → Q v H'
def SpO (K : PySem.W.Frag) (Rel : Ct → List D → D → Ct → Prop) : Sp := fun vs H Q _ => ∃ (O : Addr → Prop) (p : Addr) (us : HO) (vr : List V) (d0 : Ct) (ds : List D) (d : D) (d1 : Ct), vs = .ref p :: vr ∧ O p ∧ H p = some us ∧ CtOk K (cut O H) us d0 ∧ DpAll K (cut O H) vr ds ∧
  (∀ a, O a → ∃ o, H a = some o) ∧ Rel d0 ds d d1 ∧ ∀ v H' us', (∀ a o, H a = some o → a ≠ p → H' a = some o) → H' p = some us' → CtOk K (cut O H') us' d1 → Dp K (cut O H') v d → Q v H'
section
variable {P : Program} {w : World} {K : PySem.W.Frag} {mg : Str → Option Value} {base : Heap}
/-- the context of a def's body -/
abbrev bx (P : Program) (w : World) (K : PySem.W.Frag) (mg : Str → Option Value) (base : Heap) (N : List Str) (qual : Str) (st : Stmt) (f : Addr) (cdv : Value) (A : Around) (outer : List Env) (s : Shared) (H : Hp) (E : XK) : Cx :=
  (cxOf CX0 P w K mg base N qual (defScope st) f cdv A outer s H E).nox
theorem start_get {N : List Str} {vs : List V} {i : Nat} {v : V} (h : vs[i]? = some v) : (L2.start N vs)[i]? = some (some v) := by
  unfold L2.start
  have hi : i < vs.length := (List.getElem?_eq_some_iff.mp h).1
  rw [List.getElem?_append_left (by simpa using hi), List.getElem?_map, h]
  rfl
theorem start_len {N : List Str} {vs : List V} (h : vs.length ≤ N.length) : (L2.start N vs).length = N.length := by
  unfold L2.start
  rw [List.length_append, List.length_map, List.length_replicate]
  omega
theorem vals_get {ds : List D} {n i : Nat} {s : Sl} (h : (ds.map Sl.val ++ List.replicate n Sl.non)[i]? = some s) : (∃ d, ds[i]? = some d ∧ s = .val d) ∨ s = .non := by
  by_cases hlt : i < ds.length
  · rw [List.getElem?_append_left (by simpa using hlt), List.getElem?_map] at h
    cases e : ds[i]? with
    | none => rw [e] at h; cases h
    | some d' => rw [e] at h; cases h; exact .inl ⟨d', rfl, rfl⟩
  · rw [List.getElem?_append_right (by simpa using hlt), List.getElem?_replicate] at h
    split at h <;> cases h
    exact .inr rfl
theorem fn_P {x qual : Str} {st : Stmt} {f : Addr} {fd : FuncData} {N ps : List Str} {k : Nat} {Rel : List D → D → Prop} (F : Fun K x qual st f fd) (S : FnScope N ps (defScope st)) (hl : ∀ ds d, Rel ds d → ds.length = ps.length) (hlN : ps.length ≤ N.length)
    (hb : ∀ (cdv : Value) (A : Around) (outer : List Env) (s : Shared) (H : Hp) (E : XK) (ds : List D) (d : D), Room k (A.deeper (envOfC qual (defScope st) s.heap.objs.size f cdv)) → Rel ds d →
      SXs (bx P w K mg base N qual st f cdv A outer s H E) (defBody st) (ds.map Sl.val ++ List.replicate (N.length - ps.length) .non) { nx := fun _ => d = .none, rt := fun d' _ => d' = d }) :
    FnOk P w K mg base CX0 (k + 1) f fd ps (SpP K Rel) := by
  refine F.ok S (fun vs H Q E h => ?_) (fun cdv A outer s H vs Q E hr h => ?_)
  · obtain ⟨O, ds, d, h1, _, h2, _⟩ := h
    rw [dpa_len h1]
    exact hl ds d h2
  · obtain ⟨O, ds, d, h1, h2, h3, q⟩ := h
    have hlen := hl ds d h3
    have hvl := dpa_len h1
    refine ⟨_, pss_w, hb cdv A outer s H E ds d hr h3 ⟨H, O, []⟩ (L2.start N vs) H O ⟨?_, fun i d hi => ?_, fun i b es hi => ?_, fun i j b c ds es p _ hi => ?_, fun q hq => ?_, h2, fun _ _ h _ => h, fun _ h => h, fun _ h => .inl h, h2, fun a ⟨i, hi⟩ => ?_, fun a o h => ⟨o, h⟩⟩ _ ⟨?_, ?_, ?_, ?_, ?_⟩⟩
    · rw [start_len (by omega), List.length_append, List.length_map, List.length_replicate]
      omega
    · rcases vals_get hi with ⟨d', e, z⟩ | z
      · cases z
        obtain ⟨v, hv, r⟩ := dpa_get' h1 e
        exact ⟨v, start_get hv, r⟩
      · cases z
    · rcases vals_get hi with ⟨d', e, z⟩ | z <;> cases z
    · rcases vals_get hi with ⟨d', e, z⟩ | z <;> cases z
    · cases hq
    · cases hi
    · intro ρ' σ' H' O' M x hd
      have hd : d = .none := hd
      subst hd
      exact q _ H' (fun a o h => M.keep a o h (fun ⟨i, z⟩ => nomatch z)) .non
    · intro v d' ρ' σ' H' O' M x r hd
      have hd : d' = d := hd
      subst hd
      refine q v H' (fun a o h => M.keep a o h (fun ⟨i, z⟩ => nomatch z)) (dp_mono (fun a o h => ?_) _ _ r)
      obtain ⟨n, h⟩ := cut_some.mp h
      exact cut_some.mpr ⟨fun z => n (M.sub a z), h⟩
    · intro _ _ _ _ _ _ z; exact z.elim
    · intro _ _ _ _ _ _ z; exact z.elim
    · intro _ _ _ _ _ _ _ _ _ _ _ _ _ _ z; exact z.elim
theorem fn_O {x qual : Str} {st : Stmt} {f : Addr} {fd : FuncData} {N ps : List Str} {k : Nat} {Rel : Ct → List D → D → Ct → Prop} (F : Fun K x qual st f fd) (S : FnScope N ps (defScope st)) (hl : ∀ d0 ds d d1, Rel d0 ds d d1 → ds.length + 1 = ps.length) (hlN : ps.length ≤ N.length)
    (hb : ∀ (cdv : Value) (A : Around) (outer : List Env) (s : Shared) (H : Hp) (E : XK) (d0 : Ct) (ds : List D) (d : D) (d1 : Ct), Room k (A.deeper (envOfC qual (defScope st) s.heap.objs.size f cdv)) → Rel d0 ds d d1 →
      SXs (bx P w K mg base N qual st f cdv A outer s H E) (defBody st) (Sl.own true d0 :: (ds.map Sl.val ++ List.replicate (N.length - ps.length) .non)) { nx := fun ρ' => d = .none ∧ ρ'[0]? = some (.own true d1), rt := fun d' ρ' => d' = d ∧ ρ'[0]? = some (.own true d1) }) :
    FnOk P w K mg base CX0 (k + 1) f fd ps (SpO K Rel) := by
  refine F.ok S (fun vs H Q E h => ?_) (fun cdv A outer s H vs Q E hr h => ?_)
  · obtain ⟨O, p, us, vr, d0, ds, d, d1, rfl, _, _, _, h1, _, h2, _⟩ := h
    rw [List.length_cons, dpa_len h1]
    exact hl d0 ds d d1 h2
  · obtain ⟨O, p, us, vr, d0, ds, d, d1, rfl, hO, hH, h0, h1, h2, h3, q⟩ := h
    have hlen := hl d0 ds d d1 h3
    have hvl := dpa_len h1
    have fin : ∀ {v : V} {d' : D} {ρ' : Rho} {σ' : L2.St} {H' : Hp} {O' : Addr → Prop}, Mt K ⟨H, O, [(0, p)]⟩ ρ' σ' H' O' → Dp K (cut O' H') v d → ρ'[0]? = some (Sl.own true d1) → Q v H' := fun {v d' ρ' σ' H' O'} M r h => by
      obtain ⟨e1, _⟩ := M.ios (0, p) (by simp)
      obtain ⟨p', us', f1, f2, f3, f4, _⟩ := M.own 0 true d1 h
      rw [e1] at f1
      cases f1
      have sb : Sub (cut O' H') (cut O H') := fun a o h => by
        obtain ⟨n, h⟩ := cut_some.mp h
        exact cut_some.mpr ⟨fun z => n (M.sub a z), h⟩
      exact q v H' us' (fun a o h n => M.keep a o h (fun ⟨i, z⟩ => n (by simpa using z : i = 0 ∧ a = p).2)) f3 (ct_mono sb f4) (dp_mono sb _ _ r)
    refine ⟨_, pss_w, hb cdv A outer s H E d0 ds d d1 hr h3 ⟨H, O, [(0, p)]⟩ (L2.start N (.ref p :: vr)) H O ⟨?_, fun i d hi => ?_, fun i b es hi => ?_, fun i j b c ds es p _ hi hj => ?_, fun q hq => ?_, h2, fun _ _ h _ => h, fun _ h => h, fun _ h => .inl h, h2, fun a ⟨i, hi⟩ => ?_, fun a o h => ⟨o, h⟩⟩ _ ⟨?_, ?_, ?_, ?_, ?_⟩⟩
    · rw [start_len (by rw [List.length_cons]; omega), List.length_cons, List.length_append, List.length_map, List.length_replicate]
      omega
    · cases i with
      | zero => cases hi
      | succ i =>
        rw [List.getElem?_cons_succ] at hi
        rcases vals_get hi with ⟨d', e, z⟩ | z
        · cases z
          obtain ⟨v, hv, r⟩ := dpa_get' h1 e
          exact ⟨v, start_get (by rw [List.getElem?_cons_succ]; exact hv), r⟩
        · cases z
    · cases i with
      | zero =>
        cases hi
        exact ⟨p, us, start_get rfl, hO, hH, h0, fun z => Bool.noConfusion z, fun _ => ⟨0, by simp⟩⟩
      | succ i =>
        rw [List.getElem?_cons_succ] at hi
        rcases vals_get hi with ⟨d', e, z⟩ | z <;> cases z
    · cases i with
      | zero =>
        cases j with
        | zero => contradiction
        | succ j =>
          rw [List.getElem?_cons_succ] at hj
          rcases vals_get hj with ⟨d', e, z⟩ | z <;> cases z
      | succ i =>
        rw [List.getElem?_cons_succ] at hi
        rcases vals_get hi with ⟨d', e, z⟩ | z <;> cases z
    · have e : q = (0, p) := by simpa using hq
      subst e
      exact ⟨start_get rfl, d0, rfl⟩
    · have e : i = 0 ∧ a = p := by simpa using hi
      rw [e.2]
      exact hO
    · intro ρ' σ' H' O' M x hd
      obtain ⟨rfl, hd⟩ := hd
      exact fin (v := .non) (d' := .none) M .non hd
    · intro v d' ρ' σ' H' O' M x r hd
      obtain ⟨rfl, hd⟩ := hd
      exact fin (d' := d') M r hd
    · intro _ _ _ _ _ _ z; exact z.elim
    · intro _ _ _ _ _ _ z; exact z.elim
    · intro _ _ _ _ _ _ _ _ _ _ _ _ _ _ z; exact z.elim
/-- a def that hands back a new object -/
def SpF (K : PySem.W.Frag) (Rel : List D → Ct → Prop) : Sp := fun vs H Q _ => ∃ (O : Addr → Prop) (ds : List D) (c : Ct), DpAll K (cut O H) vs ds ∧ (∀ a, O a → ∃ o, H a = some o) ∧ Rel ds c ∧ ∀ p us H', H p = none → Sub H H' → H' p = some us → CtOk K (cut (fun a => O a ∨ a = p) H') us c → Q (.ref p) H'
theorem fn_F {x qual : Str} {st : Stmt} {f : Addr} {fd : FuncData} {N ps : List Str} {k : Nat} {Rel : List D → Ct → Prop} (F : Fun K x qual st f fd) (S : FnScope N ps (defScope st)) (hl : ∀ ds d, Rel ds d → ds.length = ps.length) (hlN : ps.length ≤ N.length)
    (hb : ∀ (cdv : Value) (A : Around) (outer : List Env) (s : Shared) (H : Hp) (E : XK) (ds : List D) (c : Ct), Room k (A.deeper (envOfC qual (defScope st) s.heap.objs.size f cdv)) → Rel ds c →
      SXs (bx P w K mg base N qual st f cdv A outer s H E) (defBody st) (ds.map Sl.val ++ List.replicate (N.length - ps.length) .non) { nx := fun _ => False, rt := fun _ _ => False, rf := fun c' _ => c' = c }) :
    FnOk P w K mg base CX0 (k + 1) f fd ps (SpF K Rel) := by
  refine F.ok S (fun vs H Q E h => ?_) (fun cdv A outer s H vs Q E hr h => ?_)
  · obtain ⟨O, ds, d, h1, _, h2, _⟩ := h
    rw [dpa_len h1]
    exact hl ds d h2
  · obtain ⟨O, ds, d, h1, h2, h3, q⟩ := h
    have hlen := hl ds d h3
    have hvl := dpa_len h1
    refine ⟨_, pss_w, hb cdv A outer s H E ds d hr h3 ⟨H, O, []⟩ (L2.start N vs) H O ⟨?_, fun i d hi => ?_, fun i b es hi => ?_, fun i j b c ds es p _ hi => ?_, fun q hq => ?_, h2, fun _ _ h _ => h, fun _ h => h, fun _ h => .inl h, h2, fun a ⟨i, hi⟩ => ?_, fun a o h => ⟨o, h⟩⟩ _ ⟨?_, ?_, ?_, ?_, ?_⟩⟩
    · rw [start_len (by omega), List.length_append, List.length_map, List.length_replicate]
      omega
    · rcases vals_get hi with ⟨d', e, z⟩ | z
      · cases z
        obtain ⟨v, hv, r⟩ := dpa_get' h1 e
        exact ⟨v, start_get hv, r⟩
      · cases z
    · rcases vals_get hi with ⟨d', e, z⟩ | z <;> cases z
    · rcases vals_get hi with ⟨d', e, z⟩ | z <;> cases z
    · cases hq
    · cases hi
    · intro _ _ _ _ _ _ z; exact z.elim
    · intro _ _ _ _ _ _ _ _ _ z; exact z.elim
    · intro _ _ _ _ _ _ z; exact z.elim
    · intro _ _ _ _ _ _ z; exact z.elim
    · intro p us c' ρ' σ' H' O' M x hp hn h0 hl' r hd
      have hd : c' = d := hd
      subst hd
      refine q p us H' h0 (fun a o h => M.keep a o h (fun ⟨i, z⟩ => nomatch z)) hl' (ct_mono (fun a o h => ?_) r)
      obtain ⟨n, h⟩ := cut_some.mp h
      exact cut_some.mpr ⟨fun z => n (z.elim (M.sub a) (fun e => by rw [e]; exact hp)), h⟩
structure CalF (P : Program) (w : World) (K : PySem.W.Frag) (mg : Str → Option Value) (base : Heap) (x : Str) (n : Nat) (Rel : List D → Ct → Prop) : Prop where
  ex : ∃ f fd ps, FnOk P w K mg base CX0 n f fd ps (SpF K Rel) ∧ mg x = some (.ref f) ∧ PySem.W.keepIn K (.ref f) = true ∧ Binds K fd ps []
/-- what is known of a def of the module: how it is called and what it is worth -/
structure CalP (P : Program) (w : World) (K : PySem.W.Frag) (mg : Str → Option Value) (base : Heap) (x : Str) (n : Nat) (Rel : List D → D → Prop) : Prop where
  ex : ∃ f fd ps, FnOk P w K mg base CX0 n f fd ps (SpP K Rel) ∧ mg x = some (.ref f) ∧ PySem.W.keepIn K (.ref f) = true ∧ Binds K fd ps []
structure CalO (P : Program) (w : World) (K : PySem.W.Frag) (mg : Str → Option Value) (base : Heap) (x : Str) (n : Nat) (Rel : Ct → List D → D → Ct → Prop) : Prop where
  ex : ∃ f fd ps, FnOk P w K mg base CX0 n f fd ps (SpO K Rel) ∧ mg x = some (.ref f) ∧ PySem.W.keepIn K (.ref f) = true ∧ Binds K fd ps []
end
section
variable {X : Cx} {ρ : Rho} {pos p : Pos} {e : Expr} {es : List Expr} {n k : Nat} {x : Str}
theorem x_callP {Rel : List D → D → Prop} {kk : D → Rho → Prop} (C : CalP X.prog X.w X.K X.mg X.base x n Rel) (hr : Room k X.A) (hnk : n ≤ k) (hg : Gl X x) (h : AX X (e :: es) ρ fun ds ρ1 => ∃ d, Rel ds d ∧ kk d ρ1)
    (hdb : (x == ("__debug__" : Str)) = false := by decide) (he : starEach (e :: es) X.env = (false, eval e X.env) :: starEach es X.env := by rfl) (hpl : (backTo pos (starEach es X.env)).any (·.1) = false := by rfl) :
    EX X (.Call (.Name x p) (e :: es) [] pos) ρ kk := fun W σ H O M Q q => by
  obtain ⟨f, fd, ps, F, hm, hk, hb⟩ := C.ex
  refine (pe_call (E := E0) F (hr.mono hnk) hg hm hk hb .nil pass0 pa_w hdb he hpl).w (h W σ H O M _ fun vs ds ρ1 H1 O1 M1 E1 r ⟨d, hR, hkk⟩ => ?_)
  rw [List.append_nil]
  exact ⟨O1, ds, d, r, M1.ex, hR, fun v H' hs rv => q v d ρ1 H' O1 (M1.grow hs) (E1.trans (Ext.grow hs)) rv hkk⟩
/-- the first argument is a list of one's own, which the def may change -/
theorem x_callO {Rel : Ct → List D → D → Ct → Prop} {kk : D → Rho → Prop} {y : Str} {i : Nat} {py : Pos} (C : CalO X.prog X.w X.K X.mg X.base x n Rel) (hr : Room k X.A) (hnk : n ≤ k) (hg : Gl X x)
    (hN : X.N[i]? = some y) (hv : Vis X.env.scope y)
    (h : AX X es ρ fun ds ρ1 => ∃ b d0 d d1, ρ1[i]? = some (Sl.own b d0) ∧ Rel d0 ds d d1 ∧ kk d (ρ1.set i (.own b d1)))
    (hdy : (y == ("__debug__" : Str)) = false := by decide) (hcy : (y == ("__classdict__" : Str)) = false := by decide)
    (hdb : (x == ("__debug__" : Str)) = false := by decide) (he : starEach (.Name y py :: es) X.env = (false, eval (.Name y py) X.env) :: starEach es X.env := by rfl) (hpl : (backTo pos (starEach es X.env)).any (·.1) = false := by rfl) 
    (hw : ∃ b d0, ρ[i]? = some (Sl.own b d0) := by exact ⟨_, _, rfl⟩) :
    EX X (.Call (.Name x p) (.Name y py :: es) [] pos) ρ kk := fun W σ H O M Q q => by
  obtain ⟨f, fd, ps, F, hm, hk, hb⟩ := C.ex
  obtain ⟨b0, d00, hw⟩ := hw
  obtain ⟨p0, _, ep0, _⟩ := M.own i b0 d00 hw
  refine (pe_call (E := E0) F (hr.mono hnk) hg hm hk hb .nil pass0 (pa_cons (pe_var hN hv hdy hcy) pa_w he) hdb he hpl).w ⟨_, ep0, h W σ H O M _ fun vs ds ρ1 H1 O1 M1 E1 r ⟨b, d0, d, d1, hi, hR, hkk⟩ => ?_⟩
  show SpO X.K Rel ((V.ref p0 :: vs) ++ []) H1 Q E0
  rw [List.append_nil]
  obtain ⟨p1, us, f1, f2, f3, f4, f5⟩ := M1.own i b d0 hi
  rw [ep0] at f1
  cases f1
  refine ⟨O1, p0, us, vs, d0, ds, d, d1, rfl, f2, f3, f4, r, M1.ex, hR, fun v H' us' hkp hp' r' rv => ?_⟩
  obtain ⟨M2, E2⟩ := M1.mut hi ep0 hkp hp' r'
  exact q v d _ H' O1 M2 (E1.trans E2) rv hkk
theorem f_callF {Rel : List D → Ct → Prop} {kk : Ct → Rho → Prop} (C : CalF X.prog X.w X.K X.mg X.base x n Rel) (hr : Room k X.A) (hnk : n ≤ k) (hg : Gl X x) (h : AX X (e :: es) ρ fun ds ρ1 => ∃ c, Rel ds c ∧ kk c ρ1)
    (hdb : (x == ("__debug__" : Str)) = false := by decide) (he : starEach (e :: es) X.env = (false, eval e X.env) :: starEach es X.env := by rfl) (hpl : (backTo pos (starEach es X.env)).any (·.1) = false := by rfl) :
    FX X (.Call (.Name x p) (e :: es) [] pos) ρ kk := fun W σ H O M Q q => by
  obtain ⟨f, fd, ps, F, hm, hk, hb⟩ := C.ex
  refine (pe_call (E := E0) F (hr.mono hnk) hg hm hk hb .nil pass0 pa_w hdb he hpl).w (h W σ H O M _ fun vs ds ρ1 H1 O1 M1 E1 r ⟨c, hR, hkk⟩ => ?_)
  rw [List.append_nil]
  refine ⟨O1, ds, c, r, M1.ex, hR, fun p us H' hp hs hl rv => ?_⟩
  obtain ⟨M2, E2, n2, h0⟩ := M1.new_list hp hs hl
  exact q p us c ρ1 H' _ M2 (.inr rfl) n2 h0 hl rv (E1.trans E2) hkk
end
end Lk

set_option Elab.async false
set_option linter.all false
set_option maxRecDepth 100000
namespace Lk
open PySem PySem.Spec PyProof.Rows L2

section
variable {X : Cx} {ρ : Rho} {pos : Pos} {a b c e : Expr} {es : List Expr}
theorem x_mono {k k' : D → Rho → Prop} (h : EX X e ρ k) (m : ∀ d ρ', k d ρ' → k' d ρ') : EX X e ρ k' := fun W σ H O M Q q => h W σ H O M Q fun v d ρ' H' O' M' E' r hk => q v d ρ' H' O' M' E' r (m d ρ' hk)
theorem t_mono {k k' : Bool → Rho → Prop} (h : TX X e ρ k) (m : ∀ d ρ', k d ρ' → k' d ρ') : TX X e ρ k' := fun W σ H O M Q q => h W σ H O M Q fun v ρ' H' O' M' E' hk => q v ρ' H' O' M' E' (m v ρ' hk)
/-- a value that is a bool, as a test -/
theorem t_val {k : Bool → Rho → Prop} (h : EX X e ρ fun d ρ1 => ∃ b, d = .bool b ∧ k b ρ1) (he : ∀ whole, isTrue e X.env whole = (do let v ← whole; standAt e.pos; holding [v] (truthy v)) := by intro _; rfl) : TX X e ρ k := fun W σ H O M Q q =>
  (pt_val pe_w he).w (h W σ H O M _ fun v d ρ1 H1 O1 M1 E1 r ⟨b, hd, hk⟩ => by
    subst hd
    cases r
    exact ⟨b, rfl, q b ρ1 H1 O1 M1 E1 hk⟩)
def truD : D → Option Bool
  | .none => some false
  | .bool b => some b
  | .int i => some (i != 0)
  | .list xs => some (!xs.isEmpty)
  | .tuple xs => some (!xs.isEmpty)
  | _ => none
theorem dpa_empty {K : PySem.W.Frag} {H : Hp} {ds : List D} {vs : List V} (h : DpAll K H vs ds) : vs.isEmpty = ds.isEmpty := by
  cases h <;> rfl
/-- the truth of a value -/
theorem t_tru {k : Bool → Rho → Prop} (h : EX X e ρ fun d ρ1 => ∃ b, truD d = some b ∧ k b ρ1) (he : ∀ whole, isTrue e X.env whole = (do let v ← whole; standAt e.pos; holding [v] (truthy v)) := by intro _; rfl) : TX X e ρ k := fun W σ H O M Q q =>
  (pt_truth pe_w he).w (h W σ H O M _ fun v d ρ1 H1 O1 M1 E1 r ⟨b, hd, hk⟩ => by
    refine ⟨b, ?_, q b ρ1 H1 O1 M1 E1 hk⟩
    cases r with
    | non => cases hd; rfl
    | bl => cases hd; rfl
    | int => cases hd; rfl
    | str => cases hd
    | lst hs ha => cases hd; exact .inl ⟨_, cut_sub.l hs, by rw [dpa_empty ha]⟩
    | tup hs ha => cases hd; exact .inr (.inl ⟨_, cut_sub.t hs, by rw [dpa_empty ha]⟩))
/-- the truth of a list of one's own -/
theorem t_truO {k : Bool → Rho → Prop} {i : Nat} {x : Str} {ds : List D} {b : Bool} (hN : X.N[i]? = some x) (hv : Vis X.env.scope x) (hs : ρ[i]? = some (Sl.own b (.lst ds))) (hk : k (!ds.isEmpty) ρ)
    (hd : (x == ("__debug__" : Str)) = false := by decide) (hcd : (x == ("__classdict__" : Str)) = false := by decide) : TX X (.Name x pos) ρ k := fun W σ H O M Q q => by
  obtain ⟨p, ho, e1, e2, e3, e4, _⟩ := M.own i b (.lst ds) hs
  obtain ⟨us, rfl, e4⟩ := ct_lst e4
  exact (pt_truth (pe_var hN hv hd hcd) (by intro _; rfl)).w ⟨_, e1, _, .inl ⟨us, SqL.of e3, by rw [dpa_empty e4]⟩, q _ ρ H O M (Ext.refl _ _) hk⟩
/-! and, or, not -/
theorem t_not {k : Bool → Rho → Prop} (h : TX X a ρ fun b ρ1 => k (!b) ρ1) : TX X (.UnaryOp .Not a pos) ρ k := fun W σ H O M Q q =>
  (pt_not pt_w).w (h W σ H O M _ fun b ρ1 H1 O1 M1 E1 hk => q _ ρ1 H1 O1 M1 E1 hk)
theorem w_and1 {k : Bool → Rho → Prop} (h : TX X a ρ k) : WX X (.BoolOp .And [a] pos) ρ k := fun W σ H O M Q q => (pw_and1 pt_w).w (h W σ H O M Q q)
theorem w_or1 {k : Bool → Rho → Prop} (h : TX X a ρ k) : WX X (.BoolOp .Or [a] pos) ρ k := fun W σ H O M Q q => (pw_or1 pt_w).w (h W σ H O M Q q)
theorem w_and {k : Bool → Rho → Prop} (h : TX X a ρ fun x ρ1 => (x = true → WX X (.BoolOp .And (b :: es) pos) ρ1 k) ∧ (x = false → k false ρ1)) : WX X (.BoolOp .And (a :: b :: es) pos) ρ k := fun W σ H O M Q q =>
  (pw_and pt_w pw_w).w (h W σ H O M _ fun x ρ1 H1 O1 M1 E1 ⟨h1, h2⟩ => by
    cases x with
    | true => exact h1 rfl W σ H1 O1 M1 Q fun b ρ2 H2 O2 M2 E2 hk => q b ρ2 H2 O2 M2 (E1.trans E2) hk
    | false => exact q false ρ1 H1 O1 M1 E1 (h2 rfl))
theorem w_or {k : Bool → Rho → Prop} (h : TX X a ρ fun x ρ1 => (x = false → WX X (.BoolOp .Or (b :: es) pos) ρ1 k) ∧ (x = true → k true ρ1)) : WX X (.BoolOp .Or (a :: b :: es) pos) ρ k := fun W σ H O M Q q =>
  (pw_or pt_w pw_w).w (h W σ H O M _ fun x ρ1 H1 O1 M1 E1 ⟨h1, h2⟩ => by
    cases x with
    | false => exact h1 rfl W σ H1 O1 M1 Q fun b ρ2 H2 O2 M2 E2 hk => q b ρ2 H2 O2 M2 (E1.trans E2) hk
    | true => exact q true ρ1 H1 O1 M1 E1 (h2 rfl))
theorem t_w {k : Bool → Rho → Prop} (h : WX X e ρ k) : TX X e ρ k := fun W σ H O M Q q => (PW.pt pw_w).w (h W σ H O M Q q)
/-- .. by what both are worth, the second one without effect -/
theorem w_andP {k : Bool → Rho → Prop} (h : TX X a ρ fun x ρ1 => ∃ y, (∀ k' : Bool → Rho → Prop, k' y ρ1 → WX X (.BoolOp .And (b :: es) pos) ρ1 k') ∧ k (x && y) ρ1) : WX X (.BoolOp .And (a :: b :: es) pos) ρ k :=
  w_and (t_mono h fun x ρ1 ⟨y, h1, h2⟩ => ⟨fun e => by subst e; exact h1 _ (by simpa using h2), fun e => by subst e; simpa using h2⟩)
theorem w_orP {k : Bool → Rho → Prop} (h : TX X a ρ fun x ρ1 => ∃ y, (∀ k' : Bool → Rho → Prop, k' y ρ1 → WX X (.BoolOp .Or (b :: es) pos) ρ1 k') ∧ k (x || y) ρ1) : WX X (.BoolOp .Or (a :: b :: es) pos) ρ k :=
  w_or (t_mono h fun x ρ1 ⟨y, h1, h2⟩ => ⟨fun e => by subst e; exact h1 _ (by simpa using h2), fun e => by subst e; simpa using h2⟩)
theorem x_one {op : BoolOp} {k : D → Rho → Prop} (h : EX X a ρ k) : EX X (.BoolOp op [a] pos) ρ k := fun W σ H O M Q q => (pe_one pe_w).w (h W σ H O M Q q)
theorem x_and {k : D → Rho → Prop} (h : EX X a ρ fun d ρ1 => ∃ x, d = .bool x ∧ (x = true → EX X (.BoolOp .And (b :: es) pos) ρ1 k) ∧ (x = false → k (.bool false) ρ1)) : EX X (.BoolOp .And (a :: b :: es) pos) ρ k := fun W σ H O M Q q =>
  (pe_and pe_w pe_w).w (h W σ H O M _ fun v d ρ1 H1 O1 M1 E1 r ⟨x, hd, h1, h2⟩ => by
    subst hd
    cases r
    refine ⟨x, rfl, ?_⟩
    cases x with
    | true => exact iteT (h1 rfl W σ H1 O1 M1 Q fun v d ρ2 H2 O2 M2 E2 r2 hk => q v d ρ2 H2 O2 M2 (E1.trans E2) r2 hk)
    | false => exact iteF (q _ _ ρ1 H1 O1 M1 E1 (.bl false) (h2 rfl)))
theorem x_or {k : D → Rho → Prop} (h : EX X a ρ fun d ρ1 => ∃ x, d = .bool x ∧ (x = false → EX X (.BoolOp .Or (b :: es) pos) ρ1 k) ∧ (x = true → k (.bool true) ρ1)) : EX X (.BoolOp .Or (a :: b :: es) pos) ρ k := fun W σ H O M Q q =>
  (pe_or pe_w pe_w).w (h W σ H O M _ fun v d ρ1 H1 O1 M1 E1 r ⟨x, hd, h1, h2⟩ => by
    subst hd
    cases r
    refine ⟨x, rfl, ?_⟩
    cases x with
    | false => exact iteF (h1 rfl W σ H1 O1 M1 Q fun v d ρ2 H2 O2 M2 E2 r2 hk => q v d ρ2 H2 O2 M2 (E1.trans E2) r2 hk)
    | true => exact iteT (q _ _ ρ1 H1 O1 M1 E1 (.bl true) (h2 rfl)))
theorem x_andP {k : D → Rho → Prop} (h : EX X a ρ fun d ρ1 => ∃ x, d = .bool x ∧ ∃ y, (∀ k' : D → Rho → Prop, k' (.bool y) ρ1 → EX X (.BoolOp .And (b :: es) pos) ρ1 k') ∧ k (.bool (x && y)) ρ1) : EX X (.BoolOp .And (a :: b :: es) pos) ρ k :=
  x_and (x_mono h fun d ρ1 ⟨x, hd, y, h1, h2⟩ => ⟨x, hd, fun e => by subst e; exact h1 _ (by simpa using h2), fun e => by subst e; simpa using h2⟩)
theorem x_orP {k : D → Rho → Prop} (h : EX X a ρ fun d ρ1 => ∃ x, d = .bool x ∧ ∃ y, (∀ k' : D → Rho → Prop, k' (.bool y) ρ1 → EX X (.BoolOp .Or (b :: es) pos) ρ1 k') ∧ k (.bool (x || y)) ρ1) : EX X (.BoolOp .Or (a :: b :: es) pos) ρ k :=
  x_or (x_mono h fun d ρ1 ⟨x, hd, y, h1, h2⟩ => ⟨x, hd, fun e => by subst e; exact h1 _ (by simpa using h2), fun e => by subst e; simpa using h2⟩)
theorem x_not {k : D → Rho → Prop} (h : EX X a ρ fun d ρ1 => ∃ x, d = .bool x ∧ k (.bool (!x)) ρ1) : EX X (.UnaryOp .Not a pos) ρ k := fun W σ H O M Q q =>
  (pe_not pe_w).w (h W σ H O M _ fun v d ρ1 H1 O1 M1 E1 r ⟨x, hd, hk⟩ => by
    subst hd
    cases r
    exact ⟨x, rfl, q _ _ ρ1 H1 O1 M1 E1 (.bl _) hk⟩)
theorem x_neg {k : D → Rho → Prop} (h : EX X a ρ fun d ρ1 => ∃ x, d = .int x ∧ k (.int (-x)) ρ1) : EX X (.UnaryOp .USub a pos) ρ k := fun W σ H O M Q q =>
  (pe_un un_neg pe_w).w (h W σ H O M _ fun v d ρ1 H1 O1 M1 E1 r ⟨x, hd, hk⟩ => by
    subst hd
    cases r
    exact ⟨x, rfl, q _ _ ρ1 H1 O1 M1 E1 (.int _) hk⟩)
theorem x_if {k : D → Rho → Prop} (h : TX X c ρ fun x ρ1 => (x = true → EX X a ρ1 k) ∧ (x = false → EX X b ρ1 k)) : EX X (.IfExp c a b pos) ρ k := fun W σ H O M Q q =>
  (pe_ifExp pt_w pe_w pe_w).w (h W σ H O M _ fun x ρ1 H1 O1 M1 E1 ⟨h1, h2⟩ => by
    cases x with
    | true => exact iteT (h1 rfl W σ H1 O1 M1 Q fun v d ρ2 H2 O2 M2 E2 r2 hk => q v d ρ2 H2 O2 M2 (E1.trans E2) r2 hk)
    | false => exact iteF (h2 rfl W σ H1 O1 M1 Q fun v d ρ2 H2 O2 M2 E2 r2 hk => q v d ρ2 H2 O2 M2 (E1.trans E2) r2 hk))
/-! chains of two comparisons -/
theorem x_chain {op op' : CmpOp} {k : D → Rho → Prop} (h : EX X a ρ fun dx ρ1 => EX X b ρ1 fun dy ρ2 => ∃ x, OpD X (compareOp op) dx dy (.bool x) ∧ (x = true → EX X c ρ2 fun dz ρ3 => ∃ y, OpD X (compareOp op') dy dz (.bool y) ∧ k (.bool y) ρ3) ∧ (x = false → k (.bool false) ρ2))
    (hm : lastMarks [op, op'] [b, c] = false := by with_unfolding_all rfl) : EX X (.Compare a [op, op'] [b, c] pos) ρ k := fun W σ H O M Q q =>
  (pe_chain op_w op_w pe_w pe_w pe_w hm).w (h W σ H O M _ fun v dx ρ1 H1 O1 M1 E1 r1 h1 => h1 W σ H1 O1 M1 _ fun u dy ρ2 H2 O2 M2 E2 r2 ⟨x, ho, h2, h3⟩ => by
    refine ho H2 O2 v u _ M2.ex (dp_mono E2.sub _ _ r1) r2 fun z H' hs hz => ?_
    cases hz
    refine ⟨x, rfl, ?_⟩
    have M3 := M2.grow hs
    have E3 := (E1.trans E2).trans (Ext.grow (O := O2) hs)
    cases x with
    | false => exact iteF (q _ _ ρ2 H' O2 M3 E3 (.bl false) (h3 rfl))
    | true =>
      refine iteT (h2 rfl W σ H' O2 M3 _ fun t dz ρ4 H4 O4 M4 E4 r4 ⟨y, ho', hk⟩ => ?_)
      exact ho' H4 O4 u t Q M4.ex (dp_mono ((Ext.grow hs).trans E4).sub _ _ r2) r4 fun z H' hs hz => q z _ ρ4 H' O4 (M4.grow hs) ((E3.trans E4).trans (Ext.grow hs)) hz hk)
theorem t_chain {op op' : CmpOp} {k : Bool → Rho → Prop} (h : EX X a ρ fun dx ρ1 => EX X b ρ1 fun dy ρ2 => ∃ x, OpD X (compareOp op) dx dy (.bool x) ∧ (x = true → EX X c ρ2 fun dz ρ3 => ∃ y, OpD X (compareOp op') dy dz (.bool y) ∧ k y ρ3) ∧ (x = false → k false ρ2))
    (hm : lastMarks [op, op'] [b, c] = false := by with_unfolding_all rfl) : TX X (.Compare a [op, op'] [b, c] pos) ρ k := fun W σ H O M Q q =>
  (pt_chain op_w op_w pe_w pe_w pe_w hm).w (h W σ H O M _ fun v dx ρ1 H1 O1 M1 E1 r1 h1 => h1 W σ H1 O1 M1 _ fun u dy ρ2 H2 O2 M2 E2 r2 ⟨x, ho, h2, h3⟩ => by
    refine ho H2 O2 v u _ M2.ex (dp_mono E2.sub _ _ r1) r2 fun z H' hs hz => ?_
    cases hz
    refine ⟨x, rfl, ?_⟩
    have M3 := M2.grow hs
    have E3 := (E1.trans E2).trans (Ext.grow (O := O2) hs)
    cases x with
    | false => exact iteF ⟨false, rfl, q _ ρ2 H' O2 M3 E3 (h3 rfl)⟩
    | true =>
      refine iteT (h2 rfl W σ H' O2 M3 _ fun t dz ρ4 H4 O4 M4 E4 r4 ⟨y, ho', hk⟩ => ?_)
      refine ho' H4 O4 u t _ M4.ex (dp_mono ((Ext.grow hs).trans E4).sub _ _ r2) r4 fun z H' hs hz => ?_
      cases hz
      exact ⟨y, rfl, q y ρ4 H' O4 (M4.grow hs) ((E3.trans E4).trans (Ext.grow hs)) hk⟩)
/-- .. the third part without effect -/
theorem x_chainP {op op' : CmpOp} {k : D → Rho → Prop} (h : EX X a ρ fun dx ρ1 => EX X b ρ1 fun dy ρ2 => ∃ x y dz, OpD X (compareOp op) dx dy (.bool x) ∧ (∀ k' : D → Rho → Prop, k' dz ρ2 → EX X c ρ2 k') ∧ OpD X (compareOp op') dy dz (.bool y) ∧ k (.bool (x && y)) ρ2)
    (hm : lastMarks [op, op'] [b, c] = false := by with_unfolding_all rfl) : EX X (.Compare a [op, op'] [b, c] pos) ρ k :=
  x_chain (x_mono h fun dx ρ1 h1 => x_mono h1 fun dy ρ2 ⟨x, y, dz, ho, h2, ho', hk⟩ => ⟨x, ho, fun e => h2 _ ⟨y, ho', by subst e; simpa using hk⟩, fun e => by subst e; simpa using hk⟩) hm
theorem t_chainP {op op' : CmpOp} {k : Bool → Rho → Prop} (h : EX X a ρ fun dx ρ1 => EX X b ρ1 fun dy ρ2 => ∃ x y dz, OpD X (compareOp op) dx dy (.bool x) ∧ (∀ k' : D → Rho → Prop, k' dz ρ2 → EX X c ρ2 k') ∧ OpD X (compareOp op') dy dz (.bool y) ∧ k (x && y) ρ2)
    (hm : lastMarks [op, op'] [b, c] = false := by with_unfolding_all rfl) : TX X (.Compare a [op, op'] [b, c] pos) ρ k :=
  t_chain (x_mono h fun dx ρ1 h1 => x_mono h1 fun dy ρ2 ⟨x, y, dz, ho, h2, ho', hk⟩ => ⟨x, ho, fun e => h2 _ ⟨y, ho', by subst e; simpa using hk⟩, fun e => by subst e; simpa using hk⟩) hm
/-! is None -/
theorem dp_non {K : PySem.W.Frag} {H : Hp} {v : V} {d : D} (r : Dp K H v d) : decide (v = .non) = (match d with | .none => true | _ => false) := by
  cases r <;> simp
def isN : D → Bool
  | .none => true
  | _ => false
theorem x_isN {k : D → Rho → Prop} {j pos'} (h : EX X a ρ fun d ρ1 => k (.bool (isN d)) ρ1) : EX X (.Compare a [.Is] [.Constant .none j pos'] pos) ρ k := fun W σ H O M Q q =>
  (pe_cmp (pc_isN pe_w) rfl).w (h W σ H O M _ fun v d ρ1 H1 O1 M1 E1 r hk => by
    rw [dp_non r]
    exact q _ _ ρ1 H1 O1 M1 E1 (.bl _) (by cases d <;> exact hk))
theorem x_notN {k : D → Rho → Prop} {j pos'} (h : EX X a ρ fun d ρ1 => k (.bool (!isN d)) ρ1) : EX X (.Compare a [.IsNot] [.Constant .none j pos'] pos) ρ k := fun W σ H O M Q q =>
  (pe_cmp (pc_notN pe_w) rfl).w (h W σ H O M _ fun v d ρ1 H1 O1 M1 E1 r hk => by
    rw [dp_non r]
    exact q _ _ ρ1 H1 O1 M1 E1 (.bl _) (by cases d <;> exact hk))
theorem t_isN {k : Bool → Rho → Prop} {j pos'} (h : EX X a ρ fun d ρ1 => k (isN d) ρ1) : TX X (.Compare a [.Is] [.Constant .none j pos'] pos) ρ k := fun W σ H O M Q q =>
  (pt_cmp (pc_isN pe_w) rfl).w (h W σ H O M _ fun v d ρ1 H1 O1 M1 E1 r hk => by
    rw [dp_non r]
    exact ⟨_, rfl, q _ ρ1 H1 O1 M1 E1 (by cases d <;> exact hk)⟩)
theorem t_notN {k : Bool → Rho → Prop} {j pos'} (h : EX X a ρ fun d ρ1 => k (!isN d) ρ1) : TX X (.Compare a [.IsNot] [.Constant .none j pos'] pos) ρ k := fun W σ H O M Q q =>
  (pt_cmp (pc_notN pe_w) rfl).w (h W σ H O M _ fun v d ρ1 H1 O1 M1 E1 r hk => by
    rw [dp_non r]
    exact ⟨_, rfl, q _ ρ1 H1 O1 M1 E1 (by cases d <;> exact hk)⟩)

/-! ### == of data, in -/
theorem od_eqD {x y : D} (hr : ∃ k, Room k X.A) (hx : SeqAt.shaped x = true) (hy : SeqAt.shaped y = true) : OpD X (compareOp .Eq) x y (.bool (PyData.eqv x y)) := fun H O v u Q _ rx ry q => by
  obtain ⟨k, hr⟩ := hr
  exact OpRw (op_eqD hr.units) ⟨x, y, dp_mono cut_sub _ _ rx, dp_mono cut_sub _ _ ry, hx, hy, q _ H (Sub.refl H) (.bl _)⟩
theorem od_neD {x y : D} (hr : ∃ k, Room k X.A) (hx : SeqAt.shaped x = true) (hy : SeqAt.shaped y = true) : OpD X (compareOp .NotEq) x y (.bool (!PyData.eqv x y)) := fun H O v u Q _ rx ry q => by
  obtain ⟨k, hr⟩ := hr
  exact OpRw (op_neD hr.units) ⟨x, y, dp_mono cut_sub _ _ rx, dp_mono cut_sub _ _ ry, hx, hy, q _ H (Sub.refl H) (.bl _)⟩
theorem od_eqI {x y : Int} : OpD X (compareOp .Eq) (.int x) (.int y) (.bool (decide (x = y))) := fun H O v u Q _ rx ry q => by
  cases rx; cases ry
  refine OpRw op_eq ⟨rfl, ?_⟩
  have e : decide (V.int x = V.int y) = decide (x = y) := by simp
  rw [e]
  exact q _ H (Sub.refl H) (.bl _)
theorem od_neI {x y : Int} : OpD X (compareOp .NotEq) (.int x) (.int y) (.bool (!decide (x = y))) := fun H O v u Q _ rx ry q => by
  cases rx; cases ry
  refine OpRw op_ne ⟨rfl, ?_⟩
  have e : decide (V.int x = V.int y) = decide (x = y) := by simp
  rw [e]
  exact q _ H (Sub.refl H) (.bl _)
theorem od_eqB {x y : Bool} : OpD X (compareOp .Eq) (.bool x) (.bool y) (.bool (decide (x = y))) := fun H O v u Q _ rx ry q => by
  cases rx; cases ry
  refine OpRw op_eq ⟨rfl, ?_⟩
  have e : decide (V.bl x = V.bl y) = decide (x = y) := by simp
  rw [e]
  exact q _ H (Sub.refl H) (.bl _)
theorem od_neB {x y : Bool} : OpD X (compareOp .NotEq) (.bool x) (.bool y) (.bool (!decide (x = y))) := fun H O v u Q _ rx ry q => by
  cases rx; cases ry
  refine OpRw op_ne ⟨rfl, ?_⟩
  have e : decide (V.bl x = V.bl y) = decide (x = y) := by simp
  rw [e]
  exact q _ H (Sub.refl H) (.bl _)
theorem od_eqS {x y : Str} : OpD X (compareOp .Eq) (.str x) (.str y) (.bool (decide (x = y))) := fun H O v u Q _ rx ry q => by
  cases rx; cases ry
  refine OpRw op_eq ⟨rfl, ?_⟩
  have e : decide (V.str x = V.str y) = decide (x = y) := by simp
  rw [e]
  exact q _ H (Sub.refl H) (.bl _)
theorem od_neS {x y : Str} : OpD X (compareOp .NotEq) (.str x) (.str y) (.bool (!decide (x = y))) := fun H O v u Q _ rx ry q => by
  cases rx; cases ry
  refine OpRw op_ne ⟨rfl, ?_⟩
  have e : decide (V.str x = V.str y) = decide (x = y) := by simp
  rw [e]
  exact q _ H (Sub.refl H) (.bl _)
theorem od_inSign {c : Nat} {z : Str} : OpD X (compareOp .In) (.str ⟨#[c]⟩) (.str z) (.bool (decide (c ∈ z.cps.toList))) := fun H O v u Q _ rx ry q => by
  cases rx; cases ry
  exact OpRw op_in_sign ⟨c, z, rfl, rfl, q _ H (Sub.refl H) (.bl _)⟩
theorem od_ninSign {c : Nat} {z : Str} : OpD X (compareOp .NotIn) (.str ⟨#[c]⟩) (.str z) (.bool (!decide (c ∈ z.cps.toList))) := fun H O v u Q _ rx ry q => by
  cases rx; cases ry
  exact OpRw op_notIn_sign ⟨c, z, rfl, rfl, q _ H (Sub.refl H) (.bl _)⟩

/-! ### items -/
def wI (X : Cx) : R2 := fun x y H Q => ∀ (value slice : Expr) pins s σ v u, Inv X pins σ H s → RelV x v → RelV y u → subscripted slice false v u = operate [v, u] (getItem v u) → wpAny (model X.prog X.w) X.A (subscriptTail value slice v u) (EP X pins σ Q) X.xe s
theorem ix_w : IxR X (wI X) := fun value slice pins s σ H x y v u Q I rx ry h hs => h value slice pins s σ v u I rx ry hs
def IxD (X : Cx) (dx dy dz : D) : Prop := ∀ (H : Hp) (O : Addr → Prop) (x y : V) (Q : VK), (∀ a, O a → ∃ o, H a = some o) → Dp X.K (cut O H) x dx → Dp X.K (cut O H) y dy → (∀ z H', Sub H H' → Dp X.K (cut O H') z dz → Q z H') → wI X x y H Q
theorem x_ix {k : D → Rho → Prop} (h : EX X a ρ fun dx ρ1 => EX X b ρ1 fun dy ρ2 => ∃ dz, IxD X dx dy dz ∧ k dz ρ2) (hs : PlainIx b := by exact fun _ _ => rfl) : EX X (.Subscript a b pos) ρ k := fun W σ H O M Q q =>
  (pe_ix ix_w pe_w pe_w hs).w (h W σ H O M _ fun x dx ρ1 H1 O1 M1 E1 rx h1 => h1 W σ H1 O1 M1 _ fun y dy ρ2 H2 O2 M2 E2 ry h2 => by
    obtain ⟨dz, ho, hk⟩ := h2
    exact ho H2 O2 x y Q M2.ex (dp_mono E2.sub _ _ rx) ry fun z H' hs hz => q z dz ρ2 H' O2 (M2.grow hs) ((E1.trans E2).trans (Ext.grow hs)) hz hk)
theorem dpa_at {K : PySem.W.Frag} {H : Hp} {ds : List D} {vs : List V} (h : DpAll K H vs ds) {i : Int} {d : D} (e : atI ds i = some d) : ∃ v, atI vs i = some v ∧ Dp K H v d := by
  unfold atI at e ⊢
  rw [← dpa_len h] at e
  cases q : ixN vs.length i with
  | none => rw [q] at e; cases e
  | some j =>
    rw [q] at e
    exact dpa_get' h e
theorem ixd_tup {ds : List D} {i : Int} {d : D} (h : atI ds i = some d) : IxD X (.tuple ds) (.int i) d := fun H O x y Q _ rx ry q value slice pins s σ v u I r1 r2 hs0 => by
  cases ry
  cases rx with
  | tup hs ha =>
    obtain ⟨z, e, r⟩ := dpa_at ha h
    refine ix_tup value slice pins s σ H _ _ v u Q I r1 r2 ⟨_, _, _, _, rfl, rfl, cut_sub.t hs, e, q z H (Sub.refl H) r⟩ hs0
theorem ixd_lst {ds : List D} {i : Int} {d : D} (h : atI ds i = some d) : IxD X (.list ds) (.int i) d := fun H O x y Q _ rx ry q value slice pins s σ v u I r1 r2 hs0 => by
  cases ry
  cases rx with
  | lst hs ha =>
    obtain ⟨z, e, r⟩ := dpa_at ha h
    refine ix_list value slice pins s σ H _ _ v u Q I r1 r2 ⟨_, _, _, _, rfl, rfl, cut_sub.l hs, e, q z H (Sub.refl H) r⟩ hs0
theorem ixd_str {z : Str} {i : Int} {c : Nat} (hl : z.length ≤ sizeLine) (h : atI z.cps.toList i = some c) : IxD X (.str z) (.int i) (.str ⟨#[c]⟩) := fun H O x y Q _ rx ry q value slice pins s σ v u I r1 r2 hs0 => by
  cases ry
  cases rx
  refine ix_str value slice pins s σ H _ _ v u Q I r1 r2 ⟨_, _, _, rfl, rfl, hl, h, q _ H (Sub.refl H) (.str _)⟩ hs0
theorem atI_map {α β : Type} {xs : List α} {f : α → β} {i : Int} {a : α} (h : atI xs i = some a) : atI (xs.map f) i = some (f a) := by
  unfold atI at h ⊢
  rw [List.length_map]
  cases q : ixN xs.length i with
  | none => rw [q] at h; cases h
  | some j =>
    rw [q] at h
    show (xs.map f)[j]? = _
    rw [List.getElem?_map, show xs[j]? = some a from h]
    rfl
/-- an item of a list of one's own -/
theorem x_ixO {k : D → Rho → Prop} {i : Nat} {x : Str} {py : Pos} (hN : X.N[i]? = some x) (hv : Vis X.env.scope x) (h : EX X b ρ fun dy ρ2 => ∃ c ds j d, dy = .int j ∧ ρ2[i]? = some (Sl.own c (.lst ds)) ∧ atI ds j = some d ∧ k d ρ2)
    (hs : PlainIx b := by exact fun _ _ => rfl) (hw : ∃ b d0, ρ[i]? = some (Sl.own b d0) := by exact ⟨_, _, rfl⟩)
    (hd : (x == ("__debug__" : Str)) = false := by decide) (hcd : (x == ("__classdict__" : Str)) = false := by decide) : EX X (.Subscript (.Name x py) b pos) ρ k := fun W σ H O M Q q => by
  obtain ⟨b0, d0, hw⟩ := hw
  obtain ⟨p0, _, ep0, _⟩ := M.own i b0 d0 hw
  refine (pe_ix ix_list (pe_var hN hv hd hcd) pe_w hs).w ⟨_, ep0, h W σ H O M _ fun y dy ρ2 H2 O2 M2 E2 ry ⟨c, ds, j, d, e1, e2, e3, hk⟩ => ?_⟩
  subst e1
  cases ry
  obtain ⟨p, ho, f1, f2, f3, f4, _⟩ := M2.own i c (.lst ds) e2
  rw [ep0] at f1
  cases f1
  obtain ⟨us, rfl, f4⟩ := ct_lst f4
  obtain ⟨z, g1, g2⟩ := dpa_at f4 e3
  exact ⟨p0, us, j, z, rfl, rfl, SqL.of f3, g1, q z d ρ2 H2 O2 M2 E2 g2 hk⟩

/-! ### calls of what is built in -/
def wC (X : Cx) (f : Value) : List V → Hp → VK → Prop := fun vs H Q => ∀ pins s σ us, Inv X pins σ H s → Vals vs us → wpAny (model X.prog X.w) X.A (call f us) (EP X pins σ Q) X.xe s
theorem call_w {f : Value} : CallR X f (wC X f) := fun pins s σ H vs us Q I r h => h pins s σ us I r
theorem CallRw {f : Value} {r : List V → Hp → VK → Prop} (h : CallR X f r) {vs : List V} {H : Hp} {Q : VK} (q : r vs H Q) : wC X f vs H Q := fun pins s σ us I rv => h pins s σ H vs us Q I rv q
def CallD (X : Cx) (f : Value) (ds : List D) (dz : D) : Prop := ∀ (H : Hp) (O : Addr → Prop) (vs : List V) (Q : VK), (∀ a, O a → ∃ o, H a = some o) → DpAll X.K (cut O H) vs ds → (∀ z H', Sub H H' → Dp X.K (cut O H') z dz → Q z H') → wC X f vs H Q
/-- .. a new list -/
def CallF (X : Cx) (f : Value) (ds zs : List D) : Prop := ∀ (H : Hp) (O : Addr → Prop) (vs : List V) (Q : VK), (∀ a, O a → ∃ o, H a = some o) → DpAll X.K (cut O H) vs ds → (∀ p H' us, H p = none → Sub H H' → H' p = some (.lst us) → DpAll X.K (cut O H) us zs → Q (.ref p) H') → wC X f vs H Q
variable {x : Str} {p : Pos} {id T : String}
theorem x_callB {k : D → Rho → Prop} (hg : Gl X x) (hm : X.mg x = none) (hv : bootBuiltins x = some (.builtin id)) (h : AX X (e :: es) ρ fun ds ρ1 => ∃ dz, CallD X (.builtin id) ds dz ∧ k dz ρ1) (hn : x ≠ "__name__" := by decide) (hdb : (x == ("__debug__" : Str)) = false := by decide)
    (he : starEach (e :: es) X.env = (false, eval e X.env) :: starEach es X.env := by rfl) (hpl : (backTo pos (starEach es X.env)).any (·.1) = false := by rfl) : EX X (.Call (.Name x p) (e :: es) [] pos) ρ k := fun W σ H O M Q q =>
  (pe_callB call_w hg hm hv pa_w hn hdb he hpl).w (h W σ H O M _ fun vs ds ρ1 H1 O1 M1 E1 r ⟨dz, hc, hk⟩ => hc H1 O1 vs Q M1.ex r fun z H' hs rz => q z dz ρ1 H' O1 (M1.grow hs) (E1.trans (Ext.grow hs)) rz hk)
theorem x_callT {k : D → Rho → Prop} (hg : Gl X x) (hm : X.mg x = none) (hv : bootBuiltins x = some (.type T)) (h : AX X (e :: es) ρ fun ds ρ1 => ∃ dz, CallD X (.type T) ds dz ∧ k dz ρ1) (hn : x ≠ "__name__" := by decide) (hdb : (x == ("__debug__" : Str)) = false := by decide)
    (he : starEach (e :: es) X.env = (false, eval e X.env) :: starEach es X.env := by rfl) (hpl : (backTo pos (starEach es X.env)).any (·.1) = false := by rfl) : EX X (.Call (.Name x p) (e :: es) [] pos) ρ k := fun W σ H O M Q q =>
  (pe_callTy call_w hg hm hv pa_w hn hdb he hpl).w (h W σ H O M _ fun vs ds ρ1 H1 O1 M1 E1 r ⟨dz, hc, hk⟩ => hc H1 O1 vs Q M1.ex r fun z H' hs rz => q z dz ρ1 H' O1 (M1.grow hs) (E1.trans (Ext.grow hs)) rz hk)
theorem f_callB {k : Ct → Rho → Prop} (hg : Gl X x) (hm : X.mg x = none) (hv : bootBuiltins x = some (.builtin id)) (h : AX X (e :: es) ρ fun ds ρ1 => ∃ zs, CallF X (.builtin id) ds zs ∧ k (.lst zs) ρ1) (hn : x ≠ "__name__" := by decide) (hdb : (x == ("__debug__" : Str)) = false := by decide)
    (he : starEach (e :: es) X.env = (false, eval e X.env) :: starEach es X.env := by rfl) (hpl : (backTo pos (starEach es X.env)).any (·.1) = false := by rfl) : FX X (.Call (.Name x p) (e :: es) [] pos) ρ k := fun W σ H O M Q q =>
  (pe_callB call_w hg hm hv pa_w hn hdb he hpl).w (h W σ H O M _ fun vs ds ρ1 H1 O1 M1 E1 r ⟨zs, hc, hk⟩ => hc H1 O1 vs Q M1.ex r fun p H' us hp hs hl rz => by
    obtain ⟨M2, E2, n2, h0⟩ := M1.new_list hp hs hl
    exact q p (.lst us) (.lst zs) ρ1 H' _ M2 (.inr rfl) n2 h0 hl (dpa_mono E2.sub _ _ rz) (E1.trans E2) hk)
theorem f_callT {k : Ct → Rho → Prop} (hg : Gl X x) (hm : X.mg x = none) (hv : bootBuiltins x = some (.type T)) (h : AX X (e :: es) ρ fun ds ρ1 => ∃ zs, CallF X (.type T) ds zs ∧ k (.lst zs) ρ1) (hn : x ≠ "__name__" := by decide) (hdb : (x == ("__debug__" : Str)) = false := by decide)
    (he : starEach (e :: es) X.env = (false, eval e X.env) :: starEach es X.env := by rfl) (hpl : (backTo pos (starEach es X.env)).any (·.1) = false := by rfl) : FX X (.Call (.Name x p) (e :: es) [] pos) ρ k := fun W σ H O M Q q =>
  (pe_callTy call_w hg hm hv pa_w hn hdb he hpl).w (h W σ H O M _ fun vs ds ρ1 H1 O1 M1 E1 r ⟨zs, hc, hk⟩ => hc H1 O1 vs Q M1.ex r fun p H' us hp hs hl rz => by
    obtain ⟨M2, E2, n2, h0⟩ := M1.new_list hp hs hl
    exact q p (.lst us) (.lst zs) ρ1 H' _ M2 (.inr rfl) n2 h0 hl (dpa_mono E2.sub _ _ rz) (E1.trans E2) hk)
/-- .. of a list of one's own alone, worth a plain value -/
def flatD : D → Bool
  | .none => true | .bool _ => true | .int _ => true | .str _ => true | _ => false
theorem dp_flat {K : PySem.W.Frag} {H H' : Hp} {v : V} {d : D} (f : flatD d = true) (r : Dp K H v d) : Dp K H' v d := by
  cases r with
  | non => exact .non
  | bl b => exact .bl b
  | int i => exact .int i
  | str x => exact .str x
  | lst _ _ => cases f
  | tup _ _ => cases f
theorem own_cut {K : PySem.W.Frag} {W : Wd} {σ : L2.St} {H : Hp} {O : Addr → Prop} {i : Nat} {c : Bool} {ds : List D} (M : Mt K W ρ σ H O) (hs : ρ[i]? = some (Sl.own c (.lst ds))) :
    ∃ p us, σ[i]? = some (some (V.ref p)) ∧ O p ∧ H p = some (HO.lst us) ∧ DpAll K (cut O H) us ds ∧ Dp K (cut (fun a => O a ∧ a ≠ p) H) (.ref p) (.list ds) := by
  obtain ⟨p, ho, e1, e2, e3, e4, _⟩ := M.own i c (.lst ds) hs
  obtain ⟨us, rfl, e4⟩ := ct_lst e4
  have hx : Ext H O H (fun a => O a ∧ a ≠ p) := fun a o ho hn => ⟨ho, fun z => hn z.1⟩
  exact ⟨p, us, e1, e2, e3, e4, .lst (SqL.of (cut_some.mpr ⟨fun z => z.2 rfl, e3⟩)) (dpa_mono hx.sub _ _ e4)⟩
theorem x_callBO {k : D → Rho → Prop} {i : Nat} {y : Str} {py : Pos} {c : Bool} {ds : List D} {dz : D} (hg : Gl X x) (hm : X.mg x = none) (hv : bootBuiltins x = some (.builtin id)) (hN : X.N[i]? = some y) (hvy : Vis X.env.scope y) (hs : ρ[i]? = some (Sl.own c (.lst ds)))
    (hc : CallD X (.builtin id) [.list ds] dz) (hf : flatD dz = true) (hk : k dz ρ) (hn : x ≠ "__name__" := by decide) (hdb : (x == ("__debug__" : Str)) = false := by decide)
    (hdy : (y == ("__debug__" : Str)) = false := by decide) (hcy : (y == ("__classdict__" : Str)) = false := by decide)
    (he : starEach [Expr.Name y py] X.env = (false, eval (.Name y py) X.env) :: starEach [] X.env := by rfl) (hpl : (backTo pos (starEach [] X.env)).any (·.1) = false := by rfl) : EX X (.Call (.Name x p) [.Name y py] [] pos) ρ k := fun W σ H O M Q q => by
  obtain ⟨p, us, e1, e2, e3, e4, r⟩ := own_cut M hs
  refine (pe_callB call_w hg hm hv (pa_cons (pe_var hN hvy hdy hcy) pa_nil he) hn hdb he hpl).w ⟨_, e1, ?_⟩
  exact hc H (fun a => O a ∧ a ≠ p) [.ref p] Q (fun a h => M.ex a h.1) (.cons r .nil) fun z H' hs' rz => q z dz ρ H' O (M.grow hs') (Ext.grow hs') (dp_flat hf rz) hk

/-! what is built in -/
theorem cd_lenT {ds : List D} : CallD X (.builtin "len") [.tuple ds] (.int ds.length) := fun H O vs Q _ r q => by
  cases r with
  | cons r1 r2 =>
    cases r2
    cases r1 with
    | tup hs ha => exact CallRw call_len_seq ⟨_, _, rfl, .inr (cut_sub.t hs), by rw [dpa_len ha]; exact q _ H (Sub.refl H) (.int _)⟩
theorem cd_lenL {ds : List D} : CallD X (.builtin "len") [.list ds] (.int ds.length) := fun H O vs Q _ r q => by
  cases r with
  | cons r1 r2 =>
    cases r2
    cases r1 with
    | lst hs ha => exact CallRw call_len_seq ⟨_, _, rfl, .inl (cut_sub.l hs), by rw [dpa_len ha]; exact q _ H (Sub.refl H) (.int _)⟩
theorem cd_lenS {z : Str} (h : z.length ≤ sizeLine) : CallD X (.builtin "len") [.str z] (.int z.length) := fun H O vs Q _ r q => by
  cases r with
  | cons r1 r2 =>
    cases r2
    cases r1
    exact CallRw call_len_str ⟨_, rfl, h, q _ H (Sub.refl H) (.int _)⟩
theorem cd_abs {i : Int} : CallD X (.builtin "abs") [.int i] (.int (if i < 0 then -i else i)) := fun H O vs Q _ r q => by
  cases r with
  | cons r1 r2 =>
    cases r2; cases r1
    exact CallRw call_abs ⟨_, rfl, q _ H (Sub.refl H) (.int _)⟩
theorem cd_max2 {i j : Int} (hc : X.calm = true) : CallD X (.builtin "max") [.int i, .int j] (.int (if j > i then j else i)) := fun H O vs Q _ r q => by
  cases r with
  | cons r1 r2 =>
    cases r2 with
    | cons r2 r3 =>
      cases r3; cases r1; cases r2
      exact CallRw (call_max2 hc) ⟨_, _, rfl, q _ H (Sub.refl H) (.int _)⟩
theorem cd_min2 {i j : Int} (hc : X.calm = true) : CallD X (.builtin "min") [.int i, .int j] (.int (if j < i then j else i)) := fun H O vs Q _ r q => by
  cases r with
  | cons r1 r2 =>
    cases r2 with
    | cons r2 r3 =>
      cases r3; cases r1; cases r2
      exact CallRw (call_min2 hc) ⟨_, _, rfl, q _ H (Sub.refl H) (.int _)⟩
theorem cd_int {i : Int} : CallD X (.type "int") [.int i] (.int i) := fun H O vs Q _ r q => by
  cases r with
  | cons r1 r2 =>
    cases r2; cases r1
    exact CallRw call_int1 (.inl ⟨_, rfl, q _ H (Sub.refl H) (.int _)⟩)
theorem cd_intB {b : Bool} : CallD X (.type "int") [.bool b] (.int (if b then 1 else 0)) := fun H O vs Q _ r q => by
  cases r with
  | cons r1 r2 =>
    cases r2; cases r1
    exact CallRw call_int1 (.inr ⟨_, rfl, q _ H (Sub.refl H) (.int _)⟩)
theorem cd_divmod {i j : Int} (h : CDiv i j) : CallD X (.builtin "divmod") [.int i, .int j] (.tuple [.int (i / j), .int (i % j)]) := fun H O vs Q ex r q => by
  cases r with
  | cons r1 r2 =>
    cases r2 with
    | cons r2 r3 =>
      cases r3; cases r1; cases r2
      refine CallRw call_divmod ⟨_, _, rfl, h, fun p hp => q _ _ (Sub.upd hp) (.tup (SqT.of (cut_some.mpr ⟨fun z => ?_, upd_same⟩)) (.cons (.int _) (.cons (.int _) .nil)))⟩
      obtain ⟨o, e⟩ := ex p z
      rw [hp] at e; cases e
theorem cf_list {ds : List D} : CallF X (.type "list") [.list ds] ds := fun H O vs Q _ r q => by
  cases r with
  | cons r1 r2 =>
    cases r2
    cases r1 with
    | lst hs ha => exact CallRw call_list_of ⟨_, _, rfl, .inl (cut_sub.l hs), fun l hl => q l _ _ hl (Sub.upd hl) upd_same ha⟩
theorem cf_listT {ds : List D} : CallF X (.type "list") [.tuple ds] ds := fun H O vs Q _ r q => by
  cases r with
  | cons r1 r2 =>
    cases r2
    cases r1 with
    | tup hs ha => exact CallRw call_list_of ⟨_, _, rfl, .inr (cut_sub.t hs), fun l hl => q l _ _ hl (Sub.upd hl) upd_same ha⟩
theorem cd_tuple {ds : List D} : CallD X (.type "tuple") [.list ds] (.tuple ds) := fun H O vs Q ex r q => by
  cases r with
  | cons r1 r2 =>
    cases r2
    cases r1 with
    | lst hs ha =>
      refine CallRw call_tuple_of ⟨_, _, rfl, .inl ⟨cut_sub.l hs, fun l hl => q _ _ (Sub.upd hl) (.tup (SqT.of (cut_some.mpr ⟨fun z => ?_, upd_same⟩)) (dpa_mono (cut_grow (Sub.upd hl)) _ _ ha))⟩⟩
      obtain ⟨o, e⟩ := ex l z
      rw [hl] at e; cases e
theorem cd_tupleT {ds : List D} : CallD X (.type "tuple") [.tuple ds] (.tuple ds) := fun H O vs Q ex r q => by
  cases r with
  | cons r1 r2 =>
    cases r2
    cases r1 with
    | tup hs ha => exact CallRw call_tuple_of ⟨_, _, rfl, .inr ⟨cut_sub.t hs, q _ H (Sub.refl H) (.tup hs ha)⟩⟩
/-- tuple(xs) of a list of one's own -/
theorem x_tupleO {k : D → Rho → Prop} {i : Nat} {y : Str} {py : Pos} {c : Bool} {ds : List D} (hg : Gl X "tuple") (hm : X.mg "tuple" = none) (hN : X.N[i]? = some y) (hvy : Vis X.env.scope y) (hs : ρ[i]? = some (Sl.own c (.lst ds)))
    (hk : k (.tuple ds) ρ) (hdy : (y == ("__debug__" : Str)) = false := by decide) (hcy : (y == ("__classdict__" : Str)) = false := by decide)
    (he : starEach [Expr.Name y py] X.env = (false, eval (.Name y py) X.env) :: starEach [] X.env := by rfl) (hpl : (backTo pos (starEach [] X.env)).any (·.1) = false := by rfl) : EX X (.Call (.Name "tuple" p) [.Name y py] [] pos) ρ k := fun W σ H O M Q q => by
  obtain ⟨p, us, e1, e2, e3, e4, r⟩ := own_cut M hs
  refine (pe_callTy call_tuple_of hg hm (by decide +kernel) (pa_cons (pe_var hN hvy hdy hcy) pa_nil he) (by decide) (by decide) he hpl).w ⟨_, e1, p, us, rfl, .inl ⟨SqL.of e3, fun l hl => ?_⟩⟩
  have sb : Sub H (upd H l (.tup us)) := Sub.upd hl
  exact q _ _ ρ _ O (M.grow sb) (Ext.grow sb) (.tup (SqT.of (cut_some.mpr ⟨M.fresh hl, upd_same⟩)) (dpa_mono (cut_grow sb) _ _ e4)) hk
end
end Lk

set_option Elab.async false
set_option linter.all false
set_option maxRecDepth 100000
namespace Lk
open PySem PySem.Spec PyProof.Rows L2

/-! ### targets, what is walked -/
def wG (X : Cx) (tg : Expr) : TG := fun v σ H Q => ∀ pins s u, Inv X pins σ H s → RelV v u → wpAny (model X.prog X.w) X.A (assign tg X.env u) (fun _ s' => ∃ σ' H', Inv X pins σ' H' s' ∧ Q σ' H') X.xe s
theorem pg_w {X : Cx} {tg : Expr} : PG X tg (wG X tg) := ⟨fun pins s σ H v u Q I r h => h pins s u I r⟩
theorem _root_.L2.PG.w' {X : Cx} {tg : Expr} {t : TG} (h : PG X tg t) {v : V} {σ : L2.St} {H : Hp} {Q : L2.St → Hp → Prop} (q : t v σ H Q) : wG X tg v σ H Q := fun pins s u I r => h.run pins s σ H v u Q I r q
def wIt (X : Cx) (tg iter : Expr) : TI := fun σ H R => ∀ pins s, Inv X pins σ H s → wpAny (model X.prog X.w) X.A (eval iter X.env) (fun v s1 => wpAny (model X.prog X.w) X.A (pyIter v) (PIE X pins σ tg R) X.xe s1) X.xe s
theorem pi_w {X : Cx} {tg iter : Expr} : PI X tg iter (wIt X tg iter) := ⟨fun pins s σ H R I h => h pins s I⟩
theorem _root_.L2.PI.w' {X : Cx} {tg iter : Expr} {t : TI} (h : PI X tg iter t) {σ : L2.St} {H : Hp} {R : It → Hp → Prop} (q : t σ H R) : wIt X tg iter σ H R := fun pins s I => h.run pins s σ H R I q

def GX (X : Cx) (tg : Expr) (d : D) (ρ : Rho) (vs : List Nat) (k : Rho → Prop) : Prop :=
  ∀ W σ H O v, Mt X.K W ρ σ H O → Dp X.K (cut O H) v d → ∀ Q : L2.St → Hp → Prop, (∀ ρ' σ' H' O', Mt X.K W ρ' σ' H' O' → Ext H O H' O' → (σ'.length = σ.length ∧ ∀ i, i ∉ vs → σ'[i]? = σ[i]?) → k ρ' → Q σ' H') → wG X tg v σ H Q
/-- what an iterator yields -/
def ItD (K : PySem.W.Frag) (J : It) (H : Hp) (O : Addr → Prop) (items : List D) : Prop := ∀ H' O', Ext H O H' O' → (∀ a, O' a → ∃ o, H' a = some o) → ∀ i, (∀ d, items[i]? = some d → J.go i H' ∧ ∀ x H'', J.yld i H' x H'' → Sub H' H'' ∧ Dp K (cut O' H'') x d) ∧ (items[i]? = none → J.stop i H')
def IX (X : Cx) (tg iter : Expr) (ρ : Rho) (k : List D → Rho → Prop) : Prop :=
  ∀ W σ H O, Mt X.K W ρ σ H O → ∀ R : It → Hp → Prop, (∀ J items ρ' H' O', Mt X.K W ρ' σ H' O' → Ext H O H' O' → ItD X.K J H' O' items → items.length ≤ sizeLine → k items ρ' → R J H') → wIt X tg iter σ H R
/-- lists and tuples are no longer than the line -/
def Lim (K : PySem.W.Frag) (H : Hp) : Prop := ∀ a xs, (SqL K H a xs ∨ SqT K H a xs) → xs.length ≤ sizeLine
theorem lim_E {X : Cx} {e : Expr} {σ : L2.St} {H : Hp} {Q : VK} (h : wE X e σ H fun v H' => Lim X.K H' → Q v H') : wE X e σ H Q := fun pins s I => thn (h pins s I) fun u s' ⟨v, H', I', r, q⟩ => ⟨v, H', I', r, q fun a xs z => by
  rcases z with z | z
  · obtain ⟨_, _, _, h⟩ := I'.list z; exact h
  · obtain ⟨_, _, _, h⟩ := I'.tuple z; exact h⟩
section
variable {X : Cx} {ρ : Rho} {pos : Pos} {tg e c : Expr} {es : List Expr}
theorem g_name {i : Nat} {x : Str} {d : D} {k : Rho → Prop} (hN : X.N.Nodup) (hi : X.N[i]? = some x) (hx : Loc X.env.scope x) (h : isIo ρ[i]? = false) (hk : k (ρ.set i (.val d)))
    (hf : X.fn x = true ∨ X.env.scope.names.lookup x = some .local := by first | exact .inl rfl | exact .inr rfl | assumption) : GX X (.Name x pos) d ρ [i] k := fun W σ H O v M r Q q =>
  (pg_name hN hi hx hf).w' (q _ _ H O (M.set h r) (Ext.refl _ _) ⟨List.length_set, fun j hj => List.getElem?_set_ne (fun z => hj (by rw [z]; exact List.mem_singleton.mpr rfl))⟩ hk)
def GXs (X : Cx) (ts : List Expr) (ds : List D) (ρ : Rho) (vs : List Nat) (k : Rho → Prop) : Prop :=
  ∀ W σ H O us, Mt X.K W ρ σ H O → DpAll X.K (cut O H) us ds → ∀ Q : L2.St → Hp → Prop, (∀ ρ' σ' H' O', Mt X.K W ρ' σ' H' O' → Ext H O H' O' → (σ'.length = σ.length ∧ ∀ i, i ∉ vs → σ'[i]? = σ[i]?) → k ρ' → Q σ' H') →
    ∀ pins s ws, Inv X pins σ H s → Vals us ws → wpAny (model X.prog X.w) X.A (assignInOrder ((assignEach ts X.env).map (·.2)) ws) (fun _ s' => ∃ σ' H', Inv X pins σ' H' s' ∧ Q σ' H') X.xe s
theorem gs_nil {k : Rho → Prop} (hk : k ρ) : GXs X [] [] ρ [] k := fun W σ H O us M r Q q pins s ws I rv => by
  cases r
  exact pgs_nil.run pins s σ H _ ws Q I rv ⟨rfl, q ρ σ H O M (Ext.refl _ _) ⟨rfl, fun _ _ => rfl⟩ hk⟩
theorem gs_cons {d : D} {ds : List D} {v1 vs : List Nat} {k : Rho → Prop} (h : GX X e d ρ v1 fun ρ1 => GXs X es ds ρ1 vs k) (hs : (assignEach (e :: es) X.env).map (·.2) = assign e X.env :: (assignEach es X.env).map (·.2) := by rfl) :
    GXs X (e :: es) (d :: ds) ρ (v1 ++ vs) k := fun W σ H O us M r Q q pins s ws I rv => by
  cases r with
  | cons r1 r2 =>
    refine (pgs_cons (t := wG X e) (u := fun us σ H Q => ∀ pins s ws, Inv X pins σ H s → Vals us ws → wpAny (model X.prog X.w) X.A (assignInOrder ((assignEach es X.env).map (·.2)) ws) (fun _ s' => ∃ σ' H', Inv X pins σ' H' s' ∧ Q σ' H') X.xe s) pg_w ⟨fun pins s σ H vs us Q I r h => h pins s us I r⟩ hs).run pins s σ H _ ws Q I rv ⟨_, _, rfl, ?_⟩
    exact h W σ H O _ M r1 _ fun ρ1 σ1 H1 O1 M1 E1 s1 h1 => h1 W σ1 H1 O1 _ M1 (dpa_mono E1.sub _ _ r2) Q fun ρ2 σ2 H2 O2 M2 E2 s2 hk =>
      q ρ2 σ2 H2 O2 M2 (E1.trans E2) ⟨s2.1.trans s1.1, fun i hi => (s2.2 i (fun z => hi (List.mem_append_right _ z))).trans (s1.2 i (fun z => hi (List.mem_append_left _ z)))⟩ hk
theorem g_tup {k2 : Nat} {ds : List D} {vs : List Nat} {k : Rho → Prop} (hc : X.calm = true) (hl : ds.length = es.length) (h : GXs X es ds ρ vs k)
    (hn : (assignEach es X.env).length = es.length := by rfl) (hst : (assignEach es X.env).findIdx? (·.1) = none := by rfl) : GX X (.Tuple es k2 pos) (.tuple ds) ρ vs k := fun W σ H O v M r Q q => by
  cases r with
  | tup hs ha =>
    refine (pg_tup hc (t := fun us σ H Q => ∀ pins s ws, Inv X pins σ H s → Vals us ws → wpAny (model X.prog X.w) X.A (assignInOrder ((assignEach es X.env).map (·.2)) ws) (fun _ s' => ∃ σ' H', Inv X pins σ' H' s' ∧ Q σ' H') X.xe s) ⟨fun pins s σ H vs us Q I r h => h pins s us I r⟩ hn hst).w' ⟨_, _, rfl, cut_sub.t hs, by rw [dpa_len ha]; exact hl, ?_⟩
    exact h W σ H O _ M ha Q q
/-- a, b = e -/
theorem s_unp {vs : List Nat} {N : Wish} (h : EX X e ρ fun d ρ1 => GX X tg d ρ1 vs N.nx) (hs : swapsWithSole [tg] e pos.line X.env = pure false := by rfl) (hw : swappedStores [tg] e X.env = pure none := by rfl)
    (h1 : (assignEach [tg] X.env).map (·.2) = [assign tg X.env] := by rfl) : SX X (.Assign [tg] e pos) ρ N := fun W σ H O M Dn q =>
  (ps_asg pe_w pg_w hs hw h1).w (h W σ H O M _ fun v d ρ1 H1 O1 M1 E1 r h2 => h2 W σ H1 O1 v M1 r _ fun ρ2 σ2 H2 O2 M2 E2 _ hk => q.nx ρ2 σ2 H2 O2 M2 (E1.trans E2) hk)

theorem itd_lst {H : Hp} {O : Addr → Prop} {a : Addr} {ds : List D} {us : List V} (hs : SqL X.K (cut O H) a us) (ha : DpAll X.K (cut O H) us ds) : ItD X.K (Itl X.K a) H O ds := fun H' O' E' ex i => by
  have hs' : SqL X.K H' a us := cut_sub.l (E'.sub.l hs)
  have ha' := dpa_mono E'.sub _ _ ha
  refine ⟨fun d e => ?_, fun e => ⟨us, hs', by rw [dpa_len ha]; exact List.getElem?_eq_none_iff.mp e⟩⟩
  obtain ⟨v, e1, r⟩ := dpa_get' ha' e
  refine ⟨⟨us, v, hs', e1⟩, fun x H'' y => ?_⟩
  obtain ⟨rfl, y⟩ := y
  have e2 := y us hs'
  rw [e1] at e2
  cases e2
  exact ⟨Sub.refl _, r⟩
theorem itd_tup {H : Hp} {O : Addr → Prop} {a : Addr} {ds : List D} {us : List V} (hs : SqT X.K (cut O H) a us) (ha : DpAll X.K (cut O H) us ds) : ItD X.K (Itt X.K a) H O ds := fun H' O' E' ex i => by
  have hs' : SqT X.K H' a us := cut_sub.t (E'.sub.t hs)
  have ha' := dpa_mono E'.sub _ _ ha
  refine ⟨fun d e => ?_, fun e => ⟨us, hs', by rw [dpa_len ha]; exact List.getElem?_eq_none_iff.mp e⟩⟩
  obtain ⟨v, e1, r⟩ := dpa_get' ha' e
  refine ⟨⟨us, v, hs', e1⟩, fun x H'' y => ?_⟩
  obtain ⟨rfl, y⟩ := y
  have e2 := y us hs'
  rw [e1] at e2
  cases e2
  exact ⟨Sub.refl _, r⟩
theorem i_lst {k : List D → Rho → Prop} (h : EX X e ρ fun d ρ1 => ∃ ds, d = .list ds ∧ k ds ρ1) : IX X tg e ρ k := fun W σ H O M R q =>
  (pi_list pe_w).w' (lim_E (h W σ H O M _ fun v d ρ1 H1 O1 M1 E1 r ⟨ds, hd, hk⟩ lim => by
    subst hd
    cases r with
    | lst hs ha => exact ⟨_, rfl, ⟨_, cut_sub.l hs⟩, q _ ds ρ1 H1 O1 M1 E1 (itd_lst hs ha) (by rw [← dpa_len ha]; exact lim _ _ (.inl (cut_sub.l hs))) hk⟩))
theorem i_tup {k : List D → Rho → Prop} (h : EX X e ρ fun d ρ1 => ∃ ds, d = .tuple ds ∧ k ds ρ1) : IX X tg e ρ k := fun W σ H O M R q =>
  (pi_tup pe_w).w' (lim_E (h W σ H O M _ fun v d ρ1 H1 O1 M1 E1 r ⟨ds, hd, hk⟩ lim => by
    subst hd
    cases r with
    | tup hs ha => exact ⟨_, rfl, ⟨_, cut_sub.t hs⟩, q _ ds ρ1 H1 O1 M1 E1 (itd_tup hs ha) (by rw [← dpa_len ha]; exact lim _ _ (.inr (cut_sub.t hs))) hk⟩))
/-- lo, lo + 1, .. below hi -/
def rngL (lo hi : Int) : List Int := (List.range (hi - lo).toNat).map fun i => lo + (i : Nat)
def rngOk (lo hi : Int) : Bool := decide (-(2 ^ 62) ≤ lo) && decide (lo < 2 ^ 62) && decide (-(2 ^ 62) ≤ hi) && decide (hi < 2 ^ 62) && decide (hi - lo ≤ 16777216)
theorem itd_rng {H : Hp} {O : Addr → Prop} {lo hi : Int} : ItD X.K (Itr lo (hi - lo).toNat) H O ((rngL lo hi).map PyData.int) := fun H' O' E' ex i => by
  unfold rngL
  rw [List.map_map]
  refine ⟨fun d e => ?_, fun e => ?_⟩
  · rw [List.getElem?_map] at e
    cases q : (List.range (hi - lo).toNat)[i]? with
    | none => rw [q] at e; cases e
    | some j =>
      rw [q] at e
      obtain ⟨h1, h2⟩ := List.getElem?_eq_some_iff.mp q
      rw [List.getElem_range] at h2
      subst h2
      rw [List.length_range] at h1
      cases e
      refine ⟨h1, fun x H'' y => ?_⟩
      obtain ⟨rfl, rfl⟩ := y
      exact ⟨Sub.refl _, .int _⟩
  · have := List.getElem?_eq_none_iff.mp e
    rw [List.length_map, List.length_range] at this
    exact this
theorem rngL_len (lo hi : Int) : (rngL lo hi).length = (hi - lo).toNat := by unfold rngL; rw [List.length_map, List.length_range]
theorem i_rng1 {k : List D → Rho → Prop} {p : Pos} (hg : Gl X "range") (hm : X.mg "range" = none) (h : EX X e ρ fun d ρ1 => ∃ j, d = .int j ∧ rngOk 0 j = true ∧ k ((rngL 0 j).map PyData.int) ρ1)
    (hs0 : starEach (e :: []) X.env = (false, eval e X.env) :: starEach [] X.env := by rfl) (hs : starEach [e] X.env = [(false, eval e X.env)] := by rfl) : IX X tg (.Call (.Name "range" p) [e] [] pos) ρ k := fun W σ H O M R q =>
  (pi_range1 hg hm (pa_cons pe_w pa_nil hs0) hs).w' (h W σ H O M _ fun v d ρ1 H1 O1 M1 E1 r ⟨j, hd, hr, hk⟩ => by
    subst hd
    cases r
    unfold rngOk at hr
    simp only [Bool.and_eq_true, decide_eq_true_eq] at hr
    refine ⟨j, rfl, hr.1.1.2, hr.1.2, ?_⟩
    have e : j.toNat = (j - 0).toNat := by rw [Int.sub_zero]
    rw [e]
    exact q _ _ ρ1 H1 O1 M1 E1 itd_rng (by rw [List.length_map, rngL_len, sizeLine_eq]; omega) hk)
theorem i_rng2 {k : List D → Rho → Prop} {p : Pos} (hg : Gl X "range") (hm : X.mg "range" = none) (h : EX X e ρ fun d ρ1 => ∃ i, d = .int i ∧ EX X c ρ1 fun d ρ2 => ∃ j, d = .int j ∧ rngOk i j = true ∧ k ((rngL i j).map PyData.int) ρ2)
    (hs0 : starEach (e :: [c]) X.env = (false, eval e X.env) :: starEach [c] X.env := by rfl) (hs1 : starEach (c :: []) X.env = (false, eval c X.env) :: starEach [] X.env := by rfl)
    (hs : starEach [e, c] X.env = [(false, eval e X.env), (false, eval c X.env)] := by rfl) (hs2 : starEach [c] X.env = [(false, eval c X.env)] := by rfl) : IX X tg (.Call (.Name "range" p) [e, c] [] pos) ρ k := fun W σ H O M R q =>
  (pi_range2 hg hm (pa_cons pe_w (pa_cons pe_w pa_nil hs1) hs0) hs hs2).w' (h W σ H O M _ fun v d ρ1 H1 O1 M1 E1 r ⟨i, hd, h2⟩ => by
    subst hd
    cases r
    exact h2 W σ H1 O1 M1 _ fun v d ρ2 H2 O2 M2 E2 r ⟨j, hd, hr, hk⟩ => by
      subst hd
      cases r
      unfold rngOk at hr
      simp only [Bool.and_eq_true, decide_eq_true_eq] at hr
      exact ⟨i, j, rfl, ⟨hr.1.1.1.1, hr.1.1.1.2, hr.1.1.2, hr.1.2⟩, q _ _ ρ2 H2 O2 M2 (E1.trans E2) itd_rng (by rw [List.length_map, rngL_len, sizeLine_eq]; omega) hk⟩)

/-! ### for -/
inductive Fl (S R : Type) where
  | nx (s : S) | rt (r : R) | bk (s : S)
def forL {α S R : Type} (step : α → S → Option (Fl S R)) : List α → S → Option (Fl S R)
  | [], s => some (.nx s)
  | x :: xs, s => match step x s with
    | some (.nx s') => forL step xs s'
    | some (.rt r) => some (.rt r)
    | some (.bk s') => some (.bk s')
    | none => none
theorem s_for {α S R' : Type} {body : List Stmt} {r : α → D} {ρS : S → Rho} {vs : List Nat} {N : Wish} (hp : PassesOwn (model X.prog X.w) X.A X.env X.xe) (hc : X.calm = true)
    (h : IX X tg e ρ fun items ρ1 => ∃ (step : α → S → Option (Fl S R')) (xs : List α) (s0 : S) (fl : Fl S R'), items = xs.map r ∧ Weak ρ1 (ρS s0) ∧ forL step xs s0 = some fl ∧
      (∀ x s f1, step x s = some f1 → GX X tg (r x) (ρS s) vs fun ρ2 => SXs X body ρ2 { nx := fun ρ3 => ∃ s', f1 = .nx s' ∧ Weak ρ3 (ρS s'), rt := fun d ρ3 => ∃ rr, f1 = .rt rr ∧ (fl = .rt rr → N.rt d ρ3), bk := fun ρ3 => ∃ s', f1 = .bk s' ∧ Weak ρ3 (ρS s'), ct := fun ρ3 => ∃ s', f1 = .nx s' ∧ Weak ρ3 (ρS s'), rf := fun c ρ3 => ∃ rr, f1 = .rt rr ∧ (fl = .rt rr → N.rf c ρ3) }) ∧
      (∀ s, (fl = .nx s ∨ fl = .bk s) → N.nx (ρS s)))
    (hs : ∀ x, foldedSetIterable e X.env x = pure x := by intro _; rfl) : SX X (.For tg e body [] pos) ρ N := fun W σ H O M Dn q =>
  (ps_for hp hc pi_w pg_w pss_w hs).w (h W σ H O M _ fun J items ρ1 H1 O1 M1 E1 it hlen hk => by
    obtain ⟨step, xs, s0, fl, rfl, w0, hf, turn, fin⟩ := hk
    refine ⟨fun i m σ' H' => m = xs.length - i ∧ i ≤ xs.length ∧ ∃ s O', Mt X.K W (ρS s) σ' H' O' ∧ Ext H1 O1 H' O' ∧ forL step (xs.drop i) s = some fl, ⟨xs.length, by simp, Nat.zero_le _, s0, O1, M1.weak w0, Ext.refl _ _, hf⟩, ?_⟩
    rintro i m σ2 H2 ⟨rfl, hi, s, O2, M2, E2, hf2⟩
    obtain ⟨it1, it2⟩ := it H2 O2 E2 M2.ex i
    by_cases hlt : i < xs.length
    · have hx : xs[i]? = some xs[i] := List.getElem?_eq_getElem hlt
      obtain ⟨go, yl⟩ := it1 (r xs[i]) (by rw [List.getElem?_map, hx]; rfl)
      rw [List.drop_eq_getElem_cons hlt] at hf2
      refine .inr ⟨go, ?_⟩
      cases hst : step xs[i] s with
      | none => exfalso; simp only [forL, hst] at hf2; cases hf2
      | some f1 =>
        refine ⟨fun σ' H' => ∃ s' O', f1 = .nx s' ∧ Mt X.K W (ρS s') σ' H' O' ∧ Ext H1 O1 H' O', fun σ' H' ⟨s', O', e1, M', E'⟩ => ⟨xs.length - (i + 1), by omega, rfl, hlt, s', O', M', E', by subst e1; simpa [forL, hst] using hf2⟩, fun x H' y => ?_⟩
        obtain ⟨sb, rx⟩ := yl x H' y
        have M3 := M2.grow sb
        have E3 : Ext H1 O1 H' O2 := E2.trans (Ext.grow sb)
        refine turn xs[i] s f1 hst W σ2 H' O2 x M3 rx _ fun ρ4 σ4 H4 O4 M4 E4 _ h4 => ?_
        refine h4 W σ4 H4 O4 M4 _ ⟨fun ρ5 σ5 H5 O5 M5 E5 ⟨s', e1, w5⟩ => ⟨s', O5, e1, M5.weak w5, (E3.trans E4).trans E5⟩, fun v d ρ5 σ5 H5 O5 M5 E5 r5 ⟨rr, e1, h5⟩ => ?_, fun ρ5 σ5 H5 O5 M5 E5 ⟨s', e1, w5⟩ => ?_, fun ρ5 σ5 H5 O5 M5 E5 ⟨s', e1, w5⟩ => ⟨s', O5, e1, M5.weak w5, (E3.trans E4).trans E5⟩, fun p us c ρ5 σ5 H5 O5 M5 E5 hp hn h0 hl r5 ⟨rr, e1, h5⟩ => ?_⟩
        · subst e1
          refine q.rt v d ρ5 σ5 H5 O5 M5 (E1.trans ((E3.trans E4).trans E5)) r5 (h5 ?_)
          simpa [forL, hst] using hf2.symm
        · subst e1
          refine q.nx _ σ5 H5 O5 (M5.weak w5) (E1.trans ((E3.trans E4).trans E5)) (fin s' (.inr ?_))
          simpa [forL, hst] using hf2.symm
        · subst e1
          refine q.rf p us c ρ5 σ5 H5 O5 M5 (E1.trans ((E3.trans E4).trans E5)) hp hn h0 hl r5 (h5 ?_)
          simpa [forL, hst] using hf2.symm
    · have e : i = xs.length := by omega
      subst e
      have hn : (xs.map r)[xs.length]? = none := by simp
      refine .inl ⟨it2 hn, ?_⟩
      rw [List.drop_length] at hf2
      have e2 : fl = .nx s := by simpa [forL] using hf2.symm
      exact q.nx _ σ2 H2 O2 M2 (E1.trans E2) (fin s (.inl e2)))
end
end Lk

set_option Elab.async false
set_option linter.all false
set_option maxRecDepth 100000
namespace Lk
open PySem PySem.Spec PyProof.Rows L2

/-! ### comprehensions -/
/-- the slots of the block's own names -/
def blank (ρ : Rho) : List Nat → Rho
  | [] => ρ
  | v :: vs => (blank ρ vs).set v .non
theorem blank_len (ρ : Rho) : ∀ vs, (blank ρ vs).length = ρ.length
  | [] => rfl
  | v :: vs => by unfold blank; rw [List.length_set, blank_len ρ vs]
theorem blank_out {ρ : Rho} {i : Nat} : ∀ {vs : List Nat}, i ∉ vs → (blank ρ vs)[i]? = ρ[i]?
  | [], _ => rfl
  | v :: vs, h => by
    have h1 : v ≠ i := fun e => h (by rw [e]; exact List.mem_cons_self)
    unfold blank
    rw [List.getElem?_set_ne h1]
    exact blank_out fun m => h (List.mem_cons_of_mem _ m)
theorem blank_in {ρ : Rho} {i : Nat} : ∀ {vs : List Nat}, i ∈ vs → i < ρ.length → (blank ρ vs)[i]? = some .non
  | v :: vs, h, hl => by
    unfold blank
    by_cases e : v = i
    · subst e
      rw [List.getElem?_set_self (by rw [blank_len]; exact hl)]
    · rw [List.getElem?_set_ne e]
      exact blank_in ((List.mem_cons.mp h).resolve_left (Ne.symm e)) hl
/-- ρ' is ρ but for the slots vs, of which ρ' knows nothing -/
structure Apart (vs : List Nat) (ρ ρ' : Rho) : Prop where
  len : ρ.length = ρ'.length
  out : ∀ i, i ∉ vs → ρ'[i]? = ρ[i]?
  inn : ∀ i, i ∈ vs → i < ρ'.length → ρ'[i]? = some .non
theorem Apart.of {vs : List Nat} {ρ ρ' : Rho} (h1 : ρ.length = ρ'.length) (h : blank ρ vs = ρ') : Apart vs ρ ρ' := by
  subst h
  exact ⟨h1, fun i hi => blank_out hi, fun i hi hl => blank_in hi (by rw [blank_len] at hl; exact hl)⟩
section
variable {K : PySem.W.Frag} {W : Wd} {ρ ρ' : Rho} {σ σ' : L2.St} {H H' : Hp} {O : Addr → Prop}
theorem Mt.part (M : Mt K W ρ σ H O) {vs : List Nat} (a : Apart vs ρ ρ') (hf : ∀ q ∈ W.ioL, q.1 ∉ vs) (hl : σ'.length = σ.length) (hs : ∀ i, i ∉ vs → σ'[i]? = σ[i]?) : Mt K W ρ' σ' H O := by
  have get : ∀ i s, ρ'[i]? = some s → s ≠ .non → i ∉ vs ∧ ρ[i]? = some s := fun i s h n => by
    by_cases hi : i ∈ vs
    · have hlt : i < ρ'.length := (List.getElem?_eq_some_iff.mp h).1
      rw [a.inn i hi hlt] at h
      cases h
      exact absurd rfl n
    · exact ⟨hi, by rw [← a.out i hi]; exact h⟩
  refine ⟨by rw [hl, M.len, a.len], fun i d h => ?_, fun i b ds h => ?_, fun i j b c ds es p hn h1 h2 => ?_, fun q hq => ?_, M.ex, M.keep, M.sub, M.new, M.wf1, M.wf2, M.old⟩
  · obtain ⟨n, h⟩ := get i _ h (by intro z; cases z)
    rw [hs i n]
    exact M.val i d h
  · obtain ⟨n, h⟩ := get i _ h (by intro z; cases z)
    rw [hs i n]
    exact M.own i b ds h
  · obtain ⟨n1, h1⟩ := get i _ h1 (by intro z; cases z)
    obtain ⟨n2, h2⟩ := get j _ h2 (by intro z; cases z)
    rw [hs i n1, hs j n2]
    exact M.apart i j b c ds es p hn h1 h2
  · obtain ⟨h1, ds, h2⟩ := M.ios q hq
    have n : q.1 ∉ vs := hf q hq
    exact ⟨by rw [hs q.1 n]; exact h1, ds, by rw [a.out q.1 n]; exact h2⟩
/-- D, of nobody's, is kept, too -/
theorem Mt.prot' (M : Mt K W ρ σ H O) {d : Addr} {o : HO} (h0 : W.H0 d = none) (hd : H d = some o) (hO : O d) (hn : ∀ (j : Nat) b es, ρ[j]? = some (Sl.own b es) → σ[j]? ≠ some (some (V.ref d))) : Mt K ⟨upd W.H0 d o, fun a => W.B a ∨ a = d, W.ioL⟩ ρ σ H O where
  len := M.len
  val := M.val
  own := fun i b ds h => by
    obtain ⟨p, us, e1, e2, e3, e4, e5, e6⟩ := M.own i b ds h
    have np : p ≠ d := fun z => hn i b ds h (by rw [e1, z])
    exact ⟨p, us, e1, e2, e3, e4, fun z => by show upd W.H0 d o p = none; rw [upd_ne np]; exact e5 z, e6⟩
  apart := M.apart
  ios := M.ios
  ex := M.ex
  keep := fun a u h n => by
    by_cases z : a = d
    · subst z
      have h : upd W.H0 a o a = some u := h
      rw [upd_same] at h
      cases h
      exact hd
    · have h : upd W.H0 d o a = some u := h
      rw [upd_ne z] at h
      exact M.keep a u h n
  sub := fun a h => by
    rcases h with h | h
    · exact M.sub a h
    · rw [h]; exact hO
  new := fun a h => by
    by_cases z : a = d
    · exact .inl (.inr z)
    · rcases M.new a h with q | q
      · exact .inl (.inl q)
      · exact .inr (by show upd W.H0 d o a = none; rw [upd_ne z]; exact q)
  wf1 := fun a h => by
    by_cases z : a = d
    · exact ⟨o, by show upd W.H0 d o a = _; rw [z, upd_same]⟩
    · obtain ⟨u, q⟩ := M.wf1 a (h.resolve_right z)
      exact ⟨u, by show upd W.H0 d o a = _; rw [upd_ne z]; exact q⟩
  wf2 := fun a h => .inl (M.wf2 a h)
  old := fun a u h => by
    by_cases z : a = d
    · rw [z]; exact ⟨o, hd⟩
    · have h : upd W.H0 d o a = some u := h
      rw [upd_ne z] at h
      exact M.old a u h
theorem Mt.unprot {d : Addr} {o : HO} {ρ0 : Rho} {σ0 : L2.St} {Hb : Hp} {O0 : Addr → Prop} (M0 : Mt K W ρ0 σ0 Hb O0) (h0 : W.H0 d = none) (M : Mt K ⟨upd W.H0 d o, fun a => W.B a ∨ a = d, W.ioL⟩ ρ σ H O) : Mt K W ρ σ H O where
  len := M.len
  val := M.val
  own := fun i b ds h => by
    obtain ⟨p, us, e1, e2, e3, e4, e5, e6⟩ := M.own i b ds h
    refine ⟨p, us, e1, e2, e3, e4, fun z => ?_, e6⟩
    have q : upd W.H0 d o p = none := e5 z
    by_cases np : p = d
    · rw [np]; exact h0
    · rw [upd_ne np] at q; exact q
  apart := M.apart
  ios := M.ios
  ex := M.ex
  keep := fun a u h n => M.keep a u (by
    show upd W.H0 d o a = _
    have z : a ≠ d := fun z => by rw [z, h0] at h; cases h
    rw [upd_ne z]; exact h) n
  sub := fun a h => M.sub a (.inl h)
  new := fun a h => by
    rcases M.new a h with q | q
    · rcases q with q | q
      · exact .inl q
      · rw [q]; exact .inr h0
    · have q : upd W.H0 d o a = none := q
      by_cases z : a = d
      · rw [z]; exact .inr h0
      · rw [upd_ne z] at q; exact .inr q
  wf1 := M0.wf1
  wf2 := M0.wf2
  old := fun a u h => M.old a u (by
    show upd W.H0 d o a = _
    have z : a ≠ d := fun z => by rw [z, h0] at h; cases h
    rw [upd_ne z]; exact h)
/-- .. the new list is longer -/
theorem Mt.other (M : Mt K W ρ σ H O) {d : Addr} {u : HO} (h0 : W.H0 d = none) (hO : O d) (hn : ∀ (j : Nat) b es, ρ[j]? = some (Sl.own b es) → σ[j]? ≠ some (some (V.ref d))) : Mt K W ρ σ (upd H d u) O ∧ Ext H O (upd H d u) O := by
  have hx : Ext H O (upd H d u) O := fun a o h n => ⟨by rw [upd_ne (fun z => n (by rw [z]; exact hO))]; exact h, n⟩
  refine ⟨⟨M.len, fun i e h => ?_, fun i b ds h => ?_, M.apart, M.ios, fun a h => ?_, fun a o h n => ?_, M.sub, M.new, M.wf1, M.wf2, fun a o h => ?_⟩, hx⟩
  · obtain ⟨v, a, r⟩ := M.val i e h
    exact ⟨v, a, dp_mono hx.sub _ _ r⟩
  · obtain ⟨p, us, e1, e2, e3, e4, e5⟩ := M.own i b ds h
    have np : p ≠ d := fun z => hn i b ds h (by rw [e1, z])
    exact ⟨p, us, e1, e2, by rw [upd_ne np]; exact e3, ct_mono hx.sub e4, e5⟩
  · by_cases z : a = d
    · rw [z, upd_same]; exact ⟨_, rfl⟩
    · rw [upd_ne z]; exact M.ex a h
  · rw [upd_ne (fun z => by rw [z, h0] at h; cases h)]; exact M.keep a o h n
  · rw [upd_ne (fun z => by rw [z, h0] at h; cases h)]; exact M.old a o h
end

def wTs (X : Cx) (ifs : List Expr) : TT := fun σ H Q => ∀ pins s, Inv X pins σ H s → wpAny (model X.prog X.w) X.A (forIn ifs true fun c r => if r = true then do let ok ← isTrue c X.env (eval c X.env); pure (ForInStep.yield ok) else pure (ForInStep.yield r)) (TP X pins σ Q) X.xe s
def TsX (X : Cx) (ifs : List Expr) (ρ : Rho) (k : Bool → Rho → Prop) : Prop :=
  ∀ W σ H O, Mt X.K W ρ σ H O → ∀ Q : Bool → Hp → Prop, (∀ b ρ' H' O', Mt X.K W ρ' σ H' O' → Ext H O H' O' → k b ρ' → Q b H') → wTs X ifs σ H Q
theorem ts_nil {X : Cx} {ρ : Rho} {k : Bool → Rho → Prop} (h : k true ρ) : TsX X [] ρ k := fun W σ H O M Q q pins s I => pts_nil.run pins s σ H Q I (q true ρ H O M (Ext.refl _ _) h)
theorem ts_one {X : Cx} {ρ : Rho} {c : Expr} {k : Bool → Rho → Prop} (h : TX X c ρ k) : TsX X [c] ρ k := fun W σ H O M Q q pins s I => (pts_one pt_w).run pins s σ H Q I (h W σ H O M Q q)

abbrev bk (X : Cx) (scope : Scope) (s : Shared) (H : Hp) (C : Addr) (cl : List (Str × Addr)) (fp : List Addr) : Cx := X.blk s H scope (compEnvC scope cl C X.env) fp
def lcL {α β S : Type} (step : α → S → Option (Option β × S)) : List α → S → Option (List β × S)
  | [], s => some ([], s)
  | x :: xs, s => match step x s with
    | none => none
    | some (o, s') => match lcL step xs s' with
      | none => none
      | some (ys, s'') => some (o.toList ++ ys, s'')
def bE (X : Cx) (scope : Scope) (e : Expr) : TE := fun σ H Q => ∀ s0 H0 C cl fp, wE (bk X scope s0 H0 C cl fp) e σ H Q
def bG (X : Cx) (scope : Scope) (e : Expr) : TG := fun v σ H Q => ∀ s0 H0 C cl fp, wG (bk X scope s0 H0 C cl fp) e v σ H Q
def bTs (X : Cx) (scope : Scope) (es : List Expr) : TT := fun σ H Q => ∀ s0 H0 C cl fp, wTs (bk X scope s0 H0 C cl fp) es σ H Q
section
variable {X : Cx} {ρ : Rho} {pos : Pos} {tg iter elt : Expr} {ifs : List Expr} {scope : Scope} {own : List (Str × Nat)}
theorem i_mono {e : Expr} {k k' : List D → Rho → Prop} (h : IX X tg e ρ k) (m : ∀ d ρ', k d ρ' → k' d ρ') : IX X tg e ρ k' := fun W σ H O M R q => h W σ H O M R fun J items ρ' H' O' M' E' it hl hk => q J items ρ' H' O' M' E' it hl (m items ρ' hk)
theorem wipe_out' {σ : L2.St} {i : Nat} {vs : List Nat} (h : i ∉ vs) : (wipe σ vs)[i]? = σ[i]? := wipe_out h
theorem wipe_eq {σ σ' : L2.St} {vs : List Nat} (hl : σ'.length = σ.length) (h : ∀ i, i ∉ vs → σ'[i]? = σ[i]?) : wipe σ' vs = wipe σ vs := by
  apply List.ext_getElem?
  intro i
  by_cases hi : i ∈ vs
  · have key : ∀ (τ : L2.St) (us : List Nat), i ∈ us → i < τ.length → (wipe τ us)[i]? = some none := by
      intro τ us hu hlt
      induction us with
      | nil => cases hu
      | cons v us ih =>
        unfold wipe
        by_cases e : v = i
        · subst e
          rw [List.getElem?_set_self (by rw [wipe_length]; exact hlt)]
        · rw [List.getElem?_set_ne e]
          exact ih ((List.mem_cons.mp hu).resolve_left (Ne.symm e))
    by_cases hlt : i < σ.length
    · rw [key σ' vs hi (by omega), key σ vs hi hlt]
    · rw [List.getElem?_eq_none (by rw [wipe_length]; omega), List.getElem?_eq_none (by rw [wipe_length]; omega)]
  · rw [wipe_out hi, wipe_out hi]
    exact h i hi
/-- what a comprehension asks, by what its turns are worth -/
structure LcOk (X : Cx) (tg : Expr) (ifs : List Expr) (elt : Expr) (scope : Scope) (vs : List Nat) {α β S : Type} (r : α → D) (r' : β → D) (ρS : S → Rho) (step : α → S → Option (Option β × S)) : Prop where
  free : ∀ s, blank (ρS s) vs = ρS s
  len : ∀ s s', (ρS s').length = (ρS s).length
  turn : ∀ x s q, step x s = some q → ∀ s0 H0 C cl fp, GX (bk X scope s0 H0 C cl fp) tg (r x) (ρS s) vs fun ρ2 => ∀ s1 H1 C1 cl1 fp1, TsX (bk X scope s1 H1 C1 cl1 fp1) ifs ρ2 fun b ρ3 =>
    (b = true → ∀ s2 H2 C2 cl2 fp2, EX (bk X scope s2 H2 C2 cl2 fp2) elt ρ3 fun d ρ4 => ∃ y s', q = (some y, s') ∧ d = r' y ∧ blank ρ4 vs = ρS s') ∧ (b = false → ∃ s', q = (none, s') ∧ blank ρ3 vs = ρS s')
theorem lcL_len {α β S : Type} {step : α → S → Option (Option β × S)} : ∀ {xs : List α} {s : S} {ys : List β} {s' : S}, lcL step xs s = some (ys, s') → ys.length ≤ xs.length
  | [], s, ys, s', h => by simp [lcL] at h; simp [← h.1]
  | x :: xs, s, ys, s', h => by
    unfold lcL at h
    cases e : step x s with
    | none => rw [e] at h; cases h
    | some q =>
      obtain ⟨o, s1⟩ := q
      rw [e] at h
      simp only at h
      cases e2 : lcL step xs s1 with
      | none => rw [e2] at h; cases h
      | some q2 =>
        obtain ⟨zs, s2⟩ := q2
        rw [e2] at h
        simp only [Option.some.injEq, Prod.mk.injEq] at h
        rw [← h.1, List.length_append, List.length_cons]
        have := lcL_len e2
        cases o with
        | none => simp; omega
        | some _ => simp; omega
theorem lc_read {α β S : Type} {r : α → D} {r' : β → D} {ρS : S → Rho} {vs : List Nat} {W : Wd} {σ : L2.St} {H : Hp} {O : Addr → Prop} {k : Ct → Rho → Prop} {Q : VK} (M : Mt X.K W ρ σ H O)
    (h : IX X tg iter ρ fun items ρ1 => ∃ (step : α → S → Option (Option β × S)) (xs : List α) (s0 : S) (ys : List β) (s1 : S), items = xs.map r ∧ Weak ρ1 (ρS s0) ∧ lcL step xs s0 = some (ys, s1) ∧ LcOk X tg ifs elt scope vs r r' ρS step ∧ k (.lst (ys.map r')) (ρS s1))
    (q : ∀ p us ds ρ' H' O', Mt X.K W ρ' σ H' O' → O' p → (∀ (j : Nat) b es, ρ'[j]? = some (Sl.own b es) → σ[j]? ≠ some (some (V.ref p))) → W.H0 p = none → H' p = some us → CtOk X.K (cut O' H') us ds → Ext H O H' O' → k ds ρ' → Q (.ref p) H') :
    tLc (wIt X tg iter) (bG X scope tg) (bTs X scope ifs) (bE X scope elt) vs σ H Q := by
  refine h W σ H O M _ fun J items ρ1 H1 O1 M1 E1 it hlen hk => ?_
  obtain ⟨step, xs, s0, ys, s1, rfl, w0, hf, ⟨free, slen, turn⟩, hk⟩ := hk
  intro dd hd
  have sb1 : Sub H1 (upd H1 dd (.lst [])) := Sub.upd hd
  obtain ⟨M2, E2, n2, h0⟩ := M1.new_list hd sb1 upd_same
  rw [List.length_map] at hlen
  refine ⟨fun i m H' => m = xs.length - i ∧ i ≤ xs.length ∧ ∃ s zs us O' ws, Mt X.K W (ρS s) σ H' O' ∧ O' dd ∧ (∀ (j : Nat) b es, (ρS s)[j]? = some (Sl.own b es) → σ[j]? ≠ some (some (V.ref dd))) ∧ H' dd = some (.lst us) ∧ DpAll X.K (cut O' H') us (zs.map r') ∧ Ext H1 O1 H' O' ∧ zs.length ≤ i ∧ lcL step (xs.drop i) s = some (ws, s1) ∧ zs ++ ws = ys,
    ⟨xs.length, by simp, Nat.zero_le _, s0, [], [], _, ys, M2.weak w0, .inr rfl, fun j b es hj => ?_, upd_same, .nil, E2, Nat.le_refl _, hf, rfl⟩, ?_⟩
  · rcases w0.at j _ hj with z | ⟨z, _⟩
    · exact n2 j b es z
    · cases z
  rintro i m H3 ⟨rfl, hi, s, zs, us, O3, ws, M3, hO3, n3, hl3, r3, E3, hz, hf3, hys⟩
  obtain ⟨it1, it2⟩ := it H3 O3 E3 M3.ex i
  by_cases hlt : i < xs.length
  · have hx : xs[i]? = some xs[i] := List.getElem?_eq_getElem hlt
    obtain ⟨go, yl⟩ := it1 (r xs[i]) (by rw [List.getElem?_map, hx]; rfl)
    rw [List.drop_eq_getElem_cons hlt] at hf3
    unfold lcL at hf3
    cases hst : step xs[i] s with
    | none => rw [hst] at hf3; cases hf3
    | some qq =>
      obtain ⟨o, s'⟩ := qq
      rw [hst] at hf3
      simp only at hf3
      cases hrest : lcL step (xs.drop (i + 1)) s' with
      | none => rw [hrest] at hf3; cases hf3
      | some q2 =>
        obtain ⟨ws', sE⟩ := q2
        rw [hrest] at hf3
        simp only [Option.some.injEq, Prod.mk.injEq] at hf3
        obtain ⟨ew, es'⟩ := hf3
        subst es'
        have bl := free s
        have hio : ∀ q ∈ W.ioL, q.1 ∉ vs := fun q hq z => by
          obtain ⟨_, ds, h2⟩ := M3.ios q hq
          have hlj : q.1 < (ρS s).length := (List.getElem?_eq_some_iff.mp h2).1
          have := blank_in (ρ := ρS s) z hlj
          rw [bl, h2] at this
          cases this
        refine .inr ⟨go, fun H' => ∃ zs' us' O', zs' = zs ++ o.toList ∧ Mt X.K W (ρS s') σ H' O' ∧ O' dd ∧ (∀ (j : Nat) b es, (ρS s')[j]? = some (Sl.own b es) → σ[j]? ≠ some (some (V.ref dd))) ∧ H' dd = some (.lst us') ∧ DpAll X.K (cut O' H') us' (zs'.map r') ∧ Ext H1 O1 H' O', fun H' ⟨zs', us', O', e1, M', a1, a2, a3, a4, E'⟩ => ⟨xs.length - (i + 1), by omega, rfl, hlt, s', zs', us', O', ws', M', a1, a2, a3, a4, E', ?_, hrest, ?_⟩, fun x H4 y => ?_⟩
        · rw [e1, List.length_append]
          cases o with
          | none => simp; omega
          | some _ => simp; omega
        · rw [e1, List.append_assoc, ew, hys]
        · obtain ⟨sb4, rx⟩ := yl x H4 y
          have M4 := M3.grow sb4
          have hl4 : H4 dd = some (.lst us) := sb4 _ _ hl3
          have part4 : Mt X.K W (ρS s) (wipe σ vs) H4 O3 := M4.part ⟨rfl, fun _ _ => rfl, fun j hj hl => by
            have := blank_in (ρ := ρS s) hj hl
            rwa [bl] at this⟩ hio (wipe_length σ vs) (fun j hj => wipe_out hj)
          have n4 : ∀ (j : Nat) b es, (ρS s)[j]? = some (Sl.own b es) → (wipe σ vs)[j]? ≠ some (some (V.ref dd)) := fun j b es hj => by
            have nj : j ∉ vs := fun z => by
              have hlj : j < (ρS s).length := (List.getElem?_eq_some_iff.mp hj).1
              have := blank_in (ρ := ρS s) z hlj
              rw [bl, hj] at this
              cases this
            rw [wipe_out nj]
            exact n3 j b es hj
          have prot := part4.prot' h0 hl4 hO3 n4
          have back : ∀ {ρ5 : Rho} {σ5 : L2.St} {H5 : Hp} {O5 : Addr → Prop} {s5 : S}, Mt X.K ⟨upd W.H0 dd (.lst us), fun a => W.B a ∨ a = dd, W.ioL⟩ ρ5 σ5 H5 O5 → (∀ j, j ∉ vs → σ5[j]? = (wipe σ vs)[j]?) → blank ρ5 vs = ρS s5 →
              Mt X.K W (ρS s5) σ H5 O5 ∧ O5 dd ∧ H5 dd = some (.lst us) ∧ ∀ (j : Nat) b es, (ρS s5)[j]? = some (Sl.own b es) → σ[j]? ≠ some (some (V.ref dd)) := fun {ρ5 σ5 H5 O5 s5} M5 hs5 hb => by
            have M6 := Mt.unprot M4 h0 M5
            have hk : H5 dd = some (.lst us) := M5.keep dd _ upd_same (fun z => by
              obtain ⟨o, ho⟩ := M4.wf1 dd (M4.wf2 dd z)
              rw [h0] at ho; cases ho)
            have hlen5 : σ5.length = σ.length := by
              have e1 := M5.len
              have e2 : ρ5.length = (ρS s5).length := by rw [← hb, blank_len]
              have e3 := M4.len
              have e4 := slen s s5
              omega
            refine ⟨M6.part ⟨by rw [← hb, blank_len], fun j hj => by rw [← hb]; exact blank_out hj, fun j hj hl => by rw [← hb] at hl ⊢; rw [blank_len] at hl; exact blank_in hj hl⟩ hio hlen5.symm (fun j hj => by rw [hs5 j hj, wipe_out hj]), M5.sub dd (.inr rfl), hk, fun j b es hj hσ => ?_⟩
            have nj : j ∉ vs := fun z => by
              have hlj : j < (ρS s5).length := (List.getElem?_eq_some_iff.mp hj).1
              rw [← hb] at hj hlj
              rw [blank_len] at hlj
              rw [blank_in z hlj] at hj
              cases hj
            rw [← hb, blank_out nj] at hj
            obtain ⟨p, us', f1, _, _, _, f5, f6⟩ := M5.own j b es hj
            rw [hs5 j nj, wipe_out nj, hσ] at f1
            cases f1
            cases b with
            | false =>
              have z : upd W.H0 dd (.lst us) dd = none := f5 rfl
              rw [upd_same] at z
              cases z
            | true =>
              obtain ⟨o, ho⟩ := M4.wf1 dd (M4.wf2 dd (f6 rfl))
              rw [h0] at ho; cases ho
          have E4 : Ext H1 O1 H4 O3 := E3.trans (Ext.grow sb4)
          intro s0' H0' C cl fp
          refine turn xs[i] s (o, s') hst s0' H0' C cl fp _ _ H4 O3 x prot rx _ fun ρ5 σ5 H5 O5 M5 E5 hs5 h5 => ⟨?_, fun s1' H1' C1 cl1 fp1 => ?_⟩
          · exact wipe_eq (hs5.1.trans (wipe_length σ vs)) fun j hj => by rw [hs5.2 j hj, wipe_out hj]
          · refine h5 s1' H1' C1 cl1 fp1 _ σ5 H5 O5 M5 _ fun b ρ6 H6 O6 M6 E6 ⟨h6, h7⟩ => ?_
            cases b with
            | true =>
              refine iteT fun s2' H2' C2 cl2 fp2 => h6 rfl s2' H2' C2 cl2 fp2 _ σ5 H6 O6 M6 _ fun v d ρ7 H7 O7 M7 E7 r7 ⟨y, s7, e7, ed, hb7⟩ => ?_
              cases e7
              subst ed
              obtain ⟨M8, hO8, hl8, n8⟩ := back M7 hs5.2 hb7
              obtain ⟨M9, E9⟩ := M8.other (u := .lst (us ++ [v])) h0 hO8 n8
              have r9 := dpa_mono ((((Ext.grow sb4).trans E5).trans E6).trans E7).sub _ _ r3
              refine ⟨us, hl8, ?_, zs ++ [y], us ++ [v], O7, rfl, M9, hO8, n8, upd_same, ?_, (((E4.trans E5).trans E6).trans E7).trans E9⟩
              · have := dpa_len r3
                rw [List.length_map] at this
                omega
              · rw [List.map_append]
                exact dpa_app (dpa_mono E9.sub _ _ r9) (.cons (dp_mono E9.sub _ _ r7) .nil)
            | false =>
              obtain ⟨s7, e7, hb7⟩ := h7 rfl
              cases e7
              refine iteF ?_
              obtain ⟨M8, hO8, hl8, n8⟩ := back M6 hs5.2 hb7
              exact ⟨zs, us, O6, by simp, M8, hO8, n8, hl8, dpa_mono (((Ext.grow sb4).trans E5).trans E6).sub _ _ r3, (E4.trans E5).trans E6⟩
  · have e : i = xs.length := by omega
    subst e
    have hn : (xs.map r)[xs.length]? = none := by simp
    refine .inl ⟨it2 hn, ?_⟩
    rw [List.drop_length] at hf3
    simp only [lcL, Option.some.injEq, Prod.mk.injEq] at hf3
    obtain ⟨ew, es'⟩ := hf3
    subst ew es'
    rw [List.append_nil] at hys
    subst hys
    exact q dd (.lst us) (.lst _) _ H3 O3 M3 hO3 n3 h0 hl3 r3 (E1.trans E3) hk
/-- a comprehension over one thing -/
theorem f_lc {α β S : Type} {r : α → D} {r' : β → D} {ρS : S → Rho} {k : Ct → Rho → Prop} (hc : X.calm = true) (hN : X.N.Nodup) (ok : BlkOk X.N X.env.scope scope own)
    (h : IX X tg iter ρ fun items ρ1 => ∃ (step : α → S → Option (Option β × S)) (xs : List α) (s0 : S) (ys : List β) (s1 : S), items = xs.map r ∧ Weak ρ1 (ρS s0) ∧ lcL step xs s0 = some (ys, s1) ∧ LcOk X tg ifs elt scope (own.map (·.2)) r r' ρS step ∧ k (.lst (ys.map r')) (ρS s1))
    (hs : ∀ x, foldedSetIterable iter X.env x = pure x := by intro _; rfl) : FX X (.ListComp elt [⟨tg, iter, ifs, 0⟩] scope pos) ρ k := fun W σ H O M Q q =>
  (pe_lc hc hN pi_w ok (fun _ _ _ _ _ => ⟨fun pins s σ H v u Q I r h => h _ _ _ _ _ pins s u I r⟩) (fun _ _ _ _ _ => ⟨fun pins s σ H Q I h => h _ _ _ _ _ pins s I⟩) (fun _ _ _ _ _ => ⟨fun pins s σ H Q I h => h _ _ _ _ _ pins s I⟩) hs).w (lc_read M h q)
/-- y = [..] on one line -/
theorem s_lc {α β S : Type} {r : α → D} {r' : β → D} {ρS : S → Rho} {N : Wish} {i : Nat} {y : Str} {py spos : Pos} (hc : X.calm = true) (hN : X.N.Nodup) (hy : X.N[i]? = some y) (hyl : X.env.scope.names.lookup y = some .local) (ok : BlkOk X.N X.env.scope scope own)
    (hsw : swapsWith (.ListComp elt [⟨tg, iter, ifs, 0⟩] scope pos) (some (.Name y py)) spos.line X.env = pure true)
    (h : IX X tg iter ρ fun items ρ1 => ∃ (step : α → S → Option (Option β × S)) (xs : List α) (s0 : S) (ys : List β) (s1 : S), items = xs.map r ∧ Weak ρ1 (ρS s0) ∧ lcL step xs s0 = some (ys, s1) ∧ LcOk X tg ifs elt scope (own.map (·.2)) r r' ρS step ∧
      isIo (ρS s1)[i]? = false ∧ N.nx ((ρS s1).set i (.own false (.lst (ys.map r')))))
    (hs : ∀ x, foldedSetIterable iter X.env x = pure x := by intro _; rfl) : SX X (.Assign [.Name y py] (.ListComp elt [⟨tg, iter, ifs, 0⟩] scope pos) spos) ρ N := fun W σ H O M Dn q =>
  (ps_setLc hc hN hy hyl hsw pi_w ok (fun _ _ _ _ _ => ⟨fun pins s σ H v u Q I r h => h _ _ _ _ _ pins s u I r⟩) (fun _ _ _ _ _ => ⟨fun pins s σ H Q I h => h _ _ _ _ _ pins s I⟩) (fun _ _ _ _ _ => ⟨fun pins s σ H Q I h => h _ _ _ _ _ pins s I⟩) hs).w
    (lc_read (k := fun ds ρ1 => isIo ρ1[i]? = false ∧ N.nx (ρ1.set i (.own false ds))) M h fun p us ds ρ' H' O' M' hp hn h0 hl r hx ⟨h1, h2⟩ => q.nx _ _ H' O' (M'.adopt h1 hp hn h0 hl r) hx h2)
/-- .. as a value -/
theorem s_lcV {α β S : Type} {r : α → D} {r' : β → D} {ρS : S → Rho} {N : Wish} {i : Nat} {y : Str} {py spos : Pos} (hc : X.calm = true) (hN : X.N.Nodup) (hy : X.N[i]? = some y) (hyl : X.env.scope.names.lookup y = some .local) (ok : BlkOk X.N X.env.scope scope own)
    (hsw : swapsWith (.ListComp elt [⟨tg, iter, ifs, 0⟩] scope pos) (some (.Name y py)) spos.line X.env = pure true)
    (h : IX X tg iter ρ fun items ρ1 => ∃ (step : α → S → Option (Option β × S)) (xs : List α) (s0 : S) (ys : List β) (s1 : S), items = xs.map r ∧ Weak ρ1 (ρS s0) ∧ lcL step xs s0 = some (ys, s1) ∧ LcOk X tg ifs elt scope (own.map (·.2)) r r' ρS step ∧
      isIo (ρS s1)[i]? = false ∧ i < (ρS s1).length ∧ N.nx ((ρS s1).set i (.val (.list (ys.map r')))))
    (hs : ∀ x, foldedSetIterable iter X.env x = pure x := by intro _; rfl) : SX X (.Assign [.Name y py] (.ListComp elt [⟨tg, iter, ifs, 0⟩] scope pos) spos) ρ N := fun W σ H O M Dn q =>
  (ps_setLc hc hN hy hyl hsw pi_w ok (fun _ _ _ _ _ => ⟨fun pins s σ H v u Q I r h => h _ _ _ _ _ pins s u I r⟩) (fun _ _ _ _ _ => ⟨fun pins s σ H Q I h => h _ _ _ _ _ pins s I⟩) (fun _ _ _ _ _ => ⟨fun pins s σ H Q I h => h _ _ _ _ _ pins s I⟩) hs).w
    (lc_read (k := fun ds ρ1 => isIo ρ1[i]? = false ∧ i < ρ1.length ∧ ∃ zs, ds = .lst zs ∧ N.nx (ρ1.set i (.val (.list zs)))) M (i_mono h fun _ _ ⟨step, xs, s0, ys, s1, a, b, c, d, e, f, g⟩ => ⟨step, xs, s0, ys, s1, a, b, c, d, e, f, _, rfl, g⟩) fun p us c ρ' H' O' M' hp hn h0 hl r hx ⟨h1, h2, ds, hc, h3⟩ => by
      subst hc
      have M2 := M'.adopt (i := i) h1 hp hn h0 hl r
      have hi : i < ρ'.length := h2
      obtain ⟨M3, E3, _⟩ := M2.freeze (i := i) (ds := ds) (p := p) (List.getElem?_set_self hi) (List.getElem?_set_self (by rw [M'.len]; exact hi))
      rw [List.set_set] at M3
      exact q.nx _ _ H' _ M3 (hx.trans E3) h3)
end
end Lk

set_option Elab.async false
set_option linter.all false
set_option maxRecDepth 100000
namespace Lk
open PySem PySem.Spec PyProof.Rows L2

section
variable {X : Cx} {ρ : Rho} {pos : Pos} {a b c e o : Expr} {es : List Expr} {N : Wish}
/-! ### methods of texts -/
def wM (X : Cx) (id : String) : V → List V → Hp → VK → Prop := fun x vs H Q => ∀ pins s σ v us, Inv X pins σ H s → RelV x v → Vals vs us → wpAny (model X.prog X.w) X.A (call (.builtin id) (v :: us)) (EP X pins σ Q) X.xe s
theorem mt_w {id : String} : MtR X id (wM X id) := fun pins s σ H x vs v us Q I r1 r2 h => h pins s σ v us I r1 r2
theorem MtRw {id : String} {r : V → List V → Hp → VK → Prop} (h : MtR X id r) {x : V} {vs : List V} {H : Hp} {Q : VK} (q : r x vs H Q) : wM X id x vs H Q := fun pins s σ v us I r1 r2 => h pins s σ H x vs v us Q I r1 r2 q
def MtD (X : Cx) (id : String) (dx : D) (ds : List D) (dz : D) : Prop := ∀ (H : Hp) (O : Addr → Prop) (x : V) (vs : List V) (Q : VK), (∀ a, O a → ∃ o, H a = some o) → Dp X.K (cut O H) x dx → DpAll X.K (cut O H) vs ds → (∀ z H', Sub H H' → Dp X.K (cut O H') z dz → Q z H') → wM X id x vs H Q
def MtF (X : Cx) (id : String) (dx : D) (ds zs : List D) : Prop := ∀ (H : Hp) (O : Addr → Prop) (x : V) (vs : List V) (Q : VK), (∀ a, O a → ∃ o, H a = some o) → Dp X.K (cut O H) x dx → DpAll X.K (cut O H) vs ds → (∀ p H' us, H p = none → Sub H H' → H' p = some (.lst us) → DpAll X.K (cut O H) us zs → Q (.ref p) H') → wM X id x vs H Q
theorem x_m1 {k : D → Rho → Prop} {name : Str} {apos cpos : Pos} {id : String} (slot : Slot "str" name id) (hty : typeOf (.builtin id) = pure (.type "method_descriptor")) (h : EX X o ρ fun dx ρ1 => ∃ z, dx = .str z ∧ EX X e ρ1 fun dy ρ2 => ∃ dz, MtD X id dx [dy] dz ∧ k dz ρ2)
    (hs : starEach [e] X.env = [(false, eval e X.env)] := by rfl) (hbase : attributeBase o name X.env (eval o X.env) = eval o X.env := by rfl) (hline : (apos.endLine == cpos.line) = true := by rfl) :
    EX X (.Call (.Attribute o name apos) [e] [] cpos) ρ k := fun W σ H O M Q q =>
  (pe_m1 slot hty mt_w pe_w pe_w hs hbase hline).w (h W σ H O M _ fun x dx ρ1 H1 O1 M1 E1 r1 ⟨z, hz, h1⟩ => by
    subst hz
    cases r1
    exact ⟨⟨z, rfl⟩, h1 W σ H1 O1 M1 _ fun y dy ρ2 H2 O2 M2 E2 r2 ⟨dz, hm, hk⟩ => hm H2 O2 _ [y] Q M2.ex (.str z) (.cons r2 .nil) fun v H' hs hv => q v dz ρ2 H' O2 (M2.grow hs) ((E1.trans E2).trans (Ext.grow hs)) hv hk⟩)
theorem f_m1 {k : Ct → Rho → Prop} {name : Str} {apos cpos : Pos} {id : String} (slot : Slot "str" name id) (hty : typeOf (.builtin id) = pure (.type "method_descriptor")) (h : EX X o ρ fun dx ρ1 => ∃ z, dx = .str z ∧ EX X e ρ1 fun dy ρ2 => ∃ zs, MtF X id dx [dy] zs ∧ k (.lst zs) ρ2)
    (hs : starEach [e] X.env = [(false, eval e X.env)] := by rfl) (hbase : attributeBase o name X.env (eval o X.env) = eval o X.env := by rfl) (hline : (apos.endLine == cpos.line) = true := by rfl) :
    FX X (.Call (.Attribute o name apos) [e] [] cpos) ρ k := fun W σ H O M Q q =>
  (pe_m1 slot hty mt_w pe_w pe_w hs hbase hline).w (h W σ H O M _ fun x dx ρ1 H1 O1 M1 E1 r1 ⟨z, hz, h1⟩ => by
    subst hz
    cases r1
    exact ⟨⟨z, rfl⟩, h1 W σ H1 O1 M1 _ fun y dy ρ2 H2 O2 M2 E2 r2 ⟨zs, hm, hk⟩ => hm H2 O2 _ [y] Q M2.ex (.str z) (.cons r2 .nil) fun p H' us hp hs hl rz => by
      obtain ⟨M3, E3, n3, h0⟩ := M2.new_list hp hs hl
      exact q p (.lst us) (.lst zs) ρ2 H' _ M3 (.inr rfl) n3 h0 hl (dpa_mono E3.sub _ _ rz) ((E1.trans E2).trans E3) hk⟩)
theorem md_find {z y : Str} : MtD X "str.find" (.str z) [.str y] (.int (Txt.find z y)) := fun H O x vs Q _ r1 r2 q => by
  cases r1
  cases r2 with
  | cons r2 r3 =>
    cases r3; cases r2
    exact MtRw mt_find ⟨z, y, rfl, rfl, q _ H (Sub.refl H) (.int _)⟩
theorem dpa_strs {K : PySem.W.Frag} {H : Hp} : ∀ {ys : List Str} {vs : List V}, DpAll K H vs (ys.map PyData.str) → vs = ys.map V.str
  | [], _, h => by cases h; rfl
  | _ :: _, _, h => by
    cases h with
    | cons h1 h2 => cases h1; rw [List.map_cons, dpa_strs h2]
theorem dpa_ints {K : PySem.W.Frag} {H : Hp} : ∀ {ys : List Int} {vs : List V}, DpAll K H vs (ys.map PyData.int) → vs = ys.map V.int
  | [], _, h => by cases h; rfl
  | _ :: _, _, h => by
    cases h with
    | cons h1 h2 => cases h1; rw [List.map_cons, dpa_ints h2]
theorem dpa_bls {K : PySem.W.Frag} {H : Hp} : ∀ {ys : List Bool} {vs : List V}, DpAll K H vs (ys.map PyData.bool) → vs = ys.map V.bl
  | [], _, h => by cases h; rfl
  | _ :: _, _, h => by
    cases h with
    | cons h1 h2 => cases h1; rw [List.map_cons, dpa_bls h2]
theorem strs_dpa {K : PySem.W.Frag} {H : Hp} : ∀ (ys : List Str), DpAll K H (ys.map V.str) (ys.map PyData.str)
  | [] => .nil
  | y :: ys => .cons (.str y) (strs_dpa ys)
theorem md_joinL {z : Str} {ys : List Str} (hl : (ys.map (·.length)).sum + ys.length * z.length ≤ 16777216) : MtD X "str.join" (.str z) [.list (ys.map .str)] (.str (Txt.join z ys)) := fun H O x vs Q _ r1 r2 q => by
  cases r1
  cases r2 with
  | cons r2 r3 =>
    cases r3
    cases r2 with
    | lst hs ha =>
      have e := dpa_strs ha
      subst e
      exact MtRw mt_join ⟨z, _, ys, rfl, rfl, .inl (cut_sub.l hs), hl, q _ H (Sub.refl H) (.str _)⟩
theorem md_joinT {z : Str} {ys : List Str} (hl : (ys.map (·.length)).sum + ys.length * z.length ≤ 16777216) : MtD X "str.join" (.str z) [.tuple (ys.map .str)] (.str (Txt.join z ys)) := fun H O x vs Q _ r1 r2 q => by
  cases r1
  cases r2 with
  | cons r2 r3 =>
    cases r3
    cases r2 with
    | tup hs ha =>
      have e := dpa_strs ha
      subst e
      exact MtRw mt_join ⟨z, _, ys, rfl, rfl, .inr (cut_sub.t hs), hl, q _ H (Sub.refl H) (.str _)⟩
theorem mf_split {z y : Str} (h1 : (y.length == 0) = false) (h2 : z.length + 2 ≤ sizeLine) : MtF X "str.split" (.str z) [.str y] ((Txt.split z y).map .str) := fun H O x vs Q _ r1 r2 q => by
  cases r1
  cases r2 with
  | cons r2 r3 =>
    cases r3; cases r2
    exact MtRw mt_split ⟨z, y, rfl, rfl, h1, h2, fun p hp => q p _ _ hp (Sub.upd hp) upd_same (strs_dpa _)⟩

/-! ### what is built in, over lists that are values -/
theorem dp_list {K : PySem.W.Frag} {H : Hp} {vs : List V} {ds : List D} (h : DpAll K H vs [PyData.list ds]) : ∃ p us, vs = [.ref p] ∧ SqL K H p us ∧ DpAll K H us ds := by
  cases h with
  | cons h1 h2 =>
    cases h2
    cases h1 with
    | lst hs ha => exact ⟨_, _, rfl, hs, ha⟩
theorem cd_all {bs : List Bool} (hc : X.calm = true) : CallD X (.builtin "all") [.list (bs.map .bool)] (.bool (bs.all id)) := fun H O vs Q _ r q => by
  obtain ⟨p, us, rfl, hs, ha⟩ := dp_list r
  have e := dpa_bls ha
  subst e
  exact CallRw (cr_all hc) ⟨p, bs, rfl, cut_sub.l hs, q _ H (Sub.refl H) (.bl _)⟩
theorem cd_any {bs : List Bool} (hc : X.calm = true) : CallD X (.builtin "any") [.list (bs.map .bool)] (.bool (bs.any id)) := fun H O vs Q _ r q => by
  obtain ⟨p, us, rfl, hs, ha⟩ := dp_list r
  have e := dpa_bls ha
  subst e
  exact CallRw (cr_any hc) ⟨p, bs, rfl, cut_sub.l hs, q _ H (Sub.refl H) (.bl _)⟩
theorem cd_sum {ns : List Int} (hc : X.calm = true) : CallD X (.builtin "sum") [.list (ns.map .int)] (.int ns.sum) := fun H O vs Q _ r q => by
  obtain ⟨p, us, rfl, hs, ha⟩ := dp_list r
  have e := dpa_ints ha
  subst e
  exact CallRw (cr_sum hc) ⟨p, ns, rfl, cut_sub.l hs, q _ H (Sub.refl H) (.int _)⟩
def maxI : List Int → Option Int
  | [] => none
  | x :: xs => some (xs.foldl max x)
def minI : List Int → Option Int
  | [] => none
  | x :: xs => some (xs.foldl min x)
theorem foldl_max : ∀ (xs : List Int) (x : Int), (xs.foldl max x ∈ x :: xs) ∧ ∀ y ∈ x :: xs, y ≤ xs.foldl max x
  | [], x => ⟨by simp, by simp⟩
  | z :: xs, x => by
    obtain ⟨h1, h2⟩ := foldl_max xs (max x z)
    constructor
    · show xs.foldl max (max x z) ∈ _
      rcases List.mem_cons.mp h1 with e | h
      · rw [e]
        by_cases q : x ≤ z
        · rw [Int.max_eq_right q]; simp
        · rw [Int.max_eq_left (by omega)]; simp
      · exact List.mem_cons_of_mem _ (List.mem_cons_of_mem _ h)
    · intro y hy
      show y ≤ xs.foldl max (max x z)
      have h3 := h2 (max x z) (by simp)
      rcases List.mem_cons.mp hy with e | hy
      · omega
      · rcases List.mem_cons.mp hy with e | hy
        · omega
        · exact h2 y (List.mem_cons_of_mem _ hy)
theorem foldl_min : ∀ (xs : List Int) (x : Int), (xs.foldl min x ∈ x :: xs) ∧ ∀ y ∈ x :: xs, xs.foldl min x ≤ y
  | [], x => ⟨by simp, by simp⟩
  | z :: xs, x => by
    obtain ⟨h1, h2⟩ := foldl_min xs (min x z)
    constructor
    · show xs.foldl min (min x z) ∈ _
      rcases List.mem_cons.mp h1 with e | h
      · rw [e]
        by_cases q : x ≤ z
        · rw [Int.min_eq_left q]; simp
        · rw [Int.min_eq_right (by omega)]; simp
      · exact List.mem_cons_of_mem _ (List.mem_cons_of_mem _ h)
    · intro y hy
      show xs.foldl min (min x z) ≤ y
      have h3 := h2 (min x z) (by simp)
      rcases List.mem_cons.mp hy with e | hy
      · omega
      · rcases List.mem_cons.mp hy with e | hy
        · omega
        · exact h2 y (List.mem_cons_of_mem _ hy)
theorem cd_maxL {ns : List Int} {m : Int} (hc : X.calm = true) (h : maxI ns = some m) : CallD X (.builtin "max") [.list (ns.map .int)] (.int m) := fun H O vs Q _ r q => by
  obtain ⟨p, us, rfl, hs, ha⟩ := dp_list r
  have e := dpa_ints ha
  subst e
  cases ns with
  | nil => cases h
  | cons x xs =>
    have h : some (xs.foldl max x) = some m := h
    cases h
    obtain ⟨h1, h2⟩ := foldl_max xs x
    refine CallRw (cr_max hc) ⟨p, x :: xs, rfl, cut_sub.l hs, by simp, fun m' h3 h4 => ?_⟩
    have e : m' = xs.foldl max x := Int.le_antisymm (h2 m' h3) (h4 _ h1)
    rw [e]
    exact q _ H (Sub.refl H) (.int _)
theorem cd_minL {ns : List Int} {m : Int} (hc : X.calm = true) (h : minI ns = some m) : CallD X (.builtin "min") [.list (ns.map .int)] (.int m) := fun H O vs Q _ r q => by
  obtain ⟨p, us, rfl, hs, ha⟩ := dp_list r
  have e := dpa_ints ha
  subst e
  cases ns with
  | nil => cases h
  | cons x xs =>
    have h : some (xs.foldl min x) = some m := h
    cases h
    obtain ⟨h1, h2⟩ := foldl_min xs x
    refine CallRw (cr_min hc) ⟨p, x :: xs, rfl, cut_sub.l hs, by simp, fun m' h3 h4 => ?_⟩
    have e : m' = xs.foldl min x := Int.le_antisymm (h4 _ h1) (h2 m' h3)
    rw [e]
    exact q _ H (Sub.refl H) (.int _)
/-! isinstance -/
def tyName : D → String
  | .none => "NoneType" | .bool _ => "bool" | .int _ => "int" | .str _ => "str" | .list _ => "list" | .tuple _ => "tuple" | .dict _ => "dict"
theorem sq_tyT {H : Hp} {p : Addr} {us : List V} (h : SqT X.K H p us) : TyX X.K H (.ref p) (.type "tuple") := by
  rcases h with (h | ⟨o, h⟩) | ⟨o, its, n, h, hc, _⟩
  · exact .base (.tup h)
  · exact .fTuple h
  · exact .kTuple h hc
theorem sq_tyL {H : Hp} {p : Addr} {us : List V} (h : SqL X.K H p us) : TyX X.K H (.ref p) (.type "list") := by
  rcases h with (h | ⟨o, h⟩) | ⟨o, its, n, h, hc, _⟩
  · exact .base (.lst h)
  · exact .base (.frz h)
  · exact .kList h hc
theorem dp_ty {H : Hp} {v : V} {d : D} (h : Dp X.K H v d) : TyX X.K H v (.type (tyName d)) := by
  cases h with
  | non => exact .base .non
  | bl b => exact .base (.bl b)
  | int i => exact .base (.int i)
  | str x => exact .base (.str x)
  | lst hs _ => exact sq_tyL hs
  | tup hs _ => exact sq_tyT hs
/-- isinstance(e, T), T a built-in type -/
theorem x_isi {k : D → Rho → Prop} {p p2 : Pos} {T : Str} {U : String} {x : Expr} (hg : Gl X "isinstance") (hm : X.mg "isinstance" = none) (hgT : Gl X T) (hmT : X.mg T = none) (hvT : bootBuiltins T = some (.type U))
    (h : EX X x ρ fun d ρ1 => ∃ r, kitB (tyName d) U = some r ∧ k (.bool r) ρ1) (hnT : T ≠ "__name__" := by decide) (hdT : (T == ("__debug__" : Str)) = false := by decide)
    (he : starEach (x :: [Expr.Name T p2]) X.env = (false, eval x X.env) :: starEach [Expr.Name T p2] X.env := by rfl) (he2 : starEach (Expr.Name T p2 :: []) X.env = (false, eval (Expr.Name T p2) X.env) :: starEach [] X.env := by rfl)
    (hpl : (backTo pos (starEach [Expr.Name T p2] X.env)).any (·.1) = false := by rfl) : EX X (.Call (.Name "isinstance" p) [x, .Name T p2] [] pos) ρ k := fun W σ H O M Q q =>
  (pe_callB call_isi hg hm (by decide +kernel) (pa_cons pe_w (pa_cons (pe_bltn (v := .ty U) hgT hmT hvT rfl hnT hdT) pa_nil he2) he) (by decide) (by decide) he hpl).w (h W σ H O M _ fun v d ρ1 H1 O1 M1 E1 r ⟨rr, hr, hk⟩ =>
    ⟨v, .ty U, _, _, rr, rfl, .ty U, dp_ty (dp_mono cut_sub _ _ r), kit_ty hr, q _ _ ρ1 H1 O1 M1 E1 (.bl _) hk⟩)

/-! ### parts -/
def cutA {α : Type} (xs : List α) (lo hi : Option Int) : List α := (xs.drop (HT.sIx xs.length 0 lo)).take (HT.sIx xs.length xs.length hi - HT.sIx xs.length 0 lo)
theorem cutA_map {α β : Type} (f : α → β) (xs : List α) (lo hi : Option Int) : cutA (xs.map f) lo hi = (cutA xs lo hi).map f := by
  unfold cutA
  rw [List.length_map, List.map_take, List.map_drop]
theorem dpa_cut {K : PySem.W.Frag} {H : Hp} {ds : List D} {vs : List V} (h : DpAll K H vs ds) (lo hi : Option Int) : DpAll K H (cutV vs lo hi) (cutA ds lo hi) := by
  unfold cutV cutA
  rw [dpa_len h]
  exact dpa_take (dpa_drop h _) _
def OX (X : Cx) (e : Option Expr) (ρ : Rho) (k : Option Int → Rho → Prop) : Prop := match e with
  | none => k none ρ
  | some e => EX X e ρ fun d ρ1 => ∃ i, d = .int i ∧ k (some i) ρ1
def wO (X : Cx) (e : Option Expr) : TO := fun σ H Q => ∀ pins s, Inv X pins σ H s → wpAny (model X.prog X.w) X.A (evalPart e X.env) (fun u s' => ∃ o H', Inv X pins σ H' s' ∧ IsPart u o ∧ Q o H') X.xe s
theorem po_w {e : Option Expr} : PO X e (wO X e) := ⟨fun pins s σ H Q I h => h pins s I⟩
theorem ox_w {e : Option Expr} {k : Option Int → Rho → Prop} (h : OX X e ρ k) {W : Wd} {σ : L2.St} {H : Hp} {O : Addr → Prop} (M : Mt X.K W ρ σ H O) {Q : Option Int → Hp → Prop} (q : ∀ o ρ' H' O', Mt X.K W ρ' σ H' O' → Ext H O H' O' → k o ρ' → Q o H') : wO X e σ H Q := by
  cases e with
  | none => exact fun pins s I => po_none.run pins s σ H Q I (q none ρ H O M (Ext.refl _ _) h)
  | some e => exact fun pins s I => (po_some pe_w).run pins s σ H Q I (h W σ H O M _ fun v d ρ1 H1 O1 M1 E1 r ⟨i, hd, hk⟩ => by
      subst hd
      cases r
      exact ⟨i, rfl, q _ ρ1 H1 O1 M1 E1 hk⟩)
/-- t[lo:hi] of a tuple -/
theorem x_slT {k : D → Rho → Prop} {lo hi : Option Expr} {p2 : Pos} (h : EX X e ρ fun d ρ1 => ∃ ds, d = .tuple ds ∧ OX X lo ρ1 fun l ρ2 => OX X hi ρ2 fun u ρ3 => k (.tuple (cutA ds l u)) ρ3) : EX X (.Subscript e (.Slice lo hi none p2) pos) ρ k := fun W σ H O M Q q =>
  (pe_slice sl_tupA pe_w po_w po_w).w (h W σ H O M _ fun v d ρ1 H1 O1 M1 E1 r ⟨ds, hd, h1⟩ => by
    subst hd
    refine ox_w h1 M1 fun l ρ2 H2 O2 M2 E2 h2 => ox_w h2 M2 fun u ρ3 H3 O3 M3 E3 hk => ?_
    have r3 := dp_mono (E2.trans E3).sub _ _ r
    cases r3 with
    | @tup p us ds hs ha =>
      refine ⟨p, us, rfl, cut_sub.t hs, fun z => q _ _ ρ3 H3 O3 M3 ((E1.trans E2).trans E3) ?_ hk, fun _ p2 hp => ?_⟩
      · have e1 : cutA ds l u = ds := by
          unfold cutA
          rw [← dpa_len ha, z.1, z.2, List.drop_zero, Nat.sub_zero, dpa_len ha, List.take_length]
        rw [e1]
        exact .tup hs ha
      · have sb : Sub H3 (upd H3 p2 (.tup (cutV us l u))) := Sub.upd hp
        exact q _ _ ρ3 _ O3 (M3.grow sb) (((E1.trans E2).trans E3).trans (Ext.grow sb)) (.tup (SqT.of (cut_some.mpr ⟨M3.fresh hp, upd_same⟩)) (dpa_mono (cut_grow sb) _ _ (dpa_cut ha l u))) hk)
/-- xs[lo:hi] of a list -/
theorem f_slL {k : Ct → Rho → Prop} {lo hi : Option Expr} {p2 : Pos} (h : EX X e ρ fun d ρ1 => ∃ ds, d = .list ds ∧ OX X lo ρ1 fun l ρ2 => OX X hi ρ2 fun u ρ3 => k (.lst (cutA ds l u)) ρ3) : FX X (.Subscript e (.Slice lo hi none p2) pos) ρ k := fun W σ H O M Q q =>
  (pe_slice sl_list pe_w po_w po_w).w (h W σ H O M _ fun v d ρ1 H1 O1 M1 E1 r ⟨ds, hd, h1⟩ => by
    subst hd
    refine ox_w h1 M1 fun l ρ2 H2 O2 M2 E2 h2 => ox_w h2 M2 fun u ρ3 H3 O3 M3 E3 hk => ?_
    have r3 := dp_mono (E2.trans E3).sub _ _ r
    cases r3 with
    | @lst p us ds hs ha =>
      refine ⟨p, us, rfl, cut_sub.l hs, fun p2 hp => ?_⟩
      have sb : Sub H3 (upd H3 p2 (.lst (cutV us l u))) := Sub.upd hp
      obtain ⟨M4, E4, n4, h0⟩ := M3.new_list hp sb upd_same
      exact q p2 (.lst _) (.lst _) ρ3 _ _ M4 (.inr rfl) n4 h0 upd_same (dpa_mono E4.sub _ _ (dpa_cut ha l u)) (((E1.trans E2).trans E3).trans E4) hk)
/-! ### sums of tuples, of texts -/
theorem od_catT {xs ys : List D} (hl : xs.length + ys.length ≤ 16777216) : OpD X (binaryOp .Add) (.tuple xs) (.tuple ys) (.tuple (xs ++ ys)) := fun H O x y Q ex rx ry q => by
  cases rx with
  | @tup a us _ hs ha =>
    cases ry with
    | @tup b ws _ hs2 ha2 =>
      refine OpRw op_catA ⟨a, b, us, ws, rfl, rfl, cut_sub.t hs, cut_sub.t hs2, by rw [dpa_len ha, dpa_len ha2, sizeLine_eq]; exact hl, fun e => ?_, fun _ e => ?_, fun _ _ p hp => ?_⟩
      · subst e
        cases ha
        exact q _ H (Sub.refl H) (.tup hs2 ha2)
      · subst e
        cases ha2
        rw [List.append_nil] at q
        exact q _ H (Sub.refl H) (.tup hs ha)
      · refine q _ _ (Sub.upd hp) (.tup (SqT.of (cut_some.mpr ⟨fun z => ?_, upd_same⟩)) (dpa_mono (cut_grow (Sub.upd hp)) _ _ (dpa_app ha ha2)))
        obtain ⟨o, e⟩ := ex p z
        rw [hp] at e; cases e
theorem od_catS {x y : Str} (hl : x.length + y.length ≤ 16777216) : OpD X (binaryOp .Add) (.str x) (.str y) (.str (x ++ y)) := fun H O v u Q ex rx ry q => by
  cases rx; cases ry
  exact OpRw op_add_str ⟨x, y, rfl, rfl, by rw [sizeLine_eq]; exact hl, q _ H (Sub.refl H) (.str _)⟩

theorem od_pow {x y : Int} (h : CPow x y) : OpD X (binaryOp .Pow) (.int x) (.int y) (.int (x ^ y.toNat)) := od_I op_pow h fun _ => .int _
theorem od_shl {x y : Int} (h : CPow x y) : OpD X (binaryOp .LShift) (.int x) (.int y) (.int (x * 2 ^ y.toNat)) := od_I op_shl h fun _ => .int _

/-! ### lists of one's own change -/
/-- x.append(e) -/
theorem s_app {i : Nat} {x : Str} {py apos cpos : Pos} (hN : X.N[i]? = some x) (hv : Vis X.env.scope x) (h : EX X e ρ fun d ρ1 => ∃ b ds, ρ1[i]? = some (Sl.own b (.lst ds)) ∧ ds.length < 16777216 ∧ N.nx (ρ1.set i (.own b (.lst (ds ++ [d])))))
    (hw : ∃ b ds, ρ[i]? = some (Sl.own b (.lst ds)) := by exact ⟨_, _, rfl⟩) (hd : (x == ("__debug__" : Str)) = false := by decide) (hcd : (x == ("__classdict__" : Str)) = false := by decide)
    (hsw : swapsWith (.Call (.Attribute (.Name x py) "append" apos) [e] [] cpos) none pos.line X.env = pure false := by rfl)
    (hbase : attributeBase (.Name x py) "append" X.env (eval (.Name x py) X.env) = eval (.Name x py) X.env := by rfl)
    (hfew : ((backTo cpos (starEach (e :: []) X.env)).all (fun x => !x.1) && (backToKw cpos (keywordEach [] X.env)).all (fun x => x.1.isSome)
      && decide ((e :: []).length + ([] : List Keyword).length + (if ([] : List Keyword).isEmpty then 0 else 1) < 30)) = true := by rfl)
    (hline : (apos.endLine == cpos.line) = true := by rfl) (hs : starEach (e :: []) X.env = (false, eval e X.env) :: starEach [] X.env := by rfl) (hplain : (backTo cpos (starEach [] X.env)).any (·.1) = false := by rfl) :
    SX X (.Expr (.Call (.Attribute (.Name x py) "append" apos) [e] [] cpos) pos) ρ N := fun W σ H O M Dn q => by
  obtain ⟨b0, ds0, hw⟩ := hw
  obtain ⟨p0, ho, ep0, _, e3, e4, _⟩ := M.own i b0 _ hw
  obtain ⟨us0, rfl, _⟩ := ct_lst e4
  refine (ps_expr (pe_bm F.plainAttrs_list F.slot_list_append F.type_list_append mt_append (pe_var hN hv hd hcd) (pa_cons pe_w pa_nil hs) hbase hfew hline hs hplain) hsw).w ⟨_, ep0, .inl ⟨rfl, us0, SqL.of e3⟩, ?_⟩
  refine h W σ H O M _ fun v d ρ1 H1 O1 M1 E1 r ⟨b, ds, hi, hl, hk⟩ => ?_
  obtain ⟨p1, ho, f1, f2, f3, f4, _⟩ := M1.own i b _ hi
  rw [ep0] at f1
  cases f1
  obtain ⟨us, rfl, f4⟩ := ct_lst f4
  refine ⟨p0, us, v, rfl, rfl, f3, by rw [dpa_len f4, sizeLine_eq]; exact hl, ?_⟩
  have kp : ∀ a o, H1 a = some o → a ≠ p0 → upd H1 p0 (.lst (us ++ [v])) a = some o := fun a o h n => by rw [upd_ne n]; exact h
  have sb : Sub (cut O1 H1) (cut O1 (upd H1 p0 (.lst (us ++ [v])))) := fun a o h => by
    obtain ⟨n, h⟩ := cut_some.mp h
    exact cut_some.mpr ⟨n, kp a o h fun z => n (by rw [z]; exact f2)⟩
  obtain ⟨M2, E2⟩ := M1.mut (es := .lst (ds ++ [d])) hi ep0 kp upd_same (dpa_app (dpa_mono sb _ _ f4) (.cons (dp_mono sb _ _ r) .nil))
  exact q.nx _ σ _ O1 M2 (E1.trans E2) hk
theorem ixN_lt {n : Nat} {i : Int} {j : Nat} (h : ixN n i = some j) : j < n := (ixN_seq h).2.1
/-- x[a] = e -/
theorem s_item {i : Nat} {x : Str} {py tpos : Pos} (hN : X.N[i]? = some x) (hv : Vis X.env.scope x) (h : EX X e ρ fun d ρ1 => (∃ b ds, ρ1[i]? = some (Sl.own b (.lst ds))) ∧ EX X a ρ1 fun dy ρ2 => ∃ b ds k j, dy = .int k ∧ ρ2[i]? = some (Sl.own b (.lst ds)) ∧ ixN ds.length k = some j ∧ N.nx (ρ2.set i (.own b (.lst (ds.set j d)))))
    (hd : (x == ("__debug__" : Str)) = false := by decide) (hcd : (x == ("__classdict__" : Str)) = false := by decide)
    (ha : ∀ v, assign (.Subscript (.Name x py) a tpos) X.env v = (do
      let ov ← holding [v] (eval (.Name x py) X.env)
      let iv ← holding [v, ov] (eval a X.env)
      standAt tpos
      holding [v, ov, iv] (setItem ov iv v)
      release [v, ov, iv] []) := by intro _; rfl)
    (hs : swapsWithSole [.Subscript (.Name x py) a tpos] e pos.line X.env = pure false := by rfl) (hw : swappedStores [.Subscript (.Name x py) a tpos] e X.env = pure none := by rfl)
    (h1 : (assignEach [.Subscript (.Name x py) a tpos] X.env).map (·.2) = [assign (.Subscript (.Name x py) a tpos) X.env] := by rfl) : SX X (.Assign [.Subscript (.Name x py) a tpos] e pos) ρ N := fun W σ H O M Dn q => by
  refine (ps_asg pe_w (pg_sub (pe_var hN hv hd hcd) pe_w set_list ha) hs hw h1).w (h W σ H O M _ fun v d ρ1 H1 O1 M1 E1 r ⟨⟨b1, ds1, hw1⟩, h2⟩ => ?_)
  obtain ⟨p0, _, ep0, _⟩ := M1.own i b1 _ hw1
  refine ⟨_, ep0, h2 W σ H1 O1 M1 _ fun y dy ρ2 H2 O2 M2 E2 r2 ⟨b, ds, k, j, hy, hi, hx, hk⟩ => ?_⟩
  subst hy
  cases r2
  obtain ⟨p1, ho, f1, f2, f3, f4, _⟩ := M2.own i b _ hi
  rw [ep0] at f1
  cases f1
  obtain ⟨us, rfl, f4⟩ := ct_lst f4
  refine ⟨p0, us, k, j, rfl, rfl, f3, by rw [dpa_len f4]; exact hx, ?_⟩
  have kp : ∀ a o, H2 a = some o → a ≠ p0 → upd H2 p0 (.lst (us.set j v)) a = some o := fun a o h n => by rw [upd_ne n]; exact h
  have sb : Sub (cut O2 H2) (cut O2 (upd H2 p0 (.lst (us.set j v)))) := fun a o h => by
    obtain ⟨n, h⟩ := cut_some.mp h
    exact cut_some.mpr ⟨n, kp a o h fun z => n (by rw [z]; exact f2)⟩
  obtain ⟨M3, E3⟩ := M2.mut (es := .lst (ds.set j d)) hi ep0 kp upd_same (dpa_set (dp_mono (E2.sub.trans sb) _ _ r) (dpa_mono sb _ _ f4) j)
  exact q.nx _ σ _ O2 M3 ((E1.trans E2).trans E3) hk
/-- x += e, ints -/
theorem s_augI {i : Nat} {x : Str} {op : Operator} {g : Int → Int → Int} {n : Int} {pos' : Pos} (hN : X.N.Nodup) (hi : X.N[i]? = some x) (hx : Loc X.env.scope x) (ho : PIp X op (ipI g)) (hs : ρ[i]? = some (.val (.int n)))
    (h : EX X e ρ fun d ρ1 => ∃ m, d = .int m ∧ isIo ρ1[i]? = false ∧ N.nx (ρ1.set i (.val (.int (g n m)))))
    (hf : X.fn x = true ∨ X.env.scope.names.lookup x = some .local := by first | exact .inl rfl | exact .inr rfl | assumption) : SX X (.AugAssign (.Name x pos') op e pos) ρ N := fun W σ H O M Dn q => by
  obtain ⟨v, ev, r⟩ := M.val i _ hs
  cases r
  exact (ps_aug hN hi hx pe_w ho hf).w ⟨_, ev, h W σ H O M _ fun y d ρ1 H1 O1 M1 E1 r1 ⟨m, hd, h1, hk⟩ => by
    subst hd
    cases r1
    exact ⟨n, m, rfl, rfl, q.nx _ _ H1 O1 (M1.set h1 (.int _)) E1 hk⟩⟩
theorem pget_list : PGet X (fun o i H Q => ∃ p xs k v, o = .ref p ∧ i = .int k ∧ SqL X.K H p xs ∧ 0 ≤ k ∧ xs[k.toNat]? = some v ∧ Q v H) := by
  intro pins s σ H o i ov iv Q I ro ri h
  obtain ⟨p, xs, k, v, rfl, rfl, hq, h0, he, q⟩ := h
  cases ro
  obtain ⟨t, rfl⟩ := ri
  obtain ⟨its, r, pl, hz⟩ := I.list hq
  obtain ⟨w, ew, rw'⟩ := r.get he
  have hn := line63
  have hl := (List.getElem?_eq_some_iff.mp he).1
  exact wpAny_getItem_list pl.isList h0 (by omega) (by simpa using ew) ⟨v, H, I, rw', q⟩
/-- x[a] += e, ints -/
theorem s_augItem {i : Nat} {x : Str} {op : Operator} {g : Int → Int → Int} {py tpos : Pos} (hN : X.N[i]? = some x) (hv : Vis X.env.scope x) (ho : PIp X op (ipI g))
    (h : EX X a ρ fun dy ρ1 => ∃ b ds k n, dy = .int k ∧ 0 ≤ k ∧ ρ1[i]? = some (Sl.own b (.lst ds)) ∧ ds[k.toNat]? = some (.int n) ∧ EX X e ρ1 fun d ρ2 => ∃ b ds m, d = .int m ∧ ρ2[i]? = some (Sl.own b (.lst ds)) ∧ k.toNat < ds.length ∧ N.nx (ρ2.set i (.own b (.lst (ds.set k.toNat (.int (g n m)))))))
    (hw : ∃ b ds, ρ[i]? = some (Sl.own b (.lst ds)) := by exact ⟨_, _, rfl⟩) (hd : (x == ("__debug__" : Str)) = false := by decide) (hcd : (x == ("__classdict__" : Str)) = false := by decide)
    (ha : ∀ ov iv new, augStore a ov iv new = (do holding [new, ov, iv] (setItem ov iv new); release [new, ov, iv] []; pure .next) := by intros; rfl) : SX X (.AugAssign (.Subscript (.Name x py) a tpos) op e pos) ρ N := fun W σ H O M Dn q => by
  obtain ⟨b0, ds0, hw⟩ := hw
  obtain ⟨p0, _, ep0, _⟩ := M.own i b0 _ hw
  refine (ps_augS (pe_var hN hv hd hcd) pe_w pget_list pe_w ho set_list ha).w ⟨_, ep0, h W σ H O M _ fun y dy ρ1 H1 O1 M1 E1 r1 ⟨b, ds, k, n, hy, h0, hi, hg, h2⟩ => ?_⟩
  subst hy
  cases r1
  obtain ⟨p1, ho, f1, f2, f3, f4, _⟩ := M1.own i b _ hi
  rw [ep0] at f1
  cases f1
  obtain ⟨us, rfl, f4⟩ := ct_lst f4
  obtain ⟨v, ev, rv⟩ := dpa_get' f4 hg
  cases rv
  refine ⟨p0, us, k, _, rfl, rfl, SqL.of f3, h0, ev, h2 W σ H1 O1 M1 _ fun z d ρ2 H2 O2 M2 E2 r2 ⟨b', ds', m, hd', hi', hlt, hk⟩ => ?_⟩
  subst hd'
  cases r2
  obtain ⟨p1, ho, f1, f2, f3, f4, _⟩ := M2.own i b' _ hi'
  rw [ep0] at f1
  cases f1
  obtain ⟨us', rfl, f4⟩ := ct_lst f4
  refine ⟨n, m, rfl, rfl, p0, us', k, k.toNat, rfl, rfl, f3, ?_, ?_⟩
  · unfold ixN
    rw [if_pos h0, dpa_len f4, if_pos (by omega)]
  have kp : ∀ a o, H2 a = some o → a ≠ p0 → upd H2 p0 (.lst (us'.set k.toNat (.int (g n m)))) a = some o := fun a o h n => by rw [upd_ne n]; exact h
  have sb : Sub (cut O2 H2) (cut O2 (upd H2 p0 (.lst (us'.set k.toNat (.int (g n m)))))) := fun a o h => by
    obtain ⟨n, h⟩ := cut_some.mp h
    exact cut_some.mpr ⟨n, kp a o h fun z => n (by rw [z]; exact f2)⟩
  obtain ⟨M3, E3⟩ := M2.mut (es := .lst (ds'.set k.toNat (.int (g n m)))) hi' ep0 kp upd_same (dpa_set (.int _) (dpa_mono sb _ _ f4) _)
  exact q.nx _ σ _ O2 M3 ((E1.trans E2).trans E3) hk
end
theorem b_int : bootBuiltins "int" = some (.type "int") := by decide +kernel
theorem b_bool : bootBuiltins "bool" = some (.type "bool") := by decide +kernel
theorem b_str : bootBuiltins "str" = some (.type "str") := by decide +kernel
theorem b_tuple : bootBuiltins "tuple" = some (.type "tuple") := by decide +kernel
theorem b_list : bootBuiltins "list" = some (.type "list") := by decide +kernel
theorem b_set : bootBuiltins "set" = some (.type "set") := by decide +kernel
theorem b_dict : bootBuiltins "dict" = some (.type "dict") := by decide +kernel
theorem b_len : bootBuiltins "len" = some (.builtin "len") := by decide +kernel
theorem b_abs : bootBuiltins "abs" = some (.builtin "abs") := by decide +kernel
theorem b_max : bootBuiltins "max" = some (.builtin "max") := by decide +kernel
theorem b_min : bootBuiltins "min" = some (.builtin "min") := by decide +kernel
theorem b_sum : bootBuiltins "sum" = some (.builtin "sum") := by decide +kernel
theorem b_any : bootBuiltins "any" = some (.builtin "any") := by decide +kernel
theorem b_all : bootBuiltins "all" = some (.builtin "all") := by decide +kernel
theorem b_isinstance : bootBuiltins "isinstance" = some (.builtin "isinstance") := by decide +kernel
theorem b_divmod : bootBuiltins "divmod" = some (.builtin "divmod") := by decide +kernel
theorem b_sorted : bootBuiltins "sorted" = some (.builtin "sorted") := by decide +kernel
end Lk

set_option Elab.async false
set_option linter.all false
set_option maxRecDepth 100000
namespace Lk
open PySem PySem.Spec PyProof.Rows L2

/-! ### typed data as data -/
@[reducible] def eT {α : Type} (r : α → D) : List α → D := fun xs => .tuple (xs.map r)
@[reducible] def eL {α : Type} (r : α → D) : List α → D := fun xs => .list (xs.map r)
@[reducible] def eP {α β : Type} (r : α → D) (s : β → D) : α × β → D := fun p => .tuple [r p.1, s p.2]
@[reducible] def eP3 {α β γ : Type} (r : α → D) (s : β → D) (t : γ → D) : α × β × γ → D := fun p => .tuple [r p.1, s p.2.1, t p.2.2]
@[reducible] def eP4 {α β γ δ : Type} (r : α → D) (s : β → D) (t : γ → D) (u : δ → D) : α × β × γ × δ → D := fun p => .tuple [r p.1, s p.2.1, t p.2.2.1, u p.2.2.2]
@[reducible] def eU : Unit → D := fun _ => .none
def eO {α : Type} (r : α → D) : Option α → D
  | none => .none
  | some a => r a
/-- it may be compared: == tells equality -/
structure Enc {α : Type} [DecidableEq α] (r : α → D) (n : Nat) : Prop where
  eq : ∀ a b, PyData.eqv (r a) (r b) = decide (a = b)
  lay : ∀ a, (r a).canLay0 = true
  dep : ∀ a, (r a).depth ≤ n
theorem Enc.shaped {α : Type} [DecidableEq α] {r : α → D} {n : Nat} (h : Enc r n) (hn : n ≤ 64) (a : α) : SeqAt.shaped (r a) = true := by
  unfold SeqAt.shaped
  rw [h.lay a, Bool.true_and]
  exact decide_eq_true (Nat.le_trans (h.dep a) hn)
theorem enc_I : Enc PyData.int 0 := ⟨fun a b => by simp [PyData.eqv, Bool.beq_eq_decide_eq], fun a => by simp [PyData.canLay0], fun a => by simp [PyData.depth]⟩
theorem enc_B : Enc PyData.bool 0 := ⟨fun a b => by simp [PyData.eqv, Bool.beq_eq_decide_eq], fun a => by simp [PyData.canLay0], fun a => by simp [PyData.depth]⟩
theorem enc_all {α : Type} [DecidableEq α] {r : α → D} {n : Nat} (h : Enc r n) : ∀ xs ys : List α, PyData.eqvAll (xs.map r) (ys.map r) = decide (xs = ys)
  | [], [] => by simp [PyData.eqvAll]
  | [], _ :: _ => by simp [PyData.eqvAll]
  | _ :: _, [] => by simp [PyData.eqvAll]
  | x :: xs, y :: ys => by
    rw [List.map_cons, List.map_cons, PyData.eqvAll, h.eq, enc_all h xs ys]
    by_cases h1 : x = y <;> by_cases h2 : xs = ys <;> simp [h1, h2]
theorem lay_all {α : Type} [DecidableEq α] {r : α → D} {n : Nat} (h : Enc r n) : ∀ xs : List α, PyData.canLayAll0 (xs.map r) = true
  | [] => by simp [PyData.canLayAll0]
  | x :: xs => by rw [List.map_cons, PyData.canLayAll0, h.lay, lay_all h xs]; rfl
theorem dep_all {α : Type} [DecidableEq α] {r : α → D} {n : Nat} (h : Enc r n) : ∀ xs : List α, PyData.depthAll (xs.map r) ≤ n
  | [] => by simp [PyData.depthAll]
  | x :: xs => by
    rw [List.map_cons, PyData.depthAll]
    exact Nat.max_le.mpr ⟨h.dep x, dep_all h xs⟩
theorem enc_T {α : Type} [DecidableEq α] {r : α → D} {n : Nat} (h : Enc r n) : Enc (eT r) (n + 1) :=
  ⟨fun a b => by show PyData.eqv (.tuple _) (.tuple _) = _; rw [PyData.eqv]; exact enc_all h a b, fun a => by show PyData.canLay0 (.tuple _) = _; rw [PyData.canLay0]; exact lay_all h a, fun a => by show PyData.depth (.tuple _) ≤ _; rw [PyData.depth]; exact Nat.succ_le_succ (dep_all h a)⟩
theorem enc_L {α : Type} [DecidableEq α] {r : α → D} {n : Nat} (h : Enc r n) : Enc (eL r) (n + 1) :=
  ⟨fun a b => by show PyData.eqv (.list _) (.list _) = _; rw [PyData.eqv]; exact enc_all h a b, fun a => by show PyData.canLay0 (.list _) = _; rw [PyData.canLay0]; exact lay_all h a, fun a => by show PyData.depth (.list _) ≤ _; rw [PyData.depth]; exact Nat.succ_le_succ (dep_all h a)⟩
theorem enc_P {α β : Type} [DecidableEq α] [DecidableEq β] {r : α → D} {s : β → D} {n m : Nat} (h : Enc r n) (g : Enc s m) : Enc (eP r s) (max n m + 1) := by
  refine ⟨fun a b => ?_, fun a => ?_, fun a => ?_⟩
  · show PyData.eqv (.tuple _) (.tuple _) = _
    rw [PyData.eqv, PyData.eqvAll, PyData.eqvAll, PyData.eqvAll, h.eq, g.eq]
    obtain ⟨a1, a2⟩ := a
    obtain ⟨b1, b2⟩ := b
    by_cases h1 : a1 = b1 <;> by_cases h2 : a2 = b2 <;> simp [h1, h2]
  · show PyData.canLay0 (.tuple _) = _
    rw [PyData.canLay0, PyData.canLayAll0, PyData.canLayAll0, PyData.canLayAll0, h.lay, g.lay]
    rfl
  · show PyData.depth (.tuple _) ≤ _
    rw [PyData.depth, PyData.depthAll, PyData.depthAll, PyData.depthAll]
    have h1 := h.dep a.1
    have h2 := g.dep a.2
    omega
theorem enc_P3 {α β γ : Type} [DecidableEq α] [DecidableEq β] [DecidableEq γ] {r : α → D} {s : β → D} {t : γ → D} {n m l : Nat} (h : Enc r n) (g : Enc s m) (f : Enc t l) : Enc (eP3 r s t) (max n (max m l) + 1) := by
  refine ⟨fun a b => ?_, fun a => ?_, fun a => ?_⟩
  · show PyData.eqv (.tuple _) (.tuple _) = _
    rw [PyData.eqv, PyData.eqvAll, PyData.eqvAll, PyData.eqvAll, PyData.eqvAll, h.eq, g.eq, f.eq]
    obtain ⟨a1, a2, a3⟩ := a
    obtain ⟨b1, b2, b3⟩ := b
    by_cases h1 : a1 = b1 <;> by_cases h2 : a2 = b2 <;> by_cases h3 : a3 = b3 <;> simp [h1, h2, h3]
  · show PyData.canLay0 (.tuple _) = _
    rw [PyData.canLay0, PyData.canLayAll0, PyData.canLayAll0, PyData.canLayAll0, PyData.canLayAll0, h.lay, g.lay, f.lay]
    rfl
  · show PyData.depth (.tuple _) ≤ _
    rw [PyData.depth, PyData.depthAll, PyData.depthAll, PyData.depthAll, PyData.depthAll]
    have h1 := h.dep a.1
    have h2 := g.dep a.2.1
    have h3 := f.dep a.2.2
    omega
section
variable {X : Cx} {ρ : Rho} {pos : Pos} {a b c e o : Expr} {es : List Expr} {N : Wish}
theorem od_eqE {α : Type} [DecidableEq α] {r : α → D} {n k : Nat} {x y : α} (h : Enc r n) (hr : Room k X.A) (hn : n ≤ 64 := by decide) : OpD X (compareOp .Eq) (r x) (r y) (.bool (decide (x = y))) := by
  rw [← h.eq]
  exact od_eqD ⟨k, hr⟩ (h.shaped hn x) (h.shaped hn y)
theorem od_neE {α : Type} [DecidableEq α] {r : α → D} {n k : Nat} {x y : α} (h : Enc r n) (hr : Room k X.A) (hn : n ≤ 64 := by decide) : OpD X (compareOp .NotEq) (r x) (r y) (.bool (!decide (x = y))) := by
  rw [← h.eq]
  exact od_neD ⟨k, hr⟩ (h.shaped hn x) (h.shaped hn y)
end

/-! ### for what is printed by the generator -/
def chk (b : Bool) : Option Unit := if b = true then some () else none
theorem chk_some {α : Type} {b : Bool} {f : Unit → Option α} {c : α} (h : (chk b).bind f = some c) : b = true ∧ f () = some c := by
  unfold chk at h
  cases b with
  | true => exact ⟨rfl, h⟩
  | false => cases h
def bd1 {α β : Type} (o : Option α) (f : α → Option β) : Option β := o.bind f
theorem bd1_some {α β : Type} {o : Option α} {f : α → Option β} {c : β} (h : bd1 o f = some c) : ∃ a, o = some a ∧ f a = some c := Option.bind_eq_some_iff.mp h
def bd2 {α β γ : Type} (o : Option (α × β)) (f : α → β → Option γ) : Option γ := o.bind fun q => f q.1 q.2
theorem bd2_some {α β γ : Type} {o : Option (α × β)} {f : α → β → Option γ} {c : γ} (h : bd2 o f = some c) : ∃ a b, o = some (a, b) ∧ f a b = some c := by
  obtain ⟨⟨a, b⟩, h1, h2⟩ := Option.bind_eq_some_iff.mp h
  exact ⟨a, b, h1, h2⟩
theorem ift {α : Type} {b : Bool} {x y : Option α} {c : α} (h : (if b = true then x else y) = some c) (hb : b = true) : x = some c := by
  rw [if_pos hb] at h; exact h
theorem iff_ {α : Type} {b : Bool} {x y : Option α} {c : α} (h : (if b = true then x else y) = some c) (hb : b = false) : y = some c := by
  rw [if_neg (by rw [hb]; exact Bool.false_ne_true)] at h; exact h
def afterL {S R γ : Type} (o : Option (Fl S R)) (k : S → Option γ) (kr : R → Option γ) : Option γ := match o with
  | some (.nx s) => k s
  | some (.bk s) => k s
  | some (.rt r) => kr r
  | none => none
theorem afterL_some {S R γ : Type} {o : Option (Fl S R)} {k : S → Option γ} {kr : R → Option γ} {c : γ} (h : afterL o k kr = some c) : ∃ fl, o = some fl ∧ ((∃ s, (fl = .nx s ∨ fl = .bk s) ∧ k s = some c) ∨ ∃ r, fl = .rt r ∧ kr r = some c) := by
  cases o with
  | none => cases h
  | some fl =>
    refine ⟨fl, rfl, ?_⟩
    cases fl with
    | nx s => exact .inl ⟨s, .inl rfl, h⟩
    | bk s => exact .inl ⟨s, .inr rfl, h⟩
    | rt r => exact .inr ⟨r, rfl, h⟩
theorem ret_step {S R γ : Type} {fl : Fl S R} {k : S → Option γ} {kr : R → Option γ} {c : γ} {rr : R} (h : (∃ s, (fl = .nx s ∨ fl = .bk s) ∧ k s = some c) ∨ ∃ r, fl = .rt r ∧ kr r = some c) (e : fl = .rt rr) : kr rr = some c := by
  rcases h with ⟨s, h1, _⟩ | ⟨r, h1, h2⟩
  · rw [e] at h1
    rcases h1 with h1 | h1 <;> cases h1
  · rw [e] at h1
    cases h1
    exact h2
theorem nx_step {S R γ : Type} {fl : Fl S R} {k : S → Option γ} {kr : R → Option γ} {c : γ} {s : S} (h : (∃ s, (fl = .nx s ∨ fl = .bk s) ∧ k s = some c) ∨ ∃ r, fl = .rt r ∧ kr r = some c) (e : fl = .nx s ∨ fl = .bk s) : k s = some c := by
  rcases h with ⟨s', h1, h2⟩ | ⟨r, h1, h2⟩
  · rcases e with e | e <;> rw [e] at h1 <;> rcases h1 with h1 | h1 <;> cases h1 <;> exact h2
  · rcases e with e | e <;> rw [e] at h1 <;> cases h1
def app1 {α : Type} (xs : List α) (x : α) : Option (List α) := if xs.length < 16777216 then some (xs ++ [x]) else none
theorem app1_some {α : Type} {xs ys : List α} {x : α} (h : app1 xs x = some ys) : xs.length < 16777216 ∧ ys = xs ++ [x] := by
  unfold app1 at h
  split at h
  · cases h; exact ⟨by assumption, rfl⟩
  · cases h
def cat2 {α : Type} (xs ys : List α) : Option (List α) := if xs.length + ys.length ≤ 16777216 then some (xs ++ ys) else none
theorem cat2_some {α : Type} {xs ys zs : List α} (h : cat2 xs ys = some zs) : xs.length + ys.length ≤ 16777216 ∧ zs = xs ++ ys := by
  unfold cat2 at h
  split at h
  · cases h; exact ⟨by assumption, rfl⟩
  · cases h
def catS2 (xs ys : Str) : Option Str := if xs.length + ys.length ≤ 16777216 then some (xs ++ ys) else none
theorem catS2_some {xs ys zs : Str} (h : catS2 xs ys = some zs) : xs.length + ys.length ≤ 16777216 ∧ zs = xs ++ ys := by
  unfold catS2 at h
  split at h
  · cases h; exact ⟨by assumption, rfl⟩
  · cases h
def rng1 (lo hi : Int) : Option (List Int) := if rngOk lo hi = true then some (rngL lo hi) else none
theorem rng1_some {lo hi : Int} {xs : List Int} (h : rng1 lo hi = some xs) : rngOk lo hi = true ∧ xs = rngL lo hi := by
  unfold rng1 at h
  split at h
  · cases h; exact ⟨by assumption, rfl⟩
  · cases h
def atS (z : Str) (i : Int) : Option Str := if z.length ≤ 16777216 then (atI z.cps.toList i).map fun c => ⟨#[c]⟩ else none
theorem atS_some {z y : Str} {i : Int} (h : atS z i = some y) : ∃ c, z.length ≤ sizeLine ∧ atI z.cps.toList i = some c ∧ y = ⟨#[c]⟩ := by
  unfold atS at h
  split at h
  · obtain ⟨c, h1, h2⟩ := Option.map_eq_some_iff.mp h
    exact ⟨c, by rw [sizeLine_eq]; assumption, h1, h2.symm⟩
  · cases h
def joinS (z : Str) (ys : List Str) : Option Str := if (ys.map (·.length)).sum + ys.length * z.length ≤ 16777216 then some (Txt.join z ys) else none
theorem joinS_some {z y : Str} {ys : List Str} (h : joinS z ys = some y) : (ys.map (·.length)).sum + ys.length * z.length ≤ 16777216 ∧ y = Txt.join z ys := by
  unfold joinS at h
  split at h
  · cases h; exact ⟨by assumption, rfl⟩
  · cases h
def setI {α : Type} (xs : List α) (i : Int) (x : α) : Option (List α) := (ixN xs.length i).map fun j => xs.set j x
theorem setI_some {α : Type} {xs ys : List α} {i : Int} {x : α} (h : setI xs i x = some ys) : ∃ j, ixN xs.length i = some j ∧ ys = xs.set j x := by
  obtain ⟨j, h1, h2⟩ := Option.map_eq_some_iff.mp h
  exact ⟨j, h1, h2.symm⟩
def fdiv (x y : Int) : Option Int := if 0 < y ∧ y < 1073741824 then some (x / y) else none
theorem fdiv_some {x y z : Int} (h : fdiv x y = some z) : CDiv x y ∧ z = x / y := by
  unfold fdiv at h
  split at h
  · cases h; exact ⟨by assumption, rfl⟩
  · cases h
def fmod (x y : Int) : Option Int := if 0 < y then some (x % y) else none
theorem fmod_some {x y z : Int} (h : fmod x y = some z) : 0 < y ∧ z = x % y := by
  unfold fmod at h
  split at h
  · cases h; exact ⟨by assumption, rfl⟩
  · cases h
def imul (x y : Int) : Option Int := if (-(2 ^ 64) < x ∧ x < 2 ^ 64) then some (x * y) else none
theorem imul_some {x y z : Int} (h : imul x y = some z) : (-(2 ^ 64) < x ∧ x < 2 ^ 64) ∧ z = x * y := by
  unfold imul at h
  split at h
  · cases h; exact ⟨by assumption, rfl⟩
  · cases h
/-- the state of the draws -/
structure Dr where
  cells : List Int
  at_ : Int
  hi : Int
  seed : Int
def drC (s : Dr) : Ct := .lst [.list (s.cells.map .int), .int s.at_, .int s.hi, .int s.seed]
def sizeAt (s : Dr) : Option Int := if s.at_ < (s.cells.length : Int) then (atI s.cells s.at_).map fun c => 2 * (if c < 0 then -c else c) + (if c < 0 then 1 else 0) else some 0
def dpull (s : Dr) (many : Int) : Option (Int × Dr) :=
  if 0 < many ∧ many < 1073741824 then
    if 0 < s.hi then some (s.hi % many, { s with hi := s.hi / many })
    else (sizeAt s).bind fun size =>
      if size ≥ 2 * 10 ^ 18 then some (size / 2 % 2 ^ 6000 % many, { s with at_ := s.at_ + 1, hi := size / 2 % 2 ^ 6000 / many })
      else some ((s.seed * 48271 + size % 2147483629 * 16807 + (s.at_ + 1) * 69621 + 11) % 2147483647 / 16 % many, { s with at_ := s.at_ + 1, seed := (s.seed * 48271 + size % 2147483629 * 16807 + (s.at_ + 1) * 69621 + 11) % 2147483647 })
  else none
def relDraw (c0 : Ct) (ds : List D) (d : D) (c1 : Ct) : Prop := ∃ s many r s', c0 = drC s ∧ ds = [.int many] ∧ dpull s many = some (r, s') ∧ d = .int r ∧ c1 = drC s'
end Lk

set_option Elab.async false
set_option linter.all false
set_option maxRecDepth 100000
namespace Lk
open PySem PySem.Spec PyProof.Rows L2
/-! rules with their side conditions filled -/
section
variable {X : Cx} {ρ : Rho} {pos : Pos} {a b c e o tg iter elt : Expr} {es ifs : List Expr} {N : Wish} {scope : Scope} {own : List (Str × Nat)}
theorem v_ (i : Nat) {x : Str} {d : D} {k : D → Rho → Prop} (hs : ρ[i]? = some (.val d)) (hk : k d ρ) (hN : X.N[i]? = some x := by rfl)
    (hv : Vis X.env.scope x := by first | exact Or.inl rfl | exact Or.inr (Or.inl rfl) | exact Or.inr (Or.inr rfl)) (hd : (x == ("__debug__" : Str)) = false := by decide) (hcd : (x == ("__classdict__" : Str)) = false := by decide) : EX X (.Name x pos) ρ k := x_var hN hv hs hk hd hcd
theorem vf_ (i : Nat) {x : Str} {ds : List D} {k : D → Rho → Prop} (hs : ρ[i]? = some (Sl.own false (.lst ds))) (hk : k (.list ds) (ρ.set i (.val (.list ds)))) (hN : X.N[i]? = some x := by rfl)
    (hv : Vis X.env.scope x := by first | exact Or.inl rfl | exact Or.inr (Or.inl rfl) | exact Or.inr (Or.inr rfl)) (hd : (x == ("__debug__" : Str)) = false := by decide) (hcd : (x == ("__classdict__" : Str)) = false := by decide) : EX X (.Name x pos) ρ k := x_frz hN hv hs hk hd hcd
theorem set_ (i : Nat) {x : Str} {pos' : Pos} (hN : X.N.Nodup) (h : EX X e ρ fun d ρ1 => isIo ρ1[i]? = false ∧ N.nx (ρ1.set i (.val d))) (hi : X.N[i]? = some x := by rfl) (hx : Loc X.env.scope x := by first | exact .inl rfl | exact .inr rfl)
    (hs : swapsWith e (some (.Name x pos')) pos.line X.env = pure false := by rfl) (hf : X.fn x = true ∨ X.env.scope.names.lookup x = some .local := by first | exact .inl rfl | exact .inr rfl | assumption) :
    SX X (.Assign [.Name x pos'] e pos) ρ N := s_set hN hi hx h hs hf
theorem setO_ (i : Nat) {x : Str} {pos' : Pos} (hN : X.N.Nodup) (h : FX X e ρ fun ds ρ1 => isIo ρ1[i]? = false ∧ N.nx (ρ1.set i (.own false ds))) (hi : X.N[i]? = some x := by rfl) (hx : Loc X.env.scope x := by first | exact .inl rfl | exact .inr rfl)
    (hs : swapsWith e (some (.Name x pos')) pos.line X.env = pure false := by rfl) (hf : X.fn x = true ∨ X.env.scope.names.lookup x = some .local := by first | exact .inl rfl | exact .inr rfl | assumption) :
    SX X (.Assign [.Name x pos'] e pos) ρ N := s_setO hN hi hx h hs hf
theorem gn_ (i : Nat) {x : Str} {d : D} {k : Rho → Prop} (hN : X.N.Nodup) (h : isIo ρ[i]? = false) (hk : k (ρ.set i (.val d))) (hi : X.N[i]? = some x := by rfl) (hx : Loc X.env.scope x := by first | exact .inl rfl | exact .inr rfl)
    (hf : X.fn x = true ∨ X.env.scope.names.lookup x = some .local := by first | exact .inl rfl | exact .inr rfl | assumption) : GX X (.Name x pos) d ρ [i] k := g_name hN hi hx h hk hf
theorem ixO_ (i : Nat) {x : Str} {py : Pos} {k : D → Rho → Prop} (h : EX X b ρ fun dy ρ2 => ∃ c ds j d, dy = .int j ∧ ρ2[i]? = some (Sl.own c (.lst ds)) ∧ atI ds j = some d ∧ k d ρ2) (hw : ∃ b d0, ρ[i]? = some (Sl.own b d0) := by exact ⟨_, _, rfl⟩)
    (hN : X.N[i]? = some x := by rfl) (hv : Vis X.env.scope x := by first | exact Or.inl rfl | exact Or.inr (Or.inl rfl) | exact Or.inr (Or.inr rfl)) (hs : PlainIx b := by exact fun _ _ => rfl)
    (hd : (x == ("__debug__" : Str)) = false := by decide) (hcd : (x == ("__classdict__" : Str)) = false := by decide) : EX X (.Subscript (.Name x py) b pos) ρ k := x_ixO hN hv h hs hw hd hcd
theorem app_ (i : Nat) {x : Str} {py apos cpos : Pos} (h : EX X e ρ fun d ρ1 => ∃ b ds, ρ1[i]? = some (Sl.own b (.lst ds)) ∧ ds.length < 16777216 ∧ N.nx (ρ1.set i (.own b (.lst (ds ++ [d])))))
    (hN : X.N[i]? = some x := by rfl) (hv : Vis X.env.scope x := by first | exact Or.inl rfl | exact Or.inr (Or.inl rfl) | exact Or.inr (Or.inr rfl))
    (hw : ∃ b ds, ρ[i]? = some (Sl.own b (.lst ds)) := by exact ⟨_, _, rfl⟩) (hd : (x == ("__debug__" : Str)) = false := by decide) (hcd : (x == ("__classdict__" : Str)) = false := by decide)
    (hsw : swapsWith (.Call (.Attribute (.Name x py) "append" apos) [e] [] cpos) none pos.line X.env = pure false := by rfl)
    (hbase : attributeBase (.Name x py) "append" X.env (eval (.Name x py) X.env) = eval (.Name x py) X.env := by rfl)
    (hfew : ((backTo cpos (starEach (e :: []) X.env)).all (fun x => !x.1) && (backToKw cpos (keywordEach [] X.env)).all (fun x => x.1.isSome)
      && decide ((e :: []).length + ([] : List Keyword).length + (if ([] : List Keyword).isEmpty then 0 else 1) < 30)) = true := by rfl)
    (hline : (apos.endLine == cpos.line) = true := by rfl) (hs : starEach (e :: []) X.env = (false, eval e X.env) :: starEach [] X.env := by rfl) (hplain : (backTo cpos (starEach [] X.env)).any (·.1) = false := by rfl) :
    SX X (.Expr (.Call (.Attribute (.Name x py) "append" apos) [e] [] cpos) pos) ρ N := s_app hN hv h hw hd hcd hsw hbase hfew hline hs hplain
theorem tupO_ (i : Nat) {y : Str} {py p : Pos} {c : Bool} {ds : List D} {k : D → Rho → Prop} (hm : X.mg "tuple" = none) (hs : ρ[i]? = some (Sl.own c (.lst ds))) (hk : k (.tuple ds) ρ) (hg : Gl X "tuple" := by rfl) (hN : X.N[i]? = some y := by rfl)
    (hvy : Vis X.env.scope y := by first | exact Or.inl rfl | exact Or.inr (Or.inl rfl) | exact Or.inr (Or.inr rfl)) (hdy : (y == ("__debug__" : Str)) = false := by decide) (hcy : (y == ("__classdict__" : Str)) = false := by decide)
    (he : starEach [Expr.Name y py] X.env = (false, eval (.Name y py) X.env) :: starEach [] X.env := by rfl) (hpl : (backTo pos (starEach [] X.env)).any (·.1) = false := by rfl) : EX X (.Call (.Name "tuple" p) [.Name y py] [] pos) ρ k := x_tupleO hg hm hN hvy hs hk hdy hcy he hpl
theorem lenO_ (i : Nat) {y : Str} {py p : Pos} {c : Bool} {ds : List D} {k : D → Rho → Prop} (hm : X.mg "len" = none) (hs : ρ[i]? = some (Sl.own c (.lst ds))) (hk : k (.int ds.length) ρ) (hg : Gl X "len" := by rfl) (hN : X.N[i]? = some y := by rfl)
    (hvy : Vis X.env.scope y := by first | exact Or.inl rfl | exact Or.inr (Or.inl rfl) | exact Or.inr (Or.inr rfl)) (hdy : (y == ("__debug__" : Str)) = false := by decide) (hcy : (y == ("__classdict__" : Str)) = false := by decide)
    (he : starEach [Expr.Name y py] X.env = (false, eval (.Name y py) X.env) :: starEach [] X.env := by rfl) (hpl : (backTo pos (starEach [] X.env)).any (·.1) = false := by rfl) : EX X (.Call (.Name "len" p) [.Name y py] [] pos) ρ k :=
  x_callBO hg hm b_len hN hvy hs cd_lenL rfl hk (by decide) (by decide) hdy hcy he hpl
theorem callO_ (i : Nat) {p py : Pos} {n k : Nat} {x y : Str} {Rel : Ct → List D → D → Ct → Prop} {kk : D → Rho → Prop} (C : CalO X.prog X.w X.K X.mg X.base x n Rel) (hr : Room k X.A) (hnk : n ≤ k)
    (h : AX X es ρ fun ds ρ1 => ∃ b d0 d d1, ρ1[i]? = some (Sl.own b d0) ∧ Rel d0 ds d d1 ∧ kk d (ρ1.set i (.own b d1))) (hg : Gl X x := by rfl)
    (hN : X.N[i]? = some y := by rfl) (hv : Vis X.env.scope y := by first | exact Or.inl rfl | exact Or.inr (Or.inl rfl) | exact Or.inr (Or.inr rfl))
    (hdy : (y == ("__debug__" : Str)) = false := by decide) (hcy : (y == ("__classdict__" : Str)) = false := by decide)
    (hdb : (x == ("__debug__" : Str)) = false := by decide) (he : starEach (.Name y py :: es) X.env = (false, eval (.Name y py) X.env) :: starEach es X.env := by rfl) (hpl : (backTo pos (starEach es X.env)).any (·.1) = false := by rfl) 
    (hw : ∃ b d0, ρ[i]? = some (Sl.own b d0) := by exact ⟨_, _, rfl⟩) :
    EX X (.Call (.Name x p) (.Name y py :: es) [] pos) ρ kk := x_callO C hr hnk hg hN hv h hdy hcy hdb he hpl hw
theorem call_ {p : Pos} {n k : Nat} {x : Str} {Rel : List D → D → Prop} {kk : D → Rho → Prop} (C : CalP X.prog X.w X.K X.mg X.base x n Rel) (hr : Room k X.A) (hnk : n ≤ k) (h : AX X (e :: es) ρ fun ds ρ1 => ∃ d, Rel ds d ∧ kk d ρ1) (hg : Gl X x := by rfl)
    (hdb : (x == ("__debug__" : Str)) = false := by decide) (he : starEach (e :: es) X.env = (false, eval e X.env) :: starEach es X.env := by rfl) (hpl : (backTo pos (starEach es X.env)).any (·.1) = false := by rfl) :
    EX X (.Call (.Name x p) (e :: es) [] pos) ρ kk := x_callP C hr hnk hg h hdb he hpl
/-- a def without arguments -/
theorem call0_ {p : Pos} {n k : Nat} {x : Str} {Rel : List D → D → Prop} {kk : D → Rho → Prop} (C : CalP X.prog X.w X.K X.mg X.base x n Rel) (hr : Room k X.A) (hnk : n ≤ k) (h : ∃ d, Rel [] d ∧ kk d ρ) (hg : Gl X x := by rfl)
    (hdb : (x == ("__debug__" : Str)) = false := by decide) : EX X (.Call (.Name x p) [] [] pos) ρ kk := fun W σ H O M Q q => by
  obtain ⟨f, fd, ps, F, hm, hk, hb⟩ := C.ex
  obtain ⟨d, hR, hkk⟩ := h
  refine (pe_call0 (E := E0) F (hr.mono hnk) hg hm hk hb .nil pass0 hdb).w ?_
  show SpP X.K Rel ([] ++ []) H Q E0
  rw [List.append_nil]
  exact ⟨O, [], d, .nil, M.ex, hR, fun v H' hs rv => q v d ρ H' O (M.grow hs) (Ext.grow hs) rv hkk⟩
theorem callFr_ {p : Pos} {n k : Nat} {x : Str} {Rel : List D → Ct → Prop} {kk : Ct → Rho → Prop} (C : CalF X.prog X.w X.K X.mg X.base x n Rel) (hr : Room k X.A) (hnk : n ≤ k) (h : AX X (e :: es) ρ fun ds ρ1 => ∃ c, Rel ds c ∧ kk c ρ1) (hg : Gl X x := by rfl)
    (hdb : (x == ("__debug__" : Str)) = false := by decide) (he : starEach (e :: es) X.env = (false, eval e X.env) :: starEach es X.env := by rfl) (hpl : (backTo pos (starEach es X.env)).any (·.1) = false := by rfl) :
    FX X (.Call (.Name x p) (e :: es) [] pos) ρ kk := f_callF C hr hnk hg h hdb he hpl
theorem bl_ {p : Pos} {x : Str} {id : String} {k : D → Rho → Prop} (hv : bootBuiltins x = some (.builtin id)) (hm : X.mg x = none) (h : AX X (e :: es) ρ fun ds ρ1 => ∃ dz, CallD X (.builtin id) ds dz ∧ k dz ρ1) (hg : Gl X x := by rfl) (hn : x ≠ "__name__" := by decide) (hdb : (x == ("__debug__" : Str)) = false := by decide)
    (he : starEach (e :: es) X.env = (false, eval e X.env) :: starEach es X.env := by rfl) (hpl : (backTo pos (starEach es X.env)).any (·.1) = false := by rfl) : EX X (.Call (.Name x p) (e :: es) [] pos) ρ k := x_callB hg hm hv h hn hdb he hpl
theorem ty_ {p : Pos} {x : Str} {id : String} {k : D → Rho → Prop} (hv : bootBuiltins x = some (.type id)) (hm : X.mg x = none) (h : AX X (e :: es) ρ fun ds ρ1 => ∃ dz, CallD X (.type id) ds dz ∧ k dz ρ1) (hg : Gl X x := by rfl) (hn : x ≠ "__name__" := by decide) (hdb : (x == ("__debug__" : Str)) = false := by decide)
    (he : starEach (e :: es) X.env = (false, eval e X.env) :: starEach es X.env := by rfl) (hpl : (backTo pos (starEach es X.env)).any (·.1) = false := by rfl) : EX X (.Call (.Name x p) (e :: es) [] pos) ρ k := x_callT hg hm hv h hn hdb he hpl
theorem tyF_ {p : Pos} {x : Str} {id : String} {k : Ct → Rho → Prop} (hv : bootBuiltins x = some (.type id)) (hm : X.mg x = none) (h : AX X (e :: es) ρ fun ds ρ1 => ∃ zs, CallF X (.type id) ds zs ∧ k (.lst zs) ρ1) (hg : Gl X x := by rfl) (hn : x ≠ "__name__" := by decide) (hdb : (x == ("__debug__" : Str)) = false := by decide)
    (he : starEach (e :: es) X.env = (false, eval e X.env) :: starEach es X.env := by rfl) (hpl : (backTo pos (starEach es X.env)).any (·.1) = false := by rfl) : FX X (.Call (.Name x p) (e :: es) [] pos) ρ k := f_callT hg hm hv h hn hdb he hpl
theorem blF_ {p : Pos} {x : Str} {id : String} {k : Ct → Rho → Prop} (hv : bootBuiltins x = some (.builtin id)) (hm : X.mg x = none) (h : AX X (e :: es) ρ fun ds ρ1 => ∃ zs, CallF X (.builtin id) ds zs ∧ k (.lst zs) ρ1) (hg : Gl X x := by rfl) (hn : x ≠ "__name__" := by decide) (hdb : (x == ("__debug__" : Str)) = false := by decide)
    (he : starEach (e :: es) X.env = (false, eval e X.env) :: starEach es X.env := by rfl) (hpl : (backTo pos (starEach es X.env)).any (·.1) = false := by rfl) : FX X (.Call (.Name x p) (e :: es) [] pos) ρ k := f_callB hg hm hv h hn hdb he hpl
theorem r1_ {k : List D → Rho → Prop} {p : Pos} (hm : X.mg "range" = none) (h : EX X e ρ fun d ρ1 => ∃ j, d = .int j ∧ rngOk 0 j = true ∧ k ((rngL 0 j).map PyData.int) ρ1) (hg : Gl X "range" := by rfl)
    (hs0 : starEach (e :: []) X.env = (false, eval e X.env) :: starEach [] X.env := by rfl) (hs : starEach [e] X.env = [(false, eval e X.env)] := by rfl) : IX X tg (.Call (.Name "range" p) [e] [] pos) ρ k := i_rng1 hg hm h hs0 hs
theorem r2_ {k : List D → Rho → Prop} {p : Pos} (hm : X.mg "range" = none) (h : EX X e ρ fun d ρ1 => ∃ i, d = .int i ∧ EX X c ρ1 fun d ρ2 => ∃ j, d = .int j ∧ rngOk i j = true ∧ k ((rngL i j).map PyData.int) ρ2) (hg : Gl X "range" := by rfl)
    (hs0 : starEach (e :: [c]) X.env = (false, eval e X.env) :: starEach [c] X.env := by rfl) (hs1 : starEach (c :: []) X.env = (false, eval c X.env) :: starEach [] X.env := by rfl)
    (hs : starEach [e, c] X.env = [(false, eval e X.env), (false, eval c X.env)] := by rfl) (hs2 : starEach [c] X.env = [(false, eval c X.env)] := by rfl) : IX X tg (.Call (.Name "range" p) [e, c] [] pos) ρ k := i_rng2 hg hm h hs0 hs1 hs hs2
theorem isi_ {k : D → Rho → Prop} {p p2 : Pos} {T : Str} {U : String} {x : Expr} (hvT : bootBuiltins T = some (.type U)) (hm : X.mg "isinstance" = none) (hmT : X.mg T = none)
    (h : EX X x ρ fun d ρ1 => ∃ r, kitB (tyName d) U = some r ∧ k (.bool r) ρ1) (hg : Gl X "isinstance" := by rfl) (hgT : Gl X T := by rfl) (hnT : T ≠ "__name__" := by decide) (hdT : (T == ("__debug__" : Str)) = false := by decide)
    (he : starEach (x :: [Expr.Name T p2]) X.env = (false, eval x X.env) :: starEach [Expr.Name T p2] X.env := by rfl) (he2 : starEach (Expr.Name T p2 :: []) X.env = (false, eval (Expr.Name T p2) X.env) :: starEach [] X.env := by rfl)
    (hpl : (backTo pos (starEach [Expr.Name T p2] X.env)).any (·.1) = false := by rfl) : EX X (.Call (.Name "isinstance" p) [x, .Name T p2] [] pos) ρ k := x_isi hg hm hgT hmT hvT h hnT hdT he he2 hpl
end
end Lk

set_option Elab.async false
set_option linter.all false
set_option maxRecDepth 100000
namespace Lk
open PySem PySem.Spec PyProof.Rows L2 RZ
section
variable {X : Cx} {ρ : Rho} {pos p tpos : Pos} {tg e e2 : Expr} {elts : List Expr} {kk : Nat}
/-! ### walks of a text, of zip, of enumerate -/
def signsD (z : Str) : List D := z.cps.toList.map fun c => .str ⟨#[c]⟩
theorem itd_str {H : Hp} {O : Addr → Prop} {z : Str} : ItD X.K (Its z) H O (signsD z) := fun H' O' E' ex i => by
  unfold signsD
  refine ⟨fun d e => ?_, fun e => ?_⟩
  · rw [List.getElem?_map] at e
    cases q : z.cps.toList[i]? with
    | none => rw [q] at e; cases e
    | some c =>
      rw [q] at e
      cases e
      have h1 := (List.getElem?_eq_some_iff.mp q).1
      refine ⟨(by simpa using h1 : i < z.cps.size), fun x H'' y => ?_⟩
      obtain ⟨rfl, c', hc, rfl⟩ := y
      rw [Array.getElem?_toList] at q
      rw [q] at hc
      cases hc
      exact ⟨Sub.refl _, .str _⟩
  · have := List.getElem?_eq_none_iff.mp e
    rw [List.length_map, Array.length_toList] at this
    exact this
theorem i_str {k : List D → Rho → Prop} (h : EX X e ρ fun d ρ1 => ∃ z, d = .str z ∧ z.length ≤ sizeLine ∧ k (signsD z) ρ1) : IX X tg e ρ k := fun W σ H O M R q =>
  (pi_str pe_w).w' (h W σ H O M _ fun v d ρ1 H1 O1 M1 E1 r ⟨z, hd, hl, hk⟩ => by
    subst hd
    cases r
    exact ⟨z, rfl, q _ _ ρ1 H1 O1 M1 E1 itd_str (by unfold signsD; rw [List.length_map, Array.length_toList]; exact hl) hk⟩)
def zipD (xs ys : List D) : List D := List.zipWith (fun x y => .tuple [x, y]) xs ys
theorem zip_get {xs ys : List D} {i : Nat} {d : D} (h : (zipD xs ys)[i]? = some d) : ∃ x y, xs[i]? = some x ∧ ys[i]? = some y ∧ d = .tuple [x, y] := by
  unfold zipD at h
  rw [List.getElem?_zipWith] at h
  cases e1 : xs[i]? with
  | none => rw [e1] at h; cases h
  | some x =>
    cases e2 : ys[i]? with
    | none => rw [e1, e2] at h; cases h
    | some y => rw [e1, e2] at h; cases h; exact ⟨x, y, rfl, rfl, rfl⟩
theorem zip_none {xs ys : List D} {i : Nat} (h : (zipD xs ys)[i]? = none) : xs.length ≤ i ∨ ys.length ≤ i := by
  have := List.getElem?_eq_none_iff.mp h
  unfold zipD at this
  rw [List.length_zipWith] at this
  omega
theorem pair_dp {H : Hp} {O : Addr → Prop} {T : Addr} {vx vy : V} {x y : D} (ex : ∀ a, O a → ∃ o, H a = some o) (hT : H T = none) (rx : Dp X.K (cut O H) vx x) (ry : Dp X.K (cut O H) vy y) :
    Sub H (upd H T (.tup [vx, vy])) ∧ Dp X.K (cut O (upd H T (.tup [vx, vy]))) (.ref T) (.tuple [x, y]) := by
  have s1 : Sub H (upd H T (.tup [vx, vy])) := Sub.upd hT
  have hO : ¬ O T := fun z => by
    obtain ⟨o, e⟩ := ex T z
    rw [hT] at e; cases e
  exact ⟨s1, .tup (SqT.of (cut_some.mpr ⟨hO, upd_same⟩)) (.cons (dp_mono (cut_grow s1) _ _ rx) (.cons (dp_mono (cut_grow s1) _ _ ry) .nil))⟩
theorem itd_zip {H : Hp} {O : Addr → Prop} {a b : Addr} {xs ys : List D} {us ws : List V} (ha : SqL X.K (cut O H) a us) (hb : SqL X.K (cut O H) b ws) (da : DpAll X.K (cut O H) us xs) (db : DpAll X.K (cut O H) ws ys) : ItD X.K (Itz X.K a b) H O (zipD xs ys) := fun H' O' E' ex i => by
  have ha' : SqL X.K H' a us := cut_sub.l (E'.sub.l ha)
  have hb' : SqL X.K H' b ws := cut_sub.l (E'.sub.l hb)
  have da' := dpa_mono E'.sub _ _ da
  have db' := dpa_mono E'.sub _ _ db
  refine ⟨fun d e => ?_, fun e => ⟨us, ws, ha', hb', by rw [dpa_len da, dpa_len db]; exact zip_none e⟩⟩
  obtain ⟨x, y, e1, e2, rfl⟩ := zip_get e
  obtain ⟨vx, f1, rx⟩ := dpa_get' da' e1
  obtain ⟨vy, f2, ry⟩ := dpa_get' db' e2
  refine ⟨⟨us, ws, vx, vy, ha', hb', f1, f2⟩, fun z H'' q => ?_⟩
  obtain ⟨T, x', y', rfl, hT, rfl, g1, g2⟩ := q
  have g1 := g1 us ha'
  have g2 := g2 ws hb'
  rw [f1] at g1
  rw [f2] at g2
  cases g1; cases g2
  exact pair_dp ex hT rx ry
theorem itd_zipT {H : Hp} {O : Addr → Prop} {a b : Addr} {xs ys : List D} {us ws : List V} (ha : SqT X.K (cut O H) a us) (hb : SqT X.K (cut O H) b ws) (da : DpAll X.K (cut O H) us xs) (db : DpAll X.K (cut O H) ws ys) : ItD X.K (ItzT X.K a b) H O (zipD xs ys) := fun H' O' E' ex i => by
  have ha' : SqT X.K H' a us := cut_sub.t (E'.sub.t ha)
  have hb' : SqT X.K H' b ws := cut_sub.t (E'.sub.t hb)
  have da' := dpa_mono E'.sub _ _ da
  have db' := dpa_mono E'.sub _ _ db
  refine ⟨fun d e => ?_, fun e => ⟨us, ws, ha', hb', by rw [dpa_len da, dpa_len db]; exact zip_none e⟩⟩
  obtain ⟨x, y, e1, e2, rfl⟩ := zip_get e
  obtain ⟨vx, f1, rx⟩ := dpa_get' da' e1
  obtain ⟨vy, f2, ry⟩ := dpa_get' db' e2
  refine ⟨⟨us, ws, vx, vy, ha', hb', f1, f2⟩, fun z H'' q => ?_⟩
  obtain ⟨T, x', y', rfl, hT, rfl, g1, g2⟩ := q
  have g1 := g1 us ha'
  have g2 := g2 ws hb'
  rw [f1] at g1
  rw [f2] at g2
  cases g1; cases g2
  exact pair_dp ex hT rx ry
theorem i_zip {k : List D → Rho → Prop} (hg : Gl X "zip") (hm : X.mg "zip" = none) (h : AX X [e, e2] ρ fun ds ρ1 => ∃ xs ys, (ds = [.list xs, .list ys] ∨ ds = [.tuple xs, .tuple ys]) ∧ xs.length ≤ sizeLine ∧ k (zipD xs ys) ρ1)
    (hs : starEach [e, e2] X.env = (false, eval e X.env) :: starEach [e2] X.env := by rfl) (hpl : (backTo pos (starEach [e2] X.env)).any (·.1) = false := by rfl) : IX X (.Tuple elts kk tpos) (.Call (.Name "zip" p) [e, e2] [] pos) ρ k := fun W σ H O M R q =>
  (pi_zipA hg hm pa_w hs hpl).w' (h W σ H O M _ fun vs ds ρ1 H1 O1 M1 E1 r ⟨xs, ys, hd, hl, hk⟩ => by
    have hl2 : (zipD xs ys).length ≤ sizeLine := by
      unfold zipD
      rw [List.length_zipWith]
      exact Nat.le_trans (Nat.min_le_left _ _) hl
    rcases hd with hd | hd
    · subst hd
      cases r with
      | cons r1 r2 =>
        cases r2 with
        | cons r2 r3 =>
          cases r3
          cases r1 with
          | lst ha da =>
            cases r2 with
            | lst hb db => exact ⟨_, _, _, _, rfl, .inl ⟨cut_sub.l ha, cut_sub.l hb, q _ _ ρ1 H1 O1 M1 E1 (itd_zip ha hb da db) hl2 hk⟩⟩
    · subst hd
      cases r with
      | cons r1 r2 =>
        cases r2 with
        | cons r2 r3 =>
          cases r3
          cases r1 with
          | tup ha da =>
            cases r2 with
            | tup hb db => exact ⟨_, _, _, _, rfl, .inr ⟨cut_sub.t ha, cut_sub.t hb, q _ _ ρ1 H1 O1 M1 E1 (itd_zipT ha hb da db) hl2 hk⟩⟩)
def enumD (xs : List D) : List D := xs.mapIdx fun i x => .tuple [.int (i : Nat), x]
theorem itd_enum {H : Hp} {O : Addr → Prop} {a : Addr} {xs : List D} {us : List V} (ha : SqL X.K (cut O H) a us) (da : DpAll X.K (cut O H) us xs) : ItD X.K (Ite X.K a) H O (enumD xs) := fun H' O' E' ex i => by
  have ha' : SqL X.K H' a us := cut_sub.l (E'.sub.l ha)
  have da' := dpa_mono E'.sub _ _ da
  unfold enumD
  refine ⟨fun d e => ?_, fun e => ⟨us, ha', by
    have := List.getElem?_eq_none_iff.mp e
    rw [List.length_mapIdx] at this
    rw [dpa_len da]; exact this⟩⟩
  rw [List.getElem?_mapIdx] at e
  obtain ⟨x, e1, rfl⟩ := Option.map_eq_some_iff.mp e
  obtain ⟨vx, f1, rx⟩ := dpa_get' da' e1
  refine ⟨⟨us, vx, ha', f1⟩, fun z H'' q => ?_⟩
  obtain ⟨T, x', rfl, hT, rfl, g1⟩ := q
  have g1 := g1 us ha'
  rw [f1] at g1
  cases g1
  exact pair_dp ex hT (.int _) rx
theorem i_enum {k : List D → Rho → Prop} (hg : Gl X "enumerate") (hm : X.mg "enumerate" = none) (h : EX X e ρ fun d ρ1 => ∃ xs, d = .list xs ∧ xs.length ≤ sizeLine ∧ k (enumD xs) ρ1)
    (hs0 : starEach (e :: []) X.env = (false, eval e X.env) :: starEach [] X.env := by rfl) (hs : starEach [e] X.env = [(false, eval e X.env)] := by rfl) : IX X (.Tuple elts kk tpos) (.Call (.Name "enumerate" p) [e] [] pos) ρ k := fun W σ H O M R q =>
  (pi_enum hg hm (pa_cons pe_w pa_nil hs0) hs).w' (h W σ H O M _ fun v d ρ1 H1 O1 M1 E1 r ⟨xs, hd, hl, hk⟩ => by
    subst hd
    cases r with
    | lst ha da => exact ⟨_, _, rfl, cut_sub.l ha, q _ _ ρ1 H1 O1 M1 E1 (itd_enum ha da) (by unfold enumD; rw [List.length_mapIdx]; exact hl) hk⟩)
end
end Lk

set_option Elab.async false
set_option linter.all false
set_option maxRecDepth 100000
namespace Lk
open PySem PySem.Spec PyProof.Rows L2 RZ
section
variable {X : Cx} {ρ : Rho} {pos p tpos : Pos} {tg e e2 : Expr} {elts : List Expr} {kk : Nat}
/-! ### the order of data -/
theorem min_dep {A : Around} {x y : D} (hu : A.units + 64 < cLine) (hd : x.depth ≤ 64) : A.units + min x.depth y.depth < cLine := by
  have h2 : min x.depth y.depth ≤ x.depth := Nat.min_le_left _ _
  omega
theorem od_ltD {x y : D} (hr : ∃ k, Room k X.A) (h : W.alike x y = true) (hn : x ≠ .none) (hd : x.depth ≤ 64) : OpD X (compareOp .Lt) x y (.bool (W.dataLt x y)) := fun H O v u Q _ rx ry q pins s σ va ua I r1 r2 => by
  obtain ⟨k, hr⟩ := hr
  obtain ⟨as, ra⟩ := Dp.reads I x v va (dp_mono cut_sub _ _ rx) r1
  obtain ⟨bs, rb⟩ := Dp.reads I y u ua (dp_mono cut_sub _ _ ry) r2
  exact W.lt_data ra rb h hn (min_dep hr.units hd) ⟨.bl _, H, I, rfl, q _ H (Sub.refl H) (.bl _)⟩
theorem od_gtD {x y : D} (hr : ∃ k, Room k X.A) (h : W.alike x y = true) (hn : x ≠ .none) (hd : x.depth ≤ 64) : OpD X (compareOp .Gt) x y (.bool (W.dataLt y x)) := fun H O v u Q _ rx ry q pins s σ va ua I r1 r2 => by
  obtain ⟨k, hr⟩ := hr
  obtain ⟨as, ra⟩ := Dp.reads I x v va (dp_mono cut_sub _ _ rx) r1
  obtain ⟨bs, rb⟩ := Dp.reads I y u ua (dp_mono cut_sub _ _ ry) r2
  exact W.gt_data ra rb h hn (min_dep hr.units hd) ⟨.bl _, H, I, rfl, q _ H (Sub.refl H) (.bl _)⟩
theorem od_leD {x y : D} (hr : ∃ k, Room k X.A) (h : W.alike x y = true) (hn : x ≠ .none) (hd : x.depth ≤ 64) : OpD X (compareOp .LtE) x y (.bool (!W.dataLt y x)) := fun H O v u Q _ rx ry q pins s σ va ua I r1 r2 => by
  obtain ⟨k, hr⟩ := hr
  obtain ⟨as, ra⟩ := Dp.reads I x v va (dp_mono cut_sub _ _ rx) r1
  obtain ⟨bs, rb⟩ := Dp.reads I y u ua (dp_mono cut_sub _ _ ry) r2
  exact W.le_data ra rb h hn (min_dep hr.units hd) ⟨.bl _, H, I, rfl, q _ H (Sub.refl H) (.bl _)⟩
theorem od_geD {x y : D} (hr : ∃ k, Room k X.A) (h : W.alike x y = true) (hn : x ≠ .none) (hd : x.depth ≤ 64) : OpD X (compareOp .GtE) x y (.bool (!W.dataLt x y)) := fun H O v u Q _ rx ry q pins s σ va ua I r1 r2 => by
  obtain ⟨k, hr⟩ := hr
  obtain ⟨as, ra⟩ := Dp.reads I x v va (dp_mono cut_sub _ _ rx) r1
  obtain ⟨bs, rb⟩ := Dp.reads I y u ua (dp_mono cut_sub _ _ ry) r2
  exact W.ge_data ra rb h hn (min_dep hr.units hd) ⟨.bl _, H, I, rfl, q _ H (Sub.refl H) (.bl _)⟩

/-! ### sorted -/
def sortD (ds : List D) : List D := ds.mergeSort (W.dataLe false id)
def sortB (ds : List D) : Bool := (ds.all fun x => ds.all fun y => W.alike x y) && ((ds.all fun x => match x with | .tuple (_ :: _) => true | _ => false) || ds.all fun x => match x with | .none => false | .tuple _ => false | _ => true) && ds.all fun x => decide (x.depth ≤ 64)
theorem sortB_ok {ds : List D} (h : sortB ds = true) : W.AllAlike (ds.map id) ∧ W.Sortable (ds.map id) ∧ ∀ d ∈ ds, d.depth ≤ 64 := by
  unfold sortB at h
  rw [Bool.and_eq_true, Bool.and_eq_true, Bool.or_eq_true, List.all_eq_true, List.all_eq_true, List.all_eq_true, List.all_eq_true] at h
  obtain ⟨⟨h1, h2⟩, h3⟩ := h
  rw [List.map_id]
  refine ⟨fun d hd d' hd' => List.all_eq_true.mp (h1 d hd) d' hd', ?_, fun d hd => of_decide_eq_true (h3 d hd)⟩
  rcases h2 with h2 | h2
  · refine .inl fun d hd => ?_
    have := h2 d hd
    split at this
    · exact ⟨_, _, rfl⟩
    · cases this
  · refine .inr fun d hd => ?_
    have := h2 d hd
    constructor
    · intro e; subst e; cases this
    · intro xs e; subst e; cases this
theorem dpa_rel {K : PySem.W.Frag} {H : Hp} : ∀ {us : List V} {ds : List D} {its : List Value}, DpAll K H us ds → Vals us its → W.EachIs (fun v b => ∃ x, RelV x v ∧ Dp K H x b) its ds
  | _, _, _, .nil, .nil => .nil
  | _, _, _, .cons h1 h2, .cons r1 r2 => .cons ⟨_, r1, h1⟩ (dpa_rel h2 r2)
theorem rel_dpa {K : PySem.W.Frag} {H : Hp} : ∀ {ds : List D} {its : List Value}, W.EachIs (fun v b => ∃ x, RelV x v ∧ Dp K H x b) its ds → ∃ us, DpAll K H us ds ∧ Vals us its
  | _, _, .nil => ⟨[], .nil, .nil⟩
  | _, _, .cons ⟨x, r, h⟩ t => by
    obtain ⟨us, h1, h2⟩ := rel_dpa t
    exact ⟨x :: us, .cons h h1, .cons r h2⟩
theorem each_mono {α β : Type} {R S : α → β → Prop} (m : ∀ a b, R a b → S a b) : ∀ {as : List α} {bs : List β}, W.EachIs R as bs → W.EachIs S as bs
  | _, _, .nil => .nil
  | _, _, .cons h t => .cons (m _ _ h) (each_mono m t)
theorem cf_sorted {ds : List D} (hr : ∃ k, Room k X.A) (hB : sortB ds = true) : CallF X (.builtin "sorted") [.list ds] (sortD ds) := fun H O vs Q ex hd q pins s σ us I rv => by
  obtain ⟨k, hr⟩ := hr
  obtain ⟨h1, h2, h3⟩ := sortB_ok hB
  cases hd with
  | cons r1 r2 =>
    cases r2
    cases r1 with
    | @lst p ws _ hs ha =>
      obtain ⟨u, rfl, ru⟩ := vals1 rv
      obtain rfl : u = Value.ref p := ru
      have hs' : SqL X.K H p ws := cut_sub.l hs
      obtain ⟨its, rvs, hl, hz⟩ := I.list hs'
      have e0 := dpa_rel ha rvs
      have er : W.EachIs (fun v b => ∃ as, Reads s.heap v (id b) as) its ds := each_mono (fun v b ⟨x, r, h⟩ => Dp.reads I b x v (dp_mono cut_sub _ _ h) r) e0
      refine W.sorted_data (enc := id) hl.isList e0 er h1 h2 (by rw [← dpa_len ha]; exact hz) (fun b hb => ?_) fun out hlen eo => ?_
      · have := h3 b hb
        have := hr.un
        show _ + 2 + b.depth < _
        omega
      · obtain ⟨ys, g1, g2⟩ := rel_dpa eo
        obtain ⟨n, hn⟩ := PyProof.Rows.sortedAll_at s.heap its out.toArray
        have fresh := I.hok.fresh (a := s.heap.objs.size + 1) (Nat.le_succ _)
        refine ⟨.ref (s.heap.objs.size + 1), upd H (s.heap.objs.size + 1) (.lst ys), I.laid (t' := s.toks) (fun b o e => PyProof.Rows.sortedAll_old e) (Nat.le_succ _) ⟨?_, out, n, g2, hn⟩, rfl, ?_⟩
        · rw [g2.length, hlen, ← dpa_len ha]; exact hz
        · exact q _ _ ys fresh (Sub.upd fresh) upd_same g1
end
section
variable {X : Cx} {ρ : Rho} {pos p tpos : Pos} {a b e e2 : Expr}
/-! ### operators that make a new list -/
def OpF (X : Cx) (f : Value → Value → Sem Value) (dx dy : D) (zs : List D) : Prop :=
  ∀ (H : Hp) (O : Addr → Prop) (x y : V) (Q : VK), (∀ a, O a → ∃ o, H a = some o) → Dp X.K (cut O H) x dx → Dp X.K (cut O H) y dy → (∀ p H' us, H p = none → Sub H H' → H' p = some (.lst us) → DpAll X.K (cut O H) us zs → Q (.ref p) H') → wOp X f x y H Q
theorem f_bin {op : Operator} {k : Ct → Rho → Prop} (h : EX X a ρ fun dx ρ1 => EX X b ρ1 fun dy ρ2 => ∃ zs, OpF X (binaryOp op) dx dy zs ∧ k (.lst zs) ρ2) : FX X (.BinOp a op b pos) ρ k := fun W σ H O M Q q =>
  (pe_op op_w pe_w pe_w).w (h W σ H O M _ fun x dx ρ1 H1 O1 M1 E1 rx h1 => h1 W σ H1 O1 M1 _ fun y dy ρ2 H2 O2 M2 E2 ry h2 => by
    obtain ⟨zs, ho, hk⟩ := h2
    refine ho H2 O2 x y Q M2.ex (dp_mono E2.sub _ _ rx) ry fun p H' us hp hs hl rz => ?_
    obtain ⟨M3, E3, n3, h0⟩ := M2.new_list hp hs hl
    exact q p (.lst us) (.lst zs) ρ2 H' _ M3 (.inr rfl) n3 h0 hl (dpa_mono E3.sub _ _ rz) ((E1.trans E2).trans E3) hk)
theorem of_cat {xs ys : List D} (hl : xs.length + ys.length ≤ sizeLine) : OpF X (binaryOp .Add) (.list xs) (.list ys) (xs ++ ys) := fun H O x y Q ex rx ry q pins s σ v u I r1 r2 => by
  cases rx with
  | @lst l us _ hs ha =>
    cases ry with
    | @lst b ws _ hs2 ha2 =>
      obtain rfl : v = Value.ref l := r1
      obtain rfl : u = Value.ref b := r2
      obtain ⟨its, rv, pl, hz⟩ := I.list (cut_sub.l hs)
      obtain ⟨its2, rv2, pl2, hz2⟩ := I.list (cut_sub.l hs2)
      obtain ⟨⟨cls, dd, data, sl⟩, ho, hc, n, hd⟩ := pl.isList
      obtain ⟨⟨cls2, dd2, data2, sl2⟩, ho2, hc2, n2, hd2⟩ := pl2.isList
      simp only at hc hd hc2 hd2
      subst hc hd hc2 hd2
      have e : its.toArray ++ its2.toArray = (its ++ its2).toArray := by simp
      have hlen : its.length + its2.length ≤ sizeLine := by rw [← rv.length, ← rv2.length, dpa_len ha, dpa_len ha2]; exact hl
      refine concat_meets ⟨_, ho, rfl⟩ ⟨_, ho2, rfl⟩ noFill_list_add seq_list_add PySem.F.slot_list_add PySem.F.entry_list_add (PySem.F.args_list_add_2 _ _) (PyProof.Rows.list_addW l b its.toArray its2.toArray n n2 dd dd2 sl sl2 (by simpa using hlen)) ⟨ho, ho2, ?_⟩
      rw [e]
      have fresh := I.fresh
      exact ⟨.ref _, _, I.lnew (t' := s.toks) (rv.append rv2) (by rw [List.length_append, dpa_len ha, dpa_len ha2]; exact hl), rfl, q _ _ _ fresh (Sub.upd fresh) upd_same (dpa_app ha ha2)⟩

/-! ### list(range(..)) -/
theorem prg_x {X : Cx} {e : Expr} {t : L2.St → Hp → (Int → Int → Hp → Prop) → Prop} (h : PRg X e t) (hc : X.calm = true) (hg : Gl X "list") (hm : X.mg "list" = none) {pos p : Pos} (na : starEach [e] X.env = (false, eval e X.env) :: starEach [] X.env) {σ : L2.St} {H : Hp} {Q : VK}
    (q : t σ H fun a b H1 => RgOk a b ∧ ∀ r, H1 r = none → Q (.ref r) (upd H1 r (.lst (rgV a b)))) : wE X (.Call (.Name "list" p) [e] [] pos) σ H Q := (pe_listRg hc hg hm h na).w q
theorem dpa_rg {H : Hp} (a b : Int) : DpAll X.K H (rgV a b) ((rngL a b).map PyData.int) := by
  have : ∀ xs : List Nat, DpAll X.K H (xs.map fun i => V.int (a + (i : Nat))) ((xs.map fun i => a + ((i : Nat) : Int)).map PyData.int) := fun xs => by
    induction xs with
    | nil => exact .nil
    | cons x xs ih => exact .cons (.int _) ih
  exact this _
theorem rgOk_of {a b : Int} (h : rngOk a b = true) : RgOk a b := by
  unfold rngOk at h
  simp only [Bool.and_eq_true, decide_eq_true_eq] at h
  exact ⟨h.1.1.1.1, h.1.1.1.2, h.1.1.2, h.1.2, by omega⟩
theorem f_listR1 {p2 pos2 : Pos} {k : Ct → Rho → Prop} (hc : X.calm = true) (hg : Gl X "list") (hm : X.mg "list" = none) (hg2 : Gl X "range") (hm2 : X.mg "range" = none) (h : EX X e ρ fun d ρ1 => ∃ j, d = .int j ∧ rngOk 0 j = true ∧ k (.lst ((rngL 0 j).map PyData.int)) ρ1)
    (hs : starEach [e] X.env = (false, eval e X.env) :: starEach [] X.env := by rfl) : FX X (.Call (.Name "list" p) [.Call (.Name "range" p2) [e] [] pos2] [] pos) ρ k := fun W σ H O M Q q =>
  prg_x (prg_1 hg2 hm2 pe_w hs) hc hg hm rfl (h W σ H O M _ fun v d ρ1 H1 O1 M1 E1 r ⟨j, hd, hr, hk⟩ => by
    subst hd
    cases r
    refine ⟨j, rfl, rgOk_of hr, fun r hr0 => ?_⟩
    obtain ⟨M2, E2, n2, h0⟩ := M1.new_list hr0 (Sub.upd hr0) upd_same
    exact q r _ (.lst _) ρ1 _ _ M2 (.inr rfl) n2 h0 upd_same (dpa_rg 0 j) (E1.trans E2) hk)
theorem f_listR2 {p2 pos2 : Pos} {k : Ct → Rho → Prop} (hc : X.calm = true) (hg : Gl X "list") (hm : X.mg "list" = none) (hg2 : Gl X "range") (hm2 : X.mg "range" = none)
    (h : EX X e ρ fun d ρ1 => ∃ i, d = .int i ∧ EX X e2 ρ1 fun d ρ2 => ∃ j, d = .int j ∧ rngOk i j = true ∧ k (.lst ((rngL i j).map PyData.int)) ρ2)
    (hs0 : starEach [e, e2] X.env = (false, eval e X.env) :: starEach [e2] X.env := by rfl) (hs : starEach [e2] X.env = (false, eval e2 X.env) :: starEach [] X.env := by rfl) (hp : (backTo pos2 (starEach [e2] X.env)).any (·.1) = false := by rfl) : FX X (.Call (.Name "list" p) [.Call (.Name "range" p2) [e, e2] [] pos2] [] pos) ρ k := fun W σ H O M Q q =>
  prg_x (prg_2 hg2 hm2 pe_w pe_w hs0 hs hp) hc hg hm rfl (h W σ H O M _ fun v d ρ1 H1 O1 M1 E1 r ⟨i, hd, h2⟩ => by
    subst hd
    cases r
    exact h2 W σ H1 O1 M1 _ fun v d ρ2 H2 O2 M2 E2 r ⟨j, hd, hr, hk⟩ => by
      subst hd
      cases r
      refine ⟨i, j, rfl, rfl, rgOk_of hr, fun r hr0 => ?_⟩
      obtain ⟨M3, E3, n3, h0⟩ := M2.new_list hr0 (Sub.upd hr0) upd_same
      exact q r _ (.lst _) ρ2 _ _ M3 (.inr rfl) n3 h0 upd_same (dpa_rg i j) ((E1.trans E2).trans E3) hk)

/-! ### pop -/
theorem dpa_erase {K : PySem.W.Frag} {H : Hp} : ∀ {ds : List D} {vs : List V}, DpAll K H vs ds → ∀ (i : Nat), DpAll K H (vs.eraseIdx i) (ds.eraseIdx i)
  | [], _, h, i => by cases h; exact .nil
  | d :: ds, _, h, 0 => by
    cases h with
    | cons h1 h2 => exact h2
  | d :: ds, _, h, i + 1 => by
    cases h with
    | cons h1 h2 => exact .cons h1 (dpa_erase h2 i)
theorem x_popAt {i : Nat} {x : Str} {py apos cpos : Pos} {k : D → Rho → Prop} (hN : X.N[i]? = some x) (hv : Vis X.env.scope x) (h : EX X e ρ fun dy ρ1 => ∃ b ds j n d, dy = .int j ∧ ρ1[i]? = some (Sl.own b (.lst ds)) ∧ -(2 ^ 63) ≤ j ∧ j < 2 ^ 63 ∧ ixN ds.length j = some n ∧ ds[n]? = some d ∧ k d (ρ1.set i (.own b (.lst (ds.eraseIdx n)))))
    (hw : ∃ b ds, ρ[i]? = some (Sl.own b (.lst ds)) := by exact ⟨_, _, rfl⟩) (hd : (x == ("__debug__" : Str)) = false := by decide) (hcd : (x == ("__classdict__" : Str)) = false := by decide)
    (hbase : attributeBase (.Name x py) "pop" X.env (eval (.Name x py) X.env) = eval (.Name x py) X.env := by rfl)
    (hfew : ((backTo cpos (starEach (e :: []) X.env)).all (fun x => !x.1) && (backToKw cpos (keywordEach [] X.env)).all (fun x => x.1.isSome)
      && decide ((e :: []).length + ([] : List Keyword).length + (if ([] : List Keyword).isEmpty then 0 else 1) < 30)) = true := by rfl)
    (hline : (apos.endLine == cpos.line) = true := by rfl) (hs : starEach (e :: []) X.env = (false, eval e X.env) :: starEach [] X.env := by rfl) (hplain : (backTo cpos (starEach [] X.env)).any (·.1) = false := by rfl) :
    EX X (.Call (.Attribute (.Name x py) "pop" apos) [e] [] cpos) ρ k := fun W σ H O M Q q => by
  obtain ⟨b0, ds0, hw⟩ := hw
  obtain ⟨p0, ho, ep0, _, e3, e4, _⟩ := M.own i b0 _ hw
  obtain ⟨us0, rfl, _⟩ := ct_lst e4
  refine (pe_bm F.plainAttrs_list F.slot_list_pop F.type_list_pop mt_popAt (pe_var hN hv hd hcd) (pa_cons pe_w pa_nil hs) hbase hfew hline hs hplain).w ⟨_, ep0, .inl ⟨rfl, us0, SqL.of e3⟩, ?_⟩
  refine h W σ H O M _ fun v d ρ1 H1 O1 M1 E1 r ⟨b, ds, j, n, d1, hj, hi, l1, l2, hx, hg, hk⟩ => ?_
  subst hj
  cases r
  obtain ⟨p1, ho, f1, f2, f3, f4, _⟩ := M1.own i b _ hi
  rw [ep0] at f1
  cases f1
  obtain ⟨us, rfl, f4⟩ := ct_lst f4
  obtain ⟨y, hy, ry⟩ := dpa_get' f4 hg
  have kp : ∀ a o, H1 a = some o → a ≠ p0 → upd H1 p0 (.lst (us.eraseIdx n)) a = some o := fun a o h m => by rw [upd_ne m]; exact h
  have sb : Sub (cut O1 H1) (cut O1 (upd H1 p0 (.lst (us.eraseIdx n)))) := fun a o h => by
    obtain ⟨m, h⟩ := cut_some.mp h
    exact cut_some.mpr ⟨m, kp a o h fun z => m (by rw [z]; exact f2)⟩
  obtain ⟨M2, E2⟩ := M1.mut (es := .lst (ds.eraseIdx n)) hi ep0 kp upd_same (dpa_erase (dpa_mono sb _ _ f4) n)
  exact ⟨p0, us, j, n, y, rfl, rfl, f3, l1, l2, by rw [dpa_len f4]; exact (ixN_seq hx).1, hy, q _ _ _ _ O1 M2 (E1.trans E2) (dp_mono sb _ _ ry) hk⟩
end
end Lk

set_option Elab.async false
set_option linter.all false
set_option maxRecDepth 100000
namespace Lk
open PySem PySem.Spec PyProof.Rows L2 RZ
/-! ### comprehensions with two walks -/
def NotAt (ρ : Rho) (σ : L2.St) (dd : Addr) : Prop := ∀ (j : Nat) b es, ρ[j]? = some (Sl.own b es) → σ[j]? ≠ some (some (V.ref dd))
def Wd.prot (W : Wd) (dd : Addr) (o : HO) : Wd := ⟨upd W.H0 dd o, fun a => W.B a ∨ a = dd, W.ioL⟩
section
variable {K : PySem.W.Frag} {W : Wd} {σ σ5 σ4 : L2.St} {H H4 H5 : Hp} {O O4 O5 : Addr → Prop} {ρ ρ4 ρ5 : Rho} {dd : Addr} {o : HO} {vs : List Nat}
/-- behind what kept the object at dd -/
theorem unp (M4 : Mt K W ρ4 σ4 H4 O4) (h0 : W.H0 dd = none) (M5 : Mt K (W.prot dd o) ρ5 σ5 H5 O5) : Mt K W ρ5 σ5 H5 O5 ∧ O5 dd ∧ H5 dd = some o ∧ NotAt ρ5 σ5 dd := by
  have nio : ¬ W.io dd := fun z => by
    obtain ⟨u, ho⟩ := M4.wf1 dd (M4.wf2 dd z)
    rw [h0] at ho; cases ho
  refine ⟨Mt.unprot M4 h0 M5, M5.sub dd (.inr rfl), M5.keep dd _ upd_same nio, fun j b es hj hσ => ?_⟩
  obtain ⟨p, us', f1, _, _, _, f5, f6⟩ := M5.own j b es hj
  rw [hσ] at f1
  cases f1
  cases b with
  | false =>
    have z : upd W.H0 dd o dd = none := f5 rfl
    rw [upd_same] at z
    cases z
  | true => exact nio (f6 rfl)
/-- the block's own names forgotten -/
theorem bkw (M5 : Mt K W ρ5 σ5 H5 O5) (n5 : NotAt ρ5 σ5 dd) (hio : ∀ q ∈ W.ioL, q.1 ∉ vs) (hl : σ5.length = σ.length) (hs5 : ∀ j, j ∉ vs → σ5[j]? = (wipe σ vs)[j]?) (hb : blank ρ5 vs = ρ) : Mt K W ρ σ H5 O5 ∧ NotAt ρ σ dd := by
  refine ⟨M5.part ⟨by rw [← hb, blank_len], fun j hj => by rw [← hb]; exact blank_out hj, fun j hj hl => by rw [← hb] at hl ⊢; rw [blank_len] at hl; exact blank_in hj hl⟩ hio hl.symm (fun j hj => by rw [hs5 j hj, wipe_out hj]), fun j b es hj hσ => ?_⟩
  have nj : j ∉ vs := fun z => by
    have hlj : j < ρ.length := (List.getElem?_eq_some_iff.mp hj).1
    rw [← hb] at hj hlj
    rw [blank_len] at hlj
    rw [blank_in z hlj] at hj
    cases hj
  rw [← hb, blank_out nj] at hj
  exact n5 j b es hj (by rw [hs5 j nj, wipe_out nj]; exact hσ)
theorem hio_of (M3 : Mt K W ρ σ H O) (bl : blank ρ vs = ρ) : ∀ q ∈ W.ioL, q.1 ∉ vs := fun q hq z => by
  obtain ⟨_, ds, h2⟩ := M3.ios q hq
  have hlj : q.1 < ρ.length := (List.getElem?_eq_some_iff.mp h2).1
  have := blank_in (ρ := ρ) z hlj
  rw [bl, h2] at this
  cases this
theorem part_w (M4 : Mt K W ρ σ H O) (bl : blank ρ vs = ρ) : Mt K W ρ (wipe σ vs) H O :=
  M4.part ⟨rfl, fun _ _ => rfl, fun j hj hl => by
    have := blank_in (ρ := ρ) hj hl
    rwa [bl] at this⟩ (hio_of M4 bl) (wipe_length σ vs) (fun j hj => wipe_out hj)
theorem not_w (n3 : NotAt ρ σ dd) (bl : blank ρ vs = ρ) : NotAt ρ (wipe σ vs) dd := fun j b es hj => by
  have nj : j ∉ vs := fun z => by
    have hlj : j < ρ.length := (List.getElem?_eq_some_iff.mp hj).1
    have := blank_in (ρ := ρ) z hlj
    rw [bl, hj] at this
    cases this
  rw [wipe_out nj]
  exact n3 j b es hj
end
section
variable {X : Cx} {ρ : Rho} {pos : Pos} {tg tg1 iter iter1 elt : Expr} {ifs ifs1 : List Expr} {scope : Scope} {own : List (Str × Nat)}
/-- one walk that puts items behind the list at dd -/
theorem acc_loop {α β S : Type} {r : α → D} {r' : β → D} {ρS : S → Rho} {vs : List Nat} {W : Wd} {σ : L2.St} {H1 : Hp} {O1 : Addr → Prop} {J : It} {dd : Addr} {us0 : List V} {zs0 : List β} {step : α → S → Option (Option β × S)} {xs : List α} {s0 s1 : S} {ys : List β} {Fin : Hp → Prop}
    (M1 : Mt X.K W (ρS s0) σ H1 O1) (hO : O1 dd) (hn : NotAt (ρS s0) σ dd) (h0 : W.H0 dd = none) (hl : H1 dd = some (.lst us0)) (ra : DpAll X.K (cut O1 H1) us0 (zs0.map r')) (it : ItD X.K J H1 O1 (xs.map r)) (hlen : zs0.length + ys.length ≤ sizeLine)
    (hf : lcL step xs s0 = some (ys, s1)) (ok : LcOk X tg ifs elt scope vs r r' ρS step)
    (fin : ∀ H' O' us, Mt X.K W (ρS s1) σ H' O' → O' dd → NotAt (ρS s1) σ dd → H' dd = some (.lst us) → DpAll X.K (cut O' H') us ((zs0 ++ ys).map r') → Ext H1 O1 H' O' → Fin H') :
    ∃ W1 : Nat → Nat → Hp → Prop, (∃ m, W1 0 m H1) ∧ ∀ i m H, W1 i m H → (J.stop i H ∧ Fin H) ∨ (J.go i H ∧ ∃ Nx : Hp → Prop, (∀ H', Nx H' → ∃ m', m' < m ∧ W1 (i + 1) m' H') ∧ ∀ x H', J.yld i H x H' →
      bG X scope tg x (wipe σ vs) H' fun σ2 H2 => wipe σ2 vs = wipe σ vs ∧ bTs X scope ifs σ2 H2 fun b H3 => if b = true then bE X scope elt σ2 H3 fun y H4 => ∃ acc, H4 dd = some (.lst acc) ∧ acc.length < sizeLine ∧ Nx (upd H4 dd (.lst (acc ++ [y]))) else Nx H3) := by
  obtain ⟨free, slen, turn⟩ := ok
  refine ⟨fun i m H' => m = xs.length - i ∧ i ≤ xs.length ∧ ∃ s zs us O' ws, Mt X.K W (ρS s) σ H' O' ∧ O' dd ∧ NotAt (ρS s) σ dd ∧ H' dd = some (.lst us) ∧ DpAll X.K (cut O' H') us ((zs0 ++ zs).map r') ∧ Ext H1 O1 H' O' ∧ zs.length ≤ i ∧ lcL step (xs.drop i) s = some (ws, s1) ∧ zs ++ ws = ys,
    ⟨xs.length, by simp, Nat.zero_le _, s0, [], us0, O1, ys, M1, hO, hn, hl, by rw [List.append_nil]; exact ra, Ext.refl _ _, Nat.le_refl _, hf, rfl⟩, ?_⟩
  rintro i m H3 ⟨rfl, hi, s, zs, us, O3, ws, M3, hO3, n3, hl3, r3, E3, hz, hf3, hys⟩
  obtain ⟨it1, it2⟩ := it H3 O3 E3 M3.ex i
  by_cases hlt : i < xs.length
  · have hx : xs[i]? = some xs[i] := List.getElem?_eq_getElem hlt
    obtain ⟨go, yl⟩ := it1 (r xs[i]) (by rw [List.getElem?_map, hx]; rfl)
    rw [List.drop_eq_getElem_cons hlt] at hf3
    unfold lcL at hf3
    cases hst : step xs[i] s with
    | none => rw [hst] at hf3; cases hf3
    | some qq =>
      obtain ⟨o, s'⟩ := qq
      rw [hst] at hf3
      simp only at hf3
      cases hrest : lcL step (xs.drop (i + 1)) s' with
      | none => rw [hrest] at hf3; cases hf3
      | some q2 =>
        obtain ⟨ws', sE⟩ := q2
        rw [hrest] at hf3
        simp only [Option.some.injEq, Prod.mk.injEq] at hf3
        obtain ⟨ew, es'⟩ := hf3
        subst es'
        have bl := free s
        have hio := hio_of M3 bl
        refine .inr ⟨go, fun H' => ∃ zs' us' O', zs' = zs ++ o.toList ∧ Mt X.K W (ρS s') σ H' O' ∧ O' dd ∧ NotAt (ρS s') σ dd ∧ H' dd = some (.lst us') ∧ DpAll X.K (cut O' H') us' ((zs0 ++ zs').map r') ∧ Ext H1 O1 H' O', fun H' ⟨zs', us', O', e1, M', a1, a2, a3, a4, E'⟩ => ⟨xs.length - (i + 1), by omega, rfl, hlt, s', zs', us', O', ws', M', a1, a2, a3, a4, E', ?_, hrest, ?_⟩, fun x H4 y => ?_⟩
        · rw [e1, List.length_append]
          cases o with
          | none => simp; omega
          | some _ => simp; omega
        · rw [e1, List.append_assoc, ew, hys]
        · obtain ⟨sb4, rx⟩ := yl x H4 y
          have M4 := M3.grow sb4
          have hl4 : H4 dd = some (.lst us) := sb4 _ _ hl3
          have prot : Mt X.K (W.prot dd (.lst us)) (ρS s) (wipe σ vs) H4 O3 := (part_w M4 bl).prot' h0 hl4 hO3 (not_w n3 bl)
          have E4 : Ext H1 O1 H4 O3 := E3.trans (Ext.grow sb4)
          intro s0' H0' C cl fp
          refine turn xs[i] s (o, s') hst s0' H0' C cl fp _ _ H4 O3 x prot rx _ fun ρ5 σ5 H5 O5 M5 E5 hs5 h5 => ⟨?_, fun s1' H1' C1 cl1 fp1 => ?_⟩
          · exact wipe_eq (hs5.1.trans (wipe_length σ vs)) fun j hj => by rw [hs5.2 j hj, wipe_out hj]
          · have hl5 : σ5.length = σ.length := hs5.1.trans (wipe_length σ vs)
            refine h5 s1' H1' C1 cl1 fp1 _ σ5 H5 O5 M5 _ fun b ρ6 H6 O6 M6 E6 ⟨h6, h7⟩ => ?_
            cases b with
            | true =>
              refine iteT fun s2' H2' C2 cl2 fp2 => h6 rfl s2' H2' C2 cl2 fp2 _ σ5 H6 O6 M6 _ fun v d ρ7 H7 O7 M7 E7 r7 ⟨y, s7, e7, ed, hb7⟩ => ?_
              cases e7
              subst ed
              obtain ⟨M7', hO8, hl8, n7⟩ := unp M4 h0 M7
              obtain ⟨M8, n8⟩ := bkw M7' n7 hio hl5 hs5.2 hb7
              obtain ⟨M9, E9⟩ := M8.other (u := .lst (us ++ [v])) h0 hO8 n8
              have r9 := dpa_mono ((((Ext.grow sb4).trans E5).trans E6).trans E7).sub _ _ r3
              refine ⟨us, hl8, ?_, zs ++ [y], us ++ [v], O7, rfl, M9, hO8, n8, upd_same, ?_, (((E4.trans E5).trans E6).trans E7).trans E9⟩
              · have := dpa_len r3
                rw [List.length_map, List.length_append] at this
                have h8 := congrArg List.length hys
                rw [← ew, List.length_append, List.length_append] at h8
                have h9 : ([y] : List β).length = 1 := rfl
                have h10 : (Option.toList (some y)).length = 1 := rfl
                omega
              · rw [← List.append_assoc, List.map_append]
                exact dpa_app (dpa_mono E9.sub _ _ r9) (.cons (dp_mono E9.sub _ _ r7) .nil)
            | false =>
              obtain ⟨s7, e7, hb7⟩ := h7 rfl
              cases e7
              refine iteF ?_
              obtain ⟨M7', hO8, hl8, n7⟩ := unp M4 h0 M6
              obtain ⟨M8, n8⟩ := bkw M7' n7 hio hl5 hs5.2 hb7
              exact ⟨zs, us, O6, by simp, M8, hO8, n8, hl8, dpa_mono (((Ext.grow sb4).trans E5).trans E6).sub _ _ r3, (E4.trans E5).trans E6⟩
  · have e : i = xs.length := by omega
    subst e
    have hn : (xs.map r)[xs.length]? = none := by simp
    refine .inl ⟨it2 hn, ?_⟩
    rw [List.drop_length] at hf3
    simp only [lcL, Option.some.injEq, Prod.mk.injEq] at hf3
    obtain ⟨ew, es'⟩ := hf3
    subst ew es'
    rw [List.append_nil] at hys
    subst hys
    exact fin H3 O3 us M3 hO3 n3 hl3 r3 E3
/-- a turn of the outer walk gives a list -/
def lcM {α β S : Type} (step : α → S → Option (List β × S)) : List α → S → Option (List β × S)
  | [], s => some ([], s)
  | x :: xs, s => match step x s with
    | none => none
    | some (zs, s') => match lcM step xs s' with
      | none => none
      | some (ys, s'') => some (zs ++ ys, s'')
structure Lc2Ok (X : Cx) (tg : Expr) (ifs : List Expr) (tg1 iter1 : Expr) (ifs1 : List Expr) (elt : Expr) (scope : Scope) (vs vs1 : List Nat) {α α1 β S S1 : Type} (r : α → D) (r1 : α1 → D) (r' : β → D) (ρS : S → Rho) (ρS1 : S1 → Rho) (step : α → S → Option (List β × S)) (step1 : α1 → S1 → Option (Option β × S1)) : Prop where
  free : ∀ s, blank (ρS s) vs = ρS s
  len : ∀ s s', (ρS s').length = (ρS s).length
  inn : LcOk X tg1 ifs1 elt scope vs1 r1 r' ρS1 step1
  turn : ∀ x s q, step x s = some q → ∀ s0 H0 C cl fp, GX (bk X scope s0 H0 C cl fp) tg (r x) (ρS s) vs fun ρ2 => ∀ s1 H1 C1 cl1 fp1, TsX (bk X scope s1 H1 C1 cl1 fp1) ifs ρ2 fun b ρ3 =>
    (b = true → ∀ s2 H2 C2 cl2 fp2, IX (bk X scope s2 H2 C2 cl2 fp2) tg1 iter1 ρ3 fun items ρ4 => ∃ (xs1 : List α1) (s10 : S1) (ys1 : List β) (s11 : S1), items = xs1.map r1 ∧ Weak ρ4 (ρS1 s10) ∧ lcL step1 xs1 s10 = some (ys1, s11) ∧ ∃ s', q = (ys1, s') ∧ blank (ρS1 s11) vs = ρS s') ∧
    (b = false → ∃ s', q = ([], s') ∧ blank ρ3 vs = ρS s')
def bI (X : Cx) (scope : Scope) (tg1 iter1 : Expr) : TI := fun σ H R => ∀ s0 H0 C cl fp, wIt (bk X scope s0 H0 C cl fp) tg1 iter1 σ H R
theorem lc2_read {α α1 β S S1 : Type} {r : α → D} {r1 : α1 → D} {r' : β → D} {ρS : S → Rho} {ρS1 : S1 → Rho} {vs vs1 : List Nat} {W : Wd} {σ : L2.St} {H : Hp} {O : Addr → Prop} {k : Ct → Rho → Prop} {Q : VK} (M : Mt X.K W ρ σ H O)
    (h : IX X tg iter ρ fun items ρ1 => ∃ (step : α → S → Option (List β × S)) (step1 : α1 → S1 → Option (Option β × S1)) (xs : List α) (s0 : S) (ys : List β) (s1 : S), items = xs.map r ∧ Weak ρ1 (ρS s0) ∧ lcM step xs s0 = some (ys, s1) ∧ Lc2Ok X tg ifs tg1 iter1 ifs1 elt scope vs vs1 r r1 r' ρS ρS1 step step1 ∧ ys.length ≤ sizeLine ∧ k (.lst (ys.map r')) (ρS s1))
    (q : ∀ p us ds ρ' H' O', Mt X.K W ρ' σ H' O' → O' p → (∀ (j : Nat) b es, ρ'[j]? = some (Sl.own b es) → σ[j]? ≠ some (some (V.ref p))) → W.H0 p = none → H' p = some us → CtOk X.K (cut O' H') us ds → Ext H O H' O' → k ds ρ' → Q (.ref p) H') :
    tLc2 (wIt X tg iter) (bG X scope tg) (bTs X scope ifs) (bI X scope tg1 iter1) (bG X scope tg1) (bTs X scope ifs1) (bE X scope elt) vs vs1 σ H Q := by
  refine h W σ H O M _ fun J items ρ1 H1 O1 M1 E1 it _ hk => ?_
  obtain ⟨step, step1, xs, s0, ys, s1, rfl, w0, hf, ⟨free, slen, inn, turn⟩, hlen, hk⟩ := hk
  intro dd hd
  have sb1 : Sub H1 (upd H1 dd (.lst [])) := Sub.upd hd
  obtain ⟨M2, E2, n2, h0⟩ := M1.new_list hd sb1 upd_same
  refine ⟨fun i m H' => m = xs.length - i ∧ i ≤ xs.length ∧ ∃ s zs us O' ws, Mt X.K W (ρS s) σ H' O' ∧ O' dd ∧ NotAt (ρS s) σ dd ∧ H' dd = some (.lst us) ∧ DpAll X.K (cut O' H') us (zs.map r') ∧ Ext H1 O1 H' O' ∧ lcM step (xs.drop i) s = some (ws, s1) ∧ zs ++ ws = ys,
    ⟨xs.length, by simp, Nat.zero_le _, s0, [], [], _, ys, M2.weak w0, .inr rfl, fun j b es hj => ?_, upd_same, .nil, E2, hf, rfl⟩, ?_⟩
  · rcases w0.at j _ hj with z | ⟨z, _⟩
    · exact n2 j b es z
    · cases z
  rintro i m H3 ⟨rfl, hi, s, zs, us, O3, ws, M3, hO3, n3, hl3, r3, E3, hf3, hys⟩
  obtain ⟨it1, it2⟩ := it H3 O3 E3 M3.ex i
  by_cases hlt : i < xs.length
  · have hx : xs[i]? = some xs[i] := List.getElem?_eq_getElem hlt
    obtain ⟨go, yl⟩ := it1 (r xs[i]) (by rw [List.getElem?_map, hx]; rfl)
    rw [List.drop_eq_getElem_cons hlt] at hf3
    unfold lcM at hf3
    cases hst : step xs[i] s with
    | none => rw [hst] at hf3; cases hf3
    | some qq =>
      obtain ⟨o, s'⟩ := qq
      rw [hst] at hf3
      simp only at hf3
      cases hrest : lcM step (xs.drop (i + 1)) s' with
      | none => rw [hrest] at hf3; cases hf3
      | some q2 =>
        obtain ⟨ws', sE⟩ := q2
        rw [hrest] at hf3
        simp only [Option.some.injEq, Prod.mk.injEq] at hf3
        obtain ⟨ew, es'⟩ := hf3
        subst es'
        have bl := free s
        have hio := hio_of M3 bl
        refine .inr ⟨go, fun H' => ∃ us' O', Mt X.K W (ρS s') σ H' O' ∧ O' dd ∧ NotAt (ρS s') σ dd ∧ H' dd = some (.lst us') ∧ DpAll X.K (cut O' H') us' ((zs ++ o).map r') ∧ Ext H1 O1 H' O', fun H' ⟨us', O', M', a1, a2, a3, a4, E'⟩ => ⟨xs.length - (i + 1), by omega, rfl, hlt, s', zs ++ o, us', O', ws', M', a1, a2, a3, a4, E', hrest, ?_⟩, fun x H4 y => ?_⟩
        · rw [List.append_assoc, ew, hys]
        · obtain ⟨sb4, rx⟩ := yl x H4 y
          have M4 := M3.grow sb4
          have hl4 : H4 dd = some (.lst us) := sb4 _ _ hl3
          have prot : Mt X.K (W.prot dd (.lst us)) (ρS s) (wipe σ vs) H4 O3 := (part_w M4 bl).prot' h0 hl4 hO3 (not_w n3 bl)
          have E4 : Ext H1 O1 H4 O3 := E3.trans (Ext.grow sb4)
          intro s0' H0' C cl fp
          refine turn xs[i] s (o, s') hst s0' H0' C cl fp _ _ H4 O3 x prot rx _ fun ρ5 σ5 H5 O5 M5 E5 hs5 h5 => ⟨?_, fun s1' H1' C1 cl1 fp1 => ?_⟩
          · exact wipe_eq (hs5.1.trans (wipe_length σ vs)) fun j hj => by rw [hs5.2 j hj, wipe_out hj]
          · have hl5 : σ5.length = σ.length := hs5.1.trans (wipe_length σ vs)
            refine h5 s1' H1' C1 cl1 fp1 _ σ5 H5 O5 M5 _ fun b ρ6 H6 O6 M6 E6 ⟨h6, h7⟩ => ?_
            cases b with
            | true =>
              refine iteT fun s2' H2' C2 cl2 fp2 => h6 rfl s2' H2' C2 cl2 fp2 _ σ5 H6 O6 M6 _ fun J1 items1 ρ7 H7 O7 M7 E7 itd _ ⟨xs1, s10, ys1, s11, e1, w1, hf1, s7, e7, hb7⟩ => ?_
              subst e1
              cases e7
              obtain ⟨M7', hO8, hl8, n7⟩ := unp M4 h0 M7
              have r7 := dpa_mono ((((Ext.grow sb4).trans E5).trans E6).trans E7).sub _ _ r3
              refine acc_loop (zs0 := zs) (M7'.weak w1) hO8 (fun j b es hj => ?_) h0 hl8 r7 itd ?_ hf1 inn fun H' O' us' M9 g1 g2 g3 g4 g5 => ?_
              · rcases w1.at j _ hj with z | ⟨z, _⟩
                · exact n7 j b es z
                · cases z
              · have h8 := congrArg List.length hys
                rw [← ew, List.length_append, List.length_append] at h8
                omega
              · obtain ⟨M10, n10⟩ := bkw M9 g2 hio hl5 hs5.2 hb7
                exact ⟨us', O', M10, g1, n10, g3, g4, (((E4.trans E5).trans E6).trans E7).trans g5⟩
            | false =>
              obtain ⟨s7, e7, hb7⟩ := h7 rfl
              cases e7
              refine iteF ?_
              obtain ⟨M7', hO8, hl8, n7⟩ := unp M4 h0 M6
              obtain ⟨M8, n8⟩ := bkw M7' n7 hio hl5 hs5.2 hb7
              exact ⟨us, O6, M8, hO8, n8, hl8, by rw [List.append_nil]; exact dpa_mono (((Ext.grow sb4).trans E5).trans E6).sub _ _ r3, (E4.trans E5).trans E6⟩
  · have e : i = xs.length := by omega
    subst e
    have hn : (xs.map r)[xs.length]? = none := by simp
    refine .inl ⟨it2 hn, ?_⟩
    rw [List.drop_length] at hf3
    simp only [lcM, Option.some.injEq, Prod.mk.injEq] at hf3
    obtain ⟨ew, es'⟩ := hf3
    subst ew es'
    rw [List.append_nil] at hys
    subst hys
    exact q dd (.lst us) (.lst _) _ H3 O3 M3 hO3 n3 h0 hl3 r3 (E1.trans E3) hk
theorem f_lc2 {α α1 β S S1 : Type} {r : α → D} {r1 : α1 → D} {r' : β → D} {ρS : S → Rho} {ρS1 : S1 → Rho} {vs1 : List Nat} {k : Ct → Rho → Prop} (hc : X.calm = true) (hN : X.N.Nodup) (ok : BlkOk X.N X.env.scope scope own) (hv : ∀ i ∈ vs1, i ∈ own.map (·.2))
    (h : IX X tg iter ρ fun items ρ1 => ∃ (step : α → S → Option (List β × S)) (step1 : α1 → S1 → Option (Option β × S1)) (xs : List α) (s0 : S) (ys : List β) (s1 : S), items = xs.map r ∧ Weak ρ1 (ρS s0) ∧ lcM step xs s0 = some (ys, s1) ∧ Lc2Ok X tg ifs tg1 iter1 ifs1 elt scope (own.map (·.2)) vs1 r r1 r' ρS ρS1 step step1 ∧ ys.length ≤ sizeLine ∧ k (.lst (ys.map r')) (ρS s1))
    (hs : ∀ x, foldedSetIterable iter X.env x = pure x := by intro _; rfl) (hs1 : ∀ env x, foldedSetIterable iter1 env x = pure x := by intro _ _; rfl) : FX X (.ListComp elt [⟨tg, iter, ifs, 0⟩, ⟨tg1, iter1, ifs1, 0⟩] scope pos) ρ k := fun W σ H O M Q q =>
  (pe_lc2 hc hN pi_w ok hv (fun _ _ _ _ _ => ⟨fun pins s σ H v u Q I r h => h _ _ _ _ _ pins s u I r⟩) (fun _ _ _ _ _ => ⟨fun pins s σ H Q I h => h _ _ _ _ _ pins s I⟩) (fun _ _ _ _ _ => ⟨fun pins s σ H R I h => h _ _ _ _ _ pins s I⟩)
    (fun _ _ _ _ _ => ⟨fun pins s σ H v u Q I r h => h _ _ _ _ _ pins s u I r⟩) (fun _ _ _ _ _ => ⟨fun pins s σ H Q I h => h _ _ _ _ _ pins s I⟩) (fun _ _ _ _ _ => ⟨fun pins s σ H Q I h => h _ _ _ _ _ pins s I⟩) hs hs1).w (lc2_read M h q)
/-- y = [.. for .. for ..] on one line -/
theorem s_lc2 {α α1 β S S1 : Type} {r : α → D} {r1 : α1 → D} {r' : β → D} {ρS : S → Rho} {ρS1 : S1 → Rho} {vs1 : List Nat} {N : Wish} {i : Nat} {y : Str} {py spos : Pos} (hc : X.calm = true) (hN : X.N.Nodup) (hy : X.N[i]? = some y) (hyl : X.env.scope.names.lookup y = some .local) (ok : BlkOk X.N X.env.scope scope own) (hv : ∀ i ∈ vs1, i ∈ own.map (·.2))
    (hsw : swapsWith (.ListComp elt [⟨tg, iter, ifs, 0⟩, ⟨tg1, iter1, ifs1, 0⟩] scope pos) (some (.Name y py)) spos.line X.env = pure true)
    (h : IX X tg iter ρ fun items ρ1 => ∃ (step : α → S → Option (List β × S)) (step1 : α1 → S1 → Option (Option β × S1)) (xs : List α) (s0 : S) (ys : List β) (s1 : S), items = xs.map r ∧ Weak ρ1 (ρS s0) ∧ lcM step xs s0 = some (ys, s1) ∧ Lc2Ok X tg ifs tg1 iter1 ifs1 elt scope (own.map (·.2)) vs1 r r1 r' ρS ρS1 step step1 ∧ ys.length ≤ sizeLine ∧
      isIo (ρS s1)[i]? = false ∧ N.nx ((ρS s1).set i (.own false (.lst (ys.map r')))))
    (hs : ∀ x, foldedSetIterable iter X.env x = pure x := by intro _; rfl) (hs1 : ∀ env x, foldedSetIterable iter1 env x = pure x := by intro _ _; rfl) : SX X (.Assign [.Name y py] (.ListComp elt [⟨tg, iter, ifs, 0⟩, ⟨tg1, iter1, ifs1, 0⟩] scope pos) spos) ρ N := fun W σ H O M Dn q =>
  (ps_setLc2 hc hN hy hyl hsw pi_w ok hv (fun _ _ _ _ _ => ⟨fun pins s σ H v u Q I r h => h _ _ _ _ _ pins s u I r⟩) (fun _ _ _ _ _ => ⟨fun pins s σ H Q I h => h _ _ _ _ _ pins s I⟩) (fun _ _ _ _ _ => ⟨fun pins s σ H R I h => h _ _ _ _ _ pins s I⟩)
    (fun _ _ _ _ _ => ⟨fun pins s σ H v u Q I r h => h _ _ _ _ _ pins s u I r⟩) (fun _ _ _ _ _ => ⟨fun pins s σ H Q I h => h _ _ _ _ _ pins s I⟩) (fun _ _ _ _ _ => ⟨fun pins s σ H Q I h => h _ _ _ _ _ pins s I⟩) hs hs1).w
    (lc2_read (k := fun ds ρ1 => isIo ρ1[i]? = false ∧ N.nx (ρ1.set i (.own false ds))) M h fun p us ds ρ' H' O' M' hp hn h0 hl r hx ⟨h1, h2⟩ => q.nx _ _ H' O' (M'.adopt h1 hp hn h0 hl r) hx h2)
end
end Lk

set_option Elab.async false
set_option linter.all false
set_option maxRecDepth 100000
namespace Lk
open PySem PySem.Spec PyProof.Rows L2 RZ
/-! ### dicts of one's own: keys ints and texts -/
def keyD : Key → D
  | .inl i => .int i
  | .inr x => .str x
def toKey : D → Option Key
  | .int i => some (.inl i)
  | .str x => some (.inr x)
  | _ => none
theorem toKey_ok {d : D} {k : Key} (h : toKey d = some k) : d = keyD k := by
  unfold toKey at h
  split at h <;> cases h <;> rfl
theorem kV_of {K : PySem.W.Frag} {H : Hp} {v : V} {k : Key} (h : Dp K H v (keyD k)) : v = kV k := by
  cases k with
  | inl i => cases h; rfl
  | inr x => cases h; rfl
def valD (kvs : List (Key × D)) (k : Key) : Option D := (kvs.find? fun kv => decide (kv.1 = k)).map (·.2)
def putD (kvs : List (Key × D)) (k : Key) (v : D) : List (Key × D) :=
  if (kvs.any fun kv => decide (kv.1 = k)) = true then kvs.map (fun kv => if kv.1 = k then (kv.1, v) else kv) else kvs ++ [(k, v)]
def mergeD (kvs more : List (Key × D)) : List (Key × D) := more.foldl (fun acc kv => putD acc kv.1 kv.2) kvs
section
variable {K : PySem.W.Frag} {H : Hp}
theorem kv_len : ∀ {a : List (Key × V)} {b : List (Key × D)}, KvOk K H a b → a.length = b.length
  | [], [], _ => rfl
  | (_, _) :: r, (_, _) :: s, h => congrArg (· + 1) (kv_len h.2.2)
  | [], _ :: _, h => h.elim
  | _ :: _, [], h => h.elim
theorem kv_val : ∀ {a : List (Key × V)} {b : List (Key × D)}, KvOk K H a b → ∀ k : Key, (valD b k = none ∧ valV a k = none) ∨ ∃ v d, valD b k = some d ∧ valV a k = some v ∧ Dp K H v d
  | [], [], _, k => .inl ⟨rfl, rfl⟩
  | (x, v) :: r, (y, d) :: s, h, k => by
    obtain ⟨rfl, h1, h2⟩ := h
    by_cases e : x = k
    · exact .inr ⟨v, d, by simp [valD, List.find?_cons, e], by simp [valV, List.find?_cons, e], h1⟩
    · rcases kv_val h2 k with ⟨g1, g2⟩ | ⟨v', d', g1, g2, g3⟩
      · exact .inl ⟨by simpa [valD, List.find?_cons, e] using g1, by simpa [valV, List.find?_cons, e] using g2⟩
      · exact .inr ⟨v', d', by simpa [valD, List.find?_cons, e] using g1, by simpa [valV, List.find?_cons, e] using g2, g3⟩
  | [], _ :: _, h, _ => h.elim
  | _ :: _, [], h, _ => h.elim
theorem kv_any : ∀ {a : List (Key × V)} {b : List (Key × D)}, KvOk K H a b → ∀ k : Key, (a.any fun kv => decide (kv.1 = k)) = b.any fun kv => decide (kv.1 = k)
  | [], [], _, k => rfl
  | (x, v) :: r, (y, d) :: s, h, k => by
    obtain ⟨rfl, h1, h2⟩ := h
    rw [List.any_cons, List.any_cons, kv_any h2 k]
  | [], _ :: _, h, _ => h.elim
  | _ :: _, [], h, _ => h.elim
theorem kv_map {w : V} {e : D} (q : Dp K H w e) (k : Key) : ∀ {a : List (Key × V)} {b : List (Key × D)}, KvOk K H a b → KvOk K H (a.map fun kv => if kv.1 = k then (kv.1, w) else kv) (b.map fun kv => if kv.1 = k then (kv.1, e) else kv)
  | [], [], _ => trivial
  | (x, v) :: r, (y, d) :: s, h => by
    obtain ⟨rfl, h1, h2⟩ := h
    rw [List.map_cons, List.map_cons]
    by_cases hx : x = k
    · rw [if_pos hx, if_pos hx]
      exact ⟨rfl, q, kv_map q k h2⟩
    · rw [if_neg hx, if_neg hx]
      exact ⟨rfl, h1, kv_map q k h2⟩
  | [], _ :: _, h => h.elim
  | _ :: _, [], h => h.elim
theorem kv_app {w : V} {e : D} (q : Dp K H w e) (k : Key) : ∀ {a : List (Key × V)} {b : List (Key × D)}, KvOk K H a b → KvOk K H (a ++ [(k, w)]) (b ++ [(k, e)])
  | [], [], _ => ⟨rfl, q, trivial⟩
  | (x, v) :: r, (y, d) :: s, h => ⟨h.1, h.2.1, kv_app q k h.2.2⟩
  | [], _ :: _, h => h.elim
  | _ :: _, [], h => h.elim
theorem kv_put {w : V} {e : D} (q : Dp K H w e) (k : Key) {a : List (Key × V)} {b : List (Key × D)} (h : KvOk K H a b) : KvOk K H (putK a k w) (putD b k e) := by
  unfold putK putD
  rw [kv_any h k]
  split
  · exact kv_map q k h
  · exact kv_app q k h
theorem kv_merge : ∀ {m : List (Key × V)} {n : List (Key × D)} {a : List (Key × V)} {b : List (Key × D)}, KvOk K H m n → KvOk K H a b → KvOk K H (mergeK a m) (mergeD b n)
  | [], [], _, _, _, h => h
  | (x, v) :: r, (y, d) :: s, a, b, h, g => by
    obtain ⟨rfl, h1, h2⟩ := h
    show KvOk K H (mergeK (putK a x v) r) (mergeD (putD b x d) s)
    exact kv_merge h2 (kv_put h1 x g)
  | [], _ :: _, _, _, h, _ => h.elim
  | _ :: _, [], _, _, h, _ => h.elim
theorem ct_dK {o : HO} {kvs : List (Key × D)} (h : CtOk K H o (.dK kvs)) : ∃ us, o = .dK us ∧ KvOk K H us kvs := by
  cases o <;> first | exact ⟨_, rfl, h⟩ | exact h.elim
end
section
variable {X : Cx} {ρ : Rho} {pos p : Pos} {a b e f : Expr} {es : List Expr} {N : Wish}
/-- the pairs of a display -/
def DX (X : Cx) : List (Option Expr) → List Expr → Rho → (List (Key × D) → Rho → Prop) → Prop
  | [], [], ρ, k => k [] ρ
  | some kx :: ks, vx :: vs, ρ, k => EX X kx ρ fun d ρ1 => ∃ key, toKey d = some key ∧ EX X vx ρ1 fun e ρ2 => DX X ks vs ρ2 fun kvs ρ3 => k ((key, e) :: kvs) ρ3
  | _, _, _, _ => False
def dTs (X : Cx) : List (Option Expr) → List Expr → List (TE × TE)
  | some kx :: ks, vx :: vs => (wE X kx, wE X vx) :: dTs X ks vs
  | _, _ => []
def dOk : List (Option Expr) → List Expr → Bool
  | [], [] => true
  | some _ :: ks, _ :: vs => dOk ks vs
  | _, _ => false
theorem dpps : ∀ {ks : List (Option Expr)} {vs : List Expr}, dOk ks vs = true → PPs X pos ks vs (dTs X ks vs) ∧ ks.length = vs.length ∧ ks.all (·.isSome) = true
  | [], [], _ => ⟨pps_nil, rfl, rfl⟩
  | some kx :: ks, vx :: vs, h => by
    obtain ⟨h1, h2, h3⟩ := dpps (ks := ks) (vs := vs) h
    exact ⟨pps_cons pe_w pe_w h1, congrArg (· + 1) h2, by rw [List.all_cons, h3]; rfl⟩
  | [], _ :: _, h => by cases h
  | none :: _, [], h => by cases h
  | none :: _, _ :: _, h => by cases h
  | some _ :: _, [], h => by cases h
theorem dx_read : ∀ {ks : List (Option Expr)} {vs : List Expr} {ρ : Rho} {k : List (Key × D) → Rho → Prop} {W : Wd} {σ : L2.St} {H : Hp} {O : Addr → Prop} {Q : List (V × V) → Hp → Prop}, DX X ks vs ρ k → Mt X.K W ρ σ H O →
    (∀ (us : List (Key × V)) (kvs : List (Key × D)) ρ' H' O', Mt X.K W ρ' σ H' O' → Ext H O H' O' → KvOk X.K (cut O' H') us kvs → k kvs ρ' → Q (us.map fun kv => (kV kv.1, kv.2)) H') → tPairs (dTs X ks vs) σ H Q
  | [], [], ρ, k, W, σ, H, O, Q, h, M, q => q [] [] ρ H O M (Ext.refl _ _) trivial h
  | some kx :: ks, vx :: vs, ρ, k, W, σ, H, O, Q, h, M, q => by
    refine h W σ H O M _ fun v d ρ1 H1 O1 M1 E1 r1 ⟨key, hk, h2⟩ => h2 W σ H1 O1 M1 _ fun w e ρ2 H2 O2 M2 E2 r2 h3 => dx_read h3 M2 fun us kvs ρ3 H3 O3 M3 E3 hkv hk3 => ?_
    have r1' := r1
    rw [toKey_ok hk] at r1'
    rw [kV_of r1']
    exact q ((key, w) :: us) ((key, e) :: kvs) ρ3 H3 O3 M3 ((E1.trans E2).trans E3) ⟨rfl, dp_mono E3.sub _ _ r2, hkv⟩ hk3
  | [], _ :: _, _, _, _, _, _, _, _, h, _, _ => h.elim
  | none :: _, [], _, _, _, _, _, _, _, h, _, _ => h.elim
  | none :: _, _ :: _, _, _, _, _, _, _, _, h, _, _ => h.elim
  | some _ :: _, [], _, _, _, _, _, _, _, h, _, _ => h.elim
theorem f_disp {ks : List (Option Expr)} {vs : List Expr} {k : Ct → Rho → Prop} (hd : dOk ks vs = true) (h0 : ks ≠ []) (h15 : ks.length ≤ 15) (h : DX X ks vs ρ fun kvs ρ1 => kvs.length ≤ 15 ∧ k (.dK (mergeD [] kvs)) ρ1) : FX X (.Dict ks vs pos) ρ k := fun W σ H O M Q q => by
  obtain ⟨h1, h2, h3⟩ := dpps (X := X) (pos := pos) hd
  refine (pe_disp h1 h3 h2 h0 h15).w fun pp hp => ?_
  obtain ⟨M2, E2, n2, hz⟩ := M.new_list (us := .dK []) hp (Sub.upd hp) upd_same
  have prot : Mt X.K (W.prot pp (.dK [])) ρ σ _ _ := M2.prot' hz upd_same (.inr rfl) n2
  refine dx_read h prot fun us kvs ρ3 H3 O3 M3 E3 hkv ⟨hl, hk⟩ => ?_
  obtain ⟨M4, hO, hH, n4⟩ := unp M2 hz M3
  refine ⟨hH, us, rfl, by rw [kv_len hkv]; exact hl, ?_⟩
  obtain ⟨M5, E5⟩ := M4.other (u := .dK (mergeK [] us)) hz hO n4
  exact q pp _ (.dK (mergeD [] kvs)) ρ3 _ O3 M5 hO n4 hz upd_same (kv_mono E5.sub (kv_merge hkv trivial)) ((E2.trans E3).trans E5) hk
theorem own_dK {K : PySem.W.Frag} {W : Wd} {σ : L2.St} {H : Hp} {O : Addr → Prop} {i : Nat} {c : Bool} {kvs : List (Key × D)} (M : Mt K W ρ σ H O) (hs : ρ[i]? = some (Sl.own c (.dK kvs))) : ∃ p us, σ[i]? = some (some (V.ref p)) ∧ O p ∧ H p = some (HO.dK us) ∧ KvOk K (cut O H) us kvs := by
  obtain ⟨p, u, h1, h2, h3, h4, _⟩ := M.own i c _ hs
  obtain ⟨us, rfl, h5⟩ := ct_dK h4
  exact ⟨p, us, h1, h2, h3, h5⟩
/-- d[k] -/
theorem x_dget {i : Nat} {x : Str} {py : Pos} {k : D → Rho → Prop} (hr : ∃ k, Room k X.A) (hN : X.N[i]? = some x) (hv : Vis X.env.scope x) (h : EX X b ρ fun dy ρ2 => ∃ c kvs key d, toKey dy = some key ∧ ρ2[i]? = some (Sl.own c (.dK kvs)) ∧ valD kvs key = some d ∧ k d ρ2)
    (hs : NoSl b) (hw : ∃ c kvs, ρ[i]? = some (Sl.own c (.dK kvs))) (hd : (x == ("__debug__" : Str)) = false) (hcd : (x == ("__classdict__" : Str)) = false) : EX X (.Subscript (.Name x py) b pos) ρ k := fun W σ H O M Q q => by
  obtain ⟨n, hr⟩ := hr
  obtain ⟨c0, kv0, hw⟩ := hw
  obtain ⟨p0, u0, e0, _⟩ := own_dK M hw
  refine (pe_dget (hu_of hr) (pe_var hN hv hd hcd) pe_w hs).w ⟨_, e0, h W σ H O M _ fun y dy ρ2 H2 O2 M2 E2 r ⟨c, kvs, key, d, hk, hi, hg, hk2⟩ => ?_⟩
  obtain ⟨p1, us, f1, f2, f3, f4⟩ := own_dK M2 hi
  rw [e0] at f1
  cases f1
  rw [toKey_ok hk] at r
  rcases kv_val f4 key with ⟨g1, _⟩ | ⟨v, d', g1, g2, g3⟩
  · rw [hg] at g1; cases g1
  · rw [hg] at g1
    cases g1
    exact ⟨p0, v, rfl, .inl ⟨us, key, .of f3, kV_of r, g2.symm⟩, q v d ρ2 H2 O2 M2 E2 g3 hk2⟩
/-- k in d -/
theorem x_din {i : Nat} {x : Str} {py : Pos} (hr : ∃ k, Room k X.A) (hN : X.N[i]? = some x) (hv : Vis X.env.scope x) {b : Bool} {dy : D} {ρ2 : Rho} {key : Key} {c : Bool} {kvs : List (Key × D)} (h : ∀ k : D → Rho → Prop, k dy ρ2 → EX X a ρ k) (hk : toKey dy = some key) (hi : ρ2[i]? = some (Sl.own c (.dK kvs)))
    (hd : (x == ("__debug__" : Str)) = false) (hcd : (x == ("__classdict__" : Str)) = false) :
    (∀ k : D → Rho → Prop, k (.bool (valD kvs key).isSome) ρ2 → EX X (.Compare a [.In] [.Name x py] pos) ρ k) ∧ (∀ k : Bool → Rho → Prop, k (valD kvs key).isSome ρ2 → TX X (.Compare a [.In] [.Name x py] pos) ρ k) ∧
    (∀ k : D → Rho → Prop, k (.bool (!(valD kvs key).isSome)) ρ2 → EX X (.Compare a [.NotIn] [.Name x py] pos) ρ k) ∧ (∀ k : Bool → Rho → Prop, k (!(valD kvs key).isSome) ρ2 → TX X (.Compare a [.NotIn] [.Name x py] pos) ρ k) := by
  obtain ⟨n, hr⟩ := hr
  have core : ∀ {W : Wd} {σ : L2.St} {H : Hp} {O : Addr → Prop}, Mt X.K W ρ2 σ H O → ∀ {y : V}, Dp X.K (cut O H) y dy → ∃ p o, σ[i]? = some (some (V.ref p)) ∧ DGet H p y o ∧ o.isSome = (valD kvs key).isSome := fun {W σ H O} M {y} r => by
    obtain ⟨p1, us, f1, f2, f3, f4⟩ := own_dK M hi
    rw [toKey_ok hk] at r
    rcases kv_val f4 key with ⟨g1, g2⟩ | ⟨v, d', g1, g2, g3⟩
    · exact ⟨p1, none, f1, .inl ⟨us, key, .of f3, kV_of r, g2.symm⟩, by rw [g1]; rfl⟩
    · exact ⟨p1, some v, f1, .inl ⟨us, key, .of f3, kV_of r, g2.symm⟩, by rw [g1]; rfl⟩
  refine ⟨fun k hk2 W σ H O M Q q => ?_, fun k hk2 W σ H O M Q q => ?_, fun k hk2 W σ H O M Q q => ?_, fun k hk2 W σ H O M Q q => ?_⟩
  · refine (pe_cmp (pc_din (hu_of hr) pe_w (pe_var hN hv hd hcd)) rfl).w (h (fun d' ρ' => d' = dy ∧ ρ' = ρ2) ⟨rfl, rfl⟩ W σ H O M _ fun y d' ρ' H2 O2 M2 E2 r ⟨e1, e2⟩ => ?_)
    subst e1 e2
    obtain ⟨p1, o, f1, f2, f3⟩ := core M2 r
    exact ⟨_, f1, p1, o, rfl, f2, by rw [f3]; exact q _ _ _ H2 O2 M2 E2 (.bl _) hk2⟩
  · refine (pt_cmp (pc_din (hu_of hr) pe_w (pe_var hN hv hd hcd)) rfl).w (h (fun d' ρ' => d' = dy ∧ ρ' = ρ2) ⟨rfl, rfl⟩ W σ H O M _ fun y d' ρ' H2 O2 M2 E2 r ⟨e1, e2⟩ => ?_)
    subst e1 e2
    obtain ⟨p1, o, f1, f2, f3⟩ := core M2 r
    exact ⟨_, f1, p1, o, rfl, f2, _, rfl, by rw [f3]; exact q _ _ H2 O2 M2 E2 hk2⟩
  · refine (pe_cmp (pc_dnotin (hu_of hr) pe_w (pe_var hN hv hd hcd)) rfl).w (h (fun d' ρ' => d' = dy ∧ ρ' = ρ2) ⟨rfl, rfl⟩ W σ H O M _ fun y d' ρ' H2 O2 M2 E2 r ⟨e1, e2⟩ => ?_)
    subst e1 e2
    obtain ⟨p1, o, f1, f2, f3⟩ := core M2 r
    exact ⟨_, f1, p1, o, rfl, f2, by rw [f3]; exact q _ _ _ H2 O2 M2 E2 (.bl _) hk2⟩
  · refine (pt_cmp (pc_dnotin (hu_of hr) pe_w (pe_var hN hv hd hcd)) rfl).w (h (fun d' ρ' => d' = dy ∧ ρ' = ρ2) ⟨rfl, rfl⟩ W σ H O M _ fun y d' ρ' H2 O2 M2 E2 r ⟨e1, e2⟩ => ?_)
    subst e1 e2
    obtain ⟨p1, o, f1, f2, f3⟩ := core M2 r
    exact ⟨_, f1, p1, o, rfl, f2, _, rfl, by rw [f3]; exact q _ _ H2 O2 M2 E2 hk2⟩
end
end Lk

set_option Elab.async false
set_option linter.all false
set_option maxRecDepth 100000
namespace Lk
open PySem PySem.Spec PyProof.Rows L2 RZ
/-! ### a dict of the module, read by get -/
structure GDk (P : Program) (w : World) (K : PySem.W.Frag) (a : Addr) (kvs : List (Key × D)) : Prop where
  ex : ∃ (o : Obj) (es : Array DictEntry) (ep : Nat) (vs : List (Key × Value)), K.lookup a = some o ∧ o.ExactDict ∧ o.dict = none ∧ o.data = .dict es ep ∧ PySem.KeysOf (mixKind P w) es ∧ PySem.Pairs (mixKind P w) es.toList vs ∧ (vs.map (·.1)).Nodup ∧ (a == sysModules) = false ∧
    ∀ k, (valueAt vs k = none ∧ valD kvs k = none) ∨ ∃ v d r, valueAt vs k = some v ∧ valD kvs k = some d ∧ RelV r v ∧ ∀ H, Dp K H r d
section
variable {X : Cx} {ρ : Rho} {e f : Expr} {x : Str} {p apos cpos : Pos}
theorem x_gget {a : Addr} {kvs : List (Key × D)} {k : D → Rho → Prop} (G : GDk X.prog X.w X.K a kvs) (hg : Gl X x) (hm : X.mg x = some (.ref a)) (m : M2 X (.Name x p) "get" apos e f cpos) (hdb : (x == ("__debug__" : Str)) = false)
    (h : EX X e ρ fun d ρ1 => ∃ key, toKey d = some key ∧ EX X f ρ1 fun z ρ2 => k ((valD kvs key).getD z) ρ2) : EX X (.Call (.Attribute (.Name x p) "get" apos) [e, f] [] cpos) ρ k := fun W σ H O M Q q pins s I => by
  obtain ⟨o, es, ep, vs, lk, hx, hdict, hdat, hk, hp, hn, hsys, hval⟩ := G.ex
  have dd : ∀ {s' : Shared} {H' : Hp}, Inv X pins σ H' s' → s'.heap.DictOf (mixKind X.prog X.w) a vs := fun {s' H'} I' => ⟨o, es, ep, I'.kIn a o lk, hx, hdat, hk, hp, hn⟩
  refine wpAny_Call_method m.base m.few m.line PySem.F.plainAttrs_dict PySem.F.slot_dict_get PySem.F.type_dict_get (ld_glob I hg hm ?_ hdb)
  refine ⟨(dd I).typeIs, fun b q => ?_, ?_⟩
  · cases q
    exact ⟨o, I.kIn a o lk, hdict⟩
  rw [m.trees]
  refine Calls.callWith_builtin rfl (Calls.evalArgs_plain (Calls.spliced_cons (thn (h W σ H O M (fun y H2 => True ∧ ∃ key ρ1 O1, Mt X.K W ρ1 σ H2 O1 ∧ Ext H O H2 O1 ∧ y = kV key ∧ EX X f ρ1 fun z ρ2 => k ((valD kvs key).getD z) ρ2) ?_ pins s I) fun iv s2 ⟨y, H2, I2, ry, _, key, ρ1, O1, M1, E1, ey, h2⟩ =>
    Calls.spliced_cons (thn (h2 W σ H2 O1 M1 (fun z H3 => ∃ d ρ2 O2, Mt X.K W ρ2 σ H3 O2 ∧ Ext H2 O1 H3 O2 ∧ Dp X.K (cut O2 H3) z d ∧ k ((valD kvs key).getD d) ρ2) (fun z d ρ2 H3 O2 M2 E2 r2 hk2 => ⟨d, ρ2, O2, M2, E2, r2, hk2⟩) pins s2 I2) fun fv s3 ⟨z, H3, I3, rz, d, ρ2, O2, M2, E2, r2, hk2⟩ => Calls.spliced_nil ?_))))
  · intro v d ρ1 H1 O1 M1 E1 r ⟨key, hkey, h2⟩
    rw [toKey_ok hkey] at r
    exact ⟨trivial, key, ρ1, O1, M1, E1, kV_of r, h2⟩
  · subst ey
    refine call_meetsIn PySem.F.slot_dict_get (dd I3).typeIs PySem.F.entry_dict_get (PySem.F.args_dict_get_3 _ _ _) (meets_dict_get_default (mixKind X.prog X.w) a (kV_is ry) hsys fv) ⟨_, (dd I3).mapOf, ?_⟩
    rcases hval key with ⟨g1, g2⟩ | ⟨v, d', r, g1, g2, g3, g4⟩
    · rw [g2] at hk2
      refine ⟨z, H3, I3.tok _, ?_, q z d ρ2 H3 O2 M2 (E1.trans E2) r2 hk2⟩
      rw [g1]; exact rz
    · rw [g2] at hk2
      refine ⟨r, H3, I3.tok _, ?_, q r d' ρ2 H3 O2 M2 (E1.trans E2) (g4 _) hk2⟩
      rw [g1]; exact g3
end
section
variable {X : Cx}
theorem cf_listS {z : Str} (hc : ∃ k, Room k X.A) (hl : z.length ≤ sizeLine) : CallF X (.type "list") [.str z] (signsD z) := fun H O vs Q ex hd q pins s σ us I rv => by
  obtain ⟨k, hr⟩ := hc
  cases hd with
  | cons r1 r2 =>
    cases r2
    cases r1
    obtain ⟨u, rfl, ru⟩ := vals1 rv
    obtain ⟨t, rfl⟩ := ru
    have hlen : z.cps.size = z.cps.toList.length := by rw [Array.length_toList]
    refine call_list_str hr.hd z t (fun h' tk acc c' hk hS hacc => ?_) hl
    have fresh := I.hok.fresh (a := s.heap.objs.size) (Nat.le_refl _)
    have hv : Vals (z.cps.toList.map fun c => V.str ⟨#[c]⟩) acc.toList := by
      refine vals_of_at ?_ fun j x u hx hu => ?_
      · rw [List.length_map, Array.length_toList, Array.length_toList]; exact hacc.1.symm
      · obtain ⟨c, u', hc, rfl⟩ := hacc.2 j u (by rw [← hu, Array.getElem?_toList])
        rw [List.getElem?_map] at hx
        rw [← Array.getElem?_toList] at hc
        rw [hc] at hx
        cases hx
        exact ⟨u', rfl⟩
    have hd : ∀ H', DpAll X.K H' (z.cps.toList.map fun c => V.str ⟨#[c]⟩) (signsD z) := fun H' => by
      unfold signsD
      generalize z.cps.toList = l
      induction l with
      | nil => exact .nil
      | cons c l ih => exact .cons (.str _) ih
    refine ⟨.ref s.heap.objs.size, upd H s.heap.objs.size (.lst _), I.laid (t' := tk) hk (Nat.le_refl _) ⟨?_, acc.toList, c', hv, by rw [Array.toArray_toList]; exact hS⟩, rfl, q _ _ _ fresh (Sub.upd fresh) upd_same (hd _)⟩
    rw [List.length_map, ← hlen]; exact hl
end
section
variable {X : Cx}
theorem od_addIB {i : Int} {b : Bool} : OpD X (binaryOp .Add) (.int i) (.bool b) (.int (i + if b = true then 1 else 0)) := fun H O v u Q _ hx hy q => by
  cases hx; cases hy
  exact OpRw op_add_ib ⟨i, b, rfl, rfl, q _ H (Sub.refl H) (.int _)⟩
theorem op_sub_ib : OpR X (binaryOp .Sub) (fun x y H Q => ∃ i k, x = .int i ∧ y = .bl k ∧ Q (.int (i - if k = true then (1 : Int) else 0)) H) := by
  intro pins s σ H x y v u Q I rx ry h
  obtain ⟨i, k, rfl, rfl, q⟩ := h
  obtain ⟨t, rfl⟩ := rx
  cases ry
  exact PySem.IntBool.sub_int_bool ⟨.int (i - if k = true then (1 : Int) else 0), H, I.tok _, ⟨_, rfl⟩, q⟩
theorem od_subIB {i : Int} {b : Bool} : OpD X (binaryOp .Sub) (.int i) (.bool b) (.int (i - if b = true then 1 else 0)) := fun H O v u Q _ hx hy q => by
  cases hx; cases hy
  exact OpRw op_sub_ib ⟨i, b, rfl, rfl, q _ H (Sub.refl H) (.int _)⟩
theorem cd_ord {z : Str} (h : z.length = 1) : CallD X (.builtin "ord") [.str z] (.int (z.cps.getD 0 0 : Nat)) := fun H O vs Q _ r q => by
  cases r with
  | cons r1 r2 =>
    cases r2; cases r1
    exact CallRw call_ord ⟨_, rfl, h, q _ H (Sub.refl H) (.int _)⟩
theorem cd_intS {z : Str} {n : Int} (h : PySem.intText? z = some n) (hl : z.length ≤ 640) : CallD X (.type "int") [.str z] (.int n) := fun H O vs Q _ r q => by
  cases r with
  | cons r1 r2 =>
    cases r2; cases r1
    exact CallRw call_int_str ⟨_, n, rfl, h, hl, q _ H (Sub.refl H) (.int _)⟩
theorem b_ord : bootBuiltins "ord" = some (.builtin "ord") := by decide +kernel
/-- z[lo:hi] of a text -/
theorem cutS_A (z : Str) (lo hi : Option Int) : cutS z lo hi = ⟨(cutA z.cps.toList lo hi).toArray⟩ := by
  unfold cutS cutA
  rw [Array.length_toList]
  rfl
theorem x_slS {ρ : Rho} {e : Expr} {pos : Pos} {k : D → Rho → Prop} {lo hi : Option Expr} {p2 : Pos} (h : EX X e ρ fun d ρ1 => ∃ z, d = .str z ∧ z.length ≤ sizeLine ∧ OX X lo ρ1 fun l ρ2 => OX X hi ρ2 fun u ρ3 => k (.str ⟨(cutA z.cps.toList l u).toArray⟩) ρ3) : EX X (.Subscript e (.Slice lo hi none p2) pos) ρ k := fun W σ H O M Q q =>
  (pe_slice sl_str pe_w po_w po_w).w (h W σ H O M _ fun v d ρ1 H1 O1 M1 E1 r ⟨z, hd, hz, h1⟩ => by
    subst hd
    refine ox_w h1 M1 fun l ρ2 H2 O2 M2 E2 h2 => ox_w h2 M2 fun u ρ3 H3 O3 M3 E3 hk => ?_
    cases r
    exact ⟨z, rfl, hz, q _ _ ρ3 H3 O3 M3 ((E1.trans E2).trans E3) (cutS_A z l u ▸ .str _) hk⟩)
end
end Lk

set_option Elab.async false
set_option linter.all false
set_option maxRecDepth 100000
namespace Lk
open PySem PySem.Spec PyProof.Rows L2
/-! ### a list times an int, whatever else the list's object bears -/
theorem int_rmul_listW (a : Int) (t : Tok) (l : Addr) (items : Array Value) (n : Nat) (dd : Option Addr) (sl : Array (Option Value)) :
    Meets (Builtin.«int.__rmul__» ⟨[.int a t, .ref l], []⟩) (fun _ R s => s.heap.get? l = some { cls := .type "list", dict := dd, data := .seq items n, slots := sl } ∧ R (.ok (.ret Value.notImplemented)) s) :=
  .of_wp fun prog w A R s h => by obtain ⟨hp, g, d, tk, os⟩ := s; obtain ⟨hl, h⟩ := h; wp_walk using wpAny_loadPart' hl; exact ⟨_, rfl, h⟩
theorem list_mulW (l : Addr) (items : Array Value) (n : Nat) (dd : Option Addr) (sl : Array (Option Value)) (x : Int) (u : Tok) (hc0 : ¬(!Builtin.List.listFitsIndex x) = true) (hc1 : ¬items.size * x.toNat > (2 ^ 63 - 1) / 8) (hc2 : ¬Builtin.List.listTooLong (items.size * x.toNat) = true)
    (hsz : (List.foldl (fun x1 x2 => x1 ++ x2) #[] (List.replicate (if items.isEmpty = true then 0 else x.toNat) items)).size ≤ sizeLine) :
    Meets (Builtin.«list.__mul__» ⟨[.ref l, .int x u], []⟩) (fun _ R s => s.heap.get? l = some { cls := .type "list", dict := dd, data := .seq items n, slots := sl } ∧ R (.ok (.ret (Value.ref s.heap.objs.size))) { s with heap := s.heap.push { cls := Value.type "list", data := Data.seq (List.foldl (fun x1 x2 => x1 ++ x2) #[] (List.replicate (if items.isEmpty = true then 0 else x.toNat) items)) }, toks := s.toks }) :=
  .of_wp fun prog w A R s h => by
    obtain ⟨hp, g, d, tk, os⟩ := s; obtain ⟨hl, h⟩ := h
    wp_walk using wpAny_loadPart' hl; refine wpAny_ite_false (decide_eq_false (Nat.not_lt.mpr hsz)) ?_; wp_walk using wpAny_loadPart' hl; exact ⟨_, rfl, h⟩
theorem dpa_rep {K : PySem.W.Frag} {H : Hp} {us : List V} {ds : List D} (h : DpAll K H us ds) : ∀ n : Nat, DpAll K H (List.replicate n us).flatten (List.replicate n ds).flatten
  | 0 => .nil
  | n + 1 => by
    rw [List.replicate_succ, List.replicate_succ, List.flatten_cons, List.flatten_cons]
    exact dpa_app h (dpa_rep h n)
section
variable {X : Cx}
theorem of_rep {xs : List D} {k : Int} (h1 : -(2 ^ 63) ≤ k) (h2 : k < 2 ^ 63) (hz0 : xs.length * k.toNat ≤ sizeLine) : OpF X (binaryOp .Mult) (.list xs) (.int k) (List.replicate k.toNat xs).flatten := fun H O x y Q ex rx ry q pins s σ v u I r1 r2 => by
  cases rx with
  | @lst l us _ hs ha =>
    cases ry
    obtain rfl : v = Value.ref l := r1
    obtain ⟨t, rfl⟩ := r2
    obtain ⟨its, rv, pl, hz3⟩ := I.list (cut_sub.l hs)
    obtain ⟨⟨cls, dd, data, sl⟩, ho, hc, n, hd⟩ := pl.isList
    simp only at hc hd
    subst hc hd
    have hll : its.length = xs.length := by rw [← rv.length, dpa_len ha]
    have hlen : its.toArray.size * k.toNat ≤ sizeLine := by rw [List.size_toArray, hll]; exact hz0
    have hcap : ¬ its.toArray.size * k.toNat > (2 ^ 63 - 1) / 8 := by
      have : (sizeLine : Nat) ≤ (2 ^ 63 - 1) / 8 := by decide
      omega
    have hfit : ¬ (!Builtin.List.listFitsIndex k) = true := by
      rw [fitsIndex_both h1 h2]
      exact Bool.false_ne_true
    have hlong : ¬ Builtin.List.listTooLong (its.toArray.size * k.toNat) = true := by
      rw [notLongL hlen]
      exact Bool.false_ne_true
    have hnew : List.foldl (fun x1 x2 => x1 ++ x2) #[] (List.replicate (if its.toArray.isEmpty = true then 0 else k.toNat) its.toArray) = (List.replicate k.toNat its).flatten.toArray := by
      have f0 : ∀ m : Nat, List.foldl (fun x1 x2 => x1 ++ x2) #[] (List.replicate m its.toArray) = (List.replicate m its).flatten.toArray := fun m => by
        have := foldl_rep its m []
        rw [List.nil_append] at this
        exact this
      rw [f0]
      cases its with
      | nil => simp
      | cons a r' => rw [if_neg (by simp)]
    have hsz : (List.foldl (fun x1 x2 => x1 ++ x2) #[] (List.replicate (if its.toArray.isEmpty = true then 0 else k.toNat) its.toArray)).size ≤ sizeLine := by
      rw [hnew, List.size_toArray, PyProof.Rows.lm_len_rep_flat, Nat.mul_comm, hll]; exact hz0
    refine wpAny_binaryOp_repeat_ref (T := "list") (U := "int") (by decide) ⟨_, ho, rfl⟩ (fun s' => typeIs_int s' k t) noFill_list_mul PySem.F.fills_int_mul PySem.F.slot_int_rmul repeat_list PySem.F.slot_int_index.lookup
      (call_meets PySem.F.slot_int_rmul (typeIs_int s k t) PySem.F.entry_int_rmul (PySem.F.args_int_rmul_2 _ _) (int_rmul_listW k t l its.toArray n dd sl)
        ⟨ho, rfl, ⟨_, ho, rfl⟩, call_meets PySem.F.slot_list_mul ⟨_, ho, rfl⟩ PySem.F.entry_list_mul (PySem.F.args_list_mul_2 _ _) (list_mulW l its.toArray n dd sl k t hfit hcap hlong hsz) ⟨ho, ?_⟩⟩)
    rw [hnew]
    have fresh := I.fresh
    exact ⟨.ref _, _, I.lnew (t' := s.toks) (rv.rep k.toNat) (by rw [PyProof.Rows.lm_len_rep_flat, Nat.mul_comm, dpa_len ha]; exact hz0), rfl, q _ _ _ fresh (Sub.upd fresh) upd_same (dpa_rep ha k.toNat)⟩
end
end Lk

set_option Elab.async false
set_option linter.all false
set_option maxRecDepth 100000
namespace Ev
open PySem PySem.Spec PyProof.Rows L2 Lk

/-! ### a frame, what is called, what comes out -/
structure Fm where
  N : List Str
  sc : Scope
  fnl : Bool
structure Cs where
  P : Str → Option (List D → Option D)
  O : Str → Option (Ct → List D → Option (D × Ct))
  F : Str → Option (List D → Option Ct)
  G : Str → Option D
  GD : Str → Option (List (Key × D))
  B : Str → Bool
inductive Rs where
  | nx (ρ : Rho)
  | rt (d : D) (ρ : Rho)
  | rf (c : Ct) (ρ : Rho)
  | bk (ρ : Rho)
  | ct (ρ : Rho)
structure Agr (X : Cx) (fm : Fm) : Prop where
  N : X.N = fm.N
  sc : X.env.scope = fm.sc
  fn : fm.fnl = true → ∀ x, X.fn x = true
  nd : X.N.Nodup
  kind : X.env.scope.kind = .function
  calm : X.calm = true
  xe : X.xe = fun _ _ => False
structure CsOk (X : Cx) (cs : Cs) : Prop where
  room : ∃ k, Room k X.A
  P : ∀ x f, cs.P x = some f → ∃ n k, n ≤ k ∧ Room k X.A ∧ CalP X.prog X.w X.K X.mg X.base x n (fun ds d => f ds = some d)
  O : ∀ x f, cs.O x = some f → ∃ n k, n ≤ k ∧ Room k X.A ∧ CalO X.prog X.w X.K X.mg X.base x n (fun c ds d c' => f c ds = some (d, c'))
  F : ∀ x f, cs.F x = some f → ∃ n k, n ≤ k ∧ Room k X.A ∧ CalF X.prog X.w X.K X.mg X.base x n (fun ds c => f ds = some c)
  G : ∀ x d, cs.G x = some d → ∃ u v, X.mg x = some u ∧ RelV v u ∧ ∀ H, Dp X.K H v d
  GD : ∀ x kvs, cs.GD x = some kvs → ∃ a, X.mg x = some (.ref a) ∧ GDk X.prog X.w X.K a kvs
  B : ∀ x, cs.B x = true → X.mg x = none
structure Evs where
  E : Fm → Expr → Rho → Option (D × Rho)
  F : Fm → Expr → Rho → Option (Ct × Rho)
  T : Fm → Expr → Rho → Option (Bool × Rho)
  S : Fm → Stmt → Rho → Option Rs
def Fits (N : Wish) : Rs → Prop
  | .nx ρ => N.nx ρ
  | .rt d ρ => N.rt d ρ
  | .rf c ρ => N.rf c ρ
  | .bk ρ => N.bk ρ
  | .ct ρ => N.ct ρ
structure Snd (X : Cx) (fm : Fm) (r : Evs) : Prop where
  E : ∀ e ρ d ρ' (k : D → Rho → Prop), r.E fm e ρ = some (d, ρ') → k d ρ' → EX X e ρ k
  F : ∀ e ρ c ρ' (k : Ct → Rho → Prop), r.F fm e ρ = some (c, ρ') → k c ρ' → FX X e ρ k
  T : ∀ e ρ b ρ' (k : Bool → Rho → Prop), r.T fm e ρ = some (b, ρ') → k b ρ' → TX X e ρ k
  S : ∀ st ρ rs (N : Wish), r.S fm st ρ = some rs → Fits N rs → SX X st ρ N

/-! ### what is to be looked at in the text -/
def notStar : Expr → Bool
  | .Starred .. => false
  | _ => true
theorem star_cons {e : Expr} {es : List Expr} {env : Env} (h : notStar e = true) : starEach (e :: es) env = (false, eval e env) :: starEach es env := by
  cases e <;> first | rfl | (cases h)
theorem star_one {e : Expr} {env : Env} (h : notStar e = true) : starEach [e] env = [(false, eval e env)] := star_cons h
theorem star_plain {pos : Pos} {env : Env} : ∀ {es : List Expr}, es.all notStar = true → (backTo pos (starEach es env)).any (·.1) = false
  | [], _ => rfl
  | e :: es, h => by
    rw [List.all_cons, Bool.and_eq_true] at h
    rw [star_cons h.1]
    show (false || (backTo pos (starEach es env)).any (·.1)) = false
    rw [star_plain h.2]; rfl
def notComp : Expr → Bool
  | .ListComp .. => false
  | .SetComp .. => false
  | .DictComp .. => false
  | _ => true
theorem swap_false {e : Expr} {t : Option Expr} {l : Nat} {env : Env} (h : notComp e = true) : swapsWith e t l env = pure false := by
  cases e <;> first | rfl | (cases h)
def plainT : Expr → Bool
  | .BoolOp .. => false
  | .UnaryOp .. => false
  | .Compare .. => false
  | .NamedExpr .. => false
  | .IfExp .. => false
  | .Constant .. => false
  | _ => true
theorem tru_plain {e : Expr} {env : Env} (h : plainT e = true) : ∀ whole, isTrue e env whole = (do let v ← whole; standAt e.pos; holding [v] (truthy v)) := by
  intro whole
  cases e <;> first | rfl | (cases h)
def notIx : Expr → Bool
  | .Slice .. => false
  | _ => true
theorem plain_ix {e : Expr} (h : notIx e = true) : PlainIx e := fun o i => by
  cases e <;> first | rfl | (cases h)
def notSet : Expr → Bool
  | .Set .. => false
  | _ => true
theorem fold_plain {e : Expr} {env : Env} (h : notSet e = true) : ∀ x, foldedSetIterable e env x = pure x := by
  intro x
  cases e <;> first | rfl | (cases h)
def notCall : Expr → Bool
  | .Call .. => false
  | _ => true
theorem base_plain {o : Expr} {name : Str} {env : Env} {w : Sem Value} (h : notCall o = true) : attributeBase o name env w = w := by
  cases o <;> first | rfl | (cases h)
def okName (x : Str) : Bool := !(x == ("__debug__" : Str)) && !(x == ("__classdict__" : Str)) && decide (x ≠ "__name__")
theorem okName_d {x : Str} (h : okName x = true) : (x == ("__debug__" : Str)) = false := by
  unfold okName at h
  cases e : (x == ("__debug__" : Str)) <;> simp [e] at h ⊢
theorem okName_c {x : Str} (h : okName x = true) : (x == ("__classdict__" : Str)) = false := by
  unfold okName at h
  cases e : (x == ("__classdict__" : Str)) <;> simp [e] at h ⊢
theorem okName_n {x : Str} (h : okName x = true) : x ≠ "__name__" := by
  unfold okName at h
  rw [Bool.and_eq_true] at h
  exact of_decide_eq_true h.2
def visB (sc : Scope) (x : Str) : Bool := match sc.names.lookup x with
  | some .local => true
  | some .cell => true
  | some .free => true
  | _ => false
theorem visB_ok {sc : Scope} {x : Str} (h : visB sc x = true) : Vis sc x := by
  unfold visB at h
  split at h
  · exact .inl (by assumption)
  · exact .inr (.inl (by assumption))
  · exact .inr (.inr (by assumption))
  · cases h
def locB (sc : Scope) (x : Str) : Bool := match sc.names.lookup x with
  | some .local => true
  | some .cell => true
  | _ => false
theorem locB_ok {sc : Scope} {x : Str} (h : locB sc x = true) : Loc sc x := by
  unfold locB at h
  split at h
  · exact .inl (by assumption)
  · exact .inr (by assumption)
  · cases h
def localB (sc : Scope) (x : Str) : Bool := match sc.names.lookup x with
  | some .local => true
  | _ => false
theorem localB_ok {sc : Scope} {x : Str} (h : localB sc x = true) : sc.names.lookup x = some .local := by
  unfold localB at h
  split at h
  · assumption
  · cases h
def glB (sc : Scope) (x : Str) : Bool := match sc.names.lookup x with
  | some .globalImplicit => true
  | _ => false
theorem glB_ok {X : Cx} {fm : Fm} (a : Agr X fm) {x : Str} (h : glB fm.sc x = true) : Gl X x := by
  show X.env.scope.names.lookup x = _
  rw [a.sc]
  unfold glB at h
  split at h
  · assumption
  · cases h
def ixOf : List Str → Str → Option Nat
  | [], _ => none
  | y :: ys, x => if y = x then some 0 else (ixOf ys x).map (· + 1)
theorem ixOf_ok : ∀ {N : List Str} {x : Str} {i : Nat}, ixOf N x = some i → N[i]? = some x
  | [], _, _, h => by cases h
  | y :: ys, x, i, h => by
    unfold ixOf at h
    split at h
    · rename_i e
      cases h
      rw [e]; rfl
    · obtain ⟨j, h1, rfl⟩ := Option.map_eq_some_iff.mp h
      rw [List.getElem?_cons_succ]
      exact ixOf_ok h1
/-- the place of a local -/
def slot (fm : Fm) (x : Str) : Option Nat := if (visB fm.sc x && okName x) = true then ixOf fm.N x else none
theorem slot_ok {X : Cx} {fm : Fm} (a : Agr X fm) {x : Str} {i : Nat} (h : slot fm x = some i) : X.N[i]? = some x ∧ Vis X.env.scope x ∧ (x == ("__debug__" : Str)) = false ∧ (x == ("__classdict__" : Str)) = false := by
  unfold slot at h
  split at h
  · rename_i e
    rw [Bool.and_eq_true] at e
    rw [a.N, a.sc]
    exact ⟨ixOf_ok h, visB_ok e.1, okName_d e.2, okName_c e.2⟩
  · cases h

/-! ### operators -/
def binD : Operator → D → D → Option D
  | .Add, .int x, .int y => some (.int (x + y))
  | .Add, .tuple x, .tuple y => if x.length + y.length ≤ 16777216 then some (.tuple (x ++ y)) else none
  | .Add, .str x, .str y => if x.length + y.length ≤ 16777216 then some (.str (x ++ y)) else none
  | .Sub, .int x, .int y => some (.int (x - y))
  | .Add, .int x, .bool b => some (.int (x + if b = true then 1 else 0))
  | .Sub, .int x, .bool b => some (.int (x - if b = true then 1 else 0))
  | .Mult, .int x, .int y => if (-(2 ^ 64) < x ∧ x < 2 ^ 64) ∨ (-(2 ^ 64) < y ∧ y < 2 ^ 64) then some (.int (x * y)) else none
  | .FloorDiv, .int x, .int y => if 0 < y ∧ y < 1073741824 then some (.int (x / y)) else none
  | .Mod, .int x, .int y => if 0 < y then some (.int (x % y)) else none
  | .Pow, .int x, .int y => if 0 ≤ y ∧ y ≤ 1000000 ∧ x.natAbs < 2 ^ 64 then some (.int (x ^ y.toNat)) else none
  | .LShift, .int x, .int y => if 0 ≤ y ∧ y ≤ 1000000 ∧ x.natAbs < 2 ^ 64 then some (.int (x * 2 ^ y.toNat)) else none
  | _, _, _ => none
theorem binD_ok {X : Cx} {op : Operator} {x y z : D} (h : binD op x y = some z) : OpD X (binaryOp op) x y z := by
  unfold binD at h
  split at h
  · cases h; exact od_add
  · split at h
    · cases h; exact od_catT (by assumption)
    · cases h
  · split at h
    · cases h; exact od_catS (by assumption)
    · cases h
  · cases h; exact od_sub
  · cases h; exact od_addIB
  · cases h; exact od_subIB
  · split at h
    · rename_i hc
      cases h
      rcases hc with hc | hc
      · exact od_mulL hc
      · exact od_mulR hc
    · cases h
  · split at h
    · cases h; exact od_fdiv (by assumption)
    · cases h
  · split at h
    · cases h; exact od_mod (by assumption)
    · cases h
  · split at h
    · cases h; exact od_pow (by assumption)
    · cases h
  · split at h
    · cases h; exact od_shl (by assumption)
    · cases h
  · cases h
theorem units65 {k : Nat} {A : Around} (r : Room k A) : A.units + 65 < cLine := by have := r.un; omega
theorem room_in_sh {A : Around} {xs : List PyData} {d : PyData} (hd : SeqAt.shaped d = true) (hu : A.units + 65 < cLine) : A.units + 1 + min (PyData.depthAll xs) d.depth < cLine := by
  have h1 := SeqAt.depth_of_shaped hd
  have h2 : min (PyData.depthAll xs) d.depth ≤ d.depth := Nat.min_le_right _ _
  omega
section
variable {X : Cx}
theorem op_inDT (hu : X.A.units + 65 < cLine) {x y : V} {d : D} {ds : List D} {H : Hp} {Q : VK} (hd : Dp X.K H x d) (he : Dp X.K H y (.tuple ds)) (sd : SeqAt.shaped d = true) (se : SeqAt.shaped (.list ds) = true) (q : Q (.bl (ds.any fun z => PyData.eqv z d)) H) : wOp X (compareOp .In) x y H Q := fun pins s σ v u I rx ry => by
  obtain ⟨as, r1⟩ := Dp.reads I d x v hd rx
  obtain ⟨bs, r2⟩ := Dp.reads I (.tuple ds) y u he ry
  exact SeqAt.in_tuple_reads r2 r1 (SeqAt.canLay_of_shaped se) (SeqAt.canLay_of_shaped sd) (room_in_sh sd hu) ⟨.bl _, H, I, rfl, q⟩
theorem op_notInDT (hu : X.A.units + 65 < cLine) {x y : V} {d : D} {ds : List D} {H : Hp} {Q : VK} (hd : Dp X.K H x d) (he : Dp X.K H y (.tuple ds)) (sd : SeqAt.shaped d = true) (se : SeqAt.shaped (.list ds) = true) (q : Q (.bl (!ds.any fun z => PyData.eqv z d)) H) : wOp X (compareOp .NotIn) x y H Q := fun pins s σ v u I rx ry => by
  obtain ⟨as, r1⟩ := Dp.reads I d x v hd rx
  obtain ⟨bs, r2⟩ := Dp.reads I (.tuple ds) y u he ry
  exact SeqAt.notIn_tuple_reads r2 r1 (SeqAt.canLay_of_shaped se) (SeqAt.canLay_of_shaped sd) (room_in_sh sd hu) ⟨.bl _, H, I, rfl, q⟩
theorem od_inT {d : D} {ds : List D} (hr : ∃ k, Room k X.A) (sd : SeqAt.shaped d = true) (se : SeqAt.shaped (.list ds) = true) : OpD X (compareOp .In) d (.tuple ds) (.bool (ds.any fun z => PyData.eqv z d)) := fun H O v u Q _ rx ry q => by
  obtain ⟨k, hr⟩ := hr
  exact op_inDT (units65 hr) (dp_mono cut_sub _ _ rx) (dp_mono cut_sub _ _ ry) sd se (q _ H (Sub.refl H) (.bl _))
theorem od_ninT {d : D} {ds : List D} (hr : ∃ k, Room k X.A) (sd : SeqAt.shaped d = true) (se : SeqAt.shaped (.list ds) = true) : OpD X (compareOp .NotIn) d (.tuple ds) (.bool (!ds.any fun z => PyData.eqv z d)) := fun H O v u Q _ rx ry q => by
  obtain ⟨k, hr⟩ := hr
  exact op_notInDT (units65 hr) (dp_mono cut_sub _ _ rx) (dp_mono cut_sub _ _ ry) sd se (q _ H (Sub.refl H) (.bl _))
theorem od_inL {d : D} {ds : List D} (hr : ∃ k, Room k X.A) (sd : SeqAt.shaped d = true) (se : SeqAt.shaped (.list ds) = true) : OpD X (compareOp .In) d (.list ds) (.bool (ds.any fun z => PyData.eqv z d)) := fun H O v u Q _ rx ry q => by
  obtain ⟨k, hr⟩ := hr
  exact OpRw (op_inD (units65 hr)) ⟨d, ds, dp_mono cut_sub _ _ rx, dp_mono cut_sub _ _ ry, sd, se, q _ H (Sub.refl H) (.bl _)⟩
theorem od_ninL {d : D} {ds : List D} (hr : ∃ k, Room k X.A) (sd : SeqAt.shaped d = true) (se : SeqAt.shaped (.list ds) = true) : OpD X (compareOp .NotIn) d (.list ds) (.bool (!ds.any fun z => PyData.eqv z d)) := fun H O v u Q _ rx ry q => by
  obtain ⟨k, hr⟩ := hr
  exact OpRw (op_notInD (units65 hr)) ⟨d, ds, dp_mono cut_sub _ _ rx, dp_mono cut_sub _ _ ry, sd, se, q _ H (Sub.refl H) (.bl _)⟩
end
/-- x == y -/
def eqD : D → D → Option Bool
  | .int x, .int y => some (decide (x = y))
  | .str x, .str y => some (decide (x = y))
  | .bool x, .bool y => some (decide (x = y))
  | x, y => if (SeqAt.shaped x && SeqAt.shaped y) = true then some (PyData.eqv x y) else none
theorem str_one {x : Str} {c : Nat} (e : x.cps.toList = [c]) : x = ⟨#[c]⟩ := by
  obtain ⟨⟨l⟩⟩ := x
  exact congrArg (fun l => Str.mk ⟨l⟩) e
/-- x in y -/
def inD : D → D → Option Bool
  | .str x, .str z => match x.cps.toList with
    | [c] => some (decide (c ∈ z.cps.toList))
    | _ => none
  | x, .tuple ds => if (SeqAt.shaped x && SeqAt.shaped (.list ds)) = true then some (ds.any fun z => PyData.eqv z x) else none
  | x, .list ds => if (SeqAt.shaped x && SeqAt.shaped (.list ds)) = true then some (ds.any fun z => PyData.eqv z x) else none
  | _, _ => none
def ordD : CmpOp → Int → Int → Option Bool
  | .Lt, x, y => some (decide (x < y))
  | .LtE, x, y => some (decide (x ≤ y))
  | .Gt, x, y => some (decide (y < x))
  | .GtE, x, y => some (decide (y ≤ x))
  | _, _, _ => none
def ordB (op : CmpOp) (x y : D) : Option Bool := match op with
  | .Lt => some (W.dataLt x y)
  | .LtE => some (!W.dataLt y x)
  | .Gt => some (W.dataLt y x)
  | .GtE => some (!W.dataLt x y)
  | _ => none
def cmpD : CmpOp → D → D → Option Bool
  | .Eq, x, y => eqD x y
  | .NotEq, x, y => (eqD x y).map (!·)
  | .In, x, y => inD x y
  | .NotIn, x, y => (inD x y).map (!·)
  | op, .int x, .int y => ordD op x y
  | op, x, y => if (W.alike x y && !isN x && decide (x.depth ≤ 64)) = true then ordB op x y else none
theorem ordB_ok {X : Cx} (hr : ∃ k, Room k X.A) {op : CmpOp} {x y : D} {b : Bool} (hg : (W.alike x y && !isN x && decide (x.depth ≤ 64)) = true) (h : ordB op x y = some b) : OpD X (compareOp op) x y (.bool b) := by
  rw [Bool.and_eq_true, Bool.and_eq_true] at hg
  obtain ⟨⟨h1, h2⟩, h3⟩ := hg
  have hn : x ≠ .none := fun e => by subst e; cases h2
  have hd := of_decide_eq_true h3
  unfold ordB at h
  split at h <;> cases h
  · exact od_ltD hr h1 hn hd
  · exact od_leD hr h1 hn hd
  · exact od_gtD hr h1 hn hd
  · exact od_geD hr h1 hn hd
theorem eqD_ok {X : Cx} (hr : ∃ k, Room k X.A) {x y : D} {b : Bool} (h : eqD x y = some b) : OpD X (compareOp .Eq) x y (.bool b) ∧ OpD X (compareOp .NotEq) x y (.bool (!b)) := by
  unfold eqD at h
  split at h
  · cases h; exact ⟨od_eqI, od_neI⟩
  · cases h; exact ⟨od_eqS, od_neS⟩
  · cases h; exact ⟨od_eqB, od_neB⟩
  · split at h
    · rename_i e
      rw [Bool.and_eq_true] at e
      cases h
      exact ⟨od_eqD hr e.1 e.2, od_neD hr e.1 e.2⟩
    · cases h
theorem inD_ok {X : Cx} (hr : ∃ k, Room k X.A) {x y : D} {b : Bool} (h : inD x y = some b) : OpD X (compareOp .In) x y (.bool b) ∧ OpD X (compareOp .NotIn) x y (.bool (!b)) := by
  unfold inD at h
  split at h
  · split at h
    · rename_i c e
      cases h
      rw [str_one e]
      exact ⟨od_inSign, od_ninSign⟩
    · cases h
  · split at h
    · rename_i e
      rw [Bool.and_eq_true] at e
      cases h
      exact ⟨od_inT hr e.1 e.2, od_ninT hr e.1 e.2⟩
    · cases h
  · split at h
    · rename_i e
      rw [Bool.and_eq_true] at e
      cases h
      exact ⟨od_inL hr e.1 e.2, od_ninL hr e.1 e.2⟩
    · cases h
  · cases h
theorem ordD_ok {X : Cx} {op : CmpOp} {x y : Int} {b : Bool} (h : ordD op x y = some b) : OpD X (compareOp op) (.int x) (.int y) (.bool b) := by
  unfold ordD at h
  split at h <;> cases h
  · exact od_lt
  · exact od_le
  · exact od_gt
  · exact od_ge
theorem cmpD_ok {X : Cx} (hr : ∃ k, Room k X.A) {op : CmpOp} {x y : D} {b : Bool} (h : cmpD op x y = some b) : OpD X (compareOp op) x y (.bool b) := by
  unfold cmpD at h
  split at h
  · exact (eqD_ok hr h).1
  · obtain ⟨c, h1, rfl⟩ := Option.map_eq_some_iff.mp h
    exact (eqD_ok hr h1).2
  · exact (inD_ok hr h).1
  · obtain ⟨c, h1, rfl⟩ := Option.map_eq_some_iff.mp h
    exact (inD_ok hr h1).2
  · exact ordD_ok h
  · split at h <;> try (cases h; done)
    exact ordB_ok hr (by assumption) h
end Ev

set_option Elab.async false
set_option linter.all false
set_option maxRecDepth 100000
namespace Ev
open PySem PySem.Spec PyProof.Rows L2 Lk

/-! ### built-in functions -/
def intsOf : List D → Option (List Int)
  | [] => some []
  | .int i :: r => (intsOf r).map (i :: ·)
  | _ :: _ => none
def boolsOf : List D → Option (List Bool)
  | [] => some []
  | .bool i :: r => (boolsOf r).map (i :: ·)
  | _ :: _ => none
def strsOf : List D → Option (List Str)
  | [] => some []
  | .str i :: r => (strsOf r).map (i :: ·)
  | _ :: _ => none
theorem intsOf_ok : ∀ {ds : List D} {xs : List Int}, intsOf ds = some xs → ds = xs.map .int
  | [], xs, h => by cases h; rfl
  | d :: r, xs, h => by
    cases d <;> first | (cases h; done) | skip
    obtain ⟨ys, h1, rfl⟩ := Option.map_eq_some_iff.mp h
    rw [intsOf_ok h1]; rfl
theorem boolsOf_ok : ∀ {ds : List D} {xs : List Bool}, boolsOf ds = some xs → ds = xs.map .bool
  | [], xs, h => by cases h; rfl
  | d :: r, xs, h => by
    cases d <;> first | (cases h; done) | skip
    obtain ⟨ys, h1, rfl⟩ := Option.map_eq_some_iff.mp h
    rw [boolsOf_ok h1]; rfl
theorem strsOf_ok : ∀ {ds : List D} {xs : List Str}, strsOf ds = some xs → ds = xs.map .str
  | [], xs, h => by cases h; rfl
  | d :: r, xs, h => by
    cases d <;> first | (cases h; done) | skip
    obtain ⟨ys, h1, rfl⟩ := Option.map_eq_some_iff.mp h
    rw [strsOf_ok h1]; rfl
theorem intsOf_map : ∀ (xs : List Int), intsOf (xs.map .int) = some xs
  | [] => rfl
  | x :: xs => by show (intsOf (xs.map .int)).map _ = _; rw [intsOf_map xs]; rfl
theorem boolsOf_map : ∀ (xs : List Bool), boolsOf (xs.map .bool) = some xs
  | [] => rfl
  | x :: xs => by show (boolsOf (xs.map .bool)).map _ = _; rw [boolsOf_map xs]; rfl
theorem strsOf_map : ∀ (xs : List Str), strsOf (xs.map .str) = some xs
  | [] => rfl
  | x :: xs => by show (strsOf (xs.map .str)).map _ = _; rw [strsOf_map xs]; rfl
def lenD : List D → Option D
  | [.tuple xs] => some (.int xs.length)
  | [.list xs] => some (.int xs.length)
  | [.str z] => if z.length ≤ 16777216 then some (.int z.length) else none
  | _ => none
def absD : List D → Option D
  | [.int i] => some (.int (if i < 0 then -i else i))
  | _ => none
def maxD : List D → Option D
  | [.int i, .int j] => some (.int (if j > i then j else i))
  | [.list ds] => (intsOf ds).bind fun xs => (maxI xs).map .int
  | _ => none
def minD : List D → Option D
  | [.int i, .int j] => some (.int (if j < i then j else i))
  | [.list ds] => (intsOf ds).bind fun xs => (minI xs).map .int
  | _ => none
def sumD : List D → Option D
  | [.list ds] => (intsOf ds).map fun xs => .int xs.sum
  | _ => none
def allD : List D → Option D
  | [.list ds] => (boolsOf ds).map fun xs => .bool (xs.all id)
  | _ => none
def anyD : List D → Option D
  | [.list ds] => (boolsOf ds).map fun xs => .bool (xs.any id)
  | _ => none
def divmodD : List D → Option D
  | [.int i, .int j] => if 0 < j ∧ j < 1073741824 then some (.tuple [.int (i / j), .int (i % j)]) else none
  | _ => none
def intDD : List D → Option D
  | [.int i] => some (.int i)
  | [.bool b] => some (.int (if b then 1 else 0))
  | [.str z] => if z.length ≤ 640 then (PySem.intText? z).map .int else none
  | _ => none
def ordO : List D → Option D
  | [.str z] => if z.length = 1 then some (.int (z.cps.getD 0 0 : Nat)) else none
  | _ => none
def tupleD : List D → Option D
  | [.list ds] => some (.tuple ds)
  | [.tuple ds] => some (.tuple ds)
  | _ => none
def listD : List D → Option (List D)
  | [.list ds] => some ds
  | [.tuple ds] => some ds
  | [.str z] => if z.length ≤ 16777216 then some (signsD z) else none
  | _ => none
def bltB (x : Str) (ds : List D) : Option D :=
  if x = "len" then lenD ds else if x = "abs" then absD ds else if x = "max" then maxD ds else if x = "min" then minD ds
  else if x = "sum" then sumD ds else if x = "all" then allD ds else if x = "any" then anyD ds else if x = "divmod" then divmodD ds else if x = "ord" then ordO ds else none
def bltT (x : Str) (ds : List D) : Option D :=
  if x = "int" then intDD ds else if x = "tuple" then tupleD ds else none
section
variable {X : Cx} {x : Str} {ds : List D} {d : D}
theorem bltB_ok (hc : X.calm = true) (h : bltB x ds = some d) : ∃ id, bootBuiltins x = some (.builtin id) ∧ CallD X (.builtin id) ds d := by
  unfold bltB at h
  split at h
  · rename_i e; subst e
    refine ⟨_, b_len, ?_⟩
    unfold lenD at h
    split at h <;> try (cases h; done)
    · cases h; exact cd_lenT
    · cases h; exact cd_lenL
    · split at h
      · cases h; exact cd_lenS (by rw [sizeLine_eq]; assumption)
      · cases h
  split at h
  · rename_i e; subst e
    refine ⟨_, b_abs, ?_⟩
    unfold absD at h
    split at h <;> cases h
    exact cd_abs
  split at h
  · rename_i e; subst e
    refine ⟨_, b_max, ?_⟩
    unfold maxD at h
    split at h <;> try (cases h; done)
    · cases h; exact cd_max2 hc
    · obtain ⟨xs, h1, h2⟩ := Option.bind_eq_some_iff.mp h
      obtain ⟨m, h3, rfl⟩ := Option.map_eq_some_iff.mp h2
      rw [intsOf_ok h1]
      exact cd_maxL hc h3
  split at h
  · rename_i e; subst e
    refine ⟨_, b_min, ?_⟩
    unfold minD at h
    split at h <;> try (cases h; done)
    · cases h; exact cd_min2 hc
    · obtain ⟨xs, h1, h2⟩ := Option.bind_eq_some_iff.mp h
      obtain ⟨m, h3, rfl⟩ := Option.map_eq_some_iff.mp h2
      rw [intsOf_ok h1]
      exact cd_minL hc h3
  split at h
  · rename_i e; subst e
    refine ⟨_, b_sum, ?_⟩
    unfold sumD at h
    split at h <;> try (cases h; done)
    obtain ⟨xs, h1, rfl⟩ := Option.map_eq_some_iff.mp h
    rw [intsOf_ok h1]
    exact cd_sum hc
  split at h
  · rename_i e; subst e
    refine ⟨_, b_all, ?_⟩
    unfold allD at h
    split at h <;> try (cases h; done)
    obtain ⟨xs, h1, rfl⟩ := Option.map_eq_some_iff.mp h
    rw [boolsOf_ok h1]
    exact cd_all hc
  split at h
  · rename_i e; subst e
    refine ⟨_, b_any, ?_⟩
    unfold anyD at h
    split at h <;> try (cases h; done)
    obtain ⟨xs, h1, rfl⟩ := Option.map_eq_some_iff.mp h
    rw [boolsOf_ok h1]
    exact cd_any hc
  split at h
  · rename_i e; subst e
    refine ⟨_, b_divmod, ?_⟩
    unfold divmodD at h
    split at h <;> try (cases h; done)
    split at h <;> cases h
    exact cd_divmod (by assumption)
  split at h
  · rename_i e; subst e
    refine ⟨_, b_ord, ?_⟩
    unfold ordO at h
    split at h <;> try (cases h; done)
    split at h <;> cases h
    exact cd_ord (by assumption)
  · cases h
theorem bltT_ok (h : bltT x ds = some d) : ∃ id, bootBuiltins x = some (.type id) ∧ CallD X (.type id) ds d := by
  unfold bltT at h
  split at h
  · rename_i e; subst e
    refine ⟨_, b_int, ?_⟩
    unfold intDD at h
    split at h <;> try (cases h; done)
    · cases h; exact cd_int
    · cases h; exact cd_intB
    · split at h <;> try (cases h; done)
      obtain ⟨n, h1, rfl⟩ := Option.map_eq_some_iff.mp h
      exact cd_intS h1 (by assumption)
  split at h
  · rename_i e; subst e
    refine ⟨_, b_tuple, ?_⟩
    unfold tupleD at h
    split at h <;> cases h
    · exact cd_tuple
    · exact cd_tupleT
  · cases h
end
/-- a type's name, for isinstance -/
def tyOf (T : Str) : Option String :=
  if T = "int" then some "int" else if T = "bool" then some "bool" else if T = "str" then some "str" else if T = "tuple" then some "tuple" else if T = "list" then some "list" else none
theorem tyOf_ok {T : Str} {U : String} (h : tyOf T = some U) : bootBuiltins T = some (.type U) := by
  unfold tyOf at h
  split at h
  · rename_i e; subst e; cases h; exact b_int
  split at h
  · rename_i e; subst e; cases h; exact b_bool
  split at h
  · rename_i e; subst e; cases h; exact b_str
  split at h
  · rename_i e; subst e; cases h; exact b_tuple
  split at h
  · rename_i e; subst e; cases h; exact b_list
  · cases h

/-! ### methods of texts -/
def strM (name : Str) (z : Str) (dy : D) : Option D :=
  if name = "find" then (match dy with | .str y => some (.int (Txt.find z y)) | _ => none)
  else if name = "join" then (match dy with
    | .list ds => (strsOf ds).bind fun ys => if (ys.map (·.length)).sum + ys.length * z.length ≤ 16777216 then some (.str (Txt.join z ys)) else none
    | .tuple ds => (strsOf ds).bind fun ys => if (ys.map (·.length)).sum + ys.length * z.length ≤ 16777216 then some (.str (Txt.join z ys)) else none
    | _ => none)
  else none
theorem strM_ok {X : Cx} {name z : Str} {dy dz : D} (h : strM name z dy = some dz) : ∃ id, Slot "str" name id ∧ typeOf (.builtin id) = pure (.type "method_descriptor") ∧ MtD X id (.str z) [dy] dz := by
  unfold strM at h
  split at h
  · rename_i e; subst e
    refine ⟨_, F.slot_str_find, F.type_str_find, ?_⟩
    split at h <;> cases h
    exact md_find
  split at h
  · rename_i e; subst e
    refine ⟨_, F.slot_str_join, F.type_str_join, ?_⟩
    split at h <;> try (cases h; done)
    · obtain ⟨ys, h1, h2⟩ := Option.bind_eq_some_iff.mp h
      split at h2 <;> cases h2
      rw [strsOf_ok h1]
      exact md_joinL (by assumption)
    · obtain ⟨ys, h1, h2⟩ := Option.bind_eq_some_iff.mp h
      split at h2 <;> cases h2
      rw [strsOf_ok h1]
      exact md_joinT (by assumption)
  · cases h

/-! ### expressions, one step -/
section
variable (cs : Cs) (r : Evs) (fm : Fm)
def argsE : List Expr → Rho → Option (List D × Rho)
  | [], ρ => some ([], ρ)
  | e :: es, ρ => if notStar e = true then bd2 (r.E fm e ρ) fun d ρ1 => bd2 (argsE es ρ1) fun ds ρ2 => some (d :: ds, ρ2) else none
def boolE (op : BoolOp) : List Expr → Rho → Option (D × Rho)
  | [], _ => none
  | [a], ρ => r.E fm a ρ
  | a :: b :: es, ρ => bd2 (r.E fm a ρ) fun d ρ1 => match d, op with
    | .bool x, .And => if x = true then boolE op (b :: es) ρ1 else some (.bool false, ρ1)
    | .bool x, .Or => if x = true then some (.bool true, ρ1) else boolE op (b :: es) ρ1
    | _, _ => none
def boolT (op : BoolOp) : List Expr → Rho → Option (Bool × Rho)
  | [], _ => none
  | [a], ρ => r.T fm a ρ
  | a :: b :: es, ρ => bd2 (r.T fm a ρ) fun x ρ1 => match op with
    | .And => if x = true then boolT op (b :: es) ρ1 else some (false, ρ1)
    | .Or => if x = true then some (true, ρ1) else boolT op (b :: es) ρ1
def isNone : Expr → Bool
  | .Constant .none _ _ => true
  | _ => false
def nameE (x : Str) (ρ : Rho) : Option (D × Rho) := match slot fm x with
  | some i => (match ρ[i]? with
    | some (.val d) => some (d, ρ)
    | some (.own false (.lst ds)) => some (.list ds, ρ.set i (.val (.list ds)))
    | _ => none)
  | none => if (glB fm.sc x && okName x) = true then (cs.G x).map fun d => (d, ρ) else none
def constE : Const → Option D
  | .int i => some (.int i)
  | .bool b => some (.bool b)
  | .none => some .none
  | .str z => some (.str z)
  | _ => none
def partE (e : Option Expr) (ρ : Rho) : Option (Option Int × Rho) := match e with
  | none => some (none, ρ)
  | some e => bd2 (r.E fm e ρ) fun d ρ1 => match d with
    | .int i => some (some i, ρ1)
    | _ => none
def ixE : D → D → Option D
  | .tuple ds, .int i => atI ds i
  | .list ds, .int i => atI ds i
  | .str z, .int i => if z.length ≤ 16777216 then (atI z.cps.toList i).map fun c => .str ⟨#[c]⟩ else none
  | _, _ => none
/-- is it a name of an own list? -/
def ownAt (fm : Fm) (a : Expr) (ρ : Rho) : Option (Nat × Bool × List D) := match a with
  | .Name x _ => (slot fm x).bind fun i => match ρ[i]? with
    | some (.own b (.lst ds)) => some (i, b, ds)
    | _ => none
  | _ => none
/-- is it a name of an own dict? -/
def ownD (fm : Fm) (a : Expr) (ρ : Rho) : Option (Nat × List (Key × D)) := match a with
  | .Name x _ => (slot fm x).bind fun i => match ρ[i]? with
    | some (.own _ (.dK kvs)) => some (i, kvs)
    | _ => none
  | _ => none
def cmp1 (a : Expr) (op : CmpOp) (b : Expr) (ρ : Rho) : Option (Bool × Rho) := if behindInMarks op b = false then bd2 (r.E fm a ρ) fun dx ρ1 => bd2 (r.E fm b ρ1) fun dy ρ2 => bd1 (cmpD op dx dy) fun c => some (c, ρ2) else none
/-- a comparison, as a bool -/
def cmpE (a : Expr) (ops : List CmpOp) (bs : List Expr) (ρ : Rho) : Option (Bool × Rho) := match ops, bs with
  | [.Is], [b] => if isNone b = true then bd2 (r.E fm a ρ) fun d ρ1 => some (isN d, ρ1) else none
  | [.IsNot], [b] => if isNone b = true then bd2 (r.E fm a ρ) fun d ρ1 => some (!isN d, ρ1) else none
  | [.In], [b] => (match ownD fm b ρ with
    | some (i, _) => bd2 (r.E fm a ρ) fun dy ρ1 => bd1 (toKey dy) fun key => (match ρ1[i]? with
      | some (.own _ (.dK kvs)) => some ((valD kvs key).isSome, ρ1)
      | _ => none)
    | none => cmp1 r fm a .In b ρ)
  | [.NotIn], [b] => (match ownD fm b ρ with
    | some (i, _) => bd2 (r.E fm a ρ) fun dy ρ1 => bd1 (toKey dy) fun key => (match ρ1[i]? with
      | some (.own _ (.dK kvs)) => some (!(valD kvs key).isSome, ρ1)
      | _ => none)
    | none => cmp1 r fm a .NotIn b ρ)
  | [op], [b] => cmp1 r fm a op b ρ
  | [op, op'], [b, c] => if lastMarks [op, op'] [b, c] = false then bd2 (r.E fm a ρ) fun dx ρ1 => bd2 (r.E fm b ρ1) fun dy ρ2 => bd1 (cmpD op dx dy) fun x =>
      if x = true then bd2 (r.E fm c ρ2) fun dz ρ3 => bd1 (cmpD op' dy dz) fun y => some (y, ρ3) else some (false, ρ2) else none
  | _, _ => none
def subE (a b : Expr) (ρ : Rho) : Option (D × Rho) := match b with
  | .Slice lo hi none _ => bd2 (r.E fm a ρ) fun d ρ1 => bd2 (partE r fm lo ρ1) fun l ρ2 => bd2 (partE r fm hi ρ2) fun u ρ3 => (match d with
    | .tuple ds => some (.tuple (cutA ds l u), ρ3)
    | .list ds => some (.list (cutA ds l u), ρ3)
    | .str z => if z.length ≤ 16777216 then some (.str ⟨(cutA z.cps.toList l u).toArray⟩, ρ3) else none
    | _ => none)
  | .Slice _ _ (some _) _ => none
  | b => if notIx b = true then match ownAt fm a ρ with
    | some (i, _, _) => bd2 (r.E fm b ρ) fun dy ρ2 => (match dy, ρ2[i]? with
      | .int j, some (.own _ (.lst ds)) => (atI ds j).map fun d => (d, ρ2)
      | _, _ => none)
    | none => match ownD fm a ρ with
      | some (i, _) => bd2 (r.E fm b ρ) fun dy ρ2 => bd1 (toKey dy) fun key => (match ρ2[i]? with
        | some (.own _ (.dK kvs)) => bd1 (valD kvs key) fun d => some (d, ρ2)
        | _ => none)
      | none => bd2 (r.E fm a ρ) fun dx ρ1 => bd2 (r.E fm b ρ1) fun dy ρ2 => bd1 (ixE dx dy) fun d => some (d, ρ2)
    else none
/-- a built-in function -/
def bltE (x : Str) (args : List Expr) (ρ : Rho) : Option (D × Rho) :=
  match (match args with | [a] => ownAt fm a ρ | _ => none) with
  | some (_, _, ds) => if x = "tuple" then some (.tuple ds, ρ) else bd1 (bltB x [.list ds]) fun d => if flatD d = true then some (d, ρ) else none
  | none => if x = "isinstance" then (match args with
      | [e, .Name T _] => if (cs.B T && glB fm.sc T && okName T) = true then bd2 (r.E fm e ρ) fun d ρ1 => bd1 (tyOf T) fun U => bd1 (kitB (tyName d) U) fun c => some (.bool c, ρ1) else none
      | _ => none)
    else bd2 (argsE r fm args ρ) fun ds ρ1 => match bltB x ds with
      | some d => some (d, ρ1)
      | none => (bltT x ds).map fun d => (d, ρ1)
def callE (x : Str) (args : List Expr) (ρ : Rho) : Option (D × Rho) :=
  if (glB fm.sc x && okName x && args.all notStar) = true then match cs.P x with
    | some f => bd2 (argsE r fm args ρ) fun ds ρ1 => bd1 (f ds) fun d => some (d, ρ1)
    | none => match cs.O x with
      | some f => (match args with
        | .Name y py :: es => (match slot fm y with
          | some i => (match ρ[i]? with
            | some (.own _ _) => bd2 (argsE r fm es ρ) fun ds ρ1 => (match ρ1[i]? with
              | some (.own b d0) => bd2 (f d0 ds) fun d d1 => some (d, ρ1.set i (.own b d1))
              | _ => none)
            | _ => none)
          | none => none)
        | _ => none)
      | none => if cs.B x = true then bltE cs r fm x args ρ else none
  else none
def catD : Operator → D → D → Option (List D)
  | .Add, .list x, .list y => if x.length + y.length ≤ 16777216 then some (x ++ y) else none
  | .Mult, .list x, .int k => if -(2 ^ 63) ≤ k ∧ k < 2 ^ 63 ∧ x.length * k.toNat ≤ 16777216 then some (List.replicate k.toNat x).flatten else none
  | _, _, _ => none
def popE (o : Expr) (name : Str) (apos cpos : Pos) (e : Expr) (ρ : Rho) : Option (D × Rho) :=
  if (decide (name = "pop") && notStar e && (apos.endLine == cpos.line)) = true then match ownAt fm o ρ with
    | some (i, _, _) => bd2 (r.E fm e ρ) fun dy ρ1 => (match dy, ρ1[i]? with
      | .int j, some (.own b (.lst ds)) => if -(2 ^ 63) ≤ j ∧ j < 2 ^ 63 then (match ixN ds.length j with
        | some n => (match ds[n]? with
          | some d => some (d, ρ1.set i (.own b (.lst (ds.eraseIdx n))))
          | none => none)
        | none => none) else none
      | _, _ => none)
    | none => none else none
def methE (o : Expr) (name : Str) (apos cpos : Pos) (e : Expr) (ρ : Rho) : Option (D × Rho) :=
  if (notStar e && notCall o && (apos.endLine == cpos.line)) = true then bd2 (r.E fm o ρ) fun dx ρ1 => match dx with
    | .str z => bd2 (r.E fm e ρ1) fun dy ρ2 => bd1 (strM name z dy) fun dz => some (dz, ρ2)
    | _ => none
  else none
/-- get of a dict of the module -/
def getE (x name : Str) (apos cpos : Pos) (e f : Expr) (ρ : Rho) : Option (D × Rho) :=
  if (decide (name = "get") && glB fm.sc x && okName x && notStar e && notStar f && (apos.endLine == cpos.line)) = true then bd1 (cs.GD x) fun kvs => bd2 (r.E fm e ρ) fun d ρ1 => bd1 (toKey d) fun key => bd2 (r.E fm f ρ1) fun z ρ2 => some ((valD kvs key).getD z, ρ2) else none
/-- does it make a new list? -/
def freshB (e : Expr) : Bool := match e with
  | .List .. => true
  | .ListComp .. => true
  | .Dict .. => true
  | .Call (.Name x _) _ _ _ => decide (x = "list") || decide (x = "sorted") || (cs.F x).isSome
  | .Call (.Attribute _ n _) _ _ _ => decide (n = "split")
  | _ => false
def stepE (e : Expr) (ρ : Rho) : Option (D × Rho) :=
  if freshB cs e = true then bd2 (r.F fm e ρ) fun c ρ1 => (match c with
    | .lst ds => some (.list ds, ρ1)
    | _ => none)
  else match e with
  | .Name x _ => nameE cs fm x ρ
  | .Constant c _ _ => (constE c).map fun d => (d, ρ)
  | .BinOp a op b _ => bd2 (r.E fm a ρ) fun dx ρ1 => bd2 (r.E fm b ρ1) fun dy ρ2 => (match catD op dx dy with
    | some zs => some (.list zs, ρ2)
    | none => bd1 (binD op dx dy) fun dz => some (dz, ρ2))
  | .UnaryOp .Not a _ => bd2 (r.E fm a ρ) fun d ρ1 => (match d with
    | .bool x => some (.bool (!x), ρ1)
    | _ => none)
  | .UnaryOp .USub a _ => bd2 (r.E fm a ρ) fun d ρ1 => (match d with
    | .int x => some (.int (-x), ρ1)
    | _ => none)
  | .BoolOp op es _ => boolE r fm op es ρ
  | .IfExp c a b _ => bd2 (r.T fm c ρ) fun x ρ1 => if x = true then r.E fm a ρ1 else r.E fm b ρ1
  | .Compare a ops bs _ => bd2 (cmpE r fm a ops bs ρ) fun c ρ1 => some (.bool c, ρ1)
  | .Tuple es _ _ => bd2 (argsE r fm es ρ) fun ds ρ1 => if ds.length ≤ 1000 then some (.tuple ds, ρ1) else none
  | .Subscript a b _ => subE r fm a b ρ
  | .Call (.Name x _) args [] _ => callE cs r fm x args ρ
  | .Call (.Attribute (.Name x _) name apos) [e, f] [] cpos => getE cs r fm x name apos cpos e f ρ
  | .Call (.Attribute o name apos) [e] [] cpos => if name = "pop" then popE r fm o name apos cpos e ρ else methE r fm o name apos cpos e ρ
  | _ => none
def stepT (e : Expr) (ρ : Rho) : Option (Bool × Rho) := match e with
  | .UnaryOp .Not a _ => bd2 (r.T fm a ρ) fun b ρ1 => some (!b, ρ1)
  | .BoolOp op es _ => boolT r fm op es ρ
  | .Compare a ops bs _ => cmpE r fm a ops bs ρ
  | e => if plainT e = true then (match ownAt fm e ρ with
      | some (_, _, ds) => some (!ds.isEmpty, ρ)
      | none => bd2 (r.E fm e ρ) fun d ρ1 => bd1 (truD d) fun b => some (b, ρ1))
    else none
end
section
variable {X : Cx} {cs : Cs} {r : Evs} {fm : Fm} (a : Agr X fm) (c : CsOk X cs) (h : Snd X fm r)
include h in
theorem args_ok : ∀ {es : List Expr} {ρ ρ' : Rho} {ds : List D} {k : List D → Rho → Prop}, argsE r fm es ρ = some (ds, ρ') → k ds ρ' → AX X es ρ k
  | [], ρ, ρ', ds, k, q, hk => by cases q; exact a_nil hk
  | e :: es, ρ, ρ', ds, k, q, hk => by
    unfold argsE at q
    split at q
    case isFalse => cases q
    rename_i hs
    obtain ⟨d, ρ1, h1, q⟩ := bd2_some q
    obtain ⟨ds2, ρ2, h2, q⟩ := bd2_some q
    cases q
    exact a_cons (h.E _ _ _ _ _ h1 (args_ok h2 hk)) (star_cons hs)
include h in
theorem boolE_ok {op : BoolOp} {pos : Pos} : ∀ {es : List Expr} {ρ ρ' : Rho} {d : D} {k : D → Rho → Prop}, boolE r fm op es ρ = some (d, ρ') → k d ρ' → EX X (.BoolOp op es pos) ρ k
  | [], ρ, ρ', d, k, q, hk => by cases q
  | [a], ρ, ρ', d, k, q, hk => x_one (h.E _ _ _ _ _ q hk)
  | a :: b :: es, ρ, ρ', d, k, q, hk => by
    unfold boolE at q
    obtain ⟨d1, ρ1, h1, q⟩ := bd2_some q
    split at q
    · refine x_and (h.E _ _ _ _ _ h1 ⟨_, rfl, fun hx => ?_, fun hx => ?_⟩)
      · exact boolE_ok (ift q hx) hk
      · have q := iff_ q hx
        cases q; exact hk
    · refine x_or (h.E _ _ _ _ _ h1 ⟨_, rfl, fun hx => ?_, fun hx => ?_⟩)
      · exact boolE_ok (iff_ q hx) hk
      · have q := ift q hx
        cases q; exact hk
    · cases q
include h in
theorem boolW_ok {op : BoolOp} {pos : Pos} : ∀ {es : List Expr} {ρ ρ' : Rho} {d : Bool} {k : Bool → Rho → Prop}, boolT r fm op es ρ = some (d, ρ') → k d ρ' → WX X (.BoolOp op es pos) ρ k
  | [], ρ, ρ', d, k, q, hk => by cases q
  | [a], ρ, ρ', d, k, q, hk => by
    cases op
    · exact w_and1 (h.T _ _ _ _ _ q hk)
    · exact w_or1 (h.T _ _ _ _ _ q hk)
  | a :: b :: es, ρ, ρ', d, k, q, hk => by
    unfold boolT at q
    obtain ⟨d1, ρ1, h1, q⟩ := bd2_some q
    cases op
    · refine w_and (h.T _ _ _ _ _ h1 ⟨fun hx => ?_, fun hx => ?_⟩)
      · exact boolW_ok (ift q hx) hk
      · have q := iff_ q hx
        cases q; exact hk
    · refine w_or (h.T _ _ _ _ _ h1 ⟨fun hx => ?_, fun hx => ?_⟩)
      · exact boolW_ok (iff_ q hx) hk
      · have q := ift q hx
        cases q; exact hk
theorem isNone_ok {b : Expr} (e : isNone b = true) : ∃ j p, b = .Constant .none j p := by
  unfold isNone at e
  split at e
  · exact ⟨_, _, rfl⟩
  · cases e
include a in
theorem ownD_ok {e : Expr} {ρ : Rho} {i : Nat} {kvs : List (Key × D)} (q : ownD fm e ρ = some (i, kvs)) : ∃ x p b, e = .Name x p ∧ X.N[i]? = some x ∧ Vis X.env.scope x ∧ (x == ("__debug__" : Str)) = false ∧ (x == ("__classdict__" : Str)) = false ∧ ρ[i]? = some (.own b (.dK kvs)) := by
  unfold ownD at q
  split at q
  · obtain ⟨j, h1, h2⟩ := Option.bind_eq_some_iff.mp q
    split at h2 <;> cases h2
    obtain ⟨g1, g2, g3, g4⟩ := slot_ok a h1
    exact ⟨_, _, _, rfl, g1, g2, g3, g4, by assumption⟩
  · cases q
include c h in
theorem cmp1_ok {pos : Pos} {e b : Expr} {op : CmpOp} {ρ ρ' : Rho} {z : Bool} (q : cmp1 r fm e op b ρ = some (z, ρ')) : (∀ k : D → Rho → Prop, k (.bool z) ρ' → EX X (.Compare e [op] [b] pos) ρ k) ∧ (∀ k : Bool → Rho → Prop, k z ρ' → TX X (.Compare e [op] [b] pos) ρ k) := by
  unfold cmp1 at q
  split at q <;> try (cases q; done)
  rename_i hm
  obtain ⟨dx, ρ1, h1, q⟩ := bd2_some q
  obtain ⟨dy, ρ2, h2, q⟩ := bd2_some q
  obtain ⟨z, h3, q⟩ := bd1_some q
  cases q
  exact ⟨fun k hk => x_cmp hm (h.E _ _ _ _ _ h1 (h.E _ _ _ _ _ h2 ⟨_, cmpD_ok c.room h3, hk⟩)), fun k hk => t_cmp hm (h.E _ _ _ _ _ h1 (h.E _ _ _ _ _ h2 ⟨_, cmpD_ok c.room h3, hk⟩))⟩
include a c h in
theorem cmpE_ok {pos : Pos} {e : Expr} {ops : List CmpOp} {bs : List Expr} {ρ ρ' : Rho} {b : Bool} (q : cmpE r fm e ops bs ρ = some (b, ρ')) : (∀ k : D → Rho → Prop, k (.bool b) ρ' → EX X (.Compare e ops bs pos) ρ k) ∧ (∀ k : Bool → Rho → Prop, k b ρ' → TX X (.Compare e ops bs pos) ρ k) := by
  unfold cmpE at q
  split at q
  · split at q <;> try (cases q; done)
    rename_i hn
    obtain ⟨j, p, rfl⟩ := isNone_ok hn
    obtain ⟨d, ρ1, h1, q⟩ := bd2_some q
    cases q
    exact ⟨fun k hk => x_isN (h.E _ _ _ _ _ h1 hk), fun k hk => t_isN (h.E _ _ _ _ _ h1 hk)⟩
  · split at q <;> try (cases q; done)
    rename_i hn
    obtain ⟨j, p, rfl⟩ := isNone_ok hn
    obtain ⟨d, ρ1, h1, q⟩ := bd2_some q
    cases q
    exact ⟨fun k hk => x_notN (h.E _ _ _ _ _ h1 hk), fun k hk => t_notN (h.E _ _ _ _ _ h1 hk)⟩
  · split at q
    · rename_i ho
      obtain ⟨x, p, b0, rfl, g1, g2, g3, g4, g5⟩ := ownD_ok a ho
      obtain ⟨dy, ρ1, h1, q⟩ := bd2_some q
      obtain ⟨key, h2, q⟩ := bd1_some q
      split at q <;> try (cases q; done)
      rename_i hs
      cases q
      have := x_din (pos := pos) (py := p) (b := true) c.room g1 g2 (fun k hk => h.E _ _ _ _ k h1 hk) h2 hs g3 g4
      exact ⟨this.1, this.2.1⟩
    · exact cmp1_ok c h q
  · split at q
    · rename_i ho
      obtain ⟨x, p, b0, rfl, g1, g2, g3, g4, g5⟩ := ownD_ok a ho
      obtain ⟨dy, ρ1, h1, q⟩ := bd2_some q
      obtain ⟨key, h2, q⟩ := bd1_some q
      split at q <;> try (cases q; done)
      rename_i hs
      cases q
      have := x_din (pos := pos) (py := p) (b := true) c.room g1 g2 (fun k hk => h.E _ _ _ _ k h1 hk) h2 hs g3 g4
      exact ⟨this.2.2.1, this.2.2.2⟩
    · exact cmp1_ok c h q
  · exact cmp1_ok c h q
  · split at q <;> try (cases q; done)
    rename_i hm
    obtain ⟨dx, ρ1, h1, q⟩ := bd2_some q
    obtain ⟨dy, ρ2, h2, q⟩ := bd2_some q
    obtain ⟨z, h3, q⟩ := bd1_some q
    refine ⟨fun k hk => x_chain (h.E _ _ _ _ _ h1 (h.E _ _ _ _ _ h2 ⟨_, cmpD_ok c.room h3, fun hz => ?_, fun hz => ?_⟩)) hm, fun k hk => t_chain (h.E _ _ _ _ _ h1 (h.E _ _ _ _ _ h2 ⟨_, cmpD_ok c.room h3, fun hz => ?_, fun hz => ?_⟩)) hm⟩
    · obtain ⟨dz, ρ3, h4, q⟩ := bd2_some (ift q hz)
      obtain ⟨y, h5, q⟩ := bd1_some q
      cases q
      exact h.E _ _ _ _ _ h4 ⟨_, cmpD_ok c.room h5, hk⟩
    · have q := iff_ q hz
      cases q; exact hk
    · obtain ⟨dz, ρ3, h4, q⟩ := bd2_some (ift q hz)
      obtain ⟨y, h5, q⟩ := bd1_some q
      cases q
      exact h.E _ _ _ _ _ h4 ⟨_, cmpD_ok c.room h5, hk⟩
    · have q := iff_ q hz
      cases q; exact hk
  · cases q
include a c in
theorem nameE_ok {x : Str} {pos : Pos} {ρ ρ' : Rho} {d : D} {k : D → Rho → Prop} (q : nameE cs fm x ρ = some (d, ρ')) (hk : k d ρ') : EX X (.Name x pos) ρ k := by
  unfold nameE at q
  split at q
  · rename_i i hi
    obtain ⟨h1, h2, h3, h4⟩ := slot_ok a hi
    split at q <;> try (cases q; done)
    · rename_i hs
      cases q
      exact x_var h1 h2 hs hk h3 h4
    · rename_i hs
      cases q
      exact x_frz h1 h2 hs hk h3 h4
  · split at q <;> try (cases q; done)
    rename_i hg
    rw [Bool.and_eq_true] at hg
    obtain ⟨d1, h1, h2⟩ := Option.map_eq_some_iff.mp q
    cases h2
    obtain ⟨u, v, h3, h4, h5⟩ := c.G _ _ h1
    exact x_glob (glB_ok a hg.1) h3 h4 h5 hk (okName_d hg.2)
theorem constE_ok {v : Const} {j : Nat} {pos : Pos} {ρ : Rho} {d : D} {k : D → Rho → Prop} (q : constE v = some d) (hk : k d ρ) : EX X (.Constant v j pos) ρ k := by
  unfold constE at q
  split at q <;> cases q
  · exact x_int hk
  · exact x_bl hk
  · exact x_non hk
  · exact x_str hk
include h in
theorem partE_ok {e : Option Expr} {ρ ρ' : Rho} {o : Option Int} {k : Option Int → Rho → Prop} (q : partE r fm e ρ = some (o, ρ')) (hk : k o ρ') : OX X e ρ k := by
  unfold partE at q
  split at q
  · cases q; exact hk
  · obtain ⟨d, ρ1, h1, q⟩ := bd2_some q
    split at q <;> cases q
    exact h.E _ _ _ _ _ h1 ⟨_, rfl, hk⟩
theorem ixE_ok {x y z : D} (q : ixE x y = some z) : IxD X x y z := by
  unfold ixE at q
  split at q
  · exact ixd_tup q
  · exact ixd_lst q
  · split at q <;> try (cases q; done)
    obtain ⟨c, h1, h2⟩ := Option.map_eq_some_iff.mp q
    cases h2
    exact ixd_str (by rw [sizeLine_eq]; assumption) h1
  · cases q
include a in
theorem ownAt_ok {e : Expr} {ρ : Rho} {i : Nat} {b : Bool} {ds : List D} (q : ownAt fm e ρ = some (i, b, ds)) : ∃ x p, e = .Name x p ∧ X.N[i]? = some x ∧ Vis X.env.scope x ∧ (x == ("__debug__" : Str)) = false ∧ (x == ("__classdict__" : Str)) = false ∧ ρ[i]? = some (.own b (.lst ds)) := by
  unfold ownAt at q
  split at q
  · obtain ⟨j, h1, h2⟩ := Option.bind_eq_some_iff.mp q
    split at h2 <;> cases h2
    obtain ⟨g1, g2, g3, g4⟩ := slot_ok a h1
    exact ⟨_, _, rfl, g1, g2, g3, g4, by assumption⟩
  · cases q
include a c h in
theorem subE_ok {e b : Expr} {pos : Pos} {ρ ρ' : Rho} {d : D} {k : D → Rho → Prop} (q : subE r fm e b ρ = some (d, ρ')) (hk : k d ρ') : EX X (.Subscript e b pos) ρ k := by
  unfold subE at q
  split at q
  · obtain ⟨d1, ρ1, h1, q⟩ := bd2_some q
    obtain ⟨l, ρ2, h2, q⟩ := bd2_some q
    obtain ⟨u, ρ3, h3, q⟩ := bd2_some q
    split at q <;> try (cases q; done)
    · cases q; exact x_slT (h.E _ _ _ _ _ h1 ⟨_, rfl, partE_ok h h2 (partE_ok h h3 hk)⟩)
    · cases q; exact x_frL (f_slL (h.E _ _ _ _ _ h1 ⟨_, rfl, partE_ok h h2 (partE_ok h h3 ⟨_, rfl, hk⟩)⟩))
    · split at q <;> cases q
      exact x_slS (h.E _ _ _ _ _ h1 ⟨_, rfl, by rw [sizeLine_eq]; assumption, partE_ok h h2 (partE_ok h h3 hk)⟩)
  · cases q
  · split at q <;> try (cases q; done)
    rename_i hb
    split at q
    · rename_i ho
      obtain ⟨x, p, rfl, g1, g2, g3, g4, g5⟩ := ownAt_ok a ho
      obtain ⟨dy, ρ2, h1, q⟩ := bd2_some q
      split at q <;> try (cases q; done)
      rename_i hs
      obtain ⟨d1, h2, h3⟩ := Option.map_eq_some_iff.mp q
      cases h3
      exact x_ixO g1 g2 (h.E _ _ _ _ _ h1 ⟨_, _, _, _, rfl, hs, h2, hk⟩) (plain_ix hb) ⟨_, _, g5⟩ g3 g4
    · split at q
      · rename_i ho
        obtain ⟨x, p, b0, rfl, g1, g2, g3, g4, g5⟩ := ownD_ok a ho
        obtain ⟨dy, ρ2, h1, q⟩ := bd2_some q
        obtain ⟨key, h2, q⟩ := bd1_some q
        split at q <;> try (cases q; done)
        rename_i hs
        obtain ⟨dz, h3, q⟩ := bd1_some q
        cases q
        exact x_dget c.room g1 g2 (h.E _ _ _ _ _ h1 ⟨_, _, _, _, h2, hs, h3, hk⟩) (plain_ix hb) ⟨_, _, g5⟩ g3 g4
      · obtain ⟨dx, ρ1, h1, q⟩ := bd2_some q
        obtain ⟨dy, ρ2, h2, q⟩ := bd2_some q
        obtain ⟨dz, h3, q⟩ := bd1_some q
        cases q
        exact x_ix (h.E _ _ _ _ _ h1 (h.E _ _ _ _ _ h2 ⟨_, ixE_ok h3, hk⟩)) (plain_ix hb)
include a c h in
theorem bltE_ok {x : Str} {args : List Expr} {p pos : Pos} {ρ ρ' : Rho} {d : D} {k : D → Rho → Prop} (hg : Gl X x) (ho : okName x = true) (hb : cs.B x = true) (ha : args.all notStar = true) (q : bltE cs r fm x args ρ = some (d, ρ')) (hk : k d ρ') : EX X (.Call (.Name x p) args [] pos) ρ k := by
  unfold bltE at q
  split at q
  · rename_i i b ds hm
    have hm2 : ∃ e, args = [e] ∧ ownAt fm e ρ = some (i, b, ds) := by
      split at hm
      · exact ⟨_, rfl, hm⟩
      · cases hm
    obtain ⟨e, rfl, hm⟩ := hm2
    obtain ⟨y, py, rfl, g1, g2, g3, g4, g5⟩ := ownAt_ok a hm
    split at q
    · rename_i e; subst e
      cases q
      exact x_tupleO hg (c.B _ hb) g1 g2 g5 hk g3 g4
    · obtain ⟨d1, h1, q⟩ := bd1_some q
      split at q <;> cases q
      obtain ⟨id, hv, hcd⟩ := bltB_ok a.calm h1
      exact x_callBO hg (c.B _ hb) hv g1 g2 g5 hcd (by assumption) hk (okName_n ho) (okName_d ho) g3 g4
  · split at q
    · rename_i e; subst e
      split at q <;> try (cases q; done)
      split at q <;> try (cases q; done)
      rename_i T p2 hT
      rw [Bool.and_eq_true, Bool.and_eq_true] at hT
      obtain ⟨d1, ρ1, h1, q⟩ := bd2_some q
      obtain ⟨U, h2, q⟩ := bd1_some q
      obtain ⟨z, h3, q⟩ := bd1_some q
      cases q
      rw [List.all_cons, Bool.and_eq_true] at ha
      exact x_isi hg (c.B _ hb) (glB_ok a hT.1.2) (c.B _ hT.1.1) (tyOf_ok h2) (h.E _ _ _ _ _ h1 ⟨_, h3, hk⟩) (okName_n hT.2) (okName_d hT.2) (star_cons ha.1) rfl rfl
    · obtain ⟨ds, ρ1, h1, q2⟩ := bd2_some q; clear q; have q := q2; clear q2
      cases args with
      | nil =>
        cases h1
        exfalso
        have e1 : bltB x [] = none := by unfold bltB; repeat' split <;> try rfl
        have e2 : bltT x [] = none := by unfold bltT; repeat' split <;> try rfl
        rw [e1, e2] at q
        cases q
      | cons e es =>
        rw [List.all_cons, Bool.and_eq_true] at ha
        split at q
        · rename_i d1 hd
          cases q
          obtain ⟨id, hv, hcd⟩ := bltB_ok a.calm hd
          exact x_callB hg (c.B _ hb) hv (args_ok h h1 ⟨_, hcd, hk⟩) (okName_n ho) (okName_d ho) (star_cons ha.1) (star_plain ha.2)
        · obtain ⟨d1, h2, h3⟩ := Option.map_eq_some_iff.mp q
          cases h3
          obtain ⟨id, hv, hcd⟩ := bltT_ok (X := X) h2
          exact x_callT hg (c.B _ hb) hv (args_ok h h1 ⟨_, hcd, hk⟩) (okName_n ho) (okName_d ho) (star_cons ha.1) (star_plain ha.2)
include a c h in
theorem callE_ok {x : Str} {args : List Expr} {p pos : Pos} {ρ ρ' : Rho} {d : D} {k : D → Rho → Prop} (q : callE cs r fm x args ρ = some (d, ρ')) (hk : k d ρ') : EX X (.Call (.Name x p) args [] pos) ρ k := by
  unfold callE at q
  split at q <;> try (cases q; done)
  rename_i hx
  rw [Bool.and_eq_true, Bool.and_eq_true] at hx
  obtain ⟨⟨hg, ho⟩, ha⟩ := hx
  have hg := glB_ok a hg
  split at q
  · rename_i f hf
    obtain ⟨ds, ρ1, h1, q⟩ := bd2_some q
    obtain ⟨d1, h2, q⟩ := bd1_some q
    cases q
    obtain ⟨n, m, hnm, hr, C⟩ := c.P _ _ hf
    cases args with
    | nil =>
      cases h1
      exact call0_ C hr hnm ⟨_, h2, hk⟩ hg (okName_d ho)
    | cons e es =>
      rw [List.all_cons, Bool.and_eq_true] at ha
      exact x_callP C hr hnm hg (args_ok h h1 ⟨_, h2, hk⟩) (okName_d ho) (star_cons ha.1) (star_plain ha.2)
  · split at q
    · rename_i f hf
      split at q <;> try (cases q; done)
      rename_i y py es
      split at q <;> try (cases q; done)
      rename_i i hi
      obtain ⟨g1, g2, g3, g4⟩ := slot_ok a hi
      split at q <;> try (cases q; done)
      rename_i hs
      obtain ⟨ds, ρ1, h1, q⟩ := bd2_some q
      split at q <;> try (cases q; done)
      rename_i hs2
      obtain ⟨d1, d2, h2, q⟩ := bd2_some q
      cases q
      obtain ⟨n, m, hnm, hr, C⟩ := c.O _ _ hf
      rw [List.all_cons, Bool.and_eq_true] at ha
      exact x_callO C hr hnm hg g1 g2 (args_ok h h1 ⟨_, _, _, _, hs2, h2, hk⟩) g3 g4 (okName_d ho) (star_cons ha.1) (star_plain ha.2) ⟨_, _, hs⟩
    · split at q <;> try (cases q; done)
      exact bltE_ok a c h hg ho (by assumption) ha q hk
include h in
theorem methE_ok {o e : Expr} {name : Str} {apos cpos : Pos} {ρ ρ' : Rho} {d : D} {k : D → Rho → Prop} (q : methE r fm o name apos cpos e ρ = some (d, ρ')) (hk : k d ρ') : EX X (.Call (.Attribute o name apos) [e] [] cpos) ρ k := by
  unfold methE at q
  split at q <;> try (cases q; done)
  rename_i hx
  rw [Bool.and_eq_true, Bool.and_eq_true] at hx
  obtain ⟨dx, ρ1, h1, q⟩ := bd2_some q
  split at q <;> try (cases q; done)
  obtain ⟨dy, ρ2, h2, q⟩ := bd2_some q
  obtain ⟨dz, h3, q⟩ := bd1_some q
  cases q
  obtain ⟨id, sl, ty, hm⟩ := strM_ok (X := X) h3
  exact x_m1 sl ty (h.E _ _ _ _ _ h1 ⟨_, rfl, h.E _ _ _ _ _ h2 ⟨_, hm, hk⟩⟩) (star_one hx.1.1) (base_plain hx.1.2) hx.2
theorem catD_ok {op : Operator} {x y : D} {zs : List D} (q : catD op x y = some zs) : OpF X (binaryOp op) x y zs := by
  unfold catD at q
  split at q
  · split at q <;> cases q
    exact of_cat (by rw [sizeLine_eq]; assumption)
  · split at q <;> try (cases q; done)
    rename_i hc
    cases q
    exact of_rep hc.1 hc.2.1 (by rw [sizeLine_eq]; exact hc.2.2)
  · cases q
include a h in
theorem popE_ok {o e : Expr} {name : Str} {apos cpos : Pos} {ρ ρ' : Rho} {d : D} {k : D → Rho → Prop} (q : popE r fm o name apos cpos e ρ = some (d, ρ')) (hk : k d ρ') : EX X (.Call (.Attribute o name apos) [e] [] cpos) ρ k := by
  unfold popE at q
  split at q <;> try (cases q; done)
  rename_i hx
  rw [Bool.and_eq_true, Bool.and_eq_true] at hx
  obtain ⟨⟨hn, hst⟩, hl⟩ := hx
  have hn := of_decide_eq_true hn
  subst hn
  split at q <;> try (cases q; done)
  rename_i ho
  obtain ⟨x, py, rfl, g1, g2, g3, g4, g5⟩ := ownAt_ok a ho
  obtain ⟨dy, ρ1, h1, q⟩ := bd2_some q
  split at q <;> try (cases q; done)
  rename_i hs
  split at q <;> try (cases q; done)
  rename_i hj
  split at q <;> try (cases q; done)
  rename_i hi
  split at q <;> try (cases q; done)
  rename_i hd
  cases q
  refine x_popAt g1 g2 (h.E _ _ _ _ _ h1 ⟨_, _, _, _, _, rfl, hs, hj.1, hj.2, hi, hd, hk⟩) ⟨_, _, g5⟩ g3 g4 (base_plain rfl) ?_ hl (star_cons hst) rfl
  rw [star_cons hst]
  rfl
include a c h in
theorem getE_ok {x name : Str} {p apos cpos : Pos} {e f : Expr} {ρ ρ' : Rho} {d : D} {k : D → Rho → Prop} (q : getE cs r fm x name apos cpos e f ρ = some (d, ρ')) (hk : k d ρ') : EX X (.Call (.Attribute (.Name x p) name apos) [e, f] [] cpos) ρ k := by
  unfold getE at q
  split at q <;> try (cases q; done)
  rename_i hg
  rw [Bool.and_eq_true, Bool.and_eq_true, Bool.and_eq_true, Bool.and_eq_true, Bool.and_eq_true] at hg
  obtain ⟨⟨⟨⟨⟨hn, g1⟩, g2⟩, g3⟩, g4⟩, g5⟩ := hg
  have hn := of_decide_eq_true hn
  subst hn
  obtain ⟨kvs, h0, q⟩ := bd1_some q
  obtain ⟨d1, ρ1, h1, q⟩ := bd2_some q
  obtain ⟨key, h2, q⟩ := bd1_some q
  obtain ⟨z, ρ2, h3, q⟩ := bd2_some q
  cases q
  obtain ⟨ad, hm, G⟩ := c.GD _ _ h0
  refine x_gget G (glB_ok a g1) hm ⟨base_plain rfl, ?_, g5, ?_⟩ (okName_d g2) (h.E _ _ _ _ _ h1 ⟨key, h2, h.E _ _ _ _ _ h3 hk⟩)
  · rw [star_cons g3, star_one g4]; rfl
  · rw [star_cons g3, star_one g4]; rfl
include a c h in
theorem stepE_ok {e : Expr} {ρ ρ' : Rho} {d : D} {k : D → Rho → Prop} (q : stepE cs r fm e ρ = some (d, ρ')) (hk : k d ρ') : EX X e ρ k := by
  unfold stepE at q
  split at q
  · obtain ⟨ct, ρ1, h1, q⟩ := bd2_some q
    split at q <;> cases q
    exact x_frL (h.F _ _ _ _ _ h1 ⟨_, rfl, hk⟩)
  split at q
  · exact nameE_ok a c q hk
  · obtain ⟨d1, h1, h2⟩ := Option.map_eq_some_iff.mp q
    cases h2
    exact constE_ok h1 hk
  · obtain ⟨dx, ρ1, h1, q⟩ := bd2_some q
    obtain ⟨dy, ρ2, h2, q⟩ := bd2_some q
    split at q
    · rename_i hz
      cases q
      exact x_frL (f_bin (h.E _ _ _ _ _ h1 (h.E _ _ _ _ _ h2 ⟨_, catD_ok hz, _, rfl, hk⟩)))
    · obtain ⟨dz, h3, q⟩ := bd1_some q
      cases q
      exact x_bin (h.E _ _ _ _ _ h1 (h.E _ _ _ _ _ h2 ⟨_, binD_ok h3, hk⟩))
  · obtain ⟨dx, ρ1, h1, q⟩ := bd2_some q
    split at q <;> cases q
    exact x_not (h.E _ _ _ _ _ h1 ⟨_, rfl, hk⟩)
  · obtain ⟨dx, ρ1, h1, q⟩ := bd2_some q
    split at q <;> cases q
    exact x_neg (h.E _ _ _ _ _ h1 ⟨_, rfl, hk⟩)
  · exact boolE_ok h q hk
  · obtain ⟨x, ρ1, h1, q⟩ := bd2_some q
    exact x_if (h.T _ _ _ _ _ h1 ⟨fun hx => h.E _ _ _ _ _ (ift q hx) hk, fun hx => h.E _ _ _ _ _ (iff_ q hx) hk⟩)
  · obtain ⟨x, ρ1, h1, q⟩ := bd2_some q
    cases q
    exact (cmpE_ok a c h h1).1 _ hk
  · obtain ⟨ds, ρ1, h1, q⟩ := bd2_some q
    split at q <;> cases q
    exact x_tup (args_ok h h1 ⟨by assumption, hk⟩)
  · exact subE_ok a c h q hk
  · exact callE_ok a c h q hk
  · exact getE_ok a c h q hk
  · split at q
    · exact popE_ok a h q hk
    · exact methE_ok h q hk
  · cases q
include a c h in
theorem stepT_ok {e : Expr} {ρ ρ' : Rho} {b : Bool} {k : Bool → Rho → Prop} (q : stepT r fm e ρ = some (b, ρ')) (hk : k b ρ') : TX X e ρ k := by
  unfold stepT at q
  split at q
  · obtain ⟨x, ρ1, h1, q⟩ := bd2_some q
    cases q
    exact t_not (h.T _ _ _ _ _ h1 hk)
  · exact t_w (boolW_ok h q hk)
  · exact (cmpE_ok a c h q).2 _ hk
  · split at q <;> try (cases q; done)
    rename_i hp
    split at q
    · rename_i ho
      cases q
      obtain ⟨x, p, rfl, g1, g2, g3, g4, g5⟩ := ownAt_ok a ho
      exact t_truO g1 g2 g5 hk g3 g4
    · obtain ⟨d, ρ1, h1, q⟩ := bd2_some q
      obtain ⟨z, h2, q⟩ := bd1_some q
      cases q
      exact t_tru (h.E _ _ _ _ _ h1 ⟨_, h2, hk⟩) (tru_plain hp)
end
end Ev

set_option Elab.async false
set_option linter.all false
set_option maxRecDepth 100000
namespace Ev
open PySem PySem.Spec PyProof.Rows L2 Lk

/-! ### targets -/
def slotL (fm : Fm) (x : Str) : Option Nat := if (locB fm.sc x && (fm.fnl || localB fm.sc x)) = true then ixOf fm.N x else none
theorem slotL_ok {X : Cx} {fm : Fm} (a : Agr X fm) {x : Str} {i : Nat} (h : slotL fm x = some i) : X.N[i]? = some x ∧ Loc X.env.scope x ∧ (X.fn x = true ∨ X.env.scope.names.lookup x = some .local) := by
  unfold slotL at h
  split at h
  · rename_i e
    rw [Bool.and_eq_true, Bool.or_eq_true] at e
    rw [a.N, a.sc]
    refine ⟨ixOf_ok h, locB_ok e.1, ?_⟩
    rcases e.2 with e2 | e2
    · exact .inl (a.fn e2 x)
    · exact .inr (localB_ok e2)
  · cases h
def tgtsG (f : Expr → D → Rho → Option Rho) : List Expr → List D → Rho → Option Rho
  | [], [], ρ => some ρ
  | e :: es, d :: ds, ρ => (f e d ρ).bind fun ρ1 => tgtsG f es ds ρ1
  | _, _, _ => none
def tgtE (fm : Fm) : Nat → Expr → D → Rho → Option Rho
  | 0, _, _, _ => none
  | n + 1, tg, d, ρ => match tg, d with
    | .Name x _, d => (slotL fm x).bind fun i => if isIo ρ[i]? = false then some (ρ.set i (.val d)) else none
    | .Tuple es _ _, .tuple ds => if (decide (ds.length = es.length) && es.all notStar) = true then tgtsG (tgtE fm n) es ds ρ else none
    | _, _ => none
def tgtsV (f : Expr → List Nat) : List Expr → List Nat
  | [] => []
  | e :: es => f e ++ tgtsV f es
def tgtV (fm : Fm) : Nat → Expr → List Nat
  | 0, _ => []
  | n + 1, tg => match tg with
    | .Name x _ => (slotL fm x).toList
    | .Tuple es _ _ => tgtsV (tgtV fm n) es
    | _ => []
theorem asg_cons {e : Expr} {es : List Expr} {env : Env} (h : notStar e = true) : assignEach (e :: es) env = (false, assign e env) :: assignEach es env := by
  cases e <;> first | rfl | (cases h)
theorem asg_len {env : Env} : ∀ {es : List Expr}, es.all notStar = true → (assignEach es env).length = es.length
  | [], _ => rfl
  | e :: es, h => by
    rw [List.all_cons, Bool.and_eq_true] at h
    rw [asg_cons h.1, List.length_cons, List.length_cons, asg_len h.2]
theorem asg_none {env : Env} : ∀ {es : List Expr}, es.all notStar = true → (assignEach es env).findIdx? (·.1) = none
  | [], _ => rfl
  | e :: es, h => by
    rw [List.all_cons, Bool.and_eq_true] at h
    rw [asg_cons h.1, List.findIdx?_cons, asg_none h.2]
    rfl
theorem tgts_ok {X : Cx} {f : Expr → D → Rho → Option Rho} {V : Expr → List Nat} (hf : ∀ tg d ρ ρ' (k : Rho → Prop), f tg d ρ = some ρ' → k ρ' → GX X tg d ρ (V tg) k) :
    ∀ {es : List Expr} {ds : List D} {ρ ρ' : Rho} {k : Rho → Prop}, es.all notStar = true → tgtsG f es ds ρ = some ρ' → k ρ' → GXs X es ds ρ (tgtsV V es) k
  | [], [], ρ, ρ', k, _, q, hk => by cases q; exact gs_nil hk
  | [], _ :: _, _, _, _, _, q, _ => by cases q
  | _ :: _, [], _, _, _, _, q, _ => by cases q
  | e :: es, d :: ds, ρ, ρ', k, hs, q, hk => by
    obtain ⟨ρ1, h1, h2⟩ := Option.bind_eq_some_iff.mp q
    rw [List.all_cons, Bool.and_eq_true] at hs
    exact gs_cons (hf _ _ _ _ _ h1 (tgts_ok hf hs.2 h2 hk)) (by rw [asg_cons hs.1]; rfl)
theorem tgt_ok {X : Cx} {fm : Fm} (a : Agr X fm) : ∀ (n : Nat) (tg : Expr) (d : D) (ρ ρ' : Rho) (k : Rho → Prop), tgtE fm n tg d ρ = some ρ' → k ρ' → GX X tg d ρ (tgtV fm n tg) k
  | 0, _, _, _, _, _, q, _ => by unfold tgtE at q; cases q
  | n + 1, tg, d, ρ, ρ', k, q, hk => by
    unfold tgtE at q
    split at q
    · rename_i x p
      obtain ⟨i, h1, h2⟩ := Option.bind_eq_some_iff.mp q
      split at h2 <;> cases h2
      obtain ⟨g1, g2, g3⟩ := slotL_ok a h1
      have e : tgtV fm (n + 1) (.Name x p) = [i] := by
        show (slotL fm x).toList = _
        rw [h1]; rfl
      rw [e]
      exact g_name a.nd g1 g2 (by assumption) hk g3
    · split at q <;> try (cases q; done)
      rename_i hc
      rw [Bool.and_eq_true] at hc
      exact g_tup a.calm (of_decide_eq_true hc.1) (tgts_ok (tgt_ok a n) hc.2 q hk) (asg_len hc.2) (asg_none hc.2)
    · cases q
theorem gx_sub {X : Cx} {tg : Expr} {d : D} {ρ : Rho} {vs vs' : List Nat} {k : Rho → Prop} (h : GX X tg d ρ vs k) (m : ∀ i ∈ vs, i ∈ vs') : GX X tg d ρ vs' k := fun W σ H O v M r Q q =>
  h W σ H O v M r Q fun ρ' σ' H' O' M' E' ⟨hl, hs⟩ hk => q ρ' σ' H' O' M' E' ⟨hl, fun i hi => hs i fun z => hi (m i z)⟩ hk

/-! ### what is forgotten -/
def dropR : List Bool → Rho → Rho
  | f :: fs, s :: ρ => (if (f && !isIo (some s)) = true then .non else s) :: dropR fs ρ
  | _, ρ => ρ
theorem dropR_weak : ∀ (fs : List Bool) (ρ : Rho), Weak ρ (dropR fs ρ)
  | [], ρ => by unfold dropR; exact Weak.refl ρ
  | f :: fs, [] => by unfold dropR; exact Weak.refl []
  | f :: fs, s :: ρ => by
    unfold dropR
    split
    · rename_i h
      rw [Bool.and_eq_true] at h
      exact .drop (by simpa using h.2) (dropR_weak fs ρ)
    · exact .keep (dropR_weak fs ρ)

/-! ### statements, one step -/
/-- what a statement needs of its frame: the names to be forgotten at the head of the loop of a line; whether a new list is handed back -/
structure Or where
  drop : Nat → List Bool
  fresh : Bool
def isAdd : Expr → Bool
  | .BinOp _ .Add _ _ => true
  | _ => false
def notTup : Expr → Bool
  | .Tuple .. => false
  | _ => true
def augG : Operator → Option (Int → Int → Int)
  | .Add => some fun i j => i + j
  | .Sub => some fun i j => i - j
  | _ => none
theorem augG_ok {X : Cx} {op : Operator} {g : Int → Int → Int} (h : augG op = some g) : PIp X op (ipI g) := by
  unfold augG at h
  split at h <;> cases h
  · exact ip_add
  · exact ip_sub
section
variable (cs : Cs) (or_ : Or) (r : Evs) (fm : Fm)
/-- what is walked -/
def iterE (tg e : Expr) (ρ : Rho) : Option (List D × Rho) := match e with
  | .Call (.Name x _) [a] [] _ => if x = "range" then
      (if (glB fm.sc "range" && cs.B "range" && notStar a) = true then bd2 (r.E fm a ρ) fun d ρ1 => match d with
        | .int j => if rngOk 0 j = true then some ((rngL 0 j).map .int, ρ1) else none
        | _ => none else none)
    else if x = "enumerate" then
      (if (glB fm.sc "enumerate" && cs.B "enumerate" && notStar a && !notTup tg) = true then bd2 (r.E fm a ρ) fun d ρ1 => match d with
        | .list xs => if xs.length ≤ 16777216 then some (enumD xs, ρ1) else none
        | _ => none else none)
    else seqE e ρ
  | .Call (.Name x _) [a, b] [] _ => if x = "range" then
      (if (glB fm.sc "range" && cs.B "range" && notStar a && notStar b) = true then bd2 (r.E fm a ρ) fun d ρ1 => match d with
        | .int i => bd2 (r.E fm b ρ1) fun d ρ2 => (match d with
          | .int j => if rngOk i j = true then some ((rngL i j).map .int, ρ2) else none
          | _ => none)
        | _ => none else none)
    else if x = "zip" then
      (if (glB fm.sc "zip" && cs.B "zip" && notStar a && notStar b && !notTup tg) = true then bd2 (argsE r fm [a, b] ρ) fun ds ρ1 => match ds with
        | [.list xs, .list ys] => if xs.length ≤ 16777216 then some (zipD xs ys, ρ1) else none
        | [.tuple xs, .tuple ys] => if xs.length ≤ 16777216 then some (zipD xs ys, ρ1) else none
        | _ => none else none)
    else seqE e ρ
  | e => seqE e ρ
where
  seqE (e : Expr) (ρ : Rho) : Option (List D × Rho) := bd2 (r.E fm e ρ) fun d ρ1 => match d with
    | .list ds => some (ds, ρ1)
    | .tuple ds => some (ds, ρ1)
    | .str z => if z.length ≤ 16777216 then some (signsD z, ρ1) else none
    | _ => none
def ssE : List Stmt → Rho → Option Rs
  | [], ρ => some (.nx ρ)
  | st :: sts, ρ => match r.S fm st ρ with
    | some (.nx ρ1) => ssE sts ρ1
    | o => o
def turnE (tg : Expr) (body : List Stmt) (fs : List Bool) (x : D) (s : Rho) : Option (Fl Rho (Sum (D × Rho) (Ct × Rho))) :=
  (tgtE fm 20 tg x s).bind fun ρ2 => match ssE r fm body ρ2 with
    | some (.nx ρ3) => some (.nx (dropR fs ρ3))
    | some (.ct ρ3) => some (.nx (dropR fs ρ3))
    | some (.bk ρ3) => some (.bk (dropR fs ρ3))
    | some (.rt d ρ3) => some (.rt (.inl (d, ρ3)))
    | some (.rf c ρ3) => some (.rt (.inr (c, ρ3)))
    | none => none
def forE (tg iter : Expr) (body : List Stmt) (line : Nat) (ρ : Rho) : Option Rs :=
  if notSet iter = true then bd2 (iterE cs r fm tg iter ρ) fun items ρ1 => match forL (turnE r fm tg body (or_.drop line)) items (dropR (or_.drop line) ρ1) with
    | some (.nx ρ2) => some (.nx ρ2)
    | some (.bk ρ2) => some (.nx ρ2)
    | some (.rt (.inl (d, ρ2))) => some (.rt d ρ2)
    | some (.rt (.inr (c, ρ2))) => some (.rf c ρ2)
    | none => none
  else none
def assignE (tg e : Expr) (ρ : Rho) : Option Rs := match tg with
  | .Name x _ => (slotL fm x).bind fun i =>
    if notComp e = true then
      if (freshB cs e || (isAdd e && (r.F fm e ρ).isSome)) = true then bd2 (r.F fm e ρ) fun c ρ1 => if isIo ρ1[i]? = false then some (.nx (ρ1.set i (.own false c))) else none
      else bd2 (r.E fm e ρ) fun d ρ1 => if isIo ρ1[i]? = false then some (.nx (ρ1.set i (.val d))) else none
    else none
  | .Subscript (.Name x _) a _ => if notIx a = true then (slot fm x).bind fun i => bd2 (r.E fm e ρ) fun d ρ1 => (match ρ1[i]? with
      | some (.own _ (.lst _)) => bd2 (r.E fm a ρ1) fun dy ρ2 => (match dy, ρ2[i]? with
        | .int k, some (.own b (.lst ds)) => (ixN ds.length k).map fun j => .nx (ρ2.set i (.own b (.lst (ds.set j d))))
        | _, _ => none)
      | _ => none) else none
  | .Tuple ts kk p => if notTup e = true then bd2 (r.E fm e ρ) fun d ρ1 => (tgtE fm 20 (.Tuple ts kk p) d ρ1).map .nx else none
  | _ => none
def augE (tg : Expr) (op : Operator) (e : Expr) (ρ : Rho) : Option Rs := (augG op).bind fun g => match tg with
  | .Name x _ => (slotL fm x).bind fun i => (match ρ[i]? with
    | some (.val (.int n)) => bd2 (r.E fm e ρ) fun d ρ1 => (match d with
      | .int m => if isIo ρ1[i]? = false then some (.nx (ρ1.set i (.val (.int (g n m))))) else none
      | _ => none)
    | _ => none)
  | .Subscript (.Name x _) a _ => if notIx a = true then (slot fm x).bind fun i => (match ρ[i]? with
    | some (.own _ (.lst _)) => bd2 (r.E fm a ρ) fun dy ρ1 => (match dy, ρ1[i]? with
      | .int k, some (.own _ (.lst ds)) => if 0 ≤ k then (match ds[k.toNat]? with
        | some (.int n) => bd2 (r.E fm e ρ1) fun d ρ2 => (match d, ρ2[i]? with
          | .int m, some (.own b (.lst ds2)) => if k.toNat < ds2.length then some (.nx (ρ2.set i (.own b (.lst (ds2.set k.toNat (.int (g n m))))))) else none
          | _, _ => none)
        | _ => none) else none
      | _, _ => none)
    | _ => none) else none
  | _ => none
def exprE (e : Expr) (ρ : Rho) : Option Rs := match e with
  | .Call (.Attribute (.Name x py) name apos) [a] [] cpos => if (decide (name = "append") && notStar a && (apos.endLine == cpos.line)) = true then (slot fm x).bind fun i => (match ρ[i]? with
    | some (.own _ (.lst _)) => bd2 (r.E fm a ρ) fun d ρ1 => (match ρ1[i]? with
      | some (.own b (.lst ds)) => if ds.length < 16777216 then some (.nx (ρ1.set i (.own b (.lst (ds ++ [d]))))) else none
      | _ => none)
    | _ => none) else none
  | e => if notComp e = true then bd2 (r.E fm e ρ) fun _ ρ1 => some (.nx ρ1) else none
def retE (e : Expr) (ρ : Rho) : Option Rs :=
  if or_.fresh = true then (match e with
    | .Name x _ => (slot fm x).bind fun i => (match ρ[i]? with
      | some (.own false c) => some (.rf c (ρ.set i .non))
      | _ => none)
    | e => bd2 (r.F fm e ρ) fun c ρ1 => some (.rf c ρ1))
  else bd2 (r.E fm e ρ) fun d ρ1 => some (.rt d ρ1)
def stepS (st : Stmt) (ρ : Rho) : Option Rs := match st with
  | .Assign [tg] e _ => assignE cs r fm tg e ρ
  | .AugAssign tg op e _ => augE r fm tg op e ρ
  | .Expr e _ => exprE r fm e ρ
  | .Return (some e) _ => retE or_ r fm e ρ
  | .If c A B _ => bd2 (r.T fm c ρ) fun b ρ1 => if b = true then ssE r fm A ρ1 else ssE r fm B ρ1
  | .For tg iter body [] pos => forE cs or_ r fm tg iter body pos.line ρ
  | .Break _ => some (.bk ρ)
  | .Continue _ => some (.ct ρ)
  | .Pass _ => some (.nx ρ)
  | _ => none
end
section
variable {X : Cx} {cs : Cs} {or_ : Or} {r : Evs} {fm : Fm} (a : Agr X fm) (c : CsOk X cs) (h : Snd X fm r)
include h in
theorem ssE_ok : ∀ {sts : List Stmt} {ρ : Rho} {rs : Rs} {N : Wish}, ssE r fm sts ρ = some rs → Fits N rs → SXs X sts ρ N
  | [], ρ, rs, N, q, hf => by cases q; exact ss_nil hf
  | st :: sts, ρ, rs, N, q, hf => by
    unfold ssE at q
    split at q
    · rename_i ρ1 h1
      exact ss_cons (h.S _ _ _ _ h1 (ssE_ok q hf))
    · rename_i o hn
      refine ss_cons (h.S _ _ _ _ q ?_)
      cases rs with
      | nx ρ1 => exact (hn _ q).elim
      | rt d ρ1 => exact hf
      | rf d ρ1 => exact hf
      | bk ρ1 => exact hf
      | ct ρ1 => exact hf
theorem notTup_ok {tg : Expr} (h : (!notTup tg) = true) : ∃ es k p, tg = .Tuple es k p := by
  cases tg <;> first | exact ⟨_, _, _, rfl⟩ | (cases h)
include a c h in
theorem iterE_ok {tg e : Expr} {ρ ρ' : Rho} {ds : List D} {k : List D → Rho → Prop} (q : iterE cs r fm tg e ρ = some (ds, ρ')) (hk : k ds ρ') : IX X tg e ρ k := by
  have seq : ∀ {e : Expr}, iterE.seqE r fm e ρ = some (ds, ρ') → IX X tg e ρ k := fun {e} q => by
    unfold iterE.seqE at q
    obtain ⟨d, ρ1, h1, q⟩ := bd2_some q
    split at q <;> try (cases q; done)
    · cases q; exact i_lst (h.E _ _ _ _ _ h1 ⟨_, rfl, hk⟩)
    · cases q; exact i_tup (h.E _ _ _ _ _ h1 ⟨_, rfl, hk⟩)
    · split at q <;> cases q
      exact i_str (h.E _ _ _ _ _ h1 ⟨_, rfl, by rw [sizeLine_eq]; assumption, hk⟩)
  unfold iterE at q
  split at q
  · split at q
    · rename_i hx
      subst hx
      split at q <;> try (cases q; done)
      rename_i hg
      rw [Bool.and_eq_true, Bool.and_eq_true] at hg
      obtain ⟨d, ρ1, h1, q⟩ := bd2_some q
      split at q <;> try (cases q; done)
      split at q <;> cases q
      exact i_rng1 (glB_ok a hg.1.1) (c.B _ hg.1.2) (h.E _ _ _ _ _ h1 ⟨_, rfl, by assumption, hk⟩) (star_cons hg.2) (star_one hg.2)
    · split at q
      · rename_i hx
        subst hx
        split at q <;> try (cases q; done)
        rename_i hg
        rw [Bool.and_eq_true, Bool.and_eq_true, Bool.and_eq_true] at hg
        obtain ⟨⟨⟨g1, g2⟩, g3⟩, g4⟩ := hg
        obtain ⟨es, kk, pp, rfl⟩ := notTup_ok g4
        obtain ⟨d, ρ1, h1, q⟩ := bd2_some q
        split at q <;> try (cases q; done)
        split at q <;> cases q
        exact i_enum (glB_ok a g1) (c.B _ g2) (h.E _ _ _ _ _ h1 ⟨_, rfl, by rw [sizeLine_eq]; assumption, hk⟩) (star_cons g3) (star_one g3)
      · exact seq q
  · split at q
    · rename_i hx
      subst hx
      split at q <;> try (cases q; done)
      rename_i hg
      rw [Bool.and_eq_true, Bool.and_eq_true, Bool.and_eq_true] at hg
      obtain ⟨d, ρ1, h1, q⟩ := bd2_some q
      split at q <;> try (cases q; done)
      obtain ⟨d2, ρ2, h2, q⟩ := bd2_some q
      split at q <;> try (cases q; done)
      split at q <;> cases q
      refine i_rng2 (glB_ok a hg.1.1.1) (c.B _ hg.1.1.2) (h.E _ _ _ _ _ h1 ⟨_, rfl, h.E _ _ _ _ _ h2 ⟨_, rfl, by assumption, hk⟩⟩) (star_cons hg.1.2) (star_cons hg.2) ?_ (star_one hg.2)
      rw [star_cons hg.1.2, star_one hg.2]
    · split at q
      · rename_i hx
        subst hx
        split at q <;> try (cases q; done)
        rename_i hg
        rw [Bool.and_eq_true, Bool.and_eq_true, Bool.and_eq_true, Bool.and_eq_true] at hg
        obtain ⟨⟨⟨⟨g1, g2⟩, g3⟩, g4⟩, g5⟩ := hg
        obtain ⟨es, kk, pp, rfl⟩ := notTup_ok g5
        obtain ⟨ds1, ρ1, h1, q⟩ := bd2_some q
        have hst : ∀ {p : Pos}, (backTo p (starEach [_] X.env)).any (·.1) = false := fun {p} => star_plain (by rw [List.all_cons, g4]; rfl)
        split at q <;> try (cases q; done)
        · split at q <;> cases q
          exact i_zip (glB_ok a g1) (c.B _ g2) (args_ok h h1 ⟨_, _, .inl rfl, by rw [sizeLine_eq]; assumption, hk⟩) (star_cons g3) hst
        · split at q <;> cases q
          exact i_zip (glB_ok a g1) (c.B _ g2) (args_ok h h1 ⟨_, _, .inr rfl, by rw [sizeLine_eq]; assumption, hk⟩) (star_cons g3) hst
      · exact seq q
  · exact seq q
include a c h in
theorem forE_ok {tg iter : Expr} {body : List Stmt} {pos : Pos} {ρ : Rho} {rs : Rs} {N : Wish} (q : forE cs or_ r fm tg iter body pos.line ρ = some rs) (hf : Fits N rs) : SX X (.For tg iter body [] pos) ρ N := by
  unfold forE at q
  split at q <;> try (cases q; done)
  rename_i hs
  obtain ⟨items, ρ1, h1, q⟩ := bd2_some q
  have hfl : ∃ fl, forL (turnE r fm tg body (or_.drop pos.line)) items (dropR (or_.drop pos.line) ρ1) = some fl := by
    cases e : forL (turnE r fm tg body (or_.drop pos.line)) items (dropR (or_.drop pos.line) ρ1) with
    | none => rw [e] at q; cases q
    | some fl => exact ⟨fl, rfl⟩
  obtain ⟨fl, hfl⟩ := hfl
  rw [hfl] at q
  refine s_for (R' := Sum (D × Rho) (Ct × Rho)) (by rw [a.xe]; exact PassesOwn.never) a.calm (iterE_ok a c h h1 ⟨turnE r fm tg body (or_.drop pos.line), items, dropR (or_.drop pos.line) ρ1, fl, (List.map_id items).symm, dropR_weak _ _, hfl, fun x s f1 hstep => ?_, fun s hfs => ?_⟩) (fold_plain hs) (r := id) (ρS := id) (vs := tgtV fm 20 tg)
  · unfold turnE at hstep
    obtain ⟨ρ2, h2, h3⟩ := Option.bind_eq_some_iff.mp hstep
    refine tgt_ok a 20 _ _ _ _ _ h2 ?_
    cases e : ssE r fm body ρ2 with
    | none => rw [e] at h3; cases h3
    | some rs1 =>
      rw [e] at h3
      refine ssE_ok h e ?_
      cases rs1 with
      | nx ρ3 => cases h3; exact ⟨_, rfl, dropR_weak _ _⟩
      | ct ρ3 => cases h3; exact ⟨_, rfl, dropR_weak _ _⟩
      | bk ρ3 => cases h3; exact ⟨_, rfl, dropR_weak _ _⟩
      | rt d ρ3 =>
        cases h3
        refine ⟨_, rfl, fun hz => ?_⟩
        subst hz
        cases q; exact hf
      | rf d ρ3 =>
        cases h3
        refine ⟨_, rfl, fun hz => ?_⟩
        subst hz
        cases q; exact hf
  · rcases hfs with hfs | hfs <;> subst hfs <;> cases q <;> exact hf
theorem sub_swap {e : Expr} {l : Nat} {env : Env} {x b : Expr} {p : Pos} : swapsWithSole [.Subscript x b p] e l env = pure false := by
  cases e <;> rfl
theorem sub_stores {e : Expr} {env : Env} {x b : Expr} {p : Pos} : swappedStores [.Subscript x b p] e env = pure none := by
  cases e <;> rfl
theorem sub_assign {a x : Expr} {p : Pos} {env : Env} (h : notIx a = true) : ∀ v, assign (.Subscript x a p) env v = (do
    let ov ← holding [v] (eval x env)
    let iv ← holding [v, ov] (eval a env)
    standAt p
    holding [v, ov, iv] (setItem ov iv v)
    release [v, ov, iv] []) := by
  intro v
  cases a <;> first | rfl | (cases h)
theorem sub_aug {a : Expr} (h : notIx a = true) : ∀ ov iv new, augStore a ov iv new = (do holding [new, ov, iv] (setItem ov iv new); release [new, ov, iv] []; pure .next) := by
  intro ov iv new
  cases a <;> first | rfl | (cases h)
theorem tup_swap {e : Expr} {l : Nat} {env : Env} {ts : List Expr} {k : Nat} {p : Pos} : swapsWithSole [.Tuple ts k p] e l env = pure false := by
  cases e <;> rfl
theorem tup_stores {e : Expr} {env : Env} {ts : List Expr} {k : Nat} {p : Pos} (h : notTup e = true) : swappedStores [.Tuple ts k p] e env = pure none := by
  cases e <;> first | rfl | (cases h)
include a c h in
theorem assignE_ok {tg e : Expr} {pos : Pos} {ρ : Rho} {rs : Rs} {N : Wish} (q : assignE cs r fm tg e ρ = some rs) (hf : Fits N rs) : SX X (.Assign [tg] e pos) ρ N := by
  unfold assignE at q
  split at q
  · obtain ⟨i, hi, q⟩ := Option.bind_eq_some_iff.mp q
    obtain ⟨g1, g2, g3⟩ := slotL_ok a hi
    split at q <;> try (cases q; done)
    rename_i hc
    split at q
    · obtain ⟨ct, ρ1, h1, q⟩ := bd2_some q
      split at q <;> cases q
      exact s_setO a.nd g1 g2 (h.F _ _ _ _ _ h1 ⟨by assumption, hf⟩) (swap_false hc) g3
    · obtain ⟨d, ρ1, h1, q⟩ := bd2_some q
      split at q <;> cases q
      exact s_set a.nd g1 g2 (h.E _ _ _ _ _ h1 ⟨by assumption, hf⟩) (swap_false hc) g3
  · split at q <;> try (cases q; done)
    rename_i hn
    obtain ⟨i, hi, q⟩ := Option.bind_eq_some_iff.mp q
    obtain ⟨g1, g2, g3, g4⟩ := slot_ok a hi
    obtain ⟨d, ρ1, h1, q⟩ := bd2_some q
    split at q <;> try (cases q; done)
    rename_i hs
    obtain ⟨dy, ρ2, h2, q⟩ := bd2_some q
    split at q <;> try (cases q; done)
    rename_i hs2
    obtain ⟨j, h3, h4⟩ := Option.map_eq_some_iff.mp q
    subst h4
    exact s_item g1 g2 (h.E _ _ _ _ _ h1 ⟨⟨_, _, hs⟩, h.E _ _ _ _ _ h2 ⟨_, _, _, _, rfl, hs2, h3, hf⟩⟩) g3 g4 (sub_assign hn) sub_swap sub_stores rfl
  · split at q <;> try (cases q; done)
    rename_i hn
    obtain ⟨d, ρ1, h1, q⟩ := bd2_some q
    obtain ⟨ρ2, h2, h3⟩ := Option.map_eq_some_iff.mp q
    subst h3
    exact s_unp (h.E _ _ _ _ _ h1 (tgt_ok a 20 _ _ _ _ _ h2 hf)) tup_swap (tup_stores hn) rfl
  · cases q
include a h in
theorem augE_ok {tg e : Expr} {op : Operator} {pos : Pos} {ρ : Rho} {rs : Rs} {N : Wish} (q : augE r fm tg op e ρ = some rs) (hf : Fits N rs) : SX X (.AugAssign tg op e pos) ρ N := by
  unfold augE at q
  obtain ⟨g, hg, q⟩ := Option.bind_eq_some_iff.mp q
  split at q
  · obtain ⟨i, hi, q⟩ := Option.bind_eq_some_iff.mp q
    obtain ⟨g1, g2, g3⟩ := slotL_ok a hi
    split at q <;> try (cases q; done)
    rename_i hs
    obtain ⟨d, ρ1, h1, q⟩ := bd2_some q
    split at q <;> try (cases q; done)
    split at q <;> cases q
    exact s_augI a.nd g1 g2 (augG_ok hg) hs (h.E _ _ _ _ _ h1 ⟨_, rfl, by assumption, hf⟩) g3
  · split at q <;> try (cases q; done)
    rename_i hn
    obtain ⟨i, hi, q⟩ := Option.bind_eq_some_iff.mp q
    obtain ⟨g1, g2, g3, g4⟩ := slot_ok a hi
    split at q <;> try (cases q; done)
    rename_i hs
    obtain ⟨dy, ρ1, h1, q⟩ := bd2_some q
    split at q <;> try (cases q; done)
    rename_i hs1
    split at q <;> try (cases q; done)
    rename_i hk
    split at q <;> try (cases q; done)
    rename_i hn2
    obtain ⟨d, ρ2, h2, q⟩ := bd2_some q
    split at q <;> try (cases q; done)
    rename_i hs2
    split at q <;> cases q
    exact s_augItem g1 g2 (augG_ok hg) (h.E _ _ _ _ _ h1 ⟨_, _, _, _, rfl, hk, hs1, hn2, h.E _ _ _ _ _ h2 ⟨_, _, _, rfl, hs2, by assumption, hf⟩⟩) ⟨_, _, hs⟩ g3 g4 (sub_aug hn)
  · cases q
include a h in
theorem exprE_ok {e : Expr} {pos : Pos} {ρ : Rho} {rs : Rs} {N : Wish} (q : exprE r fm e ρ = some rs) (hf : Fits N rs) : SX X (.Expr e pos) ρ N := by
  unfold exprE at q
  split at q
  · split at q <;> try (cases q; done)
    rename_i hc
    rw [Bool.and_eq_true, Bool.and_eq_true] at hc
    obtain ⟨⟨hn, hst⟩, hl⟩ := hc
    have hn := of_decide_eq_true hn
    subst hn
    obtain ⟨i, hi, q⟩ := Option.bind_eq_some_iff.mp q
    obtain ⟨g1, g2, g3, g4⟩ := slot_ok a hi
    split at q <;> try (cases q; done)
    rename_i hs
    obtain ⟨d, ρ1, h1, q⟩ := bd2_some q
    split at q <;> try (cases q; done)
    rename_i hs1
    split at q <;> cases q
    refine s_app g1 g2 (h.E _ _ _ _ _ h1 ⟨_, _, hs1, by assumption, hf⟩) ⟨_, _, hs⟩ g3 g4 (swap_false rfl) (base_plain rfl) ?_ hl (star_cons hst) rfl
    rw [star_cons hst]
    rfl
  · split at q <;> try (cases q; done)
    rename_i hn
    obtain ⟨d, ρ1, h1, q⟩ := bd2_some q
    cases q
    exact s_expr (h.E _ _ _ _ _ h1 hf) (swap_false hn)
include a h in
theorem retE_ok {e : Expr} {pos : Pos} {ρ : Rho} {rs : Rs} {N : Wish} (q : retE or_ r fm e ρ = some rs) (hf : Fits N rs) : SX X (.Return (some e) pos) ρ N := by
  unfold retE at q
  split at q
  · split at q
    · obtain ⟨i, hi, q⟩ := Option.bind_eq_some_iff.mp q
      obtain ⟨g1, g2, g3, g4⟩ := slot_ok a hi
      split at q <;> cases q
      exact s_retO g1 g2 (by assumption) hf g3 g4
    · obtain ⟨ct, ρ1, h1, q⟩ := bd2_some q
      cases q
      exact s_retF (h.F _ _ _ _ _ h1 hf)
  · obtain ⟨d, ρ1, h1, q⟩ := bd2_some q
    cases q
    exact s_ret (h.E _ _ _ _ _ h1 hf)
include a c h in
theorem stepS_ok {st : Stmt} {ρ : Rho} {rs : Rs} {N : Wish} (q : stepS cs or_ r fm st ρ = some rs) (hf : Fits N rs) : SX X st ρ N := by
  unfold stepS at q
  split at q
  · exact assignE_ok a c h q hf
  · exact augE_ok a h q hf
  · exact exprE_ok a h q hf
  · exact retE_ok a h q hf
  · obtain ⟨b, ρ1, h1, q⟩ := bd2_some q
    exact s_if (h.T _ _ _ _ _ h1 ⟨fun hb => ssE_ok h (ift q hb) hf, fun hb => ssE_ok h (iff_ q hb) hf⟩)
  · exact forE_ok a c h q hf
  · cases q; exact s_break hf
  · cases q; exact s_cont hf
  · cases q; exact s_pass hf
  · cases q
end
end Ev

set_option Elab.async false
set_option linter.all false
set_option maxRecDepth 100000
namespace Ev
open PySem PySem.Spec PyProof.Rows L2 Lk

/-! ### comprehensions -/
def relab (fm : Fm) (scope : Scope) : Scope :=
  { scope with names := scope.names.map fun (n, k) => if (k == .free && fm.sc.kind == .function && fm.sc.names.lookup n == some .cell) then (n, .cell) else (n, k) }
def blkFm (fm : Fm) (scope : Scope) : Fm := ⟨fm.N, relab fm scope, false⟩
theorem agr_blk {X : Cx} {fm : Fm} (a : Agr X fm) {scope : Scope} (hk : scope.kind = .function) {s : Shared} {H : Hp} {C : Addr} {cl : List (Str × Addr)} {fp : List Addr} : Agr (bk X scope s H C cl fp) (blkFm fm scope) where
  N := a.N
  sc := by
    show relabel scope X.env = relab fm scope
    unfold relabel relab Env.kindOf
    rw [a.sc]
  fn := fun h => by cases h
  nd := a.nd
  kind := by
    show (relabel scope X.env).kind = _
    exact hk
  calm := a.calm
  xe := rfl
theorem cs_blk {X : Cx} {cs : Cs} (c : CsOk X cs) {scope : Scope} {s : Shared} {H : Hp} {C : Addr} {cl : List (Str × Addr)} {fp : List Addr} : CsOk (bk X scope s H C cl fp) cs :=
  ⟨c.room, c.P, c.O, c.F, c.G, c.GD, c.B⟩
def isNonS : Option Sl → Bool
  | some .non => true
  | _ => false
theorem isNonS_ok {o : Option Sl} (h : isNonS o = true) : o = some .non := by
  unfold isNonS at h
  split at h
  · rfl
  · cases h
def lcCond (n : Nat) (vs : List Nat) (s : Rho) : Bool := decide (s.length = n) && vs.all fun v => isNonS s[v]?
theorem lcCond_blank {n : Nat} {vs : List Nat} {s : Rho} (h : lcCond n vs s = true) : blank s vs = s ∧ s.length = n := by
  unfold lcCond at h
  rw [Bool.and_eq_true, List.all_eq_true] at h
  refine ⟨List.ext_getElem? fun i => ?_, of_decide_eq_true h.1⟩
  by_cases hi : i ∈ vs
  · have h1 := isNonS_ok (h.2 i hi)
    rw [h1]
    refine blank_in hi ?_
    exact (List.getElem?_eq_some_iff.mp h1).1
  · exact blank_out hi
def ownOf (fm : Fm) (scope : Scope) : List (Str × Nat) := scope.names.filterMap fun (n, k) => match k with
  | .local => (ixOf fm.N n).map fun i => (n, i)
  | .cell => (ixOf fm.N n).map fun i => (n, i)
  | _ => none
section
variable (cs : Cs) (r : Evs) (fm : Fm)
def ifsE : List Expr → Rho → Option (Bool × Rho)
  | [], ρ => some (true, ρ)
  | [c], ρ => r.T fm c ρ
  | _, _ => none
def lcTurn (elt tg : Expr) (ifs : List Expr) (vs : List Nat) (n : Nat) (x : D) (s : Rho) : Option (Option D × Rho) :=
  if lcCond n vs s = true then (tgtE fm 20 tg x s).bind fun ρ2 => bd2 (ifsE r fm ifs ρ2) fun b ρ3 =>
    if b = true then bd2 (r.E fm elt ρ3) fun d ρ4 => if lcCond n vs (blank ρ4 vs) = true then some (some d, blank ρ4 vs) else none
    else if lcCond n vs (blank ρ3 vs) = true then some (none, blank ρ3 vs) else none
  else none
def lcFlags (n : Nat) (vs : List Nat) : List Bool := (List.range n).map fun i => vs.contains i
def lcE (elt tg iter : Expr) (ifs : List Expr) (scope : Scope) (ρ : Rho) : Option (List D × Rho) :=
  if (blkC fm.N fm.sc scope (ownOf fm scope) && notSet iter && (tgtV (blkFm fm scope) 20 tg).all fun i => decide (i ∈ (ownOf fm scope).map (·.2))) = true then
    bd2 (iterE cs r fm tg iter ρ) fun items ρ1 =>
      bd2 (if lcCond ρ1.length ((ownOf fm scope).map (·.2)) (dropR (lcFlags ρ1.length ((ownOf fm scope).map (·.2))) ρ1) = true then
        lcL (lcTurn r (blkFm fm scope) elt tg ifs ((ownOf fm scope).map (·.2)) ρ1.length) items (dropR (lcFlags ρ1.length ((ownOf fm scope).map (·.2))) ρ1) else none) fun ys s1 =>
        if lcCond ρ1.length ((ownOf fm scope).map (·.2)) s1 = true then some (ys, s1) else none
  else none
def lc2Turn (elt tg : Expr) (ifs : List Expr) (tg1 iter1 : Expr) (ifs1 : List Expr) (vs vs1 : List Nat) (n : Nat) (x : D) (s : Rho) : Option (List D × Rho) :=
  if lcCond n vs s = true then (tgtE fm 20 tg x s).bind fun ρ2 => bd2 (ifsE r fm ifs ρ2) fun b ρ3 =>
    if b = true then bd2 (iterE cs r fm tg1 iter1 ρ3) fun items1 ρ4 =>
      bd2 (if lcCond n vs1 (dropR (lcFlags n vs1) ρ4) = true then lcL (lcTurn r fm elt tg1 ifs1 vs1 n) items1 (dropR (lcFlags n vs1) ρ4) else none) fun ys1 s11 =>
        if (lcCond n vs1 s11 && lcCond n vs (blank s11 vs)) = true then some (ys1, blank s11 vs) else none
    else if lcCond n vs (blank ρ3 vs) = true then some ([], blank ρ3 vs) else none
  else none
def lc2E (elt tg iter : Expr) (ifs : List Expr) (tg1 iter1 : Expr) (ifs1 : List Expr) (scope : Scope) (ρ : Rho) : Option (List D × Rho) :=
  if (blkC fm.N fm.sc scope (ownOf fm scope) && notSet iter && notSet iter1 && (tgtV (blkFm fm scope) 20 tg).all (fun i => decide (i ∈ (ownOf fm scope).map (·.2))) && (tgtV (blkFm fm scope) 20 tg1).all (fun i => decide (i ∈ (ownOf fm scope).map (·.2)))
      && lcCond fm.N.length (tgtV (blkFm fm scope) 20 tg1) (List.replicate fm.N.length .non)) = true then
    bd2 (iterE cs r fm tg iter ρ) fun items ρ1 =>
      bd2 (if lcCond fm.N.length ((ownOf fm scope).map (·.2)) (dropR (lcFlags fm.N.length ((ownOf fm scope).map (·.2))) ρ1) = true then
        lcM (lc2Turn cs r (blkFm fm scope) elt tg ifs tg1 iter1 ifs1 ((ownOf fm scope).map (·.2)) (tgtV (blkFm fm scope) 20 tg1) fm.N.length) items (dropR (lcFlags fm.N.length ((ownOf fm scope).map (·.2))) ρ1) else none) fun ys s1 =>
        if (lcCond fm.N.length ((ownOf fm scope).map (·.2)) s1 && decide (ys.length ≤ 16777216)) = true then some (ys, s1) else none
  else none
/-- range's arguments, where it is the one argument -/
def rangeOf : List Expr → Option (List Expr)
  | [.Call (.Name x _) es [] _] => if x = "range" then some es else none
  | _ => none
theorem rangeOf_ok {args es : List Expr} (h : rangeOf args = some es) : ∃ p pos, args = [.Call (.Name "range" p) es [] pos] := by
  unfold rangeOf at h
  split at h
  · split at h <;> cases h
    rename_i hx
    subst hx
    exact ⟨_, _, rfl⟩
  · cases h
def pairsE : List (Option Expr) → List Expr → Rho → Option (List (Key × D) × Rho)
  | [], [], ρ => some ([], ρ)
  | some kx :: ks, vx :: vs, ρ => bd2 (r.E fm kx ρ) fun d ρ1 => bd1 (toKey d) fun key => bd2 (r.E fm vx ρ1) fun e ρ2 => bd2 (pairsE ks vs ρ2) fun kvs ρ3 => some ((key, e) :: kvs, ρ3)
  | _, _, _ => none
/-- a new list -/
def stepF (e : Expr) (ρ : Rho) : Option (Ct × Rho) := match e with
  | .List es _ => bd2 (argsE r fm es ρ) fun ds ρ1 => if ds.length ≤ 1000 then some (.lst ds, ρ1) else none
  | .ListComp elt [⟨tg, iter, ifs, 0⟩] scope _ => bd2 (lcE cs r fm elt tg iter ifs scope ρ) fun ds ρ1 => some (.lst ds, ρ1)
  | .ListComp elt [⟨tg, iter, ifs, 0⟩, ⟨tg1, iter1, ifs1, 0⟩] scope _ => bd2 (lc2E cs r fm elt tg iter ifs tg1 iter1 ifs1 scope ρ) fun ds ρ1 => some (.lst ds, ρ1)
  | .Call (.Name x _) (e :: es) [] _ => if (glB fm.sc x && okName x && (e :: es).all notStar) = true then (match cs.F x with
    | some f => bd2 (argsE r fm (e :: es) ρ) fun ds ρ1 => bd1 (f ds) fun c => some (c, ρ1)
    | none => if x = "list" ∧ cs.B x = true then (match rangeOf (e :: es) with
        | some [e1] => if (glB fm.sc "range" && cs.B "range" && notStar e1) = true then bd2 (r.E fm e1 ρ) fun d ρ1 => (match d with
          | .int j => if rngOk 0 j = true then some (.lst ((rngL 0 j).map .int), ρ1) else none
          | _ => none) else none
        | some [e1, e2] => if (glB fm.sc "range" && cs.B "range" && notStar e1 && notStar e2) = true then bd2 (r.E fm e1 ρ) fun d ρ1 => (match d with
          | .int i => bd2 (r.E fm e2 ρ1) fun d ρ2 => (match d with
            | .int j => if rngOk i j = true then some (.lst ((rngL i j).map .int), ρ2) else none
            | _ => none)
          | _ => none) else none
        | some _ => none
        | none => bd2 (argsE r fm (e :: es) ρ) fun ds ρ1 => bd1 (listD ds) fun zs => some (.lst zs, ρ1))
      else if x = "sorted" ∧ cs.B x = true then bd2 (argsE r fm (e :: es) ρ) fun ds ρ1 => (match ds with
        | [.list ds] => if sortB ds = true then some (.lst (sortD ds), ρ1) else none
        | _ => none)
      else none) else none
  | .Dict ks vs _ => if (dOk ks vs && !ks.isEmpty && decide (ks.length ≤ 15)) = true then bd2 (pairsE r fm ks vs ρ) fun kvs ρ1 => if kvs.length ≤ 15 then some (.dK (mergeD [] kvs), ρ1) else none else none
  | .BinOp a op b _ => bd2 (r.E fm a ρ) fun dx ρ1 => bd2 (r.E fm b ρ1) fun dy ρ2 => bd1 (catD op dx dy) fun zs => some (.lst zs, ρ2)
  | .Call (.Attribute o name apos) [e] [] cpos => if (decide (name = "split") && notStar e && notCall o && (apos.endLine == cpos.line)) = true then bd2 (r.E fm o ρ) fun dx ρ1 => (match dx with
    | .str z => bd2 (r.E fm e ρ1) fun dy ρ2 => (match dy with
      | .str y => if (y.length == 0) = false ∧ z.length + 2 ≤ 16777216 then some (.lst ((Txt.split z y).map .str), ρ2) else none
      | _ => none)
    | _ => none) else none
  | _ => none
/-- target = [ .. for .. in ..] -/
def lcAssign (st : Stmt) : Option (Str × Pos × Expr × Expr × Expr × List Expr × Scope × Pos) := match st with
  | .Assign [.Name y py] (.ListComp elt [⟨tg, iter, ifs, 0⟩] scope pos) _ => some (y, py, elt, tg, iter, ifs, scope, pos)
  | _ => none
def lcAssign2 (st : Stmt) : Option (Str × Pos × Expr × Expr × Expr × List Expr × Expr × Expr × List Expr × Scope × Pos) := match st with
  | .Assign [.Name y py] (.ListComp elt [⟨tg, iter, ifs, 0⟩, ⟨tg1, iter1, ifs1, 0⟩] scope pos) _ => some (y, py, elt, tg, iter, ifs, tg1, iter1, ifs1, scope, pos)
  | _ => none
def swapB (y : Str) (py : Pos) (scope : Scope) (pos : Pos) : Bool := (py.line == pos.line) && localB fm.sc y && !(scope.names.any fun (n, k) => n == y && (k == .local || k == .cell))
def noSwap (y : Str) (py : Pos) (pos : Pos) : Bool := !(py.line == pos.line) || !(localB fm.sc y)
def stepS2 (or_ : Or) (st : Stmt) (ρ : Rho) : Option Rs := match lcAssign st with
  | some (y, py, elt, tg, iter, ifs, scope, pos) => (slotL fm y).bind fun i =>
    if (swapB fm y py scope pos || noSwap fm y py pos) = true then bd2 (lcE cs r fm elt tg iter ifs scope ρ) fun ys ρ1 => if isIo ρ1[i]? = false then some (.nx (ρ1.set i (.own false (.lst ys)))) else none else none
  | none => match lcAssign2 st with
    | some (y, py, elt, tg, iter, ifs, tg1, iter1, ifs1, scope, pos) => (slotL fm y).bind fun i =>
      if (swapB fm y py scope pos || noSwap fm y py pos) = true then bd2 (lc2E cs r fm elt tg iter ifs tg1 iter1 ifs1 scope ρ) fun ys ρ1 => if isIo ρ1[i]? = false then some (.nx (ρ1.set i (.own false (.lst ys)))) else none else none
    | none => stepS cs or_ r fm st ρ
end
section
variable {X : Cx} {cs : Cs} {or_ : Or} {r : Evs} {fm : Fm} (a : Agr X fm) (c : CsOk X cs) (h : ∀ X fm, Agr X fm → CsOk X cs → Snd X fm r)
include h c a in
theorem ifsE_ok {ifs : List Expr} {ρ ρ' : Rho} {b : Bool} {k : Bool → Rho → Prop} (q : ifsE r fm ifs ρ = some (b, ρ')) (hk : k b ρ') : TsX X ifs ρ k := by
  unfold ifsE at q
  split at q
  · cases q; exact ts_nil hk
  · exact ts_one ((h X fm a c).T _ _ _ _ _ q hk)
  · cases q
include h c a in
theorem lcTurn_ok {elt tg : Expr} {ifs : List Expr} {scope : Scope} {vs : List Nat} {n : Nat} {d : Rho} (hk : scope.kind = .function) (hv : ∀ i ∈ tgtV (blkFm fm scope) 20 tg, i ∈ vs) (hd : lcCond n vs d = true) :
    LcOk X tg ifs elt scope vs id id (fun s => if lcCond n vs s = true then s else d) (lcTurn r (blkFm fm scope) elt tg ifs vs n) := by
  have hS : ∀ s, lcCond n vs (if lcCond n vs s = true then s else d) = true := fun s => by
    by_cases hs : lcCond n vs s = true
    · rw [if_pos hs]; exact hs
    · rw [if_neg hs]; exact hd
  refine ⟨fun s => (lcCond_blank (hS s)).1, fun s s' => ?_, fun x s qq hstep s0 H0 C cl fp => ?_⟩
  · rw [(lcCond_blank (hS s)).2, (lcCond_blank (hS s')).2]
  · unfold lcTurn at hstep
    split at hstep <;> try (cases hstep; done)
    rename_i hcs
    show GX _ _ _ (if lcCond n vs s = true then s else d) _ _
    rw [if_pos hcs]
    obtain ⟨ρ2, h3, hstep⟩ := Option.bind_eq_some_iff.mp hstep
    obtain ⟨b, ρ3, h4, hstep⟩ := bd2_some hstep
    refine gx_sub (tgt_ok (agr_blk a hk) 20 _ _ _ _ _ h3 fun s1 H1 C1 cl1 fp1 => ?_) hv
    refine ifsE_ok (agr_blk a hk) (cs_blk c) h h4 ⟨fun hb s2 H2 C2 cl2 fp2 => ?_, fun hb => ?_⟩
    · obtain ⟨d, ρ4, h5, hstep⟩ := bd2_some (ift hstep hb)
      split at hstep <;> try (cases hstep; done)
      rename_i hc4
      cases hstep
      exact (h _ _ (agr_blk a hk) (cs_blk c)).E _ _ _ _ _ h5 ⟨d, _, rfl, rfl, (if_pos hc4).symm⟩
    · have hstep := iff_ hstep hb
      split at hstep <;> try (cases hstep; done)
      rename_i hc4
      cases hstep
      exact ⟨_, rfl, (if_pos hc4).symm⟩
/-- what a comprehension with two walks needs -/
def Lc2P (X : Cx) (tg iter : Expr) (ifs : List Expr) (tg1 iter1 : Expr) (ifs1 : List Expr) (elt : Expr) (scope : Scope) (own : List (Str × Nat)) (vs1 : List Nat) (ρ : Rho) (ys : List D) (ρ' : Rho) : Prop :=
  BlkOk X.N X.env.scope scope own ∧ (∀ x, foldedSetIterable iter X.env x = pure x) ∧ (∀ env x, foldedSetIterable iter1 env x = pure x) ∧ (∀ i ∈ vs1, i ∈ own.map (·.2)) ∧ ∃ (ρS ρS1 : Rho → Rho), ∀ k : List D → Rho → Prop, k ys ρ' →
    IX X tg iter ρ fun items ρ1 => ∃ (step : D → Rho → Option (List D × Rho)) (step1 : D → Rho → Option (Option D × Rho)) (xs : List D) (s0 : Rho) (ys' : List D) (s1 : Rho), items = xs.map id ∧ Weak ρ1 (ρS s0) ∧ lcM step xs s0 = some (ys', s1) ∧
      Lc2Ok X tg ifs tg1 iter1 ifs1 elt scope (own.map (·.2)) vs1 id id id ρS ρS1 step step1 ∧ ys'.length ≤ sizeLine ∧ k ys' (ρS s1)
include h c a in
theorem lc2E_ok {elt tg iter tg1 iter1 : Expr} {ifs ifs1 : List Expr} {scope : Scope} {ρ ρ' : Rho} {ys : List D} (q : lc2E cs r fm elt tg iter ifs tg1 iter1 ifs1 scope ρ = some (ys, ρ')) : Lc2P X tg iter ifs tg1 iter1 ifs1 elt scope (ownOf fm scope) (tgtV (blkFm fm scope) 20 tg1) ρ ys ρ' := by
  unfold lc2E at q
  split at q <;> try (cases q; done)
  rename_i hg
  rw [Bool.and_eq_true, Bool.and_eq_true, Bool.and_eq_true, Bool.and_eq_true, Bool.and_eq_true, List.all_eq_true, List.all_eq_true] at hg
  obtain ⟨⟨⟨⟨⟨hb, hn⟩, hn1⟩, hv⟩, hv1⟩, hrep⟩ := hg
  obtain ⟨items, ρ1, h1, q⟩ := bd2_some q
  obtain ⟨ys1, s1, h2, q⟩ := bd2_some q
  split at q <;> try (cases q; done)
  rename_i hc1
  cases q
  rw [Bool.and_eq_true] at hc1
  obtain ⟨hc1, hlen⟩ := hc1
  split at h2 <;> try (cases h2; done)
  rename_i hc0
  have hB := blkOk_by hb
  have hv1' : ∀ i ∈ tgtV (blkFm fm scope) 20 tg1, i ∈ (ownOf fm scope).map (·.2) := fun i hi => of_decide_eq_true (hv1 i hi)
  generalize hvs : (ownOf fm scope).map (·.2) = vs at *
  generalize hvs1 : tgtV (blkFm fm scope) 20 tg1 = vs1 at *
  generalize hnn : fm.N.length = n at *
  generalize hρ0 : dropR (lcFlags n vs) ρ1 = ρ0 at *
  have hS : ∀ s, lcCond n vs (if lcCond n vs s = true then s else ρ0) = true := fun s => by
    by_cases hs : lcCond n vs s = true
    · rw [if_pos hs]; exact hs
    · rw [if_neg hs]; exact hc0
  refine ⟨by rw [a.N, a.sc]; exact hB, fold_plain hn, fun env => fold_plain hn1, by rw [hvs]; exact hv1', fun s => if lcCond n vs s = true then s else ρ0, fun s => if lcCond n vs1 s = true then s else List.replicate n .non, fun k hk => ?_⟩
  rw [hvs]
  refine iterE_ok a c (h X fm a c) h1 ⟨_, lcTurn r (blkFm fm scope) elt tg1 ifs1 vs1 n, items, ρ0, ys, ρ', (List.map_id items).symm, ?_, h2, ⟨fun s => (lcCond_blank (hS s)).1, fun s s' => ?_, lcTurn_ok a c h hB.kind (by rw [hvs1]; exact fun i hi => hi) hrep, fun x s qq hstep s0 H0 C cl fp => ?_⟩, by rw [sizeLine_eq]; exact of_decide_eq_true hlen, ?_⟩
  · show Weak ρ1 (if lcCond n vs ρ0 = true then ρ0 else ρ0)
    rw [if_pos hc0, ← hρ0]; exact dropR_weak _ _
  · rw [(lcCond_blank (hS s)).2, (lcCond_blank (hS s')).2]
  · unfold lc2Turn at hstep
    split at hstep <;> try (cases hstep; done)
    rename_i hcs
    show GX _ _ _ (if lcCond n vs s = true then s else ρ0) _ _
    rw [if_pos hcs]
    obtain ⟨ρ2, h3, hstep⟩ := Option.bind_eq_some_iff.mp hstep
    obtain ⟨b, ρ3, h4, hstep⟩ := bd2_some hstep
    refine gx_sub (tgt_ok (agr_blk a hB.kind) 20 _ _ _ _ _ h3 fun s1 H1 C1 cl1 fp1 => ?_) fun i hi => of_decide_eq_true (hv i hi)
    refine ifsE_ok (agr_blk a hB.kind) (cs_blk c) h h4 ⟨fun hb s2 H2 C2 cl2 fp2 => ?_, fun hb => ?_⟩
    · obtain ⟨items1, ρ4, h5, hstep⟩ := bd2_some (ift hstep hb)
      obtain ⟨ys1, s11, h6, hstep⟩ := bd2_some hstep
      split at h6 <;> try (cases h6; done)
      rename_i hc6
      split at hstep <;> try (cases hstep; done)
      rename_i hc7
      rw [Bool.and_eq_true] at hc7
      cases hstep
      refine iterE_ok (agr_blk a hB.kind) (cs_blk c) (h _ _ (agr_blk a hB.kind) (cs_blk c)) h5 ⟨items1, _, ys1, s11, (List.map_id items1).symm, ?_, h6, _, rfl, ?_⟩
      · show Weak ρ4 (if lcCond n vs1 _ = true then _ else _)
        rw [if_pos hc6]; exact dropR_weak _ _
      · show blank (if lcCond n vs1 s11 = true then s11 else _) vs = (if lcCond n vs (blank s11 vs) = true then _ else ρ0)
        rw [if_pos hc7.1, if_pos hc7.2]
    · have hstep := iff_ hstep hb
      split at hstep <;> try (cases hstep; done)
      rename_i hc4
      cases hstep
      exact ⟨_, rfl, (if_pos hc4).symm⟩
  · show k ys (if lcCond n vs ρ' = true then ρ' else ρ0)
    rw [if_pos hc1]; exact hk
/-- what a comprehension needs -/
def LcP (X : Cx) (tg iter elt : Expr) (ifs : List Expr) (scope : Scope) (own : List (Str × Nat)) (ρ : Rho) (ys : List D) (ρ' : Rho) : Prop :=
  BlkOk X.N X.env.scope scope own ∧ (∀ x, foldedSetIterable iter X.env x = pure x) ∧ ∃ (ρS : Rho → Rho), ρS ρ' = ρ' ∧ ∀ k : List D → Rho → Prop, k ys ρ' →
    IX X tg iter ρ fun items ρ1 => ∃ (step : D → Rho → Option (Option D × Rho)) (xs : List D) (s0 : Rho) (ys' : List D) (s1 : Rho), items = xs.map id ∧ Weak ρ1 (ρS s0) ∧ lcL step xs s0 = some (ys', s1) ∧ LcOk X tg ifs elt scope (own.map (·.2)) id id ρS step ∧ ρS s1 = ρ' ∧ ys' = ys ∧ k ys' (ρS s1)
include h c a in
theorem lcE_ok {elt tg iter : Expr} {ifs : List Expr} {scope : Scope} {ρ ρ' : Rho} {ys : List D} (q : lcE cs r fm elt tg iter ifs scope ρ = some (ys, ρ')) : LcP X tg iter elt ifs scope (ownOf fm scope) ρ ys ρ' := by
  unfold lcE at q
  split at q <;> try (cases q; done)
  rename_i hg
  rw [Bool.and_eq_true, Bool.and_eq_true, List.all_eq_true] at hg
  obtain ⟨⟨hb, hn⟩, hv⟩ := hg
  obtain ⟨items, ρ1, h1, q⟩ := bd2_some q
  obtain ⟨ys1, s1, h2, q⟩ := bd2_some q
  split at q <;> try (cases q; done)
  rename_i hc1
  cases q
  split at h2 <;> try (cases h2; done)
  rename_i hc0
  have hB := blkOk_by hb
  generalize hvs : (ownOf fm scope).map (·.2) = vs at *
  generalize hρ0 : dropR (lcFlags ρ1.length vs) ρ1 = ρ0 at *
  refine ⟨by rw [a.N, a.sc]; exact hB, fold_plain hn, fun s => if lcCond ρ1.length vs s = true then s else ρ0, if_pos hc1, fun k hk => ?_⟩
  have hS : ∀ s, lcCond ρ1.length vs (if lcCond ρ1.length vs s = true then s else ρ0) = true := fun s => by
    by_cases hs : lcCond ρ1.length vs s = true
    · rw [if_pos hs]; exact hs
    · rw [if_neg hs]; exact hc0
  rw [hvs]
  refine iterE_ok a c (h X fm a c) h1 ⟨_, items, ρ0, ys, ρ', (List.map_id items).symm, by show Weak ρ1 (if lcCond ρ1.length vs ρ0 = true then ρ0 else ρ0); rw [if_pos hc0, ← hρ0]; exact dropR_weak _ _, h2, ⟨fun s => (lcCond_blank (hS s)).1, fun s s' => ?_, fun x s qq hstep s0 H0 C cl fp => ?_⟩, if_pos hc1, rfl, by show k ys (if lcCond ρ1.length vs ρ' = true then ρ' else ρ0); rw [if_pos hc1]; exact hk⟩
  · rw [(lcCond_blank (hS s)).2, (lcCond_blank (hS s')).2]
  · unfold lcTurn at hstep
    split at hstep <;> try (cases hstep; done)
    rename_i hcs
    show GX _ _ _ (if lcCond ρ1.length vs s = true then s else ρ0) _ _
    rw [if_pos hcs]
    obtain ⟨ρ2, h3, hstep⟩ := Option.bind_eq_some_iff.mp hstep
    obtain ⟨b, ρ3, h4, hstep⟩ := bd2_some hstep
    refine gx_sub (tgt_ok (agr_blk a hB.kind) 20 _ _ _ _ _ h3 fun s1 H1 C1 cl1 fp1 => ?_) fun i hi => of_decide_eq_true (hv i hi)
    refine ifsE_ok (agr_blk a hB.kind) (cs_blk c) h h4 ⟨fun hb s2 H2 C2 cl2 fp2 => ?_, fun hb => ?_⟩
    · obtain ⟨d, ρ4, h5, hstep⟩ := bd2_some (ift hstep hb)
      split at hstep <;> try (cases hstep; done)
      rename_i hc4
      cases hstep
      exact (h _ _ (agr_blk a hB.kind) (cs_blk c)).E _ _ _ _ _ h5 ⟨d, _, rfl, rfl, (if_pos hc4).symm⟩
    · have hstep := iff_ hstep hb
      split at hstep <;> try (cases hstep; done)
      rename_i hc4
      cases hstep
      exact ⟨_, rfl, (if_pos hc4).symm⟩
include h c a in
theorem pairsE_ok : ∀ {ks : List (Option Expr)} {vs : List Expr} {ρ ρ' : Rho} {kvs : List (Key × D)} {k : List (Key × D) → Rho → Prop}, pairsE r fm ks vs ρ = some (kvs, ρ') → k kvs ρ' → DX X ks vs ρ k
  | [], [], ρ, ρ', kvs, k, q, hk => by cases q; exact hk
  | some kx :: ks, vx :: vs, ρ, ρ', kvs, k, q, hk => by
    unfold pairsE at q
    obtain ⟨d, ρ1, h1, q⟩ := bd2_some q
    obtain ⟨key, h2, q⟩ := bd1_some q
    obtain ⟨e, ρ2, h3, q⟩ := bd2_some q
    obtain ⟨kvs2, ρ3, h4, q⟩ := bd2_some q
    cases q
    exact (h X fm a c).E _ _ _ _ _ h1 ⟨key, h2, (h X fm a c).E _ _ _ _ _ h3 (pairsE_ok h4 hk)⟩
  | [], _ :: _, _, _, _, _, q, _ => by cases q
  | none :: _, [], _, _, _, _, q, _ => by cases q
  | none :: _, _ :: _, _, _, _, _, q, _ => by cases q
  | some _ :: _, [], _, _, _, _, q, _ => by cases q
include h c a in
theorem stepF_ok {e : Expr} {ρ ρ' : Rho} {d : Ct} {k : Ct → Rho → Prop} (q : stepF cs r fm e ρ = some (d, ρ')) (hk : k d ρ') : FX X e ρ k := by
  unfold stepF at q
  split at q
  · obtain ⟨ds, ρ1, h1, q⟩ := bd2_some q
    split at q <;> cases q
    exact f_lst (args_ok (h X fm a c) h1 ⟨by assumption, hk⟩)
  · obtain ⟨ds, ρ1, h1, q⟩ := bd2_some q
    cases q
    obtain ⟨hB, hf, ρS, e1, hI⟩ := lcE_ok a c h h1
    refine f_lc (ρS := ρS) (r := id) (r' := id) a.calm a.nd hB (i_mono (hI (fun ds ρ' => k (.lst ds) ρ') hk) fun items ρ1 ⟨step, xs, s0, ys, s1, g1, g2, g3, g4, g5, g6, g7⟩ => ⟨step, xs, s0, ys, s1, g1, g2, g3, g4, by rw [List.map_id]; exact g7⟩) hf
  · obtain ⟨ds, ρ1, h1, q⟩ := bd2_some q
    cases q
    obtain ⟨hB, hf, hf1, hv, ρS, ρS1, hI⟩ := lc2E_ok a c h h1
    exact f_lc2 (ρS := ρS) (ρS1 := ρS1) (r := id) (r1 := id) (r' := id) a.calm a.nd hB hv (i_mono (hI (fun ds ρ' => k (.lst ds) ρ') hk) fun items ρ1 ⟨step, step1, xs, s0, ys, s1, g1, g2, g3, g4, g5, g6⟩ => ⟨step, step1, xs, s0, ys, s1, g1, g2, g3, g4, g5, by rw [List.map_id]; exact g6⟩) hf hf1
  · split at q <;> try (cases q; done)
    rename_i hx
    rw [Bool.and_eq_true, Bool.and_eq_true, List.all_cons, Bool.and_eq_true] at hx
    obtain ⟨⟨hg, ho⟩, ha1, ha2⟩ := hx
    have hg := glB_ok a hg
    split at q
    · rename_i f hf
      obtain ⟨ds, ρ1, h1, q⟩ := bd2_some q
      obtain ⟨ct, h2, q⟩ := bd1_some q
      cases q
      obtain ⟨n, m, hnm, hr, C⟩ := c.F _ _ hf
      exact f_callF C hr hnm hg (args_ok (h X fm a c) h1 ⟨_, h2, hk⟩) (okName_d ho) (star_cons ha1) (star_plain ha2)
    · split at q
      · rename_i hx
        obtain ⟨rfl, hb⟩ := hx
        split at q
        · rename_i e1 hr
          obtain ⟨p1, pp1, hra⟩ := rangeOf_ok hr
          cases hra
          split at q <;> try (cases q; done)
          rename_i hgr
          rw [Bool.and_eq_true, Bool.and_eq_true] at hgr
          obtain ⟨d1, ρ1, h1, q⟩ := bd2_some q
          split at q <;> try (cases q; done)
          split at q <;> cases q
          exact f_listR1 a.calm hg (c.B _ hb) (glB_ok a hgr.1.1) (c.B _ hgr.1.2) ((h X fm a c).E _ _ _ _ _ h1 ⟨_, rfl, by assumption, hk⟩) (star_cons hgr.2)
        · rename_i e1 e2 hr
          obtain ⟨p1, pp1, hra⟩ := rangeOf_ok hr
          cases hra
          split at q <;> try (cases q; done)
          rename_i hgr
          rw [Bool.and_eq_true, Bool.and_eq_true, Bool.and_eq_true] at hgr
          obtain ⟨d1, ρ1, h1, q⟩ := bd2_some q
          split at q <;> try (cases q; done)
          obtain ⟨d2, ρ2, h2, q⟩ := bd2_some q
          split at q <;> try (cases q; done)
          split at q <;> cases q
          exact f_listR2 a.calm hg (c.B _ hb) (glB_ok a hgr.1.1.1) (c.B _ hgr.1.1.2) ((h X fm a c).E _ _ _ _ _ h1 ⟨_, rfl, (h X fm a c).E _ _ _ _ _ h2 ⟨_, rfl, by assumption, hk⟩⟩) (star_cons hgr.1.2) (star_cons hgr.2) (star_plain (by rw [List.all_cons, hgr.2]; rfl))
        · cases q
        · obtain ⟨ds, ρ1, h1, q⟩ := bd2_some q
          obtain ⟨zs, h2, q⟩ := bd1_some q
          cases q
          refine f_callT hg (c.B _ hb) b_list (args_ok (h X fm a c) h1 ⟨_, ?_, hk⟩) (okName_n ho) (okName_d ho) (star_cons ha1) (star_plain ha2)
          unfold listD at h2
          split at h2 <;> try (cases h2; done)
          · cases h2; exact cf_list
          · cases h2; exact cf_listT
          · split at h2 <;> cases h2
            exact cf_listS c.room (by rw [sizeLine_eq]; assumption)
      · split at q <;> try (cases q; done)
        rename_i hx
        obtain ⟨rfl, hb⟩ := hx
        obtain ⟨ds, ρ1, h1, q⟩ := bd2_some q
        split at q <;> try (cases q; done)
        split at q <;> cases q
        exact f_callB hg (c.B _ hb) b_sorted (args_ok (h X fm a c) h1 ⟨_, cf_sorted c.room (by assumption), hk⟩) (okName_n ho) (okName_d ho) (star_cons ha1) (star_plain ha2)
  · split at q <;> try (cases q; done)
    rename_i hg
    rw [Bool.and_eq_true, Bool.and_eq_true] at hg
    obtain ⟨kvs, ρ1, h1, q⟩ := bd2_some q
    split at q <;> cases q
    exact f_disp hg.1.1 (fun e => by rw [e] at hg; exact Bool.noConfusion hg.1.2) (of_decide_eq_true hg.2) (pairsE_ok a c h h1 ⟨by assumption, hk⟩)
  · obtain ⟨dx, ρ1, h1, q⟩ := bd2_some q
    obtain ⟨dy, ρ2, h2, q⟩ := bd2_some q
    obtain ⟨zs, h3, q⟩ := bd1_some q
    cases q
    exact f_bin ((h X fm a c).E _ _ _ _ _ h1 ((h X fm a c).E _ _ _ _ _ h2 ⟨_, catD_ok h3, hk⟩))
  · split at q <;> try (cases q; done)
    rename_i hx
    rw [Bool.and_eq_true, Bool.and_eq_true, Bool.and_eq_true] at hx
    obtain ⟨⟨⟨hn, hst⟩, hno⟩, hl⟩ := hx
    have hn := of_decide_eq_true hn
    subst hn
    obtain ⟨dx, ρ1, h1, q⟩ := bd2_some q
    split at q <;> try (cases q; done)
    obtain ⟨dy, ρ2, h2, q⟩ := bd2_some q
    split at q <;> try (cases q; done)
    split at q <;> try (cases q; done)
    rename_i hy
    cases q
    exact f_m1 F.slot_str_split F.type_str_split ((h X fm a c).E _ _ _ _ _ h1 ⟨_, rfl, (h X fm a c).E _ _ _ _ _ h2 ⟨_, mf_split hy.1 (by rw [sizeLine_eq]; exact hy.2), hk⟩⟩) (star_one hst) (base_plain hno) hl
  · cases q
theorem sw_no {elt : Expr} {gs : List Comprehension} {scope : Scope} {pos py : Pos} {y : Str} {l : Nat} (a : Agr X fm) (hq : noSwap fm y py pos = true) : swapsWith (.ListComp elt gs scope pos) (some (.Name y py)) l X.env = pure false := by
  unfold noSwap at hq
  rw [Bool.or_eq_true] at hq
  unfold swapsWith
  rcases hq with hq | hq
  · have e : (py.line == pos.line) = false := by simpa using hq
    simp only [Expr.pos, e, Bool.and_false, Bool.false_and]
  · have e : (X.env.kindOf y == some NameKind.local) = false := by
      unfold Env.kindOf
      rw [a.sc]
      unfold localB at hq
      cases hl : fm.sc.names.lookup y with
      | none => rfl
      | some z => cases z <;> first | rfl | (rw [hl] at hq; cases hq)
    simp only [Expr.pos, e, Bool.and_false, Bool.false_and]
include h c a in
theorem stepS2_ok {st : Stmt} {ρ : Rho} {rs : Rs} {N : Wish} (q : stepS2 cs r fm or_ st ρ = some rs) (hf : Fits N rs) : SX X st ρ N := by
  unfold stepS2 at q
  split at q
  · rename_i y py elt tg iter ifs scope pos hl
    unfold lcAssign at hl
    split at hl <;> cases hl
    obtain ⟨i, hi, q⟩ := Option.bind_eq_some_iff.mp q
    obtain ⟨g1, g2, g3⟩ := slotL_ok a hi
    split at q <;> try (cases q; done)
    rename_i hsw
    obtain ⟨ys, ρ1, h1, q⟩ := bd2_some q
    split at q <;> try (cases q; done)
    rename_i hio
    cases q
    obtain ⟨hB, hfs, ρS, e1, hI⟩ := lcE_ok a c h h1
    by_cases hs : swapB fm y py scope pos = true
    · unfold swapB at hs
      rw [Bool.and_eq_true, Bool.and_eq_true] at hs
      have hloc := localB_ok hs.1.2
      rw [← a.sc] at hloc
      refine s_lc (ρS := ρS) (r := id) (r' := id) a.calm a.nd g1 hloc hB (sw_true a.kind hloc hs.1.1 (by simpa using hs.2)) (i_mono (hI (fun ds ρ' => isIo ρ'[i]? = false ∧ N.nx (ρ'.set i (.own false (.lst ds)))) ⟨hio, hf⟩) fun items ρ1 ⟨step, xs, s0, ys, s1, g1, g2, g3, g4, g5, g6, g7⟩ => ⟨step, xs, s0, ys, s1, g1, g2, g3, g4, g7.1, by rw [List.map_id]; exact g7.2⟩) hfs
    · have hs : noSwap fm y py pos = true := by
        rw [Bool.or_eq_true] at hsw
        exact hsw.resolve_left hs
      refine s_setO a.nd g1 g2 ?_ (sw_no a hs) g3
      refine f_lc (ρS := ρS) (r := id) (r' := id) a.calm a.nd hB (i_mono (hI (fun ds ρ' => isIo ρ'[i]? = false ∧ N.nx (ρ'.set i (.own false (.lst ds)))) ⟨hio, hf⟩) fun items ρ1 ⟨step, xs, s0, ys, s1, g1, g2, g3, g4, g5, g6, g7⟩ => ⟨step, xs, s0, ys, s1, g1, g2, g3, g4, by rw [List.map_id]; exact g7⟩) hfs
  · split at q
    · rename_i y py elt tg iter ifs tg1 iter1 ifs1 scope pos hl
      unfold lcAssign2 at hl
      split at hl <;> cases hl
      obtain ⟨i, hi, q⟩ := Option.bind_eq_some_iff.mp q
      obtain ⟨g1, g2, g3⟩ := slotL_ok a hi
      split at q <;> try (cases q; done)
      rename_i hsw
      obtain ⟨ys, ρ1, h1, q⟩ := bd2_some q
      split at q <;> try (cases q; done)
      rename_i hio
      cases q
      obtain ⟨hB, hfs, hf1, hv, ρS, ρS1, hI⟩ := lc2E_ok a c h h1
      by_cases hs : swapB fm y py scope pos = true
      · unfold swapB at hs
        rw [Bool.and_eq_true, Bool.and_eq_true] at hs
        have hloc := localB_ok hs.1.2
        rw [← a.sc] at hloc
        exact s_lc2 (ρS := ρS) (ρS1 := ρS1) (r := id) (r1 := id) (r' := id) a.calm a.nd g1 hloc hB hv (sw_true a.kind hloc hs.1.1 (by simpa using hs.2)) (i_mono (hI (fun ds ρ' => isIo ρ'[i]? = false ∧ N.nx (ρ'.set i (.own false (.lst ds)))) ⟨hio, hf⟩) fun items ρ1 ⟨step, step1, xs, s0, ys, s1, g1, g2, g3, g4, g5, g6⟩ => ⟨step, step1, xs, s0, ys, s1, g1, g2, g3, g4, g5, g6.1, by rw [List.map_id]; exact g6.2⟩) hfs hf1
      · have hs : noSwap fm y py pos = true := by
          rw [Bool.or_eq_true] at hsw
          exact hsw.resolve_left hs
        refine s_setO a.nd g1 g2 ?_ (sw_no a hs) g3
        exact f_lc2 (ρS := ρS) (ρS1 := ρS1) (r := id) (r1 := id) (r' := id) a.calm a.nd hB hv (i_mono (hI (fun ds ρ' => isIo ρ'[i]? = false ∧ N.nx (ρ'.set i (.own false (.lst ds)))) ⟨hio, hf⟩) fun items ρ1 ⟨step, step1, xs, s0, ys, s1, g1, g2, g3, g4, g5, g6⟩ => ⟨step, step1, xs, s0, ys, s1, g1, g2, g3, g4, g5, by rw [List.map_id]; exact g6⟩) hfs hf1
    · exact stepS_ok a c (h X fm a c) q hf
end

/-! ### all steps of a frame -/
def frame (cs : Cs) (or_ : Or) : Nat → Evs
  | 0 => ⟨fun _ _ _ => none, fun _ _ _ => none, fun _ _ _ => none, fun _ _ _ => none⟩
  | n + 1 => ⟨fun fm e ρ => stepE cs (frame cs or_ n) fm e ρ, fun fm e ρ => stepF cs (frame cs or_ n) fm e ρ, fun fm e ρ => stepT (frame cs or_ n) fm e ρ, fun fm st ρ => stepS2 cs (frame cs or_ n) fm or_ st ρ⟩
theorem frame_ok {cs : Cs} {or_ : Or} : ∀ (n : Nat) (X : Cx) (fm : Fm), Agr X fm → CsOk X cs → Snd X fm (frame cs or_ n)
  | 0, X, fm, a, c => ⟨fun _ _ _ _ _ q _ => (by cases q), fun _ _ _ _ _ q _ => (by cases q), fun _ _ _ _ _ q _ => (by cases q), fun _ _ _ _ q _ => (by cases q)⟩
  | n + 1, X, fm, a, c => ⟨fun e ρ d ρ' k q hk => stepE_ok a c (frame_ok n X fm a c) q hk, fun e ρ d ρ' k q hk => stepF_ok a c (frame_ok n) q hk, fun e ρ d ρ' k q hk => stepT_ok a c (frame_ok n X fm a c) q hk, fun e ρ rs N q hf => stepS2_ok a c (frame_ok n) q hf⟩

/-! ### defs -/
structure Df where
  st : Stmt
  N : List Str
  ps : List Str
  drop : Nat → List Bool
inductive Kd where
  | p
  | o
  | f
def fuel : Nat := 60
def fmOf (df : Df) : Fm := ⟨df.N, defScope df.st, true⟩
def bodyE (cs : Cs) (df : Df) (fresh : Bool) (ρ : Rho) : Option Rs := ssE (frame cs ⟨df.drop, fresh⟩ fuel) (fmOf df) (defBody df.st) ρ
def runP (cs : Cs) (df : Df) (ds : List D) : Option D :=
  if ds.length = df.ps.length then match bodyE cs df false (ds.map Sl.val ++ List.replicate (df.N.length - df.ps.length) .non) with
    | some (.rt d _) => some d
    | some (.nx _) => some .none
    | _ => none
  else none
def runO (cs : Cs) (df : Df) (d0 : Ct) (ds : List D) : Option (D × Ct) :=
  if ds.length + 1 = df.ps.length then match bodyE cs df false (Sl.own true d0 :: (ds.map Sl.val ++ List.replicate (df.N.length - df.ps.length) .non)) with
    | some (.rt d ρ) => (match (ρ[0]? : Option Sl) with
      | some (.own true d1) => some (d, d1)
      | _ => none)
    | some (.nx ρ) => (match (ρ[0]? : Option Sl) with
      | some (.own true d1) => some (.none, d1)
      | _ => none)
    | _ => none
  else none
def runF (cs : Cs) (df : Df) (ds : List D) : Option Ct :=
  if ds.length = df.ps.length then match bodyE cs df true (ds.map Sl.val ++ List.replicate (df.N.length - df.ps.length) .non) with
    | some (.rf c _) => some c
    | _ => none
  else none
structure Pg where
  defs : Str → Option (Kd × Df)
  G : Str → Option D
  GD : Str → Option (List (Key × D))
  B : Str → Bool
def csAt (p : Pg) : Nat → Cs
  | 0 => ⟨fun _ => none, fun _ => none, fun _ => none, p.G, p.GD, p.B⟩
  | n + 1 => ⟨fun x => match p.defs x with
      | some (.p, df) => some (runP (csAt p n) df)
      | _ => none, fun x => match p.defs x with
      | some (.o, df) => some (runO (csAt p n) df)
      | _ => none, fun x => match p.defs x with
      | some (.f, df) => some (runF (csAt p n) df)
      | _ => none, p.G, p.GD, p.B⟩
/-- the facts of linking -/
structure Lnk (p : Pg) (P : Program) (w : World) (K : PySem.W.Frag) (mg : Str → Option Value) (base : Heap) : Prop where
  df : ∀ x kd df, p.defs x = some (kd, df) → ∃ f fd, Fun K x x df.st f fd ∧ mg x = some (.ref f) ∧ Binds K fd df.ps [] ∧ FnScope df.N df.ps (defScope df.st) ∧ df.ps.length ≤ df.N.length
  G : ∀ x d, p.G x = some d → ∃ u v, mg x = some u ∧ RelV v u ∧ ∀ H, Dp K H v d
  GD : ∀ x kvs, p.GD x = some kvs → ∃ a, mg x = some (.ref a) ∧ GDk P w K a kvs
  B : ∀ x, p.B x = true → mg x = none
section
variable {p : Pg} {P : Program} {w : World} {K : PySem.W.Frag} {mg : Str → Option Value} {base : Heap}
theorem agr_def {N ps : List Str} {qual : Str} {st : Stmt} {f : Addr} {cdv : Value} {A : Around} {outer : List Env} {s : Shared} {H : Hp} {E : XK} (S : FnScope N ps (defScope st)) : Agr (bx P w K mg base N qual st f cdv A outer s H E) ⟨N, defScope st, true⟩ where
  N := rfl
  sc := rfl
  fn := fun _ _ => rfl
  nd := S.nd
  kind := S.kind
  calm := rfl
  xe := rfl
theorem cs_ok (L : Lnk p P w K mg base) (n : Nat) : ∀ X : Cx, X.prog = P → X.w = w → X.K = K → X.mg = mg → X.base = base → Room n X.A → CsOk X (csAt p n) := by
  induction n with
  | zero =>
    intro X e1 e2 e3 e4 e5 hr
    subst e1 e2 e3 e4 e5
    exact ⟨⟨_, hr⟩, fun _ _ h => (by cases h), fun _ _ h => (by cases h), fun _ _ h => (by cases h), L.G, L.GD, L.B⟩
  | succ n ih =>
    intro X e1 e2 e3 e4 e5 hr
    subst e1 e2 e3 e4 e5
    refine ⟨⟨_, hr⟩, fun x f h => ?_, fun x f h => ?_, fun x f h => ?_, L.G, L.GD, L.B⟩
    · unfold csAt at h
      simp only at h
      split at h <;> try (cases h; done)
      rename_i df hd
      cases h
      obtain ⟨f, fd, F, hm, hb, S, hl⟩ := L.df _ _ _ hd
      refine ⟨n + 1, n + 1, Nat.le_refl _, hr, ⟨f, fd, df.ps, fn_P F S (fun ds d q => ?_) hl (fun cdv A outer s H E ds d hr2 q => ?_), hm, F.kp, hb⟩⟩
      · unfold runP at q
        split at q
        · assumption
        · cases q
      · unfold runP at q
        split at q <;> try (cases q; done)
        have a := agr_def (P := X.prog) (w := X.w) (K := X.K) (mg := X.mg) (base := X.base) (qual := x) (f := f) (cdv := cdv) (A := A) (outer := outer) (s := s) (H := H) (E := E) S
        have c := ih (bx X.prog X.w X.K X.mg X.base df.N x df.st f cdv A outer s H E) rfl rfl rfl rfl rfl hr2
        split at q <;> try (cases q; done)
        · rename_i h1
          cases q
          exact ssE_ok (frame_ok fuel _ _ a c) h1 rfl
        · rename_i h1
          cases q
          exact ssE_ok (frame_ok fuel _ _ a c) h1 rfl
    · unfold csAt at h
      simp only at h
      split at h <;> try (cases h; done)
      rename_i df hd
      cases h
      obtain ⟨f, fd, F, hm, hb, S, hl⟩ := L.df _ _ _ hd
      refine ⟨n + 1, n + 1, Nat.le_refl _, hr, ⟨f, fd, df.ps, fn_O F S (fun d0 ds d d1 q => ?_) hl (fun cdv A outer s H E d0 ds d d1 hr2 q => ?_), hm, F.kp, hb⟩⟩
      · unfold runO at q
        split at q
        · assumption
        · cases q
      · unfold runO at q
        split at q <;> try (cases q; done)
        have a := agr_def (P := X.prog) (w := X.w) (K := X.K) (mg := X.mg) (base := X.base) (qual := x) (f := f) (cdv := cdv) (A := A) (outer := outer) (s := s) (H := H) (E := E) S
        have c := ih (bx X.prog X.w X.K X.mg X.base df.N x df.st f cdv A outer s H E) rfl rfl rfl rfl rfl hr2
        split at q <;> try (cases q; done)
        · rename_i h1
          split at q <;> cases q
          exact ssE_ok (frame_ok fuel _ _ a c) h1 ⟨rfl, by assumption⟩
        · rename_i h1
          split at q <;> cases q
          exact ssE_ok (frame_ok fuel _ _ a c) h1 ⟨rfl, by assumption⟩
    · unfold csAt at h
      simp only at h
      split at h <;> try (cases h; done)
      rename_i df hd
      cases h
      obtain ⟨f, fd, F, hm, hb, S, hl⟩ := L.df _ _ _ hd
      refine ⟨n + 1, n + 1, Nat.le_refl _, hr, ⟨f, fd, df.ps, fn_F F S (fun ds d q => ?_) hl (fun cdv A outer s H E ds d hr2 q => ?_), hm, F.kp, hb⟩⟩
      · unfold runF at q
        split at q
        · assumption
        · cases q
      · unfold runF at q
        split at q <;> try (cases q; done)
        have a := agr_def (P := X.prog) (w := X.w) (K := X.K) (mg := X.mg) (base := X.base) (qual := x) (f := f) (cdv := cdv) (A := A) (outer := outer) (s := s) (H := H) (E := E) S
        have c := ih (bx X.prog X.w X.K X.mg X.base df.N x df.st f cdv A outer s H E) rfl rfl rfl rfl rfl hr2
        split at q <;> try (cases q; done)
        rename_i h1
        cases q
        exact ssE_ok (frame_ok fuel _ _ a c) h1 rfl
end
end Ev

set_option Elab.async false
set_option linter.all false
set_option maxRecDepth 100000
namespace Ev
open PySem PySem.Spec PyProof.Rows L2 Lk
section
variable {x : Str} {p : Pos} {c : Const} {j : Nat} {f a b c2 : Expr} {as : List Expr} {ks : List Keyword} {op : Operator} {uo : UnaryOp} {bo : BoolOp} {ops : List CmpOp} {gs : List Comprehension} {sc : Scope} {oa ob oc : Option Expr} {oas : List (Option Expr)}
theorem notStar_Name : notStar (.Name x p) = true := rfl
theorem notStar_Constant : notStar (.Constant c j p) = true := rfl
theorem notStar_Call : notStar (.Call f as ks p) = true := rfl
theorem notStar_BinOp : notStar (.BinOp a op b p) = true := rfl
theorem notStar_UnaryOp : notStar (.UnaryOp uo a p) = true := rfl
theorem notStar_BoolOp : notStar (.BoolOp bo as p) = true := rfl
theorem notStar_Compare : notStar (.Compare a ops as p) = true := rfl
theorem notStar_Tuple : notStar (.Tuple as j p) = true := rfl
theorem notStar_List : notStar (.List as p) = true := rfl
theorem notStar_ListComp : notStar (.ListComp a gs sc p) = true := rfl
theorem notStar_Subscript : notStar (.Subscript a b p) = true := rfl
theorem notStar_Attribute : notStar (.Attribute a x p) = true := rfl
theorem notStar_IfExp : notStar (.IfExp a b c2 p) = true := rfl
theorem notStar_Slice : notStar (.Slice oa ob oc p) = true := rfl
theorem notStar_Dict : notStar (.Dict oas as p) = true := rfl
theorem notStar_GeneratorExp : notStar (.GeneratorExp a gs sc p) = true := rfl
theorem notComp_Name : notComp (.Name x p) = true := rfl
theorem notComp_Constant : notComp (.Constant c j p) = true := rfl
theorem notComp_Call : notComp (.Call f as ks p) = true := rfl
theorem notComp_BinOp : notComp (.BinOp a op b p) = true := rfl
theorem notComp_UnaryOp : notComp (.UnaryOp uo a p) = true := rfl
theorem notComp_BoolOp : notComp (.BoolOp bo as p) = true := rfl
theorem notComp_Compare : notComp (.Compare a ops as p) = true := rfl
theorem notComp_Tuple : notComp (.Tuple as j p) = true := rfl
theorem notComp_List : notComp (.List as p) = true := rfl
theorem notComp_ListComp : notComp (.ListComp a gs sc p) = false := rfl
theorem notComp_Subscript : notComp (.Subscript a b p) = true := rfl
theorem notComp_Attribute : notComp (.Attribute a x p) = true := rfl
theorem notComp_IfExp : notComp (.IfExp a b c2 p) = true := rfl
theorem notComp_Slice : notComp (.Slice oa ob oc p) = true := rfl
theorem notComp_Dict : notComp (.Dict oas as p) = true := rfl
theorem notComp_GeneratorExp : notComp (.GeneratorExp a gs sc p) = true := rfl
theorem plainT_Name : plainT (.Name x p) = true := rfl
theorem plainT_Constant : plainT (.Constant c j p) = false := rfl
theorem plainT_Call : plainT (.Call f as ks p) = true := rfl
theorem plainT_BinOp : plainT (.BinOp a op b p) = true := rfl
theorem plainT_UnaryOp : plainT (.UnaryOp uo a p) = false := rfl
theorem plainT_BoolOp : plainT (.BoolOp bo as p) = false := rfl
theorem plainT_Compare : plainT (.Compare a ops as p) = false := rfl
theorem plainT_Tuple : plainT (.Tuple as j p) = true := rfl
theorem plainT_List : plainT (.List as p) = true := rfl
theorem plainT_ListComp : plainT (.ListComp a gs sc p) = true := rfl
theorem plainT_Subscript : plainT (.Subscript a b p) = true := rfl
theorem plainT_Attribute : plainT (.Attribute a x p) = true := rfl
theorem plainT_IfExp : plainT (.IfExp a b c2 p) = false := rfl
theorem plainT_Slice : plainT (.Slice oa ob oc p) = true := rfl
theorem plainT_Dict : plainT (.Dict oas as p) = true := rfl
theorem plainT_GeneratorExp : plainT (.GeneratorExp a gs sc p) = true := rfl
theorem notIx_Name : notIx (.Name x p) = true := rfl
theorem notIx_Constant : notIx (.Constant c j p) = true := rfl
theorem notIx_Call : notIx (.Call f as ks p) = true := rfl
theorem notIx_BinOp : notIx (.BinOp a op b p) = true := rfl
theorem notIx_UnaryOp : notIx (.UnaryOp uo a p) = true := rfl
theorem notIx_BoolOp : notIx (.BoolOp bo as p) = true := rfl
theorem notIx_Compare : notIx (.Compare a ops as p) = true := rfl
theorem notIx_Tuple : notIx (.Tuple as j p) = true := rfl
theorem notIx_List : notIx (.List as p) = true := rfl
theorem notIx_ListComp : notIx (.ListComp a gs sc p) = true := rfl
theorem notIx_Subscript : notIx (.Subscript a b p) = true := rfl
theorem notIx_Attribute : notIx (.Attribute a x p) = true := rfl
theorem notIx_IfExp : notIx (.IfExp a b c2 p) = true := rfl
theorem notIx_Slice : notIx (.Slice oa ob oc p) = false := rfl
theorem notIx_Dict : notIx (.Dict oas as p) = true := rfl
theorem notIx_GeneratorExp : notIx (.GeneratorExp a gs sc p) = true := rfl
theorem notSet_Name : notSet (.Name x p) = true := rfl
theorem notSet_Constant : notSet (.Constant c j p) = true := rfl
theorem notSet_Call : notSet (.Call f as ks p) = true := rfl
theorem notSet_BinOp : notSet (.BinOp a op b p) = true := rfl
theorem notSet_UnaryOp : notSet (.UnaryOp uo a p) = true := rfl
theorem notSet_BoolOp : notSet (.BoolOp bo as p) = true := rfl
theorem notSet_Compare : notSet (.Compare a ops as p) = true := rfl
theorem notSet_Tuple : notSet (.Tuple as j p) = true := rfl
theorem notSet_List : notSet (.List as p) = true := rfl
theorem notSet_ListComp : notSet (.ListComp a gs sc p) = true := rfl
theorem notSet_Subscript : notSet (.Subscript a b p) = true := rfl
theorem notSet_Attribute : notSet (.Attribute a x p) = true := rfl
theorem notSet_IfExp : notSet (.IfExp a b c2 p) = true := rfl
theorem notSet_Slice : notSet (.Slice oa ob oc p) = true := rfl
theorem notSet_Dict : notSet (.Dict oas as p) = true := rfl
theorem notSet_GeneratorExp : notSet (.GeneratorExp a gs sc p) = true := rfl
theorem notCall_Name : notCall (.Name x p) = true := rfl
theorem notCall_Constant : notCall (.Constant c j p) = true := rfl
theorem notCall_Call : notCall (.Call f as ks p) = false := rfl
theorem notCall_BinOp : notCall (.BinOp a op b p) = true := rfl
theorem notCall_UnaryOp : notCall (.UnaryOp uo a p) = true := rfl
theorem notCall_BoolOp : notCall (.BoolOp bo as p) = true := rfl
theorem notCall_Compare : notCall (.Compare a ops as p) = true := rfl
theorem notCall_Tuple : notCall (.Tuple as j p) = true := rfl
theorem notCall_List : notCall (.List as p) = true := rfl
theorem notCall_ListComp : notCall (.ListComp a gs sc p) = true := rfl
theorem notCall_Subscript : notCall (.Subscript a b p) = true := rfl
theorem notCall_Attribute : notCall (.Attribute a x p) = true := rfl
theorem notCall_IfExp : notCall (.IfExp a b c2 p) = true := rfl
theorem notCall_Slice : notCall (.Slice oa ob oc p) = true := rfl
theorem notCall_Dict : notCall (.Dict oas as p) = true := rfl
theorem notCall_GeneratorExp : notCall (.GeneratorExp a gs sc p) = true := rfl
theorem notTup_Name : notTup (.Name x p) = true := rfl
theorem notTup_Constant : notTup (.Constant c j p) = true := rfl
theorem notTup_Call : notTup (.Call f as ks p) = true := rfl
theorem notTup_BinOp : notTup (.BinOp a op b p) = true := rfl
theorem notTup_UnaryOp : notTup (.UnaryOp uo a p) = true := rfl
theorem notTup_BoolOp : notTup (.BoolOp bo as p) = true := rfl
theorem notTup_Compare : notTup (.Compare a ops as p) = true := rfl
theorem notTup_Tuple : notTup (.Tuple as j p) = false := rfl
theorem notTup_List : notTup (.List as p) = true := rfl
theorem notTup_ListComp : notTup (.ListComp a gs sc p) = true := rfl
theorem notTup_Subscript : notTup (.Subscript a b p) = true := rfl
theorem notTup_Attribute : notTup (.Attribute a x p) = true := rfl
theorem notTup_IfExp : notTup (.IfExp a b c2 p) = true := rfl
theorem notTup_Slice : notTup (.Slice oa ob oc p) = true := rfl
theorem notTup_Dict : notTup (.Dict oas as p) = true := rfl
theorem notTup_GeneratorExp : notTup (.GeneratorExp a gs sc p) = true := rfl
theorem isNone_Name : isNone (.Name x p) = false := rfl
theorem isNone_Call : isNone (.Call f as ks p) = false := rfl
theorem isNone_BinOp : isNone (.BinOp a op b p) = false := rfl
theorem isNone_UnaryOp : isNone (.UnaryOp uo a p) = false := rfl
theorem isNone_BoolOp : isNone (.BoolOp bo as p) = false := rfl
theorem isNone_Compare : isNone (.Compare a ops as p) = false := rfl
theorem isNone_Tuple : isNone (.Tuple as j p) = false := rfl
theorem isNone_List : isNone (.List as p) = false := rfl
theorem isNone_ListComp : isNone (.ListComp a gs sc p) = false := rfl
theorem isNone_Subscript : isNone (.Subscript a b p) = false := rfl
theorem isNone_Attribute : isNone (.Attribute a x p) = false := rfl
theorem isNone_IfExp : isNone (.IfExp a b c2 p) = false := rfl
theorem isNone_Slice : isNone (.Slice oa ob oc p) = false := rfl
theorem isNone_Dict : isNone (.Dict oas as p) = false := rfl
theorem isNone_GeneratorExp : isNone (.GeneratorExp a gs sc p) = false := rfl
theorem isNone_c : isNone (.Constant .none j p) = true := rfl
theorem isNone_i {i : Int} : isNone (.Constant (.int i) j p) = false := rfl
theorem isNone_s {i : Str} : isNone (.Constant (.str i) j p) = false := rfl
end
theorem ixN_nat {m n : Nat} : ixN m ((n : Nat) : Int) = if n < m then some n else none := by
  unfold ixN
  rw [if_pos (Int.natCast_nonneg n)]
  by_cases h : n < m
  · rw [if_pos h, if_pos (by omega)]; rfl
  · rw [if_neg h, if_neg (by omega)]
theorem atI_nat {α : Type} {xs : List α} {n : Nat} : atI xs ((n : Nat) : Int) = xs[n]? := by
  unfold atI
  rw [ixN_nat]
  by_cases h : n < xs.length
  · rw [if_pos h]; rfl
  · rw [if_neg h, List.getElem?_eq_none (by omega)]; rfl
theorem atI_lit {α : Type} {xs : List α} {n : Nat} : atI xs (no_index (@OfNat.ofNat Int n instOfNat)) = xs[n]? := atI_nat
theorem ixN_lit {m n : Nat} : ixN m (no_index (@OfNat.ofNat Int n instOfNat)) = if n < m then some n else none := ixN_nat
theorem toNat_lit {n : Nat} : (no_index (@OfNat.ofNat Int n instOfNat)).toNat = n := rfl
theorem kit_ii : kitB "int" "int" = some true := by decide +kernel
theorem kit_ib : kitB "int" "bool" = some false := by decide +kernel
theorem kit_bb : kitB "bool" "bool" = some true := by decide +kernel
theorem kit_bi : kitB "bool" "int" = some true := by decide +kernel
theorem kit_nb : kitB "NoneType" "bool" = some false := by decide +kernel
theorem kit_ni : kitB "NoneType" "int" = some false := by decide +kernel
theorem kit_si : kitB "str" "int" = some false := by decide +kernel
theorem kit_sb : kitB "str" "bool" = some false := by decide +kernel
theorem kit_tt : kitB "tuple" "tuple" = some true := by decide +kernel
theorem kit_lt : kitB "list" "tuple" = some false := by decide +kernel
theorem kit_it : kitB "int" "tuple" = some false := by decide +kernel
theorem kit_nt : kitB "NoneType" "tuple" = some false := by decide +kernel
section
variable {i j : Int} {u v : Str} {a b : Bool} {xs ys : List D} {d d2 : D} {op : Operator} {cop : CmpOp} {p : Pos} {cc : Const} {jj : Nat} {e1 e2 : Expr} {es : List Expr} {ks : List Keyword} {uo : UnaryOp} {ct : Ct}
theorem b_add : binD .Add (.int i) (.int j) = some (.int (i + j)) := rfl
theorem b_sub : binD .Sub (.int i) (.int j) = some (.int (i - j)) := rfl
theorem b_addt : binD .Add (.tuple xs) (.tuple ys) = if xs.length + ys.length ≤ 16777216 then some (.tuple (xs ++ ys)) else none := rfl
theorem b_adds : binD .Add (.str u) (.str v) = if u.length + v.length ≤ 16777216 then some (.str (u ++ v)) else none := rfl
theorem b_mul : binD .Mult (.int i) (.int j) = if (-(2 ^ 64) < i ∧ i < 2 ^ 64) ∨ (-(2 ^ 64) < j ∧ j < 2 ^ 64) then some (.int (i * j)) else none := rfl
theorem b_fdiv : binD .FloorDiv (.int i) (.int j) = if 0 < j ∧ j < 1073741824 then some (.int (i / j)) else none := rfl
theorem b_mod : binD .Mod (.int i) (.int j) = if 0 < j then some (.int (i % j)) else none := rfl
theorem b_pow : binD .Pow (.int i) (.int j) = if 0 ≤ j ∧ j ≤ 1000000 ∧ i.natAbs < 2 ^ 64 then some (.int (i ^ j.toNat)) else none := rfl
theorem b_shl : binD .LShift (.int i) (.int j) = if 0 ≤ j ∧ j ≤ 1000000 ∧ i.natAbs < 2 ^ 64 then some (.int (i * 2 ^ j.toNat)) else none := rfl
theorem c_int : catD op (.int i) d = none := by cases op <;> rfl
theorem c_tup : catD op (.tuple xs) d = none := by cases op <;> rfl
theorem c_str : catD op (.str u) d = none := by cases op <;> rfl
theorem c_ll : catD .Add (.list xs) (.list ys) = if xs.length + ys.length ≤ 16777216 then some (xs ++ ys) else none := rfl
theorem m_lt : cmpD .Lt (.int i) (.int j) = some (decide (i < j)) := rfl
theorem m_le : cmpD .LtE (.int i) (.int j) = some (decide (i ≤ j)) := rfl
theorem m_gt : cmpD .Gt (.int i) (.int j) = some (decide (j < i)) := rfl
theorem m_ge : cmpD .GtE (.int i) (.int j) = some (decide (j ≤ i)) := rfl
theorem m_eq : cmpD .Eq (.int i) (.int j) = some (decide (i = j)) := rfl
theorem m_ne : cmpD .NotEq (.int i) (.int j) = some (!decide (i = j)) := rfl
theorem m_eqs : cmpD .Eq (.str u) (.str v) = some (decide (u = v)) := rfl
theorem m_nes : cmpD .NotEq (.str u) (.str v) = some (!decide (u = v)) := rfl
theorem m_eqb : cmpD .Eq (.bool a) (.bool b) = some (decide (a = b)) := rfl
theorem m_neb : cmpD .NotEq (.bool a) (.bool b) = some (!decide (a = b)) := rfl
theorem m_eq_ : cmpD .Eq d d2 = eqD d d2 := rfl
theorem m_ne_ : cmpD .NotEq d d2 = (eqD d d2).map (!·) := rfl
theorem m_in : cmpD .In d d2 = inD d d2 := rfl
theorem m_nin : cmpD .NotIn d d2 = (inD d d2).map (!·) := rfl
theorem x_t : ixE (.tuple xs) (.int i) = atI xs i := rfl
theorem x_l : ixE (.list xs) (.int i) = atI xs i := rfl
theorem x_s : ixE (.str u) (.int i) = if u.length ≤ 16777216 then (atI u.cps.toList i).map fun c => .str ⟨#[c]⟩ else none := rfl
theorem k_len : bltB "len" xs = lenD xs := rfl
theorem k_abs : bltB "abs" xs = absD xs := rfl
theorem k_max : bltB "max" xs = maxD xs := rfl
theorem k_min : bltB "min" xs = minD xs := rfl
theorem k_sum : bltB "sum" xs = sumD xs := rfl
theorem k_all : bltB "all" xs = allD xs := rfl
theorem k_any : bltB "any" xs = anyD xs := rfl
theorem k_divmod : bltB "divmod" xs = divmodD xs := rfl
theorem k_int : bltB "int" xs = none := rfl
theorem kt_int : bltT "int" xs = intDD xs := rfl
theorem k_tuple : bltB "tuple" xs = none := rfl
theorem kt_tuple : bltT "tuple" xs = tupleD xs := rfl
theorem l_t : lenD [.tuple xs] = some (.int xs.length) := rfl
theorem l_l : lenD [.list xs] = some (.int xs.length) := rfl
theorem l_s : lenD [.str u] = if u.length ≤ 16777216 then some (.int u.length) else none := rfl
theorem a_i : absD [.int i] = some (.int (if i < 0 then -i else i)) := rfl
theorem mx_2 : maxD [.int i, .int j] = some (.int (if j > i then j else i)) := rfl
theorem mn_2 : minD [.int i, .int j] = some (.int (if j < i then j else i)) := rfl
theorem mx_l : maxD [.list xs] = (intsOf xs).bind fun z => (maxI z).map .int := rfl
theorem mn_l : minD [.list xs] = (intsOf xs).bind fun z => (minI z).map .int := rfl
theorem sm_l : sumD [.list xs] = (intsOf xs).map fun z => .int z.sum := rfl
theorem al_l : allD [.list xs] = (boolsOf xs).map fun z => .bool (z.all id) := rfl
theorem an_l : anyD [.list xs] = (boolsOf xs).map fun z => .bool (z.any id) := rfl
theorem dm_ : divmodD [.int i, .int j] = if 0 < j ∧ j < 1073741824 then some (.tuple [.int (i / j), .int (i % j)]) else none := rfl
theorem it_i : intDD [.int i] = some (.int i) := rfl
theorem it_b : intDD [.bool a] = some (.int (if a then 1 else 0)) := rfl
theorem tu_l : tupleD [.list xs] = some (.tuple xs) := rfl
theorem tu_t : tupleD [.tuple xs] = some (.tuple xs) := rfl
theorem li_l : listD [.list xs] = some xs := rfl
theorem li_t : listD [.tuple xs] = some xs := rfl
theorem tr_b : truD (.bool a) = some a := rfl
theorem tr_i : truD (.int i) = some (i != 0) := rfl
theorem tr_t : truD (.tuple xs) = some (!xs.isEmpty) := rfl
theorem tr_l : truD (.list xs) = some (!xs.isEmpty) := rfl
theorem tr_n : truD .none = some false := rfl
theorem n_n : isN .none = true := rfl
theorem n_i : isN (.int i) = false := rfl
theorem n_t : isN (.tuple xs) = false := rfl
theorem n_b : isN (.bool a) = false := rfl
theorem n_s : isN (.str u) = false := rfl
theorem n_l : isN (.list xs) = false := rfl
theorem ty_i : tyName (.int i) = "int" := rfl
theorem ty_b : tyName (.bool a) = "bool" := rfl
theorem ty_s : tyName (.str u) = "str" := rfl
theorem ty_t : tyName (.tuple xs) = "tuple" := rfl
theorem ty_l : tyName (.list xs) = "list" := rfl
theorem ty_n : tyName .none = "NoneType" := rfl
theorem tyo_int : tyOf "int" = some "int" := rfl
theorem tyo_bool : tyOf "bool" = some "bool" := rfl
theorem tyo_str : tyOf "str" = some "str" := rfl
theorem tyo_tuple : tyOf "tuple" = some "tuple" := rfl
theorem tyo_list : tyOf "list" = some "list" := rfl
theorem fl_i : flatD (.int i) = true := rfl
theorem fl_b : flatD (.bool a) = true := rfl
theorem fl_s : flatD (.str u) = true := rfl
theorem fl_n : flatD .none = true := rfl
theorem au_a : augG .Add = some fun i j => i + j := rfl
theorem au_s : augG .Sub = some fun i j => i - j := rfl
theorem sf_f : strM "find" u (.str v) = some (.int (Txt.find u v)) := rfl
theorem sj_l : strM "join" u (.list xs) = (strsOf xs).bind fun ys => if (ys.map (·.length)).sum + ys.length * u.length ≤ 16777216 then some (.str (Txt.join u ys)) else none := rfl
theorem sj_t : strM "join" u (.tuple xs) = (strsOf xs).bind fun ys => if (ys.map (·.length)).sum + ys.length * u.length ≤ 16777216 then some (.str (Txt.join u ys)) else none := rfl
theorem bm_ : behindInMarks cop (.Name u p) = false := rfl
theorem bm_c : behindInMarks cop (.Constant cc jj p) = false := rfl
theorem bm_call : behindInMarks cop (.Call e1 es ks p) = false := rfl
theorem bm_b : behindInMarks cop (.BinOp e1 op e2 p) = false := rfl
theorem bm_s : behindInMarks cop (.Subscript e1 e2 p) = false := rfl
theorem bm_t : behindInMarks cop (.Tuple es jj p) = false := rfl
theorem bm_u : behindInMarks cop (.UnaryOp uo e1 p) = false := rfl
theorem io_v : isIo (some (.val d)) = false := rfl
theorem io_n : isIo (some .non) = false := rfl
theorem io_f : isIo (some (.own false ct)) = false := rfl
theorem io_t : isIo (some (.own true ct)) = true := rfl
theorem cst_i : constE (.int i) = some (.int i) := rfl
end
def bdS (o : Option Rs) (k : Rho → Option Rs) : Option Rs := match o with
  | some (.nx ρ1) => k ρ1
  | q => q
theorem bdS_nx {ρ : Rho} {k : Rho → Option Rs} : bdS (some (.nx ρ)) k = k ρ := rfl
theorem bdS_rt {ρ : Rho} {d : D} {k : Rho → Option Rs} : bdS (some (.rt d ρ)) k = some (.rt d ρ) := rfl
theorem bdS_rf {ρ : Rho} {d : Ct} {k : Rho → Option Rs} : bdS (some (.rf d ρ)) k = some (.rf d ρ) := rfl
theorem bdS_bk {ρ : Rho} {k : Rho → Option Rs} : bdS (some (.bk ρ)) k = some (.bk ρ) := rfl
theorem bdS_ct {ρ : Rho} {k : Rho → Option Rs} : bdS (some (.ct ρ)) k = some (.ct ρ) := rfl
section
variable {fm : Fm} {ρ : Rho} {x : Str} {p : Pos} {c : Const} {j : Nat} {f a b c2 : Expr} {as : List Expr} {ks : List Keyword} {op : Operator} {uo : UnaryOp} {bo : BoolOp} {ops : List CmpOp} {gs : List Comprehension} {sc : Scope} {oas : List (Option Expr)} {i : Int}
theorem ownAt_Constant : ownAt fm (.Constant c j p) ρ = none := rfl
theorem ownAt_Call : ownAt fm (.Call f as ks p) ρ = none := rfl
theorem ownAt_BinOp : ownAt fm (.BinOp a op b p) ρ = none := rfl
theorem ownAt_UnaryOp : ownAt fm (.UnaryOp uo a p) ρ = none := rfl
theorem ownAt_BoolOp : ownAt fm (.BoolOp bo as p) ρ = none := rfl
theorem ownAt_Compare : ownAt fm (.Compare a ops as p) ρ = none := rfl
theorem ownAt_Tuple : ownAt fm (.Tuple as j p) ρ = none := rfl
theorem ownAt_List : ownAt fm (.List as p) ρ = none := rfl
theorem ownAt_ListComp : ownAt fm (.ListComp a gs sc p) ρ = none := rfl
theorem ownAt_Subscript : ownAt fm (.Subscript a b p) ρ = none := rfl
theorem ownAt_Attribute : ownAt fm (.Attribute a x p) ρ = none := rfl
theorem ownAt_IfExp : ownAt fm (.IfExp a b c2 p) ρ = none := rfl
theorem ownAt_Dict : ownAt fm (.Dict oas as p) ρ = none := rfl
theorem ownD_Constant : ownD fm (.Constant c j p) ρ = none := rfl
theorem ownD_Call : ownD fm (.Call f as ks p) ρ = none := rfl
theorem ownD_BinOp : ownD fm (.BinOp a op b p) ρ = none := rfl
theorem ownD_UnaryOp : ownD fm (.UnaryOp uo a p) ρ = none := rfl
theorem ownD_BoolOp : ownD fm (.BoolOp bo as p) ρ = none := rfl
theorem ownD_Compare : ownD fm (.Compare a ops as p) ρ = none := rfl
theorem ownD_Tuple : ownD fm (.Tuple as j p) ρ = none := rfl
theorem ownD_List : ownD fm (.List as p) ρ = none := rfl
theorem ownD_ListComp : ownD fm (.ListComp a gs sc p) ρ = none := rfl
theorem ownD_Subscript : ownD fm (.Subscript a b p) ρ = none := rfl
theorem ownD_Attribute : ownD fm (.Attribute a x p) ρ = none := rfl
theorem ownD_IfExp : ownD fm (.IfExp a b c2 p) ρ = none := rfl
theorem ownD_Dict : ownD fm (.Dict oas as p) ρ = none := rfl
theorem ownAt_Name : ownAt fm (.Name x p) ρ = (slot fm x).bind fun i => match ρ[i]? with
    | some (.own b (.lst ds)) => some (i, b, ds)
    | _ => none := rfl
theorem ownD_Name : ownD fm (.Name x p) ρ = (slot fm x).bind fun i => match ρ[i]? with
    | some (.own _ (.dK kvs)) => some (i, kvs)
    | _ => none := rfl
theorem q_ii {i j : Int} : eqD (.int i) (.int j) = some (decide (i = j)) := rfl
theorem q_ss {i j : Str} : eqD (.str i) (.str j) = some (decide (i = j)) := rfl
theorem q_bb {i j : Bool} : eqD (.bool i) (.bool j) = some (decide (i = j)) := rfl
theorem q_nn : eqD .none .none = some true := by simp [eqD, SeqAt.shaped, PyData.canLay0, PyData.depth, PyData.eqv]
theorem q_in {i : Int} : eqD (.int i) .none = some false := by simp [eqD, SeqAt.shaped, PyData.canLay0, PyData.depth, PyData.eqv]
theorem q_ni {i : Int} : eqD .none (.int i) = some false := by simp [eqD, SeqAt.shaped, PyData.canLay0, PyData.depth, PyData.eqv]
theorem in_s {c : Nat} {z : Str} : inD (.str ⟨#[c]⟩) (.str z) = some (decide (c ∈ z.cps.toList)) := rfl
theorem tk_i : toKey (.int i) = some (.inl i) := rfl
theorem tk_s : toKey (.str x) = some (.inr x) := rfl
end
theorem nonS_n : isNonS (some .non) = true := rfl
theorem dropR_nil {ρ : Rho} : dropR [] ρ = ρ := by cases ρ <;> rfl
theorem dropR_nil2 {fs : List Bool} : dropR fs [] = [] := by cases fs <;> rfl
theorem dropR_f {fs : List Bool} {s : Sl} {ρ : Rho} : dropR (false :: fs) (s :: ρ) = s :: dropR fs ρ := rfl
theorem dropR_v {fs : List Bool} {d : D} {ρ : Rho} : dropR (true :: fs) (.val d :: ρ) = .non :: dropR fs ρ := rfl
theorem dropR_n {fs : List Bool} {ρ : Rho} : dropR (true :: fs) (.non :: ρ) = .non :: dropR fs ρ := rfl
theorem dropR_o {fs : List Bool} {c : Ct} {ρ : Rho} : dropR (true :: fs) (.own false c :: ρ) = .non :: dropR fs ρ := rfl
theorem dropR_t {fs : List Bool} {c : Ct} {ρ : Rho} : dropR (true :: fs) (.own true c :: ρ) = .own true c :: dropR fs ρ := rfl
theorem blank_nil {ρ : Rho} : blank ρ [] = ρ := rfl
theorem blank_cons {ρ : Rho} {v : Nat} {vs : List Nat} : blank ρ (v :: vs) = (blank ρ vs).set v .non := rfl
theorem lcCond_ {n : Nat} {vs : List Nat} {s : Rho} : lcCond n vs s = (decide (s.length = n) && vs.all fun v => isNonS s[v]?) := rfl
theorem ifs_nil {r : Evs} {fm : Fm} {ρ : Rho} : ifsE r fm [] ρ = some (true, ρ) := rfl
theorem ifs_one {r : Evs} {fm : Fm} {ρ : Rho} {c : Expr} : ifsE r fm [c] ρ = r.T fm c ρ := rfl
/-! ### the evaluator in equations -/
section
variable {cs : Cs} {o : Or} {r : Evs} {fm : Fm} {ρ : Rho} {n : Nat} {p p1 p2 : Pos}
theorem fr_E {e : Expr} : (frame cs o (n + 1)).E fm e ρ = stepE cs (frame cs o n) fm e ρ := rfl
theorem fr_F {e : Expr} : (frame cs o (n + 1)).F fm e ρ = stepF cs (frame cs o n) fm e ρ := rfl
theorem fr_T {e : Expr} : (frame cs o (n + 1)).T fm e ρ = stepT (frame cs o n) fm e ρ := rfl
theorem fr_S {st : Stmt} : (frame cs o (n + 1)).S fm st ρ = stepS2 cs (frame cs o n) fm o st ρ := rfl
theorem e_name {x : Str} : stepE cs r fm (.Name x p) ρ = nameE cs fm x ρ := rfl
theorem e_int {i : Int} {j : Nat} : stepE cs r fm (.Constant (.int i) j p) ρ = some (.int i, ρ) := rfl
theorem e_bool {i : Bool} {j : Nat} : stepE cs r fm (.Constant (.bool i) j p) ρ = some (.bool i, ρ) := rfl
theorem e_str {i : Str} {j : Nat} : stepE cs r fm (.Constant (.str i) j p) ρ = some (.str i, ρ) := rfl
theorem e_non {j : Nat} : stepE cs r fm (.Constant .none j p) ρ = some (.none, ρ) := rfl
theorem e_bin {a b : Expr} {op : Operator} : stepE cs r fm (.BinOp a op b p) ρ = bd2 (r.E fm a ρ) fun dx ρ1 => bd2 (r.E fm b ρ1) fun dy ρ2 => (match catD op dx dy with
    | some zs => some (.list zs, ρ2)
    | none => bd1 (binD op dx dy) fun dz => some (dz, ρ2)) := rfl
theorem e_not {a : Expr} : stepE cs r fm (.UnaryOp .Not a p) ρ = bd2 (r.E fm a ρ) fun d ρ1 => (match d with
    | .bool x => some (.bool (!x), ρ1)
    | _ => none) := rfl
theorem e_neg {a : Expr} : stepE cs r fm (.UnaryOp .USub a p) ρ = bd2 (r.E fm a ρ) fun d ρ1 => (match d with
    | .int x => some (.int (-x), ρ1)
    | _ => none) := rfl
theorem e_boolop {op : BoolOp} {es : List Expr} : stepE cs r fm (.BoolOp op es p) ρ = boolE r fm op es ρ := rfl
theorem e_if {c a b : Expr} : stepE cs r fm (.IfExp c a b p) ρ = bd2 (r.T fm c ρ) fun x ρ1 => if x = true then r.E fm a ρ1 else r.E fm b ρ1 := rfl
theorem e_cmp {a : Expr} {ops : List CmpOp} {bs : List Expr} : stepE cs r fm (.Compare a ops bs p) ρ = bd2 (cmpE r fm a ops bs ρ) fun c ρ1 => some (.bool c, ρ1) := rfl
theorem e_tup {es : List Expr} {k : Nat} : stepE cs r fm (.Tuple es k p) ρ = bd2 (argsE r fm es ρ) fun ds ρ1 => if ds.length ≤ 1000 then some (.tuple ds, ρ1) else none := rfl
theorem e_sub {a b : Expr} : stepE cs r fm (.Subscript a b p) ρ = subE r fm a b ρ := rfl
theorem e_lst {es : List Expr} : stepE cs r fm (.List es p) ρ = bd2 (r.F fm (.List es p) ρ) fun c ρ1 => (match c with
    | .lst ds => some (.list ds, ρ1)
    | _ => none) := rfl
theorem e_lc {e : Expr} {gs : List Comprehension} {sc : Scope} : stepE cs r fm (.ListComp e gs sc p) ρ = bd2 (r.F fm (.ListComp e gs sc p) ρ) fun c ρ1 => (match c with
    | .lst ds => some (.list ds, ρ1)
    | _ => none) := rfl
theorem e_call {x : Str} {args : List Expr} (h : freshB cs (.Call (.Name x p1) args [] p) = false) : stepE cs r fm (.Call (.Name x p1) args [] p) ρ = callE cs r fm x args ρ := by
  unfold stepE
  rw [h]
  rfl
theorem e_callF {x : Str} {args : List Expr} (h : freshB cs (.Call (.Name x p1) args [] p) = true) : stepE cs r fm (.Call (.Name x p1) args [] p) ρ = bd2 (r.F fm (.Call (.Name x p1) args [] p) ρ) fun c ρ1 => (match c with
    | .lst ds => some (.list ds, ρ1)
    | _ => none) := by
  unfold stepE
  exact (if_pos h).trans rfl
theorem t_bool {op : BoolOp} {es : List Expr} : stepT r fm (.BoolOp op es p) ρ = boolT r fm op es ρ := rfl
theorem t_cmp_ {a : Expr} {ops : List CmpOp} {bs : List Expr} : stepT r fm (.Compare a ops bs p) ρ = cmpE r fm a ops bs ρ := rfl
theorem t_not_ {a : Expr} : stepT r fm (.UnaryOp .Not a p) ρ = bd2 (r.T fm a ρ) fun b ρ1 => some (!b, ρ1) := rfl
theorem s_if_ {c : Expr} {A B : List Stmt} : stepS2 cs r fm o (.If c A B p) ρ = bd2 (r.T fm c ρ) fun b ρ1 => if b = true then ssE r fm A ρ1 else ssE r fm B ρ1 := rfl
theorem s_ret_ {e : Expr} : stepS2 cs r fm o (.Return (some e) p) ρ = retE o r fm e ρ := rfl
theorem s_aug_ {tg e : Expr} {op : Operator} : stepS2 cs r fm o (.AugAssign tg op e p) ρ = augE r fm tg op e ρ := rfl
theorem s_expr_ {e : Expr} : stepS2 cs r fm o (.Expr e p) ρ = exprE r fm e ρ := rfl
theorem s_for_ {tg it : Expr} {body : List Stmt} : stepS2 cs r fm o (.For tg it body [] p) ρ = forE cs o r fm tg it body p.line ρ := rfl
theorem s_asg {tg e : Expr} : stepS2 cs r fm o (.Assign [tg] e p) ρ = if notComp e = true then assignE cs r fm tg e ρ else stepS2 cs r fm o (.Assign [tg] e p) ρ := by
  by_cases h : notComp e = true
  · have h1 : lcAssign (.Assign [tg] e p) = none := by
      cases e <;> first | (cases h; done) | (cases tg <;> rfl)
    have h2 : lcAssign2 (.Assign [tg] e p) = none := by
      cases e <;> first | (cases h; done) | (cases tg <;> rfl)
    rw [if_pos h]
    unfold stepS2
    rw [h1, h2]
    rfl
  · rw [if_neg h]
theorem s_asg_Name {tg : Expr} {x : Str} : stepS2 cs r fm o (.Assign [tg] (.Name x p1) p) ρ = assignE cs r fm tg (.Name x p1) ρ := s_asg.trans rfl
theorem s_asg_Const {tg : Expr} {x : Const} {j : Nat} : stepS2 cs r fm o (.Assign [tg] (.Constant x j p1) p) ρ = assignE cs r fm tg (.Constant x j p1) ρ := s_asg.trans rfl
theorem s_asg_Call {tg f : Expr} {as : List Expr} {ks : List Keyword} : stepS2 cs r fm o (.Assign [tg] (.Call f as ks p1) p) ρ = assignE cs r fm tg (.Call f as ks p1) ρ := s_asg.trans rfl
theorem s_asg_Bin {tg a b : Expr} {op : Operator} : stepS2 cs r fm o (.Assign [tg] (.BinOp a op b p1) p) ρ = assignE cs r fm tg (.BinOp a op b p1) ρ := s_asg.trans rfl
theorem s_asg_Un {tg a : Expr} {op : UnaryOp} : stepS2 cs r fm o (.Assign [tg] (.UnaryOp op a p1) p) ρ = assignE cs r fm tg (.UnaryOp op a p1) ρ := s_asg.trans rfl
theorem s_asg_Sub {tg a b : Expr} : stepS2 cs r fm o (.Assign [tg] (.Subscript a b p1) p) ρ = assignE cs r fm tg (.Subscript a b p1) ρ := s_asg.trans rfl
theorem s_asg_Tup {tg : Expr} {es : List Expr} {j : Nat} : stepS2 cs r fm o (.Assign [tg] (.Tuple es j p1) p) ρ = assignE cs r fm tg (.Tuple es j p1) ρ := s_asg.trans rfl
theorem s_asg_Lst {tg : Expr} {es : List Expr} : stepS2 cs r fm o (.Assign [tg] (.List es p1) p) ρ = assignE cs r fm tg (.List es p1) ρ := s_asg.trans rfl
theorem s_asg_If {tg a b c : Expr} : stepS2 cs r fm o (.Assign [tg] (.IfExp a b c p1) p) ρ = assignE cs r fm tg (.IfExp a b c p1) ρ := s_asg.trans rfl
theorem s_asg_Cmp {tg a : Expr} {ops : List CmpOp} {es : List Expr} : stepS2 cs r fm o (.Assign [tg] (.Compare a ops es p1) p) ρ = assignE cs r fm tg (.Compare a ops es p1) ρ := s_asg.trans rfl
theorem s_asg_Bool {tg : Expr} {op : BoolOp} {es : List Expr} : stepS2 cs r fm o (.Assign [tg] (.BoolOp op es p1) p) ρ = assignE cs r fm tg (.BoolOp op es p1) ρ := s_asg.trans rfl
theorem ss_nil_ : ssE r fm [] ρ = some (.nx ρ) := rfl
theorem ss_cons_ {st : Stmt} {sts : List Stmt} : ssE r fm (st :: sts) ρ = bdS (r.S fm st ρ) fun ρ1 => ssE r fm sts ρ1 := by
  show (match r.S fm st ρ with
    | some (.nx ρ1) => ssE r fm sts ρ1
    | q => q) = _
  unfold bdS
  rfl
theorem args_nil_ : argsE r fm [] ρ = some ([], ρ) := rfl
theorem args_cons_ {e : Expr} {es : List Expr} : argsE r fm (e :: es) ρ = if notStar e = true then bd2 (r.E fm e ρ) fun d ρ1 => bd2 (argsE r fm es ρ1) fun ds ρ2 => some (d :: ds, ρ2) else none := rfl
theorem e_meth {o2 e : Expr} {nm : Str} (h : freshB cs (.Call (.Attribute o2 nm p1) [e] [] p) = false) : stepE cs r fm (.Call (.Attribute o2 nm p1) [e] [] p) ρ = if nm = "pop" then popE r fm o2 nm p1 p e ρ else methE r fm o2 nm p1 p e ρ := by
  unfold stepE
  rw [h]
  cases o2 <;> rfl
theorem e_get {x nm : Str} {e f : Expr} (h : freshB cs (.Call (.Attribute (.Name x p2) nm p1) [e, f] [] p) = false) : stepE cs r fm (.Call (.Attribute (.Name x p2) nm p1) [e, f] [] p) ρ = getE cs r fm x nm p1 p e f ρ := by
  unfold stepE
  rw [h]
  rfl
theorem e_dict {ks : List (Option Expr)} {vs : List Expr} : stepE cs r fm (.Dict ks vs p) ρ = bd2 (r.F fm (.Dict ks vs p) ρ) fun c ρ1 => (match c with
    | .lst ds => some (.list ds, ρ1)
    | _ => none) := rfl
theorem fb_Dict {ks : List (Option Expr)} {vs : List Expr} : freshB cs (.Dict ks vs p) = true := rfl
theorem fb_LC {e : Expr} {gs : List Comprehension} {sc : Scope} : freshB cs (.ListComp e gs sc p) = true := rfl
theorem f_Lst {es : List Expr} : stepF cs r fm (.List es p) ρ = bd2 (argsE r fm es ρ) fun ds ρ1 => if ds.length ≤ 1000 then some (.lst ds, ρ1) else none := rfl
theorem f_LC {elt tg iter : Expr} {ifs : List Expr} {sc : Scope} : stepF cs r fm (.ListComp elt [⟨tg, iter, ifs, 0⟩] sc p) ρ = bd2 (lcE cs r fm elt tg iter ifs sc ρ) fun ds ρ1 => some (.lst ds, ρ1) := rfl
theorem f_LC2 {elt tg iter tg1 iter1 : Expr} {ifs ifs1 : List Expr} {sc : Scope} : stepF cs r fm (.ListComp elt [⟨tg, iter, ifs, 0⟩, ⟨tg1, iter1, ifs1, 0⟩] sc p) ρ = bd2 (lc2E cs r fm elt tg iter ifs tg1 iter1 ifs1 sc ρ) fun ds ρ1 => some (.lst ds, ρ1) := rfl
theorem f_Bin {a b : Expr} {op : Operator} : stepF cs r fm (.BinOp a op b p) ρ = bd2 (r.E fm a ρ) fun dx ρ1 => bd2 (r.E fm b ρ1) fun dy ρ2 => bd1 (catD op dx dy) fun zs => some (.lst zs, ρ2) := rfl
theorem bd1_none {α β : Type} {f : α → Option β} : bd1 none f = none := rfl
theorem bd2_none {α β γ : Type} {f : α → β → Option γ} : bd2 none f = none := rfl
theorem f_Dict {ks : List (Option Expr)} {vs : List Expr} : stepF cs r fm (.Dict ks vs p) ρ = if (dOk ks vs && !ks.isEmpty && decide (ks.length ≤ 15)) = true then bd2 (pairsE r fm ks vs ρ) fun kvs ρ1 => if kvs.length ≤ 15 then some (.dK (mergeD [] kvs), ρ1) else none else none := rfl
theorem tg_Name {x : Str} {d : D} : tgtE fm (n + 1) (.Name x p) d ρ = (slotL fm x).bind fun i => if isIo ρ[i]? = false then some (ρ.set i (.val d)) else none := by cases d <;> rfl
theorem tg_Tup {es : List Expr} {j : Nat} {ds : List D} : tgtE fm (n + 1) (.Tuple es j p) (.tuple ds) ρ = if (decide (ds.length = es.length) && es.all notStar) = true then tgtsG (tgtE fm n) es ds ρ else none := rfl
theorem tgV_Name {x : Str} : tgtV fm (n + 1) (.Name x p) = (slotL fm x).toList := rfl
theorem tgV_Tup {es : List Expr} {j : Nat} : tgtV fm (n + 1) (.Tuple es j p) = tgtsV (tgtV fm n) es := rfl
theorem tgs_nil {f : Expr → D → Rho → Option Rho} : tgtsG f [] [] ρ = some ρ := rfl
theorem tgs_cons {f : Expr → D → Rho → Option Rho} {e : Expr} {es : List Expr} {d : D} {ds : List D} : tgtsG f (e :: es) (d :: ds) ρ = (f e d ρ).bind fun ρ1 => tgtsG f es ds ρ1 := rfl
theorem fb_Name {x : Str} : freshB cs (.Name x p) = false := rfl
theorem fb_Const {x : Const} {j : Nat} : freshB cs (.Constant x j p) = false := rfl
theorem fb_Bin {a b : Expr} {op : Operator} : freshB cs (.BinOp a op b p) = false := rfl
theorem fb_Un {a : Expr} {op : UnaryOp} : freshB cs (.UnaryOp op a p) = false := rfl
theorem fb_Sub {a b : Expr} : freshB cs (.Subscript a b p) = false := rfl
theorem fb_Tup {es : List Expr} {j : Nat} : freshB cs (.Tuple es j p) = false := rfl
theorem fb_Lst {es : List Expr} : freshB cs (.List es p) = true := rfl
theorem fb_If {a b c : Expr} : freshB cs (.IfExp a b c p) = false := rfl
theorem fb_Cmp {a : Expr} {ops : List CmpOp} {es : List Expr} : freshB cs (.Compare a ops es p) = false := rfl
theorem fb_Bool {op : BoolOp} {es : List Expr} : freshB cs (.BoolOp op es p) = false := rfl
theorem ad_Name {x : Str} : isAdd (.Name x p) = false := rfl
theorem ad_Const {x : Const} {j : Nat} : isAdd (.Constant x j p) = false := rfl
theorem ad_Call {f : Expr} {as : List Expr} {ks : List Keyword} : isAdd (.Call f as ks p) = false := rfl
theorem ad_Sub {a b : Expr} : isAdd (.Subscript a b p) = false := rfl
theorem ad_Un {a : Expr} {op : UnaryOp} : isAdd (.UnaryOp op a p) = false := rfl
theorem ad_Tup {es : List Expr} {j : Nat} : isAdd (.Tuple es j p) = false := rfl
theorem ad_Lst {es : List Expr} : isAdd (.List es p) = false := rfl
theorem ad_If {a b c : Expr} : isAdd (.IfExp a b c p) = false := rfl
theorem ad_add {a b : Expr} : isAdd (.BinOp a .Add b p) = true := rfl
theorem ad_sub {a b : Expr} : isAdd (.BinOp a .Sub b p) = false := rfl
theorem ad_mul {a b : Expr} : isAdd (.BinOp a .Mult b p) = false := rfl
theorem ad_mod {a b : Expr} : isAdd (.BinOp a .Mod b p) = false := rfl
theorem ad_div {a b : Expr} : isAdd (.BinOp a .FloorDiv b p) = false := rfl
theorem fb_meth {o2 : Expr} {nm : Str} {as : List Expr} : freshB cs (.Call (.Attribute o2 nm p1) as [] p) = decide (nm = "split") := rfl
theorem bd2_mk {α β γ : Type} {a : α} {b : β} {f : α → β → Option γ} : bd2 (some (a, b)) f = f a b := rfl
theorem bd1_mk {α β : Type} {a : α} {f : α → Option β} : bd1 (some a) f = f a := rfl
end
end Ev

set_option Elab.async false
set_option linter.all false
set_option maxRecDepth 100000
namespace Ev
open PySem PySem.Spec PyProof.Rows L2 Lk
section
variable {p : Pg} {P : Program} {w : World} {K : PySem.W.Frag} {mg : Str → Option Value} {base : Heap}
/-- the law's own def -/
theorem law_fn (L : Lnk p P w K mg base) (n : Nat) {x : Str} {df : Df} {f : Addr} {fd : FuncData} (F : Fun K x x df.st f fd) (S : FnScope df.N df.ps (defScope df.st)) (hl : df.ps.length ≤ df.N.length) :
    FnOk P w K mg base CX0 (n + 1) f fd df.ps (SpP K fun ds d => runP (csAt p n) df ds = some d) := by
  refine fn_P F S (fun ds d q => ?_) hl (fun cdv A outer s H E ds d hr2 q => ?_)
  · unfold runP at q
    split at q
    · assumption
    · cases q
  · unfold runP at q
    split at q <;> try (cases q; done)
    have a := agr_def (P := P) (w := w) (K := K) (mg := mg) (base := base) (qual := x) (f := f) (cdv := cdv) (A := A) (outer := outer) (s := s) (H := H) (E := E) S
    have c := cs_ok L n (bx P w K mg base df.N x df.st f cdv A outer s H E) rfl rfl rfl rfl rfl hr2
    split at q <;> try (cases q; done)
    · rename_i h1
      cases q
      exact ssE_ok (frame_ok fuel _ _ a c) h1 rfl
    · rename_i h1
      cases q
      exact ssE_ok (frame_ok fuel _ _ a c) h1 rfl
theorem dpa_int {H : Hp} : ∀ ns : List Int, DpAll K H (ns.map V.int) (ns.map PyData.int)
  | [] => .nil
  | n :: ns => .cons (.int n) (dpa_int ns)
theorem law_sp {n : Nat} {df : Df} {H : Hp} {a : Addr} {ns : List Int} {E : XK} (hs : SqL K H a (ns.map V.int)) (hm : runP (csAt p n) df [.list (ns.map .int)] = some (.bool true)) :
    SpP K (fun ds d => runP (csAt p n) df ds = some d) [.ref a] H (fun v _ => v = .bl true) E := by
  refine ⟨fun _ => False, [.list (ns.map .int)], .bool true, .cons (.lst ?_ (dpa_int ns)) .nil, fun _ h => h.elim, hm, fun v H' _ r => ?_⟩
  · exact Sub.l (fun a o h => cut_some.mpr ⟨id, h⟩) hs
  · cases r; rfl
theorem tup_K {a : Addr} {od : Option Addr} {its : Array Value} {n : Nat} {sl : Array (Option Value)} {us : List V} {ds : List D} (lk : K.lookup a = some ⟨.type "tuple", od, .seq its n, sl⟩) (hz : its.size ≤ sizeLine) (hv : Vals us its.toList) (hd : ∀ H, DpAll K H us ds) : ∀ H, Dp K H (.ref a) (.tuple ds) := fun H =>
  .tup (.inr ⟨_, its, n, lk, rfl, rfl, hz, hv⟩) (hd H)
theorem isk (x : Str) (t : Tok) : keyIs (.inr x) (.str x t) = true := by
  show (x == x) = true
  exact beq_self_eq_true x
theorem gdk_txt {a : Addr} {ep : Nat} (L : List (Str × Tok × Str × Tok)) (lk : K.lookup a = some ⟨.type "dict", none, .dict (L.map fun q => (⟨PyData.keyHash w.params q.1, .str q.1 q.2.1, .str q.2.2.1 q.2.2.2⟩ : DictEntry)).toArray ep, #[]⟩) (hn : (L.map (·.1)).Nodup) (hs : (a == sysModules) = false) :
    GDk P w K a (L.map fun q => (.inr q.1, .str q.2.2.1)) := by
  refine ⟨_, _, ep, L.map fun q => (.inr q.1, .str q.2.2.1 q.2.2.2), lk, ⟨rfl, rfl, rfl⟩, rfl, rfl, ?_, ?_, ?_, hs, ?_⟩
  · intro e he
    rw [List.mem_toArray] at he
    obtain ⟨q, _, rfl⟩ := List.mem_map.mp he
    exact ⟨.inr q.1, isk q.1 q.2.1, rfl⟩
  · clear lk hn
    induction L with
    | nil => exact .nil
    | cons q L ih => exact .cons (isk q.1 q.2.1) rfl ih
  · rw [List.map_map]
    have e : (L.map ((fun kv : Key × Value => kv.1) ∘ fun q => ((.inr q.1 : Key), Value.str q.2.2.1 q.2.2.2))) = (L.map (·.1)).map Sum.inr := by rw [List.map_map]; rfl
    rw [show (L.map ((·.1) ∘ fun q => ((.inr q.1 : Key), Value.str q.2.2.1 q.2.2.2))) = (L.map (·.1)).map Sum.inr from e]
    exact List.pairwise_map.mpr (hn.imp fun h z => h (Sum.inr.inj z))
  · clear lk hn
    intro k
    induction L with
    | nil => exact .inl ⟨rfl, rfl⟩
    | cons q L ih =>
      by_cases e : (.inr q.1 : Key) = k
      · exact .inr ⟨.str q.2.2.1 q.2.2.2, .str q.2.2.1, .str q.2.2.1, by simp [valueAt, List.find?_cons, e], by simp [valD, List.find?_cons, e], ⟨_, rfl⟩, fun _ => .str _⟩
      · rcases ih with ⟨h1, h2⟩ | ⟨v, d, r, h1, h2, h3, h4⟩
        · exact .inl ⟨by simpa [valueAt, List.find?_cons, e] using h1, by simpa [valD, List.find?_cons, e] using h2⟩
        · exact .inr ⟨v, d, r, by simpa [valueAt, List.find?_cons, e] using h1, by simpa [valD, List.find?_cons, e] using h2, h3, h4⟩
end
/-- a comprehension that leaves the state as it is -/
theorem lcL_map {α β : Type} {step : D → Rho → Option (Option D × Rho)} {s : Rho} (f : α → D) (g : α → D) : ∀ {xs : List α}, (∀ x ∈ xs, step (f x) s = some (some (g x), s)) → lcL step (xs.map f) s = some (xs.map g, s)
  | [], _ => rfl
  | x :: xs, h => by
    rw [List.map_cons, lcL, h x (List.mem_cons_self ..)]
    simp only
    rw [lcL_map f g (β := β) fun y hy => h y (List.mem_cons_of_mem _ hy)]
    rfl
/-- a comprehension whose turns change the state -/
theorem lcL_ex {I : Rho → Prop} {Py : D → Prop} {step : D → Rho → Option (Option D × Rho)} : ∀ {xs : List D}, (∀ x ∈ xs, ∀ s, I s → ∃ y s', step x s = some (some y, s') ∧ Py y ∧ I s') → ∀ s, I s → ∃ ys s', lcL step xs s = some (ys, s') ∧ ys.length = xs.length ∧ (∀ y ∈ ys, Py y) ∧ I s'
  | [], _, s, hs => ⟨[], s, rfl, rfl, fun y hy => (by cases hy), hs⟩
  | x :: xs, h, s, hs => by
    obtain ⟨y, s1, h1, py, hs1⟩ := h x (List.mem_cons_self ..) s hs
    obtain ⟨ys, s2, h2, hl, pys, hs2⟩ := lcL_ex (xs := xs) (fun z hz => h z (List.mem_cons_of_mem _ hz)) s1 hs1
    refine ⟨y :: ys, s2, ?_, by rw [List.length_cons, List.length_cons, hl], fun z hz => ?_, hs2⟩
    · rw [lcL, h1]
      simp only
      rw [h2]
      rfl
    · rcases List.mem_cons.mp hz with e | e
      · rw [e]; exact py
      · exact pys z e
/-- .. where each turn's worth is known by its place: f of the item and the state's view -/
theorem lcM_ex {I : Rho → Prop} {Py : List D → Prop} {step : D → Rho → Option (List D × Rho)} (h0 : Py []) (ha : ∀ a b, Py a → Py b → Py (a ++ b)) : ∀ {xs : List D}, (∀ x ∈ xs, ∀ s, I s → ∃ y s', step x s = some (y, s') ∧ Py y ∧ I s') → ∀ s, I s → ∃ ys s', lcM step xs s = some (ys, s') ∧ Py ys ∧ I s'
  | [], _, s, hs => ⟨[], s, rfl, h0, hs⟩
  | x :: xs, h, s, hs => by
    obtain ⟨y, s1, h1, py, hs1⟩ := h x (List.mem_cons_self ..) s hs
    obtain ⟨ys, s2, h2, pys, hs2⟩ := lcM_ex h0 ha (xs := xs) (fun z hz => h z (List.mem_cons_of_mem _ hz)) s1 hs1
    refine ⟨y ++ ys, s2, ?_, ha _ _ py pys, hs2⟩
    rw [lcM, h1]
    simp only
    rw [h2]
/-- a loop that goes through: J k s holds ahead of the item k -/
theorem forL_inv {S R : Type} {step : D → S → Option (Fl S R)} (J : Nat → S → Prop) : ∀ {xs : List D} {k : Nat}, (∀ (i : Nat) x s, xs[i]? = some x → J (k + i) s → ∃ s', step x s = some (.nx s') ∧ J (k + i + 1) s') → ∀ s, J k s → ∃ s', forL step xs s = some (.nx s') ∧ J (k + xs.length) s'
  | [], k, _, s, hs => ⟨s, rfl, hs⟩
  | x :: xs, k, h, s, hs => by
    obtain ⟨s1, h1, hs1⟩ := h 0 x s rfl hs
    obtain ⟨s2, h2, hs2⟩ := forL_inv J (xs := xs) (k := k + 1) (fun i y z hy hz => by
      have := h (i + 1) y z (by simpa using hy) (by rw [show k + (i + 1) = k + 1 + i by omega]; exact hz)
      rw [show k + (i + 1) + 1 = k + 1 + i + 1 by omega] at this
      exact this) s1 hs1
    refine ⟨s2, ?_, by rw [List.length_cons, show k + (xs.length + 1) = k + 1 + xs.length by omega]; exact hs2⟩
    rw [forL, h1]
    exact h2
/-- a comprehension of two walks that leaves the state as it is -/
theorem lcM_map {α : Type} {step : D → Rho → Option (List D × Rho)} {s : Rho} (f : α → D) (g : α → List D) : ∀ {xs : List α}, (∀ x ∈ xs, step (f x) s = some (g x, s)) → lcM step (xs.map f) s = some ((xs.map g).flatten, s)
  | [], _ => rfl
  | x :: xs, h => by
    rw [List.map_cons, lcM, h x (List.mem_cons_self ..)]
    simp only
    rw [lcM_map f g fun y hy => h y (List.mem_cons_of_mem _ hy)]
    rfl
end Ev

set_option Elab.async false
set_option linter.all false
set_option maxRecDepth 100000
namespace Ev
open PySem PySem.Spec PyProof.Rows L2 Lk
/-! ### binds whose continuation is not looked into: its mark's type tells it -/
inductive Tg {σ : Type} (k : σ) : Type where
  | mk
def cdS (o : Option Rs) (k : Rho → Option Rs) (_ : Tg k) : Option Rs := bdS o k
def cd2 {α β γ : Type} (o : Option (α × β)) (k : α → β → Option γ) (_ : Tg k) : Option γ := bd2 o k
def cd1 {α β : Type} (o : Option α) (k : α → Option β) (_ : Tg k) : Option β := o.bind k
theorem in_S {o : Option Rs} {k : Rho → Option Rs} : bdS o k = cdS o k .mk := rfl
theorem in_2 {α β γ : Type} {o : Option (α × β)} {k : α → β → Option γ} : bd2 o k = cd2 o k .mk := rfl
theorem in_1 {α β : Type} {o : Option α} {k : α → Option β} : bd1 o k = cd1 o k .mk := by cases o <;> rfl
theorem in_b {α β : Type} {o : Option α} {k : α → Option β} : o.bind k = cd1 o k .mk := rfl
section
variable {k : Rho → Option Rs} {t : Tg k} {ρ : Rho} {d : D} {c : Ct}
theorem cS_nx : cdS (some (.nx ρ)) k t = k ρ := rfl
theorem cS_rt : cdS (some (.rt d ρ)) k t = some (.rt d ρ) := rfl
theorem cS_rf : cdS (some (.rf c ρ)) k t = some (.rf c ρ) := rfl
theorem cS_bk : cdS (some (.bk ρ)) k t = some (.bk ρ) := rfl
theorem cS_ct : cdS (some (.ct ρ)) k t = some (.ct ρ) := rfl
theorem cS_no : cdS none k t = none := rfl
end
theorem c2_mk {α β γ : Type} {a : α} {b : β} {f : α → β → Option γ} {t : Tg f} : cd2 (some (a, b)) f t = f a b := rfl
theorem c2_no {α β γ : Type} {f : α → β → Option γ} {t : Tg f} : cd2 none f t = none := rfl
theorem c1_mk {α β : Type} {a : α} {f : α → Option β} {t : Tg f} : cd1 (some a) f t = f a := rfl
theorem c1_no {α β : Type} {f : α → Option β} {t : Tg f} : cd1 none f t = none := rfl
section
variable {cs : Cs} {o : Or} {r : Evs} {fm : Fm} {ρ : Rho} {p p1 p2 p3 : Pos}
theorem f_call_ {x : Str} {e : Expr} {es : List Expr} : stepF cs r fm (.Call (.Name x p1) (e :: es) [] p) ρ = if (glB fm.sc x && okName x && (e :: es).all notStar) = true then (match cs.F x with
    | some f => bd2 (argsE r fm (e :: es) ρ) fun ds ρ1 => bd1 (f ds) fun c => some (c, ρ1)
    | none => if x = "list" ∧ cs.B x = true then (match rangeOf (e :: es) with
        | some [e1] => if (glB fm.sc "range" && cs.B "range" && notStar e1) = true then bd2 (r.E fm e1 ρ) fun d ρ1 => (match d with
          | .int j => if rngOk 0 j = true then some (.lst ((rngL 0 j).map .int), ρ1) else none
          | _ => none) else none
        | some [e1, e2] => if (glB fm.sc "range" && cs.B "range" && notStar e1 && notStar e2) = true then bd2 (r.E fm e1 ρ) fun d ρ1 => (match d with
          | .int i => bd2 (r.E fm e2 ρ1) fun d ρ2 => (match d with
            | .int j => if rngOk i j = true then some (.lst ((rngL i j).map .int), ρ2) else none
            | _ => none)
          | _ => none) else none
        | some _ => none
        | none => bd2 (argsE r fm (e :: es) ρ) fun ds ρ1 => bd1 (listD ds) fun zs => some (.lst zs, ρ1))
      else if x = "sorted" ∧ cs.B x = true then bd2 (argsE r fm (e :: es) ρ) fun ds ρ1 => (match ds with
        | [.list ds] => if sortB ds = true then some (.lst (sortD ds), ρ1) else none
        | _ => none)
      else none) else none := rfl
theorem s_asg_Dict {tg : Expr} {ks : List (Option Expr)} {vs : List Expr} : stepS2 cs r fm o (.Assign [tg] (.Dict ks vs p1) p) ρ = assignE cs r fm tg (.Dict ks vs p1) ρ := s_asg.trans rfl
theorem s_asg_Attr {tg a : Expr} {x : Str} : stepS2 cs r fm o (.Assign [tg] (.Attribute a x p1) p) ρ = assignE cs r fm tg (.Attribute a x p1) ρ := s_asg.trans rfl
theorem s_asg_LC {y : Str} {elt tg iter : Expr} {ifs : List Expr} {scope : Scope} : stepS2 cs r fm o (.Assign [.Name y p2] (.ListComp elt [⟨tg, iter, ifs, 0⟩] scope p1) p) ρ = (slotL fm y).bind fun i =>
    if (swapB fm y p2 scope p1 || noSwap fm y p2 p1) = true then bd2 (lcE cs r fm elt tg iter ifs scope ρ) fun ys ρ1 => if isIo ρ1[i]? = false then some (.nx (ρ1.set i (.own false (.lst ys)))) else none else none := rfl
theorem s_asg_LC2 {y : Str} {elt tg iter tg1 iter1 : Expr} {ifs ifs1 : List Expr} {scope : Scope} : stepS2 cs r fm o (.Assign [.Name y p2] (.ListComp elt [⟨tg, iter, ifs, 0⟩, ⟨tg1, iter1, ifs1, 0⟩] scope p1) p) ρ = (slotL fm y).bind fun i =>
    if (swapB fm y p2 scope p1 || noSwap fm y p2 p1) = true then bd2 (lc2E cs r fm elt tg iter ifs tg1 iter1 ifs1 scope ρ) fun ys ρ1 => if isIo ρ1[i]? = false then some (.nx (ρ1.set i (.own false (.lst ys)))) else none else none := rfl
theorem pairsE_nil : pairsE r fm [] [] ρ = some ([], ρ) := rfl
theorem pairsE_cons {kx vx : Expr} {ks : List (Option Expr)} {vs : List Expr} : pairsE r fm (some kx :: ks) (vx :: vs) ρ = bd2 (r.E fm kx ρ) fun d ρ1 => bd1 (toKey d) fun key => bd2 (r.E fm vx ρ1) fun e ρ2 => bd2 (pairsE r fm ks vs ρ2) fun kvs ρ3 => some ((key, e) :: kvs, ρ3) := rfl
theorem dOk_nil : dOk [] [] = true := rfl
theorem dOk_cons {e v : Expr} {ks : List (Option Expr)} {vs : List Expr} : dOk (some e :: ks) (v :: vs) = dOk ks vs := rfl
theorem t_call_ {f : Expr} {as : List Expr} {ks : List Keyword} : stepT r fm (.Call f as ks p) ρ = bd2 (r.E fm (.Call f as ks p) ρ) fun d ρ1 => bd1 (truD d) fun b => some (b, ρ1) := rfl
theorem t_sub_ {a b : Expr} : stepT r fm (.Subscript a b p) ρ = bd2 (r.E fm (.Subscript a b p) ρ) fun d ρ1 => bd1 (truD d) fun b => some (b, ρ1) := rfl
theorem t_name_ {x : Str} : stepT r fm (.Name x p) ρ = (match ownAt fm (.Name x p) ρ with
      | some (_, _, ds) => some (!ds.isEmpty, ρ)
      | none => bd2 (r.E fm (.Name x p) ρ) fun d ρ1 => bd1 (truD d) fun b => some (b, ρ1)) := rfl
theorem ro_Name {x : Str} : rangeOf [.Name x p] = none := rfl
theorem ro_Call {x : Str} {es : List Expr} : rangeOf [.Call (.Name x p1) es [] p] = if x = "range" then some es else none := rfl
theorem ro_Lc {e : Expr} {gs : List Comprehension} {sc : Scope} : rangeOf [.ListComp e gs sc p] = none := rfl
theorem ro_Sub {a b : Expr} : rangeOf [.Subscript a b p] = none := rfl
end
theorem li_s {u : Str} (h : u.length ≤ 16777216) : listD [.str u] = some (signsD u) := by
  show (if u.length ≤ 16777216 then some (signsD u) else none) = _
  rw [if_pos h]
/-! ### what comes of a body: functions of their own, so that the kernel compares their arguments first -/
def flOf (fs : List Bool) : Option Rs → Option (Fl Rho (Sum (D × Rho) (Ct × Rho)))
  | some (.nx ρ) => some (.nx (dropR fs ρ))
  | some (.ct ρ) => some (.nx (dropR fs ρ))
  | some (.bk ρ) => some (.bk (dropR fs ρ))
  | some (.rt d ρ) => some (.rt (.inl (d, ρ)))
  | some (.rf c ρ) => some (.rt (.inr (c, ρ)))
  | none => none
def rsOf : Option (Fl Rho (Sum (D × Rho) (Ct × Rho))) → Option Rs
  | some (.nx ρ) => some (.nx ρ)
  | some (.bk ρ) => some (.nx ρ)
  | some (.rt (.inl (d, ρ))) => some (.rt d ρ)
  | some (.rt (.inr (c, ρ))) => some (.rf c ρ)
  | none => none
def valP : Option Rs → Option D
  | some (.rt d _) => some d
  | some (.nx _) => some .none
  | _ => none
def ioOf (d : D) (ρ : Rho) : Option (D × Ct) := match (ρ[0]? : Option Sl) with
  | some (.own true d1) => some (d, d1)
  | _ => none
def valO : Option Rs → Option (D × Ct)
  | some (.rt d ρ) => ioOf d ρ
  | some (.nx ρ) => ioOf .none ρ
  | _ => none
def valF : Option Rs → Option Ct
  | some (.rf c _) => some c
  | _ => none
section
variable {fs : List Bool} {ρ : Rho} {d : D} {c : Ct} {ss : List Sl}
theorem fl_nx : flOf fs (some (.nx ρ)) = some (.nx (dropR fs ρ)) := rfl
theorem fl_ct : flOf fs (some (.ct ρ)) = some (.nx (dropR fs ρ)) := rfl
theorem fl_bk : flOf fs (some (.bk ρ)) = some (.bk (dropR fs ρ)) := rfl
theorem fl_rt : flOf fs (some (.rt d ρ)) = some (.rt (.inl (d, ρ))) := rfl
theorem fl_rf : flOf fs (some (.rf c ρ)) = some (.rt (.inr (c, ρ))) := rfl
theorem fl_no : flOf fs none = none := rfl
theorem rs_nx : rsOf (some (.nx ρ)) = some (.nx ρ) := rfl
theorem rs_bk : rsOf (some (.bk ρ)) = some (.nx ρ) := rfl
theorem rs_rt : rsOf (some (.rt (.inl (d, ρ)))) = some (.rt d ρ) := rfl
theorem rs_rf : rsOf (some (.rt (.inr (c, ρ)))) = some (.rf c ρ) := rfl
theorem rs_no : rsOf none = none := rfl
theorem vp_rt : valP (some (.rt d ρ)) = some d := rfl
theorem vp_nx : valP (some (.nx ρ)) = some .none := rfl
theorem vo_rt : valO (some (.rt d (.own true c :: ss))) = some (d, c) := rfl
theorem vo_nx : valO (some (.nx (.own true c :: ss))) = some (.none, c) := rfl
theorem vo_rt0 (h : ρ[0]? = some (.own true c)) : valO (some (.rt d ρ)) = some (d, c) := by
  show ioOf d ρ = _
  unfold ioOf
  rw [h]
theorem vf_rf : valF (some (.rf c ρ)) = some c := rfl
theorem turnE_eq {r : Evs} {fm : Fm} {tg : Expr} {body : List Stmt} {x : D} {s : Rho} : turnE r fm tg body fs x s = (tgtE fm 20 tg x s).bind fun ρ2 => flOf fs (ssE r fm body ρ2) := by
  unfold turnE
  congr
theorem forE_eq {cs : Cs} {o : Or} {r : Evs} {fm : Fm} {tg iter : Expr} {body : List Stmt} {line : Nat} : forE cs o r fm tg iter body line ρ = if notSet iter = true then bd2 (iterE cs r fm tg iter ρ) fun items ρ1 => rsOf (forL (turnE r fm tg body (o.drop line)) items (dropR (o.drop line) ρ1)) else none := by
  unfold forE
  split
  · congr
  · rfl
end
section
variable {cs : Cs} {df : Df} {d0 : Ct} {ds : List D} {body : List Stmt} {k m : Nat} {ρ0 : Rho}
theorem runP_eq (hp : df.ps.length = k) (hN : df.N.length = m) (hb : defBody df.st = body) (hl : ds.length = k) (hρ : ds.map Sl.val ++ List.replicate (m - k) .non = ρ0) : runP cs df ds = valP (ssE (frame cs ⟨df.drop, false⟩ 60) (fmOf df) body ρ0) := by
  subst hp hN hb hρ
  unfold runP
  rw [if_pos hl]
  show _ = valP (bodyE cs df false _)
  cases bodyE cs df false (ds.map Sl.val ++ List.replicate (df.N.length - df.ps.length) .non) with
  | none => rfl
  | some q => cases q <;> rfl
theorem runO_eq (hp : df.ps.length = k) (hN : df.N.length = m) (hb : defBody df.st = body) (hl : ds.length + 1 = k) (hρ : Sl.own true d0 :: (ds.map Sl.val ++ List.replicate (m - k) .non) = ρ0) : runO cs df d0 ds = valO (ssE (frame cs ⟨df.drop, false⟩ 60) (fmOf df) body ρ0) := by
  subst hp hN hb hρ
  unfold runO
  rw [if_pos hl]
  show _ = valO (bodyE cs df false _)
  cases bodyE cs df false (Sl.own true d0 :: (ds.map Sl.val ++ List.replicate (df.N.length - df.ps.length) .non)) with
  | none => rfl
  | some q => cases q <;> rfl
theorem runF_eq (hp : df.ps.length = k) (hN : df.N.length = m) (hb : defBody df.st = body) (hl : ds.length = k) (hρ : ds.map Sl.val ++ List.replicate (m - k) .non = ρ0) : runF cs df ds = valF (ssE (frame cs ⟨df.drop, true⟩ 60) (fmOf df) body ρ0) := by
  subst hp hN hb hρ
  unfold runF
  rw [if_pos hl]
  show _ = valF (bodyE cs df true _)
  cases bodyE cs df true (ds.map Sl.val ++ List.replicate (df.N.length - df.ps.length) .non) with
  | none => rfl
  | some q => cases q <;> rfl
end
/-- a loop whose turns either go on in the same state or hand back -/
def ofO {R S : Type} (s : S) : Option R → Fl S R
  | some q => .rt q
  | none => .nx s
theorem ofO_some {R S : Type} {s : S} {q : R} : ofO s (some q) = .rt q := rfl
theorem ofO_none {R S : Type} {s : S} : (ofO s none : Fl S R) = .nx s := rfl
theorem forL_first {α R S : Type} {step : D → S → Option (Fl S R)} {s : S} (g : α → D) (f : α → Option R) : ∀ {xs : List α}, (∀ x ∈ xs, step (g x) s = some (ofO s (f x))) → forL step (xs.map g) s = some (ofO s (xs.findSome? f))
  | [], _ => rfl
  | x :: xs, h => by
    rw [List.map_cons, forL, h x (List.mem_cons_self ..), List.findSome?_cons]
    cases e : f x with
    | none =>
      simp only [ofO]
      exact forL_first g f fun y hy => h y (List.mem_cons_of_mem _ hy)
    | some q => rfl
/-- a loop whose turns all go on: a fold -/
theorem forL_fold {α β R S : Type} {step : D → S → Option (Fl S R)} (st : β → S) (g : α → D) (f : β → α → β) : ∀ {xs : List α} {b : β}, (∀ x ∈ xs, ∀ b, step (g x) (st b) = some (.nx (st (f b x)))) → forL step (xs.map g) (st b) = some (.nx (st (xs.foldl f b)))
  | [], _, _ => rfl
  | x :: xs, b, h => by
    rw [List.map_cons, forL, h x (List.mem_cons_self ..)]
    exact forL_fold st g f fun y hy => h y (List.mem_cons_of_mem _ hy)
theorem forL_same {α R S : Type} {step : D → S → Option (Fl S R)} {s : S} (g : α → D) {xs : List α} (h : ∀ x ∈ xs, step (g x) s = some (.nx s)) : forL step (xs.map g) s = some (.nx s) := by
  induction xs with
  | nil => rfl
  | cons x xs ih =>
    rw [List.map_cons, forL, h x (List.mem_cons_self ..)]
    exact ih fun y hy => h y (List.mem_cons_of_mem _ hy)
theorem forL_nil {R S : Type} {step : D → S → Option (Fl S R)} {s : S} : forL step [] s = some (.nx s) := rfl
theorem forL_cons {R S : Type} {step : D → S → Option (Fl S R)} {s : S} {x : D} {xs : List D} : forL step (x :: xs) s = (match step x s with
    | some (.nx s') => forL step xs s'
    | some fl => some fl
    | none => none) := by
  rw [forL]
  cases step x s with
  | none => rfl
  | some f => cases f <;> rfl
theorem foldl_flag {α β : Type} (P : α → Bool) (v : β) : ∀ (xs : List α) (b : β), xs.foldl (fun a x => if P x = true then v else a) b = if xs.any P = true then v else b
  | [], b => rfl
  | x :: xs, b => by
    rw [List.foldl_cons, foldl_flag P v xs, List.any_cons]
    cases P x <;> cases xs.any P <;> rfl
theorem maxI_of {xs : List Int} {m : Int} (h1 : m ∈ xs) (h2 : ∀ x ∈ xs, x ≤ m) : maxI xs = some m := by
  cases xs with
  | nil => cases h1
  | cons x xs =>
    obtain ⟨h3, h4⟩ := foldl_max xs x
    have a := h2 _ h3
    have b := h4 _ h1
    exact congrArg some (by omega)
/-- texts of single signs, put together -/
theorem cps_app (a b : Str) : (a ++ b).cps.toList = a.cps.toList ++ b.cps.toList := by
  show (a.cps ++ b.cps).toList = _
  simp
theorem glued_signs : ∀ (cs : List Nat) (acc : Array Nat), ((cs.map fun c => (⟨#[c]⟩ : Str)).foldl (fun acc p => acc ++ (Str.ofString "").cps ++ p.cps) acc).toList = acc.toList ++ cs
  | [], acc => by simp
  | c :: cs, acc => by
    rw [List.map_cons, List.foldl_cons, glued_signs cs]
    have e : (Str.ofString "").cps = #[] := by decide +kernel
    rw [e]
    simp
theorem join_signs (cs : List Nat) : (Txt.join "" (cs.map fun c => ⟨#[c]⟩)).cps.toList = cs := by
  unfold Txt.join
  cases cs with
  | nil => rfl
  | cons c cs =>
    rw [List.map_cons]
    show (PySem.Builtin.Str.glued _ _).cps.toList = _
    unfold PySem.Builtin.Str.glued
    have := glued_signs cs #[c]
    simpa using this
theorem b_addb {i : Int} {b : Bool} : binD .Add (.int i) (.bool b) = some (.int (i + if b = true then 1 else 0)) := rfl
theorem b_subb {i : Int} {b : Bool} : binD .Sub (.int i) (.bool b) = some (.int (i - if b = true then 1 else 0)) := rfl
theorem k_ord {xs : List D} : bltB "ord" xs = ordO xs := rfl
theorem or_s {z : Str} : ordO [.str z] = if z.length = 1 then some (.int (z.cps.getD 0 0 : Nat)) else none := rfl
theorem it_s {z : Str} : intDD [.str z] = if z.length ≤ 640 then (PySem.intText? z).map .int else none := rfl
theorem cast_lit {n : Nat} : ((no_index (@OfNat.ofNat Nat n (instOfNatNat n)) : Nat) : Int) = @OfNat.ofNat Int n instOfNat := rfl
theorem c_li {xs : List D} {k : Int} : catD .Mult (.list xs) (.int k) = if -(2 ^ 63) ≤ k ∧ k < 2 ^ 63 ∧ xs.length * k.toNat ≤ 16777216 then some (List.replicate k.toNat xs).flatten else none := rfl
theorem p6000 : ((0 : Int) < 1 * 2 ^ 6000) = True := eq_true (by rw [Int.one_mul]; exact Int.pow_pos (by decide))
theorem p18 : ((2 : Int) * 10 ^ 18 ≤ 0) = False := eq_false (by decide)
theorem blkN {fm : Fm} {sc : Scope} : (blkFm fm sc).N = fm.N := rfl
theorem p64 : (2 : Int) ^ 64 = 18446744073709551616 := by decide
theorem p64n : (2 : Nat) ^ 64 = 18446744073709551616 := by decide
theorem natAbs_lit {n : Nat} : Int.natAbs (no_index (@OfNat.ofNat Int n instOfNat)) = n := rfl
theorem cutA_to {α : Type} {xs : List α} {j : Nat} (h : j ≤ xs.length) : cutA xs none (some (j : Int)) = xs.take j := by
  unfold cutA
  rw [HT.sIx_none, HT.sIx_nat, List.drop_zero, Nat.sub_zero, Nat.min_eq_left h]
theorem cutA_from {α : Type} {xs : List α} {j : Nat} (h : j ≤ xs.length) : cutA xs (some (j : Int)) none = xs.drop j := by
  unfold cutA
  rw [HT.sIx_none, HT.sIx_nat, Nat.min_eq_left h, List.take_of_length_le (by rw [List.length_drop]; omega)]
end Ev

set_option Elab.async false
set_option linter.all false
set_option maxRecDepth 100000
namespace T16
open PySem PySem.Spec PyProof.Rows L2 Lk Ev
def topS (i : Nat) : Stmt := PySem.Challenge.pw_doubtborne_k16_trails_walked.main.body.getD i (.Pass ⟨0, 0, 0, 0⟩)
def df_door_of : Df := ⟨topS 5, ["sign"], ["sign"], fun _ => []⟩
def df_sign_at : Df := ⟨topS 6, ["plan", "cell", "line", "column"], ["plan", "cell"], fun _ => []⟩
def df_cell_kind : Df := ⟨topS 7, ["plan", "setting", "cell", "sign", "door"], ["plan", "setting", "cell"], fun _ => []⟩
def df_next_cell : Df := ⟨topS 8, ["plan", "cell", "direction", "width", "line", "column", "down", "right"], ["plan", "cell", "direction"], fun _ => []⟩
def df_walked : Df := ⟨topS 10, ["plan", "setting", "cell", "direction", "trail", "way", "turn", "near", "kind"], ["plan", "setting", "cell", "direction", "trail"], fun l => if l = 30 then [false, false, true, false, true, false, true, true, true] else []⟩
def df_law_begin : Df := ⟨topS 12, ["script", "cell"], ["script"], fun _ => []⟩
def df_law_draw : Df := ⟨topS 13, ["d", "many", "size", "found", "cell"], ["d", "many"], fun _ => []⟩
def df_law_pick : Df := ⟨topS 14, ["d", "row"], ["d", "row"], fun _ => []⟩
def df_law_rare : Df := ⟨topS 15, ["d", "many"], ["d", "many"], fun _ => []⟩
def df_law_is_int : Df := ⟨topS 16, ["thing"], ["thing"], fun _ => []⟩
def df_law_is_ints : Df := ⟨topS 17, ["row", "part"], ["row"], fun _ => []⟩
def df_law_doors : Df := ⟨topS 18, ["plan", "most", "line", "char"], ["plan"], fun l => if l = 68 then [true, false, true, true] else if l = 69 then [true, false, true, true] else []⟩
def df_law_kind : Df := ⟨topS 19, ["plan", "setting", "cell", "width", "char"], ["plan", "setting", "cell"], fun _ => []⟩
def df_law_next : Df := ⟨topS 20, ["plan", "cell", "direction", "width", "line", "column"], ["plan", "cell", "direction"], fun _ => []⟩
def df_law_product : Df := ⟨topS 21, ["rows", "found", "row", "new", "one", "thing"], ["rows"], fun l => if l = 98 then [true, false, true, true, true, true] else if l = 100 then [true, true, false, false, true, true] else []⟩
def df_law_walk : Df := ⟨topS 22, ["plan", "setting", "cell", "direction", "trail", "way", "turn", "other", "kind"], ["plan", "setting", "cell", "direction", "trail"], fun l => if l = 106 then [false, false, true, false, true, false, true, true, true] else []⟩
def df_law_free_cells : Df := ⟨topS 23, ["plan", "settings", "found", "cell", "setting"], ["plan", "settings"], fun l => if l = 119 then [false, false, false, true, true] else []⟩
def df_law_floor : Df := ⟨topS 24, ["d", "lines", "width", "menu", "plan", "line", "column"], ["d"], fun l => if l = 131 then [false, true, false, false, false, true, true] else []⟩
def df_law_ground : Df := ⟨topS 25, ["d", "plan", "setting", "free", "k"], ["d"], fun _ => []⟩
def df_law_trail : Df := ⟨topS 26, ["d", "k"], ["d"], fun _ => []⟩
def df_law_asked_walks : Df := ⟨topS 27, ["d", "free", "found", "first", "most", "cell", "direction", "size", "k", "trail"], ["d", "free"], fun l => if l = 150 then [false, false, false, false, true, true, false, true, true, true] else if l = 151 then [false, false, false, false, true, true, false, true, true, true] else if l = 154 then [false, false, false, false, true, true, true, true, true, true] else if l = 157 then [true, true, false, true, false, true, true, true, true, true] else if l = 158 then [true, true, false, true, false, false, true, true, true, true] else []⟩
def df_law_due_walk : Df := ⟨topS 28, ["plan", "setting", "cell", "direction", "trail", "touch", "way", "bumped"], ["plan", "setting", "cell", "direction", "trail"], fun _ => []⟩
def df_law_right_walk : Df := ⟨topS 29, ["told", "due"], ["told", "due"], fun _ => []⟩
def df_law : Df := ⟨topS 30, ["script", "d", "other", "rows", "plan", "setting", "free", "cell", "direction", "trail", "states", "due", "state"], ["script"], fun l => if l = 175 then [true, true, false, false, false, false, true, true, true, true, true, true, true] else if l = 176 then [true, true, false, false, false, false, true, false, false, false, true, true, true] else if l = 180 then [true, true, true, true, false, true, true, true, true, true, true, true, true] else []⟩
def pg : Pg where
  defs := fun x => if x = "_door_of" then some (.p, df_door_of) else if x = "sign_at" then some (.p, df_sign_at) else if x = "cell_kind" then some (.p, df_cell_kind) else if x = "next_cell" then some (.p, df_next_cell) else if x = "walked" then some (.p, df_walked) else if x = "_law_begin" then some (.f, df_law_begin) else if x = "_law_draw" then some (.o, df_law_draw) else if x = "_law_pick" then some (.o, df_law_pick) else if x = "_law_rare" then some (.o, df_law_rare) else if x = "_law_is_int" then some (.p, df_law_is_int) else if x = "_law_is_ints" then some (.p, df_law_is_ints) else if x = "_law_doors" then some (.p, df_law_doors) else if x = "_law_kind" then some (.p, df_law_kind) else if x = "_law_next" then some (.p, df_law_next) else if x = "_law_product" then some (.p, df_law_product) else if x = "_law_walk" then some (.p, df_law_walk) else if x = "_law_free_cells" then some (.p, df_law_free_cells) else if x = "_law_floor" then some (.o, df_law_floor) else if x = "_law_ground" then some (.o, df_law_ground) else if x = "_law_trail" then some (.o, df_law_trail) else if x = "_law_asked_walks" then some (.o, df_law_asked_walks) else if x = "_law_due_walk" then some (.p, df_law_due_walk) else if x = "_law_right_walk" then some (.p, df_law_right_walk) else if x = "law" then some (.p, df_law) else none
  G := fun x => if x = "GATES" then some (.str "123456") else if x = "LIDS" then some (.str "ABCDEF") else if x = "MOVES" then some (.tuple [.tuple [.int (-1), .int 0], .tuple [.int 0, .int 1], .tuple [.int 1, .int 0], .tuple [.int 0, .int (-1)]]) else none
  GD := fun x => if x = "FIXED_KINDS" then some ([(.inr "#", .str "wall"), (.inr "*", .str "glass"), (.inr "!", .str "hole")]) else none
  B := fun x => decide (x ∈ (["abs", "all", "any", "bool", "divmod", "int", "isinstance", "len", "max", "ord", "range", "tuple"] : List Str))
theorem nm_door_of : slot (fmOf df_door_of) "sign" = some 0 ∧ slotL (fmOf df_door_of) "sign" = some 0 ∧ slot (fmOf df_door_of) "max" = none ∧ glB (fmOf df_door_of).sc "max" = true ∧ slot (fmOf df_door_of) "GATES" = none ∧ glB (fmOf df_door_of).sc "GATES" = true ∧ slot (fmOf df_door_of) "LIDS" = none ∧ glB (fmOf df_door_of).sc "LIDS" = true := by
  refine ⟨?_, ?_, ?_, ?_, ?_, ?_, ?_, ?_⟩
  all_goals first | rfl | trivial
theorem nl_door_of : (fmOf df_door_of).N.length = 1 := rfl
theorem nm_sign_at : slot (fmOf df_sign_at) "plan" = some 0 ∧ slotL (fmOf df_sign_at) "plan" = some 0 ∧ slot (fmOf df_sign_at) "cell" = some 1 ∧ slotL (fmOf df_sign_at) "cell" = some 1 ∧ slot (fmOf df_sign_at) "line" = some 2 ∧ slotL (fmOf df_sign_at) "line" = some 2 ∧ slot (fmOf df_sign_at) "column" = some 3 ∧ slotL (fmOf df_sign_at) "column" = some 3 ∧ slot (fmOf df_sign_at) "divmod" = none ∧ glB (fmOf df_sign_at).sc "divmod" = true ∧ slot (fmOf df_sign_at) "len" = none ∧ glB (fmOf df_sign_at).sc "len" = true := by
  refine ⟨?_, ?_, ?_, ?_, ?_, ?_, ?_, ?_, ?_, ?_, ?_, ?_⟩
  all_goals first | rfl | trivial
theorem nl_sign_at : (fmOf df_sign_at).N.length = 4 := rfl
theorem nm_cell_kind : slot (fmOf df_cell_kind) "plan" = some 0 ∧ slotL (fmOf df_cell_kind) "plan" = some 0 ∧ slot (fmOf df_cell_kind) "setting" = some 1 ∧ slotL (fmOf df_cell_kind) "setting" = some 1 ∧ slot (fmOf df_cell_kind) "cell" = some 2 ∧ slotL (fmOf df_cell_kind) "cell" = some 2 ∧ slot (fmOf df_cell_kind) "sign" = some 3 ∧ slotL (fmOf df_cell_kind) "sign" = some 3 ∧ slot (fmOf df_cell_kind) "door" = some 4 ∧ slotL (fmOf df_cell_kind) "door" = some 4 ∧ slot (fmOf df_cell_kind) "sign_at" = none ∧ glB (fmOf df_cell_kind).sc "sign_at" = true ∧ slot (fmOf df_cell_kind) "_door_of" = none ∧ glB (fmOf df_cell_kind).sc "_door_of" = true ∧ slot (fmOf df_cell_kind) "GATES" = none ∧ glB (fmOf df_cell_kind).sc "GATES" = true ∧ slot (fmOf df_cell_kind) "FIXED_KINDS" = none ∧ glB (fmOf df_cell_kind).sc "FIXED_KINDS" = true := by
  refine ⟨?_, ?_, ?_, ?_, ?_, ?_, ?_, ?_, ?_, ?_, ?_, ?_, ?_, ?_, ?_, ?_, ?_, ?_⟩
  all_goals first | rfl | trivial
theorem nl_cell_kind : (fmOf df_cell_kind).N.length = 5 := rfl
theorem nm_next_cell : slot (fmOf df_next_cell) "plan" = some 0 ∧ slotL (fmOf df_next_cell) "plan" = some 0 ∧ slot (fmOf df_next_cell) "cell" = some 1 ∧ slotL (fmOf df_next_cell) "cell" = some 1 ∧ slot (fmOf df_next_cell) "direction" = some 2 ∧ slotL (fmOf df_next_cell) "direction" = some 2 ∧ slot (fmOf df_next_cell) "width" = some 3 ∧ slotL (fmOf df_next_cell) "width" = some 3 ∧ slot (fmOf df_next_cell) "line" = some 4 ∧ slotL (fmOf df_next_cell) "line" = some 4 ∧ slot (fmOf df_next_cell) "column" = some 5 ∧ slotL (fmOf df_next_cell) "column" = some 5 ∧ slot (fmOf df_next_cell) "down" = some 6 ∧ slotL (fmOf df_next_cell) "down" = some 6 ∧ slot (fmOf df_next_cell) "right" = some 7 ∧ slotL (fmOf df_next_cell) "right" = some 7 ∧ slot (fmOf df_next_cell) "len" = none ∧ glB (fmOf df_next_cell).sc "len" = true ∧ slot (fmOf df_next_cell) "MOVES" = none ∧ glB (fmOf df_next_cell).sc "MOVES" = true := by
  refine ⟨?_, ?_, ?_, ?_, ?_, ?_, ?_, ?_, ?_, ?_, ?_, ?_, ?_, ?_, ?_, ?_, ?_, ?_, ?_, ?_⟩
  all_goals first | rfl | trivial
theorem nl_next_cell : (fmOf df_next_cell).N.length = 8 := rfl
theorem nm_walked : slot (fmOf df_walked) "plan" = some 0 ∧ slotL (fmOf df_walked) "plan" = some 0 ∧ slot (fmOf df_walked) "setting" = some 1 ∧ slotL (fmOf df_walked) "setting" = some 1 ∧ slot (fmOf df_walked) "cell" = some 2 ∧ slotL (fmOf df_walked) "cell" = some 2 ∧ slot (fmOf df_walked) "direction" = some 3 ∧ slotL (fmOf df_walked) "direction" = some 3 ∧ slot (fmOf df_walked) "trail" = some 4 ∧ slotL (fmOf df_walked) "trail" = some 4 ∧ slot (fmOf df_walked) "way" = some 5 ∧ slotL (fmOf df_walked) "way" = some 5 ∧ slot (fmOf df_walked) "turn" = some 6 ∧ slotL (fmOf df_walked) "turn" = some 6 ∧ slot (fmOf df_walked) "near" = some 7 ∧ slotL (fmOf df_walked) "near" = some 7 ∧ slot (fmOf df_walked) "kind" = some 8 ∧ slotL (fmOf df_walked) "kind" = some 8 ∧ slot (fmOf df_walked) "next_cell" = none ∧ glB (fmOf df_walked).sc "next_cell" = true ∧ slot (fmOf df_walked) "cell_kind" = none ∧ glB (fmOf df_walked).sc "cell_kind" = true := by
  refine ⟨?_, ?_, ?_, ?_, ?_, ?_, ?_, ?_, ?_, ?_, ?_, ?_, ?_, ?_, ?_, ?_, ?_, ?_, ?_, ?_, ?_, ?_⟩
  all_goals first | rfl | trivial
theorem dr_walked_30 {ρ : Rho} : dropR (df_walked.drop 30) ρ = dropR [false, false, true, false, true, false, true, true, true] ρ := id rfl
theorem nl_walked : (fmOf df_walked).N.length = 9 := rfl
theorem nm_law_begin : slot (fmOf df_law_begin) "script" = some 0 ∧ slotL (fmOf df_law_begin) "script" = some 0 := by
  refine ⟨?_, ?_⟩
  all_goals first | rfl | trivial
theorem nl_law_begin : (fmOf df_law_begin).N.length = 2 := rfl
theorem nm_law_draw : slot (fmOf df_law_draw) "d" = some 0 ∧ slotL (fmOf df_law_draw) "d" = some 0 ∧ slot (fmOf df_law_draw) "many" = some 1 ∧ slotL (fmOf df_law_draw) "many" = some 1 ∧ slot (fmOf df_law_draw) "size" = some 2 ∧ slotL (fmOf df_law_draw) "size" = some 2 ∧ slot (fmOf df_law_draw) "found" = some 3 ∧ slotL (fmOf df_law_draw) "found" = some 3 ∧ slot (fmOf df_law_draw) "cell" = some 4 ∧ slotL (fmOf df_law_draw) "cell" = some 4 ∧ slot (fmOf df_law_draw) "len" = none ∧ glB (fmOf df_law_draw).sc "len" = true ∧ slot (fmOf df_law_draw) "int" = none ∧ glB (fmOf df_law_draw).sc "int" = true ∧ slot (fmOf df_law_draw) "abs" = none ∧ glB (fmOf df_law_draw).sc "abs" = true := by
  refine ⟨?_, ?_, ?_, ?_, ?_, ?_, ?_, ?_, ?_, ?_, ?_, ?_, ?_, ?_, ?_, ?_⟩
  all_goals first | rfl | trivial
theorem nl_law_draw : (fmOf df_law_draw).N.length = 5 := rfl
theorem nm_law_pick : slot (fmOf df_law_pick) "d" = some 0 ∧ slotL (fmOf df_law_pick) "d" = some 0 ∧ slot (fmOf df_law_pick) "row" = some 1 ∧ slotL (fmOf df_law_pick) "row" = some 1 ∧ slot (fmOf df_law_pick) "_law_draw" = none ∧ glB (fmOf df_law_pick).sc "_law_draw" = true ∧ slot (fmOf df_law_pick) "len" = none ∧ glB (fmOf df_law_pick).sc "len" = true := by
  refine ⟨?_, ?_, ?_, ?_, ?_, ?_, ?_, ?_⟩
  all_goals first | rfl | trivial
theorem nl_law_pick : (fmOf df_law_pick).N.length = 2 := rfl
theorem nm_law_rare : slot (fmOf df_law_rare) "d" = some 0 ∧ slotL (fmOf df_law_rare) "d" = some 0 ∧ slot (fmOf df_law_rare) "many" = some 1 ∧ slotL (fmOf df_law_rare) "many" = some 1 ∧ slot (fmOf df_law_rare) "_law_draw" = none ∧ glB (fmOf df_law_rare).sc "_law_draw" = true := by
  refine ⟨?_, ?_, ?_, ?_, ?_, ?_⟩
  all_goals first | rfl | trivial
theorem nl_law_rare : (fmOf df_law_rare).N.length = 2 := rfl
theorem nm_law_is_int : slot (fmOf df_law_is_int) "thing" = some 0 ∧ slotL (fmOf df_law_is_int) "thing" = some 0 ∧ slot (fmOf df_law_is_int) "isinstance" = none ∧ glB (fmOf df_law_is_int).sc "isinstance" = true ∧ slot (fmOf df_law_is_int) "int" = none ∧ glB (fmOf df_law_is_int).sc "int" = true ∧ slot (fmOf df_law_is_int) "bool" = none ∧ glB (fmOf df_law_is_int).sc "bool" = true := by
  refine ⟨?_, ?_, ?_, ?_, ?_, ?_, ?_, ?_⟩
  all_goals first | rfl | trivial
theorem nl_law_is_int : (fmOf df_law_is_int).N.length = 1 := rfl
theorem nm_law_is_ints : slot (fmOf df_law_is_ints) "row" = some 0 ∧ slotL (fmOf df_law_is_ints) "row" = some 0 ∧ slot (fmOf df_law_is_ints) "isinstance" = none ∧ glB (fmOf df_law_is_ints).sc "isinstance" = true ∧ slot (fmOf df_law_is_ints) "tuple" = none ∧ glB (fmOf df_law_is_ints).sc "tuple" = true ∧ slot (fmOf df_law_is_ints) "all" = none ∧ glB (fmOf df_law_is_ints).sc "all" = true := by
  refine ⟨?_, ?_, ?_, ?_, ?_, ?_, ?_, ?_⟩
  all_goals first | rfl | trivial
theorem nl_law_is_ints : (fmOf df_law_is_ints).N.length = 2 := rfl
theorem nm_law_doors : slot (fmOf df_law_doors) "plan" = some 0 ∧ slotL (fmOf df_law_doors) "plan" = some 0 ∧ slot (fmOf df_law_doors) "most" = some 1 ∧ slotL (fmOf df_law_doors) "most" = some 1 ∧ slot (fmOf df_law_doors) "line" = some 2 ∧ slotL (fmOf df_law_doors) "line" = some 2 ∧ slot (fmOf df_law_doors) "char" = some 3 ∧ slotL (fmOf df_law_doors) "char" = some 3 ∧ slot (fmOf df_law_doors) "max" = none ∧ glB (fmOf df_law_doors).sc "max" = true ∧ slot (fmOf df_law_doors) "int" = none ∧ glB (fmOf df_law_doors).sc "int" = true ∧ slot (fmOf df_law_doors) "ord" = none ∧ glB (fmOf df_law_doors).sc "ord" = true := by
  refine ⟨?_, ?_, ?_, ?_, ?_, ?_, ?_, ?_, ?_, ?_, ?_, ?_, ?_, ?_⟩
  all_goals first | rfl | trivial
theorem dr_law_doors_68 {ρ : Rho} : dropR (df_law_doors.drop 68) ρ = dropR [true, false, true, true] ρ := id rfl
theorem dr_law_doors_69 {ρ : Rho} : dropR (df_law_doors.drop 69) ρ = dropR [true, false, true, true] ρ := id rfl
theorem nl_law_doors : (fmOf df_law_doors).N.length = 4 := rfl
theorem nm_law_kind : slot (fmOf df_law_kind) "plan" = some 0 ∧ slotL (fmOf df_law_kind) "plan" = some 0 ∧ slot (fmOf df_law_kind) "setting" = some 1 ∧ slotL (fmOf df_law_kind) "setting" = some 1 ∧ slot (fmOf df_law_kind) "cell" = some 2 ∧ slotL (fmOf df_law_kind) "cell" = some 2 ∧ slot (fmOf df_law_kind) "width" = some 3 ∧ slotL (fmOf df_law_kind) "width" = some 3 ∧ slot (fmOf df_law_kind) "char" = some 4 ∧ slotL (fmOf df_law_kind) "char" = some 4 ∧ slot (fmOf df_law_kind) "len" = none ∧ glB (fmOf df_law_kind).sc "len" = true ∧ slot (fmOf df_law_kind) "int" = none ∧ glB (fmOf df_law_kind).sc "int" = true ∧ slot (fmOf df_law_kind) "ord" = none ∧ glB (fmOf df_law_kind).sc "ord" = true := by
  refine ⟨?_, ?_, ?_, ?_, ?_, ?_, ?_, ?_, ?_, ?_, ?_, ?_, ?_, ?_, ?_, ?_⟩
  all_goals first | rfl | trivial
theorem nl_law_kind : (fmOf df_law_kind).N.length = 5 := rfl
theorem nm_law_next : slot (fmOf df_law_next) "plan" = some 0 ∧ slotL (fmOf df_law_next) "plan" = some 0 ∧ slot (fmOf df_law_next) "cell" = some 1 ∧ slotL (fmOf df_law_next) "cell" = some 1 ∧ slot (fmOf df_law_next) "direction" = some 2 ∧ slotL (fmOf df_law_next) "direction" = some 2 ∧ slot (fmOf df_law_next) "width" = some 3 ∧ slotL (fmOf df_law_next) "width" = some 3 ∧ slot (fmOf df_law_next) "line" = some 4 ∧ slotL (fmOf df_law_next) "line" = some 4 ∧ slot (fmOf df_law_next) "column" = some 5 ∧ slotL (fmOf df_law_next) "column" = some 5 ∧ slot (fmOf df_law_next) "len" = none ∧ glB (fmOf df_law_next).sc "len" = true ∧ slot (fmOf df_law_next) "int" = none ∧ glB (fmOf df_law_next).sc "int" = true := by
  refine ⟨?_, ?_, ?_, ?_, ?_, ?_, ?_, ?_, ?_, ?_, ?_, ?_, ?_, ?_, ?_, ?_⟩
  all_goals first | rfl | trivial
theorem nl_law_next : (fmOf df_law_next).N.length = 6 := rfl
theorem nm_law_product : slot (fmOf df_law_product) "rows" = some 0 ∧ slotL (fmOf df_law_product) "rows" = some 0 ∧ slot (fmOf df_law_product) "found" = some 1 ∧ slotL (fmOf df_law_product) "found" = some 1 ∧ slot (fmOf df_law_product) "row" = some 2 ∧ slotL (fmOf df_law_product) "row" = some 2 ∧ slot (fmOf df_law_product) "new" = some 3 ∧ slotL (fmOf df_law_product) "new" = some 3 ∧ slot (fmOf df_law_product) "one" = some 4 ∧ slotL (fmOf df_law_product) "one" = some 4 := by
  refine ⟨?_, ?_, ?_, ?_, ?_, ?_, ?_, ?_, ?_, ?_⟩
  all_goals first | rfl | trivial
theorem dr_law_product_98 {ρ : Rho} : dropR (df_law_product.drop 98) ρ = dropR [true, false, true, true, true, true] ρ := id rfl
theorem dr_law_product_100 {ρ : Rho} : dropR (df_law_product.drop 100) ρ = dropR [true, true, false, false, true, true] ρ := id rfl
theorem nl_law_product : (fmOf df_law_product).N.length = 6 := rfl
theorem nm_law_walk : slot (fmOf df_law_walk) "plan" = some 0 ∧ slotL (fmOf df_law_walk) "plan" = some 0 ∧ slot (fmOf df_law_walk) "setting" = some 1 ∧ slotL (fmOf df_law_walk) "setting" = some 1 ∧ slot (fmOf df_law_walk) "cell" = some 2 ∧ slotL (fmOf df_law_walk) "cell" = some 2 ∧ slot (fmOf df_law_walk) "direction" = some 3 ∧ slotL (fmOf df_law_walk) "direction" = some 3 ∧ slot (fmOf df_law_walk) "trail" = some 4 ∧ slotL (fmOf df_law_walk) "trail" = some 4 ∧ slot (fmOf df_law_walk) "way" = some 5 ∧ slotL (fmOf df_law_walk) "way" = some 5 ∧ slot (fmOf df_law_walk) "turn" = some 6 ∧ slotL (fmOf df_law_walk) "turn" = some 6 ∧ slot (fmOf df_law_walk) "other" = some 7 ∧ slotL (fmOf df_law_walk) "other" = some 7 ∧ slot (fmOf df_law_walk) "kind" = some 8 ∧ slotL (fmOf df_law_walk) "kind" = some 8 ∧ slot (fmOf df_law_walk) "_law_next" = none ∧ glB (fmOf df_law_walk).sc "_law_next" = true ∧ slot (fmOf df_law_walk) "_law_kind" = none ∧ glB (fmOf df_law_walk).sc "_law_kind" = true ∧ slot (fmOf df_law_walk) "int" = none ∧ glB (fmOf df_law_walk).sc "int" = true := by
  refine ⟨?_, ?_, ?_, ?_, ?_, ?_, ?_, ?_, ?_, ?_, ?_, ?_, ?_, ?_, ?_, ?_, ?_, ?_, ?_, ?_, ?_, ?_, ?_, ?_⟩
  all_goals first | rfl | trivial
theorem dr_law_walk_106 {ρ : Rho} : dropR (df_law_walk.drop 106) ρ = dropR [false, false, true, false, true, false, true, true, true] ρ := id rfl
theorem nl_law_walk : (fmOf df_law_walk).N.length = 9 := rfl
theorem nm_law_free_cells : slot (fmOf df_law_free_cells) "plan" = some 0 ∧ slotL (fmOf df_law_free_cells) "plan" = some 0 ∧ slot (fmOf df_law_free_cells) "settings" = some 1 ∧ slotL (fmOf df_law_free_cells) "settings" = some 1 ∧ slot (fmOf df_law_free_cells) "found" = some 2 ∧ slotL (fmOf df_law_free_cells) "found" = some 2 ∧ slot (fmOf df_law_free_cells) "cell" = some 3 ∧ slotL (fmOf df_law_free_cells) "cell" = some 3 ∧ slot (fmOf df_law_free_cells) "range" = none ∧ glB (fmOf df_law_free_cells).sc "range" = true ∧ slot (fmOf df_law_free_cells) "tuple" = none ∧ glB (fmOf df_law_free_cells).sc "tuple" = true ∧ slot (fmOf df_law_free_cells) "any" = none ∧ glB (fmOf df_law_free_cells).sc "any" = true ∧ slot (fmOf df_law_free_cells) "len" = none ∧ glB (fmOf df_law_free_cells).sc "len" = true := by
  refine ⟨?_, ?_, ?_, ?_, ?_, ?_, ?_, ?_, ?_, ?_, ?_, ?_, ?_, ?_, ?_, ?_⟩
  all_goals first | rfl | trivial
theorem dr_law_free_cells_119 {ρ : Rho} : dropR (df_law_free_cells.drop 119) ρ = dropR [false, false, false, true, true] ρ := id rfl
theorem nl_law_free_cells : (fmOf df_law_free_cells).N.length = 5 := rfl
theorem nm_law_floor : slot (fmOf df_law_floor) "d" = some 0 ∧ slotL (fmOf df_law_floor) "d" = some 0 ∧ slot (fmOf df_law_floor) "lines" = some 1 ∧ slotL (fmOf df_law_floor) "lines" = some 1 ∧ slot (fmOf df_law_floor) "width" = some 2 ∧ slotL (fmOf df_law_floor) "width" = some 2 ∧ slot (fmOf df_law_floor) "menu" = some 3 ∧ slotL (fmOf df_law_floor) "menu" = some 3 ∧ slot (fmOf df_law_floor) "plan" = some 4 ∧ slotL (fmOf df_law_floor) "plan" = some 4 ∧ slot (fmOf df_law_floor) "line" = some 5 ∧ slotL (fmOf df_law_floor) "line" = some 5 ∧ slot (fmOf df_law_floor) "_law_rare" = none ∧ glB (fmOf df_law_floor).sc "_law_rare" = true ∧ slot (fmOf df_law_floor) "_law_pick" = none ∧ glB (fmOf df_law_floor).sc "_law_pick" = true ∧ slot (fmOf df_law_floor) "range" = none ∧ glB (fmOf df_law_floor).sc "range" = true ∧ slot (fmOf df_law_floor) "tuple" = none ∧ glB (fmOf df_law_floor).sc "tuple" = true ∧ slot (fmOf df_law_floor) "_law_draw" = none ∧ glB (fmOf df_law_floor).sc "_law_draw" = true := by
  refine ⟨?_, ?_, ?_, ?_, ?_, ?_, ?_, ?_, ?_, ?_, ?_, ?_, ?_, ?_, ?_, ?_, ?_, ?_, ?_, ?_, ?_, ?_⟩
  all_goals first | rfl | trivial
theorem dr_law_floor_131 {ρ : Rho} : dropR (df_law_floor.drop 131) ρ = dropR [false, true, false, false, false, true, true] ρ := id rfl
theorem nl_law_floor : (fmOf df_law_floor).N.length = 7 := rfl
theorem nm_law_ground : slot (fmOf df_law_ground) "d" = some 0 ∧ slotL (fmOf df_law_ground) "d" = some 0 ∧ slot (fmOf df_law_ground) "plan" = some 1 ∧ slotL (fmOf df_law_ground) "plan" = some 1 ∧ slot (fmOf df_law_ground) "setting" = some 2 ∧ slotL (fmOf df_law_ground) "setting" = some 2 ∧ slot (fmOf df_law_ground) "free" = some 3 ∧ slotL (fmOf df_law_ground) "free" = some 3 ∧ slot (fmOf df_law_ground) "_law_floor" = none ∧ glB (fmOf df_law_ground).sc "_law_floor" = true ∧ slot (fmOf df_law_ground) "tuple" = none ∧ glB (fmOf df_law_ground).sc "tuple" = true ∧ slot (fmOf df_law_ground) "_law_free_cells" = none ∧ glB (fmOf df_law_ground).sc "_law_free_cells" = true ∧ slot (fmOf df_law_ground) "len" = none ∧ glB (fmOf df_law_ground).sc "len" = true ∧ slot (fmOf df_law_ground) "range" = none ∧ glB (fmOf df_law_ground).sc "range" = true ∧ slot (fmOf df_law_ground) "_law_doors" = none ∧ glB (fmOf df_law_ground).sc "_law_doors" = true := by
  refine ⟨?_, ?_, ?_, ?_, ?_, ?_, ?_, ?_, ?_, ?_, ?_, ?_, ?_, ?_, ?_, ?_, ?_, ?_, ?_, ?_⟩
  all_goals first | rfl | trivial
theorem nl_law_ground : (fmOf df_law_ground).N.length = 5 := rfl
theorem nm_law_trail : slot (fmOf df_law_trail) "d" = some 0 ∧ slotL (fmOf df_law_trail) "d" = some 0 ∧ slot (fmOf df_law_trail) "tuple" = none ∧ glB (fmOf df_law_trail).sc "tuple" = true ∧ slot (fmOf df_law_trail) "_law_draw" = none ∧ glB (fmOf df_law_trail).sc "_law_draw" = true ∧ slot (fmOf df_law_trail) "range" = none ∧ glB (fmOf df_law_trail).sc "range" = true := by
  refine ⟨?_, ?_, ?_, ?_, ?_, ?_, ?_, ?_⟩
  all_goals first | rfl | trivial
theorem nl_law_trail : (fmOf df_law_trail).N.length = 2 := rfl
theorem nm_law_asked_walks : slot (fmOf df_law_asked_walks) "d" = some 0 ∧ slotL (fmOf df_law_asked_walks) "d" = some 0 ∧ slot (fmOf df_law_asked_walks) "free" = some 1 ∧ slotL (fmOf df_law_asked_walks) "free" = some 1 ∧ slot (fmOf df_law_asked_walks) "found" = some 2 ∧ slotL (fmOf df_law_asked_walks) "found" = some 2 ∧ slot (fmOf df_law_asked_walks) "first" = some 3 ∧ slotL (fmOf df_law_asked_walks) "first" = some 3 ∧ slot (fmOf df_law_asked_walks) "most" = some 4 ∧ slotL (fmOf df_law_asked_walks) "most" = some 4 ∧ slot (fmOf df_law_asked_walks) "cell" = some 5 ∧ slotL (fmOf df_law_asked_walks) "cell" = some 5 ∧ slot (fmOf df_law_asked_walks) "direction" = some 6 ∧ slotL (fmOf df_law_asked_walks) "direction" = some 6 ∧ slot (fmOf df_law_asked_walks) "size" = some 7 ∧ slotL (fmOf df_law_asked_walks) "size" = some 7 ∧ slot (fmOf df_law_asked_walks) "k" = some 8 ∧ slotL (fmOf df_law_asked_walks) "k" = some 8 ∧ slot (fmOf df_law_asked_walks) "trail" = some 9 ∧ slotL (fmOf df_law_asked_walks) "trail" = some 9 ∧ slot (fmOf df_law_asked_walks) "_law_pick" = none ∧ glB (fmOf df_law_asked_walks).sc "_law_pick" = true ∧ slot (fmOf df_law_asked_walks) "_law_trail" = none ∧ glB (fmOf df_law_asked_walks).sc "_law_trail" = true ∧ slot (fmOf df_law_asked_walks) "_law_draw" = none ∧ glB (fmOf df_law_asked_walks).sc "_law_draw" = true ∧ slot (fmOf df_law_asked_walks) "range" = none ∧ glB (fmOf df_law_asked_walks).sc "range" = true ∧ slot (fmOf df_law_asked_walks) "_law_product" = none ∧ glB (fmOf df_law_asked_walks).sc "_law_product" = true := by
  refine ⟨?_, ?_, ?_, ?_, ?_, ?_, ?_, ?_, ?_, ?_, ?_, ?_, ?_, ?_, ?_, ?_, ?_, ?_, ?_, ?_, ?_, ?_, ?_, ?_, ?_, ?_, ?_, ?_, ?_, ?_⟩
  all_goals first | rfl | trivial
theorem dr_law_asked_walks_150 {ρ : Rho} : dropR (df_law_asked_walks.drop 150) ρ = dropR [false, false, false, false, true, true, false, true, true, true] ρ := id rfl
theorem dr_law_asked_walks_151 {ρ : Rho} : dropR (df_law_asked_walks.drop 151) ρ = dropR [false, false, false, false, true, true, false, true, true, true] ρ := id rfl
theorem dr_law_asked_walks_154 {ρ : Rho} : dropR (df_law_asked_walks.drop 154) ρ = dropR [false, false, false, false, true, true, true, true, true, true] ρ := id rfl
theorem dr_law_asked_walks_157 {ρ : Rho} : dropR (df_law_asked_walks.drop 157) ρ = dropR [true, true, false, true, false, true, true, true, true, true] ρ := id rfl
theorem dr_law_asked_walks_158 {ρ : Rho} : dropR (df_law_asked_walks.drop 158) ρ = dropR [true, true, false, true, false, false, true, true, true, true] ρ := id rfl
theorem nl_law_asked_walks : (fmOf df_law_asked_walks).N.length = 10 := rfl
theorem nm_law_due_walk : slot (fmOf df_law_due_walk) "plan" = some 0 ∧ slotL (fmOf df_law_due_walk) "plan" = some 0 ∧ slot (fmOf df_law_due_walk) "setting" = some 1 ∧ slotL (fmOf df_law_due_walk) "setting" = some 1 ∧ slot (fmOf df_law_due_walk) "cell" = some 2 ∧ slotL (fmOf df_law_due_walk) "cell" = some 2 ∧ slot (fmOf df_law_due_walk) "direction" = some 3 ∧ slotL (fmOf df_law_due_walk) "direction" = some 3 ∧ slot (fmOf df_law_due_walk) "trail" = some 4 ∧ slotL (fmOf df_law_due_walk) "trail" = some 4 ∧ slot (fmOf df_law_due_walk) "touch" = some 5 ∧ slotL (fmOf df_law_due_walk) "touch" = some 5 ∧ slot (fmOf df_law_due_walk) "way" = some 6 ∧ slotL (fmOf df_law_due_walk) "way" = some 6 ∧ slot (fmOf df_law_due_walk) "bumped" = some 7 ∧ slotL (fmOf df_law_due_walk) "bumped" = some 7 ∧ slot (fmOf df_law_due_walk) "_law_walk" = none ∧ glB (fmOf df_law_due_walk).sc "_law_walk" = true := by
  refine ⟨?_, ?_, ?_, ?_, ?_, ?_, ?_, ?_, ?_, ?_, ?_, ?_, ?_, ?_, ?_, ?_, ?_, ?_⟩
  all_goals first | rfl | trivial
theorem nl_law_due_walk : (fmOf df_law_due_walk).N.length = 8 := rfl
theorem nm_law_right_walk : slot (fmOf df_law_right_walk) "told" = some 0 ∧ slotL (fmOf df_law_right_walk) "told" = some 0 ∧ slot (fmOf df_law_right_walk) "due" = some 1 ∧ slotL (fmOf df_law_right_walk) "due" = some 1 ∧ slot (fmOf df_law_right_walk) "_law_is_int" = none ∧ glB (fmOf df_law_right_walk).sc "_law_is_int" = true ∧ slot (fmOf df_law_right_walk) "isinstance" = none ∧ glB (fmOf df_law_right_walk).sc "isinstance" = true ∧ slot (fmOf df_law_right_walk) "tuple" = none ∧ glB (fmOf df_law_right_walk).sc "tuple" = true ∧ slot (fmOf df_law_right_walk) "_law_is_ints" = none ∧ glB (fmOf df_law_right_walk).sc "_law_is_ints" = true ∧ slot (fmOf df_law_right_walk) "len" = none ∧ glB (fmOf df_law_right_walk).sc "len" = true := by
  refine ⟨?_, ?_, ?_, ?_, ?_, ?_, ?_, ?_, ?_, ?_, ?_, ?_, ?_, ?_⟩
  all_goals first | rfl | trivial
theorem nl_law_right_walk : (fmOf df_law_right_walk).N.length = 2 := rfl
theorem nm_law : slot (fmOf df_law) "script" = some 0 ∧ slotL (fmOf df_law) "script" = some 0 ∧ slot (fmOf df_law) "d" = some 1 ∧ slotL (fmOf df_law) "d" = some 1 ∧ slot (fmOf df_law) "other" = some 2 ∧ slotL (fmOf df_law) "other" = some 2 ∧ slot (fmOf df_law) "rows" = some 3 ∧ slotL (fmOf df_law) "rows" = some 3 ∧ slot (fmOf df_law) "plan" = some 4 ∧ slotL (fmOf df_law) "plan" = some 4 ∧ slot (fmOf df_law) "setting" = some 5 ∧ slotL (fmOf df_law) "setting" = some 5 ∧ slot (fmOf df_law) "free" = some 6 ∧ slotL (fmOf df_law) "free" = some 6 ∧ slot (fmOf df_law) "cell" = some 7 ∧ slotL (fmOf df_law) "cell" = some 7 ∧ slot (fmOf df_law) "direction" = some 8 ∧ slotL (fmOf df_law) "direction" = some 8 ∧ slot (fmOf df_law) "trail" = some 9 ∧ slotL (fmOf df_law) "trail" = some 9 ∧ slot (fmOf df_law) "states" = some 10 ∧ slotL (fmOf df_law) "states" = some 10 ∧ slot (fmOf df_law) "due" = some 11 ∧ slotL (fmOf df_law) "due" = some 11 ∧ slot (fmOf df_law) "_law_begin" = none ∧ glB (fmOf df_law).sc "_law_begin" = true ∧ slot (fmOf df_law) "_law_ground" = none ∧ glB (fmOf df_law).sc "_law_ground" = true ∧ slot (fmOf df_law) "tuple" = none ∧ glB (fmOf df_law).sc "tuple" = true ∧ slot (fmOf df_law) "_law_asked_walks" = none ∧ glB (fmOf df_law).sc "_law_asked_walks" = true ∧ slot (fmOf df_law) "_law_right_walk" = none ∧ glB (fmOf df_law).sc "_law_right_walk" = true ∧ slot (fmOf df_law) "_law_kind" = none ∧ glB (fmOf df_law).sc "_law_kind" = true ∧ slot (fmOf df_law) "_law_due_walk" = none ∧ glB (fmOf df_law).sc "_law_due_walk" = true ∧ slot (fmOf df_law) "walked" = none ∧ glB (fmOf df_law).sc "walked" = true := by
  refine ⟨?_, ?_, ?_, ?_, ?_, ?_, ?_, ?_, ?_, ?_, ?_, ?_, ?_, ?_, ?_, ?_, ?_, ?_, ?_, ?_, ?_, ?_, ?_, ?_, ?_, ?_, ?_, ?_, ?_, ?_, ?_, ?_, ?_, ?_, ?_, ?_, ?_, ?_, ?_, ?_⟩
  all_goals first | rfl | trivial
theorem dr_law_175 {ρ : Rho} : dropR (df_law.drop 175) ρ = dropR [true, true, false, false, false, false, true, true, true, true, true, true, true] ρ := id rfl
theorem dr_law_176 {ρ : Rho} : dropR (df_law.drop 176) ρ = dropR [true, true, false, false, false, false, true, false, false, false, true, true, true] ρ := id rfl
theorem dr_law_180 {ρ : Rho} : dropR (df_law.drop 180) ρ = dropR [true, true, true, true, false, true, true, true, true, true, true, true, true] ρ := id rfl
theorem nl_law : (fmOf df_law).N.length = 13 := rfl
theorem ok_FIXED_KINDS : okName "FIXED_KINDS" = true := by decide
theorem cg_FIXED_KINDS {n : Nat} : (csAt pg n).GD "FIXED_KINDS" = some ([(.inr "#", .str "wall"), (.inr "*", .str "glass"), (.inr "!", .str "hole")]) := by cases n <;> rfl
theorem ok_GATES : okName "GATES" = true := by decide
theorem cg_GATES {n : Nat} : (csAt pg n).G "GATES" = some (.str "123456") := by cases n <;> rfl
theorem ok_LIDS : okName "LIDS" = true := by decide
theorem cg_LIDS {n : Nat} : (csAt pg n).G "LIDS" = some (.str "ABCDEF") := by cases n <;> rfl
theorem ok_MOVES : okName "MOVES" = true := by decide
theorem cg_MOVES {n : Nat} : (csAt pg n).G "MOVES" = some (.tuple [.tuple [.int (-1), .int 0], .tuple [.int 0, .int 1], .tuple [.int 1, .int 0], .tuple [.int 0, .int (-1)]]) := by cases n <;> rfl
theorem ok_door_of : okName "_door_of" = true := by decide
theorem cd_door_of {n : Nat} : (csAt pg (n + 1)).P "_door_of" = some (runP (csAt pg n) df_door_of) ∧ (csAt pg (n + 1)).O "_door_of" = none ∧ (csAt pg (n + 1)).F "_door_of" = none := ⟨rfl, rfl, rfl⟩
theorem fb_door_of {n : Nat} {args : List Expr} {p p1 : Pos} : freshB (csAt pg (n + 1)) (.Call (.Name "_door_of" p1) args [] p) = false := id rfl
theorem ok_law_asked_walks : okName "_law_asked_walks" = true := by decide
theorem cd_law_asked_walks {n : Nat} : (csAt pg (n + 1)).P "_law_asked_walks" = none ∧ (csAt pg (n + 1)).O "_law_asked_walks" = some (runO (csAt pg n) df_law_asked_walks) ∧ (csAt pg (n + 1)).F "_law_asked_walks" = none := ⟨rfl, rfl, rfl⟩
theorem fb_law_asked_walks {n : Nat} {args : List Expr} {p p1 : Pos} : freshB (csAt pg (n + 1)) (.Call (.Name "_law_asked_walks" p1) args [] p) = false := id rfl
theorem ok_law_begin : okName "_law_begin" = true := by decide
theorem cd_law_begin {n : Nat} : (csAt pg (n + 1)).P "_law_begin" = none ∧ (csAt pg (n + 1)).O "_law_begin" = none ∧ (csAt pg (n + 1)).F "_law_begin" = some (runF (csAt pg n) df_law_begin) := ⟨rfl, rfl, rfl⟩
theorem fb_law_begin {n : Nat} {args : List Expr} {p p1 : Pos} : freshB (csAt pg (n + 1)) (.Call (.Name "_law_begin" p1) args [] p) = true := id rfl
theorem ok_law_doors : okName "_law_doors" = true := by decide
theorem cd_law_doors {n : Nat} : (csAt pg (n + 1)).P "_law_doors" = some (runP (csAt pg n) df_law_doors) ∧ (csAt pg (n + 1)).O "_law_doors" = none ∧ (csAt pg (n + 1)).F "_law_doors" = none := ⟨rfl, rfl, rfl⟩
theorem fb_law_doors {n : Nat} {args : List Expr} {p p1 : Pos} : freshB (csAt pg (n + 1)) (.Call (.Name "_law_doors" p1) args [] p) = false := id rfl
theorem ok_law_draw : okName "_law_draw" = true := by decide
theorem cd_law_draw {n : Nat} : (csAt pg (n + 1)).P "_law_draw" = none ∧ (csAt pg (n + 1)).O "_law_draw" = some (runO (csAt pg n) df_law_draw) ∧ (csAt pg (n + 1)).F "_law_draw" = none := ⟨rfl, rfl, rfl⟩
theorem fb_law_draw {n : Nat} {args : List Expr} {p p1 : Pos} : freshB (csAt pg (n + 1)) (.Call (.Name "_law_draw" p1) args [] p) = false := id rfl
theorem ok_law_due_walk : okName "_law_due_walk" = true := by decide
theorem cd_law_due_walk {n : Nat} : (csAt pg (n + 1)).P "_law_due_walk" = some (runP (csAt pg n) df_law_due_walk) ∧ (csAt pg (n + 1)).O "_law_due_walk" = none ∧ (csAt pg (n + 1)).F "_law_due_walk" = none := ⟨rfl, rfl, rfl⟩
theorem fb_law_due_walk {n : Nat} {args : List Expr} {p p1 : Pos} : freshB (csAt pg (n + 1)) (.Call (.Name "_law_due_walk" p1) args [] p) = false := id rfl
theorem ok_law_floor : okName "_law_floor" = true := by decide
theorem cd_law_floor {n : Nat} : (csAt pg (n + 1)).P "_law_floor" = none ∧ (csAt pg (n + 1)).O "_law_floor" = some (runO (csAt pg n) df_law_floor) ∧ (csAt pg (n + 1)).F "_law_floor" = none := ⟨rfl, rfl, rfl⟩
theorem fb_law_floor {n : Nat} {args : List Expr} {p p1 : Pos} : freshB (csAt pg (n + 1)) (.Call (.Name "_law_floor" p1) args [] p) = false := id rfl
theorem ok_law_free_cells : okName "_law_free_cells" = true := by decide
theorem cd_law_free_cells {n : Nat} : (csAt pg (n + 1)).P "_law_free_cells" = some (runP (csAt pg n) df_law_free_cells) ∧ (csAt pg (n + 1)).O "_law_free_cells" = none ∧ (csAt pg (n + 1)).F "_law_free_cells" = none := ⟨rfl, rfl, rfl⟩
theorem fb_law_free_cells {n : Nat} {args : List Expr} {p p1 : Pos} : freshB (csAt pg (n + 1)) (.Call (.Name "_law_free_cells" p1) args [] p) = false := id rfl
theorem ok_law_ground : okName "_law_ground" = true := by decide
theorem cd_law_ground {n : Nat} : (csAt pg (n + 1)).P "_law_ground" = none ∧ (csAt pg (n + 1)).O "_law_ground" = some (runO (csAt pg n) df_law_ground) ∧ (csAt pg (n + 1)).F "_law_ground" = none := ⟨rfl, rfl, rfl⟩
theorem fb_law_ground {n : Nat} {args : List Expr} {p p1 : Pos} : freshB (csAt pg (n + 1)) (.Call (.Name "_law_ground" p1) args [] p) = false := id rfl
theorem ok_law_is_int : okName "_law_is_int" = true := by decide
theorem cd_law_is_int {n : Nat} : (csAt pg (n + 1)).P "_law_is_int" = some (runP (csAt pg n) df_law_is_int) ∧ (csAt pg (n + 1)).O "_law_is_int" = none ∧ (csAt pg (n + 1)).F "_law_is_int" = none := ⟨rfl, rfl, rfl⟩
theorem fb_law_is_int {n : Nat} {args : List Expr} {p p1 : Pos} : freshB (csAt pg (n + 1)) (.Call (.Name "_law_is_int" p1) args [] p) = false := id rfl
theorem ok_law_is_ints : okName "_law_is_ints" = true := by decide
theorem cd_law_is_ints {n : Nat} : (csAt pg (n + 1)).P "_law_is_ints" = some (runP (csAt pg n) df_law_is_ints) ∧ (csAt pg (n + 1)).O "_law_is_ints" = none ∧ (csAt pg (n + 1)).F "_law_is_ints" = none := ⟨rfl, rfl, rfl⟩
theorem fb_law_is_ints {n : Nat} {args : List Expr} {p p1 : Pos} : freshB (csAt pg (n + 1)) (.Call (.Name "_law_is_ints" p1) args [] p) = false := id rfl
theorem ok_law_kind : okName "_law_kind" = true := by decide
theorem cd_law_kind {n : Nat} : (csAt pg (n + 1)).P "_law_kind" = some (runP (csAt pg n) df_law_kind) ∧ (csAt pg (n + 1)).O "_law_kind" = none ∧ (csAt pg (n + 1)).F "_law_kind" = none := ⟨rfl, rfl, rfl⟩
theorem fb_law_kind {n : Nat} {args : List Expr} {p p1 : Pos} : freshB (csAt pg (n + 1)) (.Call (.Name "_law_kind" p1) args [] p) = false := id rfl
theorem ok_law_next : okName "_law_next" = true := by decide
theorem cd_law_next {n : Nat} : (csAt pg (n + 1)).P "_law_next" = some (runP (csAt pg n) df_law_next) ∧ (csAt pg (n + 1)).O "_law_next" = none ∧ (csAt pg (n + 1)).F "_law_next" = none := ⟨rfl, rfl, rfl⟩
theorem fb_law_next {n : Nat} {args : List Expr} {p p1 : Pos} : freshB (csAt pg (n + 1)) (.Call (.Name "_law_next" p1) args [] p) = false := id rfl
theorem ok_law_pick : okName "_law_pick" = true := by decide
theorem cd_law_pick {n : Nat} : (csAt pg (n + 1)).P "_law_pick" = none ∧ (csAt pg (n + 1)).O "_law_pick" = some (runO (csAt pg n) df_law_pick) ∧ (csAt pg (n + 1)).F "_law_pick" = none := ⟨rfl, rfl, rfl⟩
theorem fb_law_pick {n : Nat} {args : List Expr} {p p1 : Pos} : freshB (csAt pg (n + 1)) (.Call (.Name "_law_pick" p1) args [] p) = false := id rfl
theorem ok_law_product : okName "_law_product" = true := by decide
theorem cd_law_product {n : Nat} : (csAt pg (n + 1)).P "_law_product" = some (runP (csAt pg n) df_law_product) ∧ (csAt pg (n + 1)).O "_law_product" = none ∧ (csAt pg (n + 1)).F "_law_product" = none := ⟨rfl, rfl, rfl⟩
theorem fb_law_product {n : Nat} {args : List Expr} {p p1 : Pos} : freshB (csAt pg (n + 1)) (.Call (.Name "_law_product" p1) args [] p) = false := id rfl
theorem ok_law_rare : okName "_law_rare" = true := by decide
theorem cd_law_rare {n : Nat} : (csAt pg (n + 1)).P "_law_rare" = none ∧ (csAt pg (n + 1)).O "_law_rare" = some (runO (csAt pg n) df_law_rare) ∧ (csAt pg (n + 1)).F "_law_rare" = none := ⟨rfl, rfl, rfl⟩
theorem fb_law_rare {n : Nat} {args : List Expr} {p p1 : Pos} : freshB (csAt pg (n + 1)) (.Call (.Name "_law_rare" p1) args [] p) = false := id rfl
theorem ok_law_right_walk : okName "_law_right_walk" = true := by decide
theorem cd_law_right_walk {n : Nat} : (csAt pg (n + 1)).P "_law_right_walk" = some (runP (csAt pg n) df_law_right_walk) ∧ (csAt pg (n + 1)).O "_law_right_walk" = none ∧ (csAt pg (n + 1)).F "_law_right_walk" = none := ⟨rfl, rfl, rfl⟩
theorem fb_law_right_walk {n : Nat} {args : List Expr} {p p1 : Pos} : freshB (csAt pg (n + 1)) (.Call (.Name "_law_right_walk" p1) args [] p) = false := id rfl
theorem ok_law_trail : okName "_law_trail" = true := by decide
theorem cd_law_trail {n : Nat} : (csAt pg (n + 1)).P "_law_trail" = none ∧ (csAt pg (n + 1)).O "_law_trail" = some (runO (csAt pg n) df_law_trail) ∧ (csAt pg (n + 1)).F "_law_trail" = none := ⟨rfl, rfl, rfl⟩
theorem fb_law_trail {n : Nat} {args : List Expr} {p p1 : Pos} : freshB (csAt pg (n + 1)) (.Call (.Name "_law_trail" p1) args [] p) = false := id rfl
theorem ok_law_walk : okName "_law_walk" = true := by decide
theorem cd_law_walk {n : Nat} : (csAt pg (n + 1)).P "_law_walk" = some (runP (csAt pg n) df_law_walk) ∧ (csAt pg (n + 1)).O "_law_walk" = none ∧ (csAt pg (n + 1)).F "_law_walk" = none := ⟨rfl, rfl, rfl⟩
theorem fb_law_walk {n : Nat} {args : List Expr} {p p1 : Pos} : freshB (csAt pg (n + 1)) (.Call (.Name "_law_walk" p1) args [] p) = false := id rfl
theorem ok_abs : okName "abs" = true := by decide
theorem cd_abs {n : Nat} : (csAt pg n).P "abs" = none ∧ (csAt pg n).O "abs" = none ∧ (csAt pg n).F "abs" = none ∧ (csAt pg n).B "abs" = true := by cases n <;> exact ⟨rfl, rfl, rfl, rfl⟩
theorem fb_abs {n : Nat} {args : List Expr} {p p1 : Pos} : freshB (csAt pg n) (.Call (.Name "abs" p1) args [] p) = false := by cases n <;> rfl
theorem ok_all : okName "all" = true := by decide
theorem cd_all {n : Nat} : (csAt pg n).P "all" = none ∧ (csAt pg n).O "all" = none ∧ (csAt pg n).F "all" = none ∧ (csAt pg n).B "all" = true := by cases n <;> exact ⟨rfl, rfl, rfl, rfl⟩
theorem fb_all {n : Nat} {args : List Expr} {p p1 : Pos} : freshB (csAt pg n) (.Call (.Name "all" p1) args [] p) = false := by cases n <;> rfl
theorem ok_any : okName "any" = true := by decide
theorem cd_any {n : Nat} : (csAt pg n).P "any" = none ∧ (csAt pg n).O "any" = none ∧ (csAt pg n).F "any" = none ∧ (csAt pg n).B "any" = true := by cases n <;> exact ⟨rfl, rfl, rfl, rfl⟩
theorem fb_any {n : Nat} {args : List Expr} {p p1 : Pos} : freshB (csAt pg n) (.Call (.Name "any" p1) args [] p) = false := by cases n <;> rfl
theorem ok_bool : okName "bool" = true := by decide
theorem cd_bool {n : Nat} : (csAt pg n).P "bool" = none ∧ (csAt pg n).O "bool" = none ∧ (csAt pg n).F "bool" = none ∧ (csAt pg n).B "bool" = true := by cases n <;> exact ⟨rfl, rfl, rfl, rfl⟩
theorem fb_bool {n : Nat} {args : List Expr} {p p1 : Pos} : freshB (csAt pg n) (.Call (.Name "bool" p1) args [] p) = false := by cases n <;> rfl
theorem ok_cell_kind : okName "cell_kind" = true := by decide
theorem cd_cell_kind {n : Nat} : (csAt pg (n + 1)).P "cell_kind" = some (runP (csAt pg n) df_cell_kind) ∧ (csAt pg (n + 1)).O "cell_kind" = none ∧ (csAt pg (n + 1)).F "cell_kind" = none := ⟨rfl, rfl, rfl⟩
theorem fb_cell_kind {n : Nat} {args : List Expr} {p p1 : Pos} : freshB (csAt pg (n + 1)) (.Call (.Name "cell_kind" p1) args [] p) = false := id rfl
theorem ok_divmod : okName "divmod" = true := by decide
theorem cd_divmod {n : Nat} : (csAt pg n).P "divmod" = none ∧ (csAt pg n).O "divmod" = none ∧ (csAt pg n).F "divmod" = none ∧ (csAt pg n).B "divmod" = true := by cases n <;> exact ⟨rfl, rfl, rfl, rfl⟩
theorem fb_divmod {n : Nat} {args : List Expr} {p p1 : Pos} : freshB (csAt pg n) (.Call (.Name "divmod" p1) args [] p) = false := by cases n <;> rfl
theorem ok_int : okName "int" = true := by decide
theorem cd_int {n : Nat} : (csAt pg n).P "int" = none ∧ (csAt pg n).O "int" = none ∧ (csAt pg n).F "int" = none ∧ (csAt pg n).B "int" = true := by cases n <;> exact ⟨rfl, rfl, rfl, rfl⟩
theorem fb_int {n : Nat} {args : List Expr} {p p1 : Pos} : freshB (csAt pg n) (.Call (.Name "int" p1) args [] p) = false := by cases n <;> rfl
theorem ok_isinstance : okName "isinstance" = true := by decide
theorem cd_isinstance {n : Nat} : (csAt pg n).P "isinstance" = none ∧ (csAt pg n).O "isinstance" = none ∧ (csAt pg n).F "isinstance" = none ∧ (csAt pg n).B "isinstance" = true := by cases n <;> exact ⟨rfl, rfl, rfl, rfl⟩
theorem fb_isinstance {n : Nat} {args : List Expr} {p p1 : Pos} : freshB (csAt pg n) (.Call (.Name "isinstance" p1) args [] p) = false := by cases n <;> rfl
theorem ok_len : okName "len" = true := by decide
theorem cd_len {n : Nat} : (csAt pg n).P "len" = none ∧ (csAt pg n).O "len" = none ∧ (csAt pg n).F "len" = none ∧ (csAt pg n).B "len" = true := by cases n <;> exact ⟨rfl, rfl, rfl, rfl⟩
theorem fb_len {n : Nat} {args : List Expr} {p p1 : Pos} : freshB (csAt pg n) (.Call (.Name "len" p1) args [] p) = false := by cases n <;> rfl
theorem ok_max : okName "max" = true := by decide
theorem cd_max {n : Nat} : (csAt pg n).P "max" = none ∧ (csAt pg n).O "max" = none ∧ (csAt pg n).F "max" = none ∧ (csAt pg n).B "max" = true := by cases n <;> exact ⟨rfl, rfl, rfl, rfl⟩
theorem fb_max {n : Nat} {args : List Expr} {p p1 : Pos} : freshB (csAt pg n) (.Call (.Name "max" p1) args [] p) = false := by cases n <;> rfl
theorem ok_next_cell : okName "next_cell" = true := by decide
theorem cd_next_cell {n : Nat} : (csAt pg (n + 1)).P "next_cell" = some (runP (csAt pg n) df_next_cell) ∧ (csAt pg (n + 1)).O "next_cell" = none ∧ (csAt pg (n + 1)).F "next_cell" = none := ⟨rfl, rfl, rfl⟩
theorem fb_next_cell {n : Nat} {args : List Expr} {p p1 : Pos} : freshB (csAt pg (n + 1)) (.Call (.Name "next_cell" p1) args [] p) = false := id rfl
theorem ok_ord : okName "ord" = true := by decide
theorem cd_ord {n : Nat} : (csAt pg n).P "ord" = none ∧ (csAt pg n).O "ord" = none ∧ (csAt pg n).F "ord" = none ∧ (csAt pg n).B "ord" = true := by cases n <;> exact ⟨rfl, rfl, rfl, rfl⟩
theorem fb_ord {n : Nat} {args : List Expr} {p p1 : Pos} : freshB (csAt pg n) (.Call (.Name "ord" p1) args [] p) = false := by cases n <;> rfl
theorem ok_range : okName "range" = true := by decide
theorem cd_range {n : Nat} : (csAt pg n).P "range" = none ∧ (csAt pg n).O "range" = none ∧ (csAt pg n).F "range" = none ∧ (csAt pg n).B "range" = true := by cases n <;> exact ⟨rfl, rfl, rfl, rfl⟩
theorem fb_range {n : Nat} {args : List Expr} {p p1 : Pos} : freshB (csAt pg n) (.Call (.Name "range" p1) args [] p) = false := by cases n <;> rfl
theorem ok_sign_at : okName "sign_at" = true := by decide
theorem cd_sign_at {n : Nat} : (csAt pg (n + 1)).P "sign_at" = some (runP (csAt pg n) df_sign_at) ∧ (csAt pg (n + 1)).O "sign_at" = none ∧ (csAt pg (n + 1)).F "sign_at" = none := ⟨rfl, rfl, rfl⟩
theorem fb_sign_at {n : Nat} {args : List Expr} {p p1 : Pos} : freshB (csAt pg (n + 1)) (.Call (.Name "sign_at" p1) args [] p) = false := id rfl
theorem ok_tuple : okName "tuple" = true := by decide
theorem cd_tuple {n : Nat} : (csAt pg n).P "tuple" = none ∧ (csAt pg n).O "tuple" = none ∧ (csAt pg n).F "tuple" = none ∧ (csAt pg n).B "tuple" = true := by cases n <;> exact ⟨rfl, rfl, rfl, rfl⟩
theorem fb_tuple {n : Nat} {args : List Expr} {p p1 : Pos} : freshB (csAt pg n) (.Call (.Name "tuple" p1) args [] p) = false := by cases n <;> rfl
theorem ok_walked : okName "walked" = true := by decide
theorem cd_walked {n : Nat} : (csAt pg (n + 1)).P "walked" = some (runP (csAt pg n) df_walked) ∧ (csAt pg (n + 1)).O "walked" = none ∧ (csAt pg (n + 1)).F "walked" = none := ⟨rfl, rfl, rfl⟩
theorem fb_walked {n : Nat} {args : List Expr} {p p1 : Pos} : freshB (csAt pg (n + 1)) (.Call (.Name "walked" p1) args [] p) = false := id rfl
theorem sq_door_of_list : (Str.ofString "_door_of" = Str.ofString "list") = False := eq_false (by decide +kernel)
theorem sq_door_of_sorted : (Str.ofString "_door_of" = Str.ofString "sorted") = False := eq_false (by decide +kernel)
theorem sq_door_of_range : (Str.ofString "_door_of" = Str.ofString "range") = False := eq_false (by decide +kernel)
theorem sq_door_of_enumerate : (Str.ofString "_door_of" = Str.ofString "enumerate") = False := eq_false (by decide +kernel)
theorem sq_door_of_zip : (Str.ofString "_door_of" = Str.ofString "zip") = False := eq_false (by decide +kernel)
theorem sq_door_of_tuple : (Str.ofString "_door_of" = Str.ofString "tuple") = False := eq_false (by decide +kernel)
theorem sq_door_of_isinstance : (Str.ofString "_door_of" = Str.ofString "isinstance") = False := eq_false (by decide +kernel)
theorem sq_door_of_int : (Str.ofString "_door_of" = Str.ofString "int") = False := eq_false (by decide +kernel)
theorem sq_door_of_set : (Str.ofString "_door_of" = Str.ofString "set") = False := eq_false (by decide +kernel)
theorem sq_door_of_dict : (Str.ofString "_door_of" = Str.ofString "dict") = False := eq_false (by decide +kernel)
theorem sq_door_of_any : (Str.ofString "_door_of" = Str.ofString "any") = False := eq_false (by decide +kernel)
theorem sq_door_of_all : (Str.ofString "_door_of" = Str.ofString "all") = False := eq_false (by decide +kernel)
theorem sq_law_asked_walks_list : (Str.ofString "_law_asked_walks" = Str.ofString "list") = False := eq_false (by decide +kernel)
theorem sq_law_asked_walks_sorted : (Str.ofString "_law_asked_walks" = Str.ofString "sorted") = False := eq_false (by decide +kernel)
theorem sq_law_asked_walks_range : (Str.ofString "_law_asked_walks" = Str.ofString "range") = False := eq_false (by decide +kernel)
theorem sq_law_asked_walks_enumerate : (Str.ofString "_law_asked_walks" = Str.ofString "enumerate") = False := eq_false (by decide +kernel)
theorem sq_law_asked_walks_zip : (Str.ofString "_law_asked_walks" = Str.ofString "zip") = False := eq_false (by decide +kernel)
theorem sq_law_asked_walks_tuple : (Str.ofString "_law_asked_walks" = Str.ofString "tuple") = False := eq_false (by decide +kernel)
theorem sq_law_asked_walks_isinstance : (Str.ofString "_law_asked_walks" = Str.ofString "isinstance") = False := eq_false (by decide +kernel)
theorem sq_law_asked_walks_int : (Str.ofString "_law_asked_walks" = Str.ofString "int") = False := eq_false (by decide +kernel)
theorem sq_law_asked_walks_set : (Str.ofString "_law_asked_walks" = Str.ofString "set") = False := eq_false (by decide +kernel)
theorem sq_law_asked_walks_dict : (Str.ofString "_law_asked_walks" = Str.ofString "dict") = False := eq_false (by decide +kernel)
theorem sq_law_asked_walks_any : (Str.ofString "_law_asked_walks" = Str.ofString "any") = False := eq_false (by decide +kernel)
theorem sq_law_asked_walks_all : (Str.ofString "_law_asked_walks" = Str.ofString "all") = False := eq_false (by decide +kernel)
theorem sq_law_begin_list : (Str.ofString "_law_begin" = Str.ofString "list") = False := eq_false (by decide +kernel)
theorem sq_law_begin_sorted : (Str.ofString "_law_begin" = Str.ofString "sorted") = False := eq_false (by decide +kernel)
theorem sq_law_begin_range : (Str.ofString "_law_begin" = Str.ofString "range") = False := eq_false (by decide +kernel)
theorem sq_law_begin_enumerate : (Str.ofString "_law_begin" = Str.ofString "enumerate") = False := eq_false (by decide +kernel)
theorem sq_law_begin_zip : (Str.ofString "_law_begin" = Str.ofString "zip") = False := eq_false (by decide +kernel)
theorem sq_law_begin_tuple : (Str.ofString "_law_begin" = Str.ofString "tuple") = False := eq_false (by decide +kernel)
theorem sq_law_begin_isinstance : (Str.ofString "_law_begin" = Str.ofString "isinstance") = False := eq_false (by decide +kernel)
theorem sq_law_begin_int : (Str.ofString "_law_begin" = Str.ofString "int") = False := eq_false (by decide +kernel)
theorem sq_law_begin_set : (Str.ofString "_law_begin" = Str.ofString "set") = False := eq_false (by decide +kernel)
theorem sq_law_begin_dict : (Str.ofString "_law_begin" = Str.ofString "dict") = False := eq_false (by decide +kernel)
theorem sq_law_begin_any : (Str.ofString "_law_begin" = Str.ofString "any") = False := eq_false (by decide +kernel)
theorem sq_law_begin_all : (Str.ofString "_law_begin" = Str.ofString "all") = False := eq_false (by decide +kernel)
theorem sq_law_doors_list : (Str.ofString "_law_doors" = Str.ofString "list") = False := eq_false (by decide +kernel)
theorem sq_law_doors_sorted : (Str.ofString "_law_doors" = Str.ofString "sorted") = False := eq_false (by decide +kernel)
theorem sq_law_doors_range : (Str.ofString "_law_doors" = Str.ofString "range") = False := eq_false (by decide +kernel)
theorem sq_law_doors_enumerate : (Str.ofString "_law_doors" = Str.ofString "enumerate") = False := eq_false (by decide +kernel)
theorem sq_law_doors_zip : (Str.ofString "_law_doors" = Str.ofString "zip") = False := eq_false (by decide +kernel)
theorem sq_law_doors_tuple : (Str.ofString "_law_doors" = Str.ofString "tuple") = False := eq_false (by decide +kernel)
theorem sq_law_doors_isinstance : (Str.ofString "_law_doors" = Str.ofString "isinstance") = False := eq_false (by decide +kernel)
theorem sq_law_doors_int : (Str.ofString "_law_doors" = Str.ofString "int") = False := eq_false (by decide +kernel)
theorem sq_law_doors_set : (Str.ofString "_law_doors" = Str.ofString "set") = False := eq_false (by decide +kernel)
theorem sq_law_doors_dict : (Str.ofString "_law_doors" = Str.ofString "dict") = False := eq_false (by decide +kernel)
theorem sq_law_doors_any : (Str.ofString "_law_doors" = Str.ofString "any") = False := eq_false (by decide +kernel)
theorem sq_law_doors_all : (Str.ofString "_law_doors" = Str.ofString "all") = False := eq_false (by decide +kernel)
theorem sq_law_draw_list : (Str.ofString "_law_draw" = Str.ofString "list") = False := eq_false (by decide +kernel)
theorem sq_law_draw_sorted : (Str.ofString "_law_draw" = Str.ofString "sorted") = False := eq_false (by decide +kernel)
theorem sq_law_draw_range : (Str.ofString "_law_draw" = Str.ofString "range") = False := eq_false (by decide +kernel)
theorem sq_law_draw_enumerate : (Str.ofString "_law_draw" = Str.ofString "enumerate") = False := eq_false (by decide +kernel)
theorem sq_law_draw_zip : (Str.ofString "_law_draw" = Str.ofString "zip") = False := eq_false (by decide +kernel)
theorem sq_law_draw_tuple : (Str.ofString "_law_draw" = Str.ofString "tuple") = False := eq_false (by decide +kernel)
theorem sq_law_draw_isinstance : (Str.ofString "_law_draw" = Str.ofString "isinstance") = False := eq_false (by decide +kernel)
theorem sq_law_draw_int : (Str.ofString "_law_draw" = Str.ofString "int") = False := eq_false (by decide +kernel)
theorem sq_law_draw_set : (Str.ofString "_law_draw" = Str.ofString "set") = False := eq_false (by decide +kernel)
theorem sq_law_draw_dict : (Str.ofString "_law_draw" = Str.ofString "dict") = False := eq_false (by decide +kernel)
theorem sq_law_draw_any : (Str.ofString "_law_draw" = Str.ofString "any") = False := eq_false (by decide +kernel)
theorem sq_law_draw_all : (Str.ofString "_law_draw" = Str.ofString "all") = False := eq_false (by decide +kernel)
theorem sq_law_due_walk_list : (Str.ofString "_law_due_walk" = Str.ofString "list") = False := eq_false (by decide +kernel)
theorem sq_law_due_walk_sorted : (Str.ofString "_law_due_walk" = Str.ofString "sorted") = False := eq_false (by decide +kernel)
theorem sq_law_due_walk_range : (Str.ofString "_law_due_walk" = Str.ofString "range") = False := eq_false (by decide +kernel)
theorem sq_law_due_walk_enumerate : (Str.ofString "_law_due_walk" = Str.ofString "enumerate") = False := eq_false (by decide +kernel)
theorem sq_law_due_walk_zip : (Str.ofString "_law_due_walk" = Str.ofString "zip") = False := eq_false (by decide +kernel)
theorem sq_law_due_walk_tuple : (Str.ofString "_law_due_walk" = Str.ofString "tuple") = False := eq_false (by decide +kernel)
theorem sq_law_due_walk_isinstance : (Str.ofString "_law_due_walk" = Str.ofString "isinstance") = False := eq_false (by decide +kernel)
theorem sq_law_due_walk_int : (Str.ofString "_law_due_walk" = Str.ofString "int") = False := eq_false (by decide +kernel)
theorem sq_law_due_walk_set : (Str.ofString "_law_due_walk" = Str.ofString "set") = False := eq_false (by decide +kernel)
theorem sq_law_due_walk_dict : (Str.ofString "_law_due_walk" = Str.ofString "dict") = False := eq_false (by decide +kernel)
theorem sq_law_due_walk_any : (Str.ofString "_law_due_walk" = Str.ofString "any") = False := eq_false (by decide +kernel)
theorem sq_law_due_walk_all : (Str.ofString "_law_due_walk" = Str.ofString "all") = False := eq_false (by decide +kernel)
theorem sq_law_floor_list : (Str.ofString "_law_floor" = Str.ofString "list") = False := eq_false (by decide +kernel)
theorem sq_law_floor_sorted : (Str.ofString "_law_floor" = Str.ofString "sorted") = False := eq_false (by decide +kernel)
theorem sq_law_floor_range : (Str.ofString "_law_floor" = Str.ofString "range") = False := eq_false (by decide +kernel)
theorem sq_law_floor_enumerate : (Str.ofString "_law_floor" = Str.ofString "enumerate") = False := eq_false (by decide +kernel)
theorem sq_law_floor_zip : (Str.ofString "_law_floor" = Str.ofString "zip") = False := eq_false (by decide +kernel)
theorem sq_law_floor_tuple : (Str.ofString "_law_floor" = Str.ofString "tuple") = False := eq_false (by decide +kernel)
theorem sq_law_floor_isinstance : (Str.ofString "_law_floor" = Str.ofString "isinstance") = False := eq_false (by decide +kernel)
theorem sq_law_floor_int : (Str.ofString "_law_floor" = Str.ofString "int") = False := eq_false (by decide +kernel)
theorem sq_law_floor_set : (Str.ofString "_law_floor" = Str.ofString "set") = False := eq_false (by decide +kernel)
theorem sq_law_floor_dict : (Str.ofString "_law_floor" = Str.ofString "dict") = False := eq_false (by decide +kernel)
theorem sq_law_floor_any : (Str.ofString "_law_floor" = Str.ofString "any") = False := eq_false (by decide +kernel)
theorem sq_law_floor_all : (Str.ofString "_law_floor" = Str.ofString "all") = False := eq_false (by decide +kernel)
theorem sq_law_free_cells_list : (Str.ofString "_law_free_cells" = Str.ofString "list") = False := eq_false (by decide +kernel)
theorem sq_law_free_cells_sorted : (Str.ofString "_law_free_cells" = Str.ofString "sorted") = False := eq_false (by decide +kernel)
theorem sq_law_free_cells_range : (Str.ofString "_law_free_cells" = Str.ofString "range") = False := eq_false (by decide +kernel)
theorem sq_law_free_cells_enumerate : (Str.ofString "_law_free_cells" = Str.ofString "enumerate") = False := eq_false (by decide +kernel)
theorem sq_law_free_cells_zip : (Str.ofString "_law_free_cells" = Str.ofString "zip") = False := eq_false (by decide +kernel)
theorem sq_law_free_cells_tuple : (Str.ofString "_law_free_cells" = Str.ofString "tuple") = False := eq_false (by decide +kernel)
theorem sq_law_free_cells_isinstance : (Str.ofString "_law_free_cells" = Str.ofString "isinstance") = False := eq_false (by decide +kernel)
theorem sq_law_free_cells_int : (Str.ofString "_law_free_cells" = Str.ofString "int") = False := eq_false (by decide +kernel)
theorem sq_law_free_cells_set : (Str.ofString "_law_free_cells" = Str.ofString "set") = False := eq_false (by decide +kernel)
theorem sq_law_free_cells_dict : (Str.ofString "_law_free_cells" = Str.ofString "dict") = False := eq_false (by decide +kernel)
theorem sq_law_free_cells_any : (Str.ofString "_law_free_cells" = Str.ofString "any") = False := eq_false (by decide +kernel)
theorem sq_law_free_cells_all : (Str.ofString "_law_free_cells" = Str.ofString "all") = False := eq_false (by decide +kernel)
theorem sq_law_ground_list : (Str.ofString "_law_ground" = Str.ofString "list") = False := eq_false (by decide +kernel)
theorem sq_law_ground_sorted : (Str.ofString "_law_ground" = Str.ofString "sorted") = False := eq_false (by decide +kernel)
theorem sq_law_ground_range : (Str.ofString "_law_ground" = Str.ofString "range") = False := eq_false (by decide +kernel)
theorem sq_law_ground_enumerate : (Str.ofString "_law_ground" = Str.ofString "enumerate") = False := eq_false (by decide +kernel)
theorem sq_law_ground_zip : (Str.ofString "_law_ground" = Str.ofString "zip") = False := eq_false (by decide +kernel)
theorem sq_law_ground_tuple : (Str.ofString "_law_ground" = Str.ofString "tuple") = False := eq_false (by decide +kernel)
theorem sq_law_ground_isinstance : (Str.ofString "_law_ground" = Str.ofString "isinstance") = False := eq_false (by decide +kernel)
theorem sq_law_ground_int : (Str.ofString "_law_ground" = Str.ofString "int") = False := eq_false (by decide +kernel)
theorem sq_law_ground_set : (Str.ofString "_law_ground" = Str.ofString "set") = False := eq_false (by decide +kernel)
theorem sq_law_ground_dict : (Str.ofString "_law_ground" = Str.ofString "dict") = False := eq_false (by decide +kernel)
theorem sq_law_ground_any : (Str.ofString "_law_ground" = Str.ofString "any") = False := eq_false (by decide +kernel)
theorem sq_law_ground_all : (Str.ofString "_law_ground" = Str.ofString "all") = False := eq_false (by decide +kernel)
theorem sq_law_is_int_list : (Str.ofString "_law_is_int" = Str.ofString "list") = False := eq_false (by decide +kernel)
theorem sq_law_is_int_sorted : (Str.ofString "_law_is_int" = Str.ofString "sorted") = False := eq_false (by decide +kernel)
theorem sq_law_is_int_range : (Str.ofString "_law_is_int" = Str.ofString "range") = False := eq_false (by decide +kernel)
theorem sq_law_is_int_enumerate : (Str.ofString "_law_is_int" = Str.ofString "enumerate") = False := eq_false (by decide +kernel)
theorem sq_law_is_int_zip : (Str.ofString "_law_is_int" = Str.ofString "zip") = False := eq_false (by decide +kernel)
theorem sq_law_is_int_tuple : (Str.ofString "_law_is_int" = Str.ofString "tuple") = False := eq_false (by decide +kernel)
theorem sq_law_is_int_isinstance : (Str.ofString "_law_is_int" = Str.ofString "isinstance") = False := eq_false (by decide +kernel)
theorem sq_law_is_int_int : (Str.ofString "_law_is_int" = Str.ofString "int") = False := eq_false (by decide +kernel)
theorem sq_law_is_int_set : (Str.ofString "_law_is_int" = Str.ofString "set") = False := eq_false (by decide +kernel)
theorem sq_law_is_int_dict : (Str.ofString "_law_is_int" = Str.ofString "dict") = False := eq_false (by decide +kernel)
theorem sq_law_is_int_any : (Str.ofString "_law_is_int" = Str.ofString "any") = False := eq_false (by decide +kernel)
theorem sq_law_is_int_all : (Str.ofString "_law_is_int" = Str.ofString "all") = False := eq_false (by decide +kernel)
theorem sq_law_is_ints_list : (Str.ofString "_law_is_ints" = Str.ofString "list") = False := eq_false (by decide +kernel)
theorem sq_law_is_ints_sorted : (Str.ofString "_law_is_ints" = Str.ofString "sorted") = False := eq_false (by decide +kernel)
theorem sq_law_is_ints_range : (Str.ofString "_law_is_ints" = Str.ofString "range") = False := eq_false (by decide +kernel)
theorem sq_law_is_ints_enumerate : (Str.ofString "_law_is_ints" = Str.ofString "enumerate") = False := eq_false (by decide +kernel)
theorem sq_law_is_ints_zip : (Str.ofString "_law_is_ints" = Str.ofString "zip") = False := eq_false (by decide +kernel)
theorem sq_law_is_ints_tuple : (Str.ofString "_law_is_ints" = Str.ofString "tuple") = False := eq_false (by decide +kernel)
theorem sq_law_is_ints_isinstance : (Str.ofString "_law_is_ints" = Str.ofString "isinstance") = False := eq_false (by decide +kernel)
theorem sq_law_is_ints_int : (Str.ofString "_law_is_ints" = Str.ofString "int") = False := eq_false (by decide +kernel)
theorem sq_law_is_ints_set : (Str.ofString "_law_is_ints" = Str.ofString "set") = False := eq_false (by decide +kernel)
theorem sq_law_is_ints_dict : (Str.ofString "_law_is_ints" = Str.ofString "dict") = False := eq_false (by decide +kernel)
theorem sq_law_is_ints_any : (Str.ofString "_law_is_ints" = Str.ofString "any") = False := eq_false (by decide +kernel)
theorem sq_law_is_ints_all : (Str.ofString "_law_is_ints" = Str.ofString "all") = False := eq_false (by decide +kernel)
theorem sq_law_kind_list : (Str.ofString "_law_kind" = Str.ofString "list") = False := eq_false (by decide +kernel)
theorem sq_law_kind_sorted : (Str.ofString "_law_kind" = Str.ofString "sorted") = False := eq_false (by decide +kernel)
theorem sq_law_kind_range : (Str.ofString "_law_kind" = Str.ofString "range") = False := eq_false (by decide +kernel)
theorem sq_law_kind_enumerate : (Str.ofString "_law_kind" = Str.ofString "enumerate") = False := eq_false (by decide +kernel)
theorem sq_law_kind_zip : (Str.ofString "_law_kind" = Str.ofString "zip") = False := eq_false (by decide +kernel)
theorem sq_law_kind_tuple : (Str.ofString "_law_kind" = Str.ofString "tuple") = False := eq_false (by decide +kernel)
theorem sq_law_kind_isinstance : (Str.ofString "_law_kind" = Str.ofString "isinstance") = False := eq_false (by decide +kernel)
theorem sq_law_kind_int : (Str.ofString "_law_kind" = Str.ofString "int") = False := eq_false (by decide +kernel)
theorem sq_law_kind_set : (Str.ofString "_law_kind" = Str.ofString "set") = False := eq_false (by decide +kernel)
theorem sq_law_kind_dict : (Str.ofString "_law_kind" = Str.ofString "dict") = False := eq_false (by decide +kernel)
theorem sq_law_kind_any : (Str.ofString "_law_kind" = Str.ofString "any") = False := eq_false (by decide +kernel)
theorem sq_law_kind_all : (Str.ofString "_law_kind" = Str.ofString "all") = False := eq_false (by decide +kernel)
theorem sq_law_next_list : (Str.ofString "_law_next" = Str.ofString "list") = False := eq_false (by decide +kernel)
theorem sq_law_next_sorted : (Str.ofString "_law_next" = Str.ofString "sorted") = False := eq_false (by decide +kernel)
theorem sq_law_next_range : (Str.ofString "_law_next" = Str.ofString "range") = False := eq_false (by decide +kernel)
theorem sq_law_next_enumerate : (Str.ofString "_law_next" = Str.ofString "enumerate") = False := eq_false (by decide +kernel)
theorem sq_law_next_zip : (Str.ofString "_law_next" = Str.ofString "zip") = False := eq_false (by decide +kernel)
theorem sq_law_next_tuple : (Str.ofString "_law_next" = Str.ofString "tuple") = False := eq_false (by decide +kernel)
theorem sq_law_next_isinstance : (Str.ofString "_law_next" = Str.ofString "isinstance") = False := eq_false (by decide +kernel)
theorem sq_law_next_int : (Str.ofString "_law_next" = Str.ofString "int") = False := eq_false (by decide +kernel)
theorem sq_law_next_set : (Str.ofString "_law_next" = Str.ofString "set") = False := eq_false (by decide +kernel)
theorem sq_law_next_dict : (Str.ofString "_law_next" = Str.ofString "dict") = False := eq_false (by decide +kernel)
theorem sq_law_next_any : (Str.ofString "_law_next" = Str.ofString "any") = False := eq_false (by decide +kernel)
theorem sq_law_next_all : (Str.ofString "_law_next" = Str.ofString "all") = False := eq_false (by decide +kernel)
theorem sq_law_pick_list : (Str.ofString "_law_pick" = Str.ofString "list") = False := eq_false (by decide +kernel)
theorem sq_law_pick_sorted : (Str.ofString "_law_pick" = Str.ofString "sorted") = False := eq_false (by decide +kernel)
theorem sq_law_pick_range : (Str.ofString "_law_pick" = Str.ofString "range") = False := eq_false (by decide +kernel)
theorem sq_law_pick_enumerate : (Str.ofString "_law_pick" = Str.ofString "enumerate") = False := eq_false (by decide +kernel)
theorem sq_law_pick_zip : (Str.ofString "_law_pick" = Str.ofString "zip") = False := eq_false (by decide +kernel)
theorem sq_law_pick_tuple : (Str.ofString "_law_pick" = Str.ofString "tuple") = False := eq_false (by decide +kernel)
theorem sq_law_pick_isinstance : (Str.ofString "_law_pick" = Str.ofString "isinstance") = False := eq_false (by decide +kernel)
theorem sq_law_pick_int : (Str.ofString "_law_pick" = Str.ofString "int") = False := eq_false (by decide +kernel)
theorem sq_law_pick_set : (Str.ofString "_law_pick" = Str.ofString "set") = False := eq_false (by decide +kernel)
theorem sq_law_pick_dict : (Str.ofString "_law_pick" = Str.ofString "dict") = False := eq_false (by decide +kernel)
theorem sq_law_pick_any : (Str.ofString "_law_pick" = Str.ofString "any") = False := eq_false (by decide +kernel)
theorem sq_law_pick_all : (Str.ofString "_law_pick" = Str.ofString "all") = False := eq_false (by decide +kernel)
theorem sq_law_product_list : (Str.ofString "_law_product" = Str.ofString "list") = False := eq_false (by decide +kernel)
theorem sq_law_product_sorted : (Str.ofString "_law_product" = Str.ofString "sorted") = False := eq_false (by decide +kernel)
theorem sq_law_product_range : (Str.ofString "_law_product" = Str.ofString "range") = False := eq_false (by decide +kernel)
theorem sq_law_product_enumerate : (Str.ofString "_law_product" = Str.ofString "enumerate") = False := eq_false (by decide +kernel)
theorem sq_law_product_zip : (Str.ofString "_law_product" = Str.ofString "zip") = False := eq_false (by decide +kernel)
theorem sq_law_product_tuple : (Str.ofString "_law_product" = Str.ofString "tuple") = False := eq_false (by decide +kernel)
theorem sq_law_product_isinstance : (Str.ofString "_law_product" = Str.ofString "isinstance") = False := eq_false (by decide +kernel)
theorem sq_law_product_int : (Str.ofString "_law_product" = Str.ofString "int") = False := eq_false (by decide +kernel)
theorem sq_law_product_set : (Str.ofString "_law_product" = Str.ofString "set") = False := eq_false (by decide +kernel)
theorem sq_law_product_dict : (Str.ofString "_law_product" = Str.ofString "dict") = False := eq_false (by decide +kernel)
theorem sq_law_product_any : (Str.ofString "_law_product" = Str.ofString "any") = False := eq_false (by decide +kernel)
theorem sq_law_product_all : (Str.ofString "_law_product" = Str.ofString "all") = False := eq_false (by decide +kernel)
theorem sq_law_rare_list : (Str.ofString "_law_rare" = Str.ofString "list") = False := eq_false (by decide +kernel)
theorem sq_law_rare_sorted : (Str.ofString "_law_rare" = Str.ofString "sorted") = False := eq_false (by decide +kernel)
theorem sq_law_rare_range : (Str.ofString "_law_rare" = Str.ofString "range") = False := eq_false (by decide +kernel)
theorem sq_law_rare_enumerate : (Str.ofString "_law_rare" = Str.ofString "enumerate") = False := eq_false (by decide +kernel)
theorem sq_law_rare_zip : (Str.ofString "_law_rare" = Str.ofString "zip") = False := eq_false (by decide +kernel)
theorem sq_law_rare_tuple : (Str.ofString "_law_rare" = Str.ofString "tuple") = False := eq_false (by decide +kernel)
theorem sq_law_rare_isinstance : (Str.ofString "_law_rare" = Str.ofString "isinstance") = False := eq_false (by decide +kernel)
theorem sq_law_rare_int : (Str.ofString "_law_rare" = Str.ofString "int") = False := eq_false (by decide +kernel)
theorem sq_law_rare_set : (Str.ofString "_law_rare" = Str.ofString "set") = False := eq_false (by decide +kernel)
theorem sq_law_rare_dict : (Str.ofString "_law_rare" = Str.ofString "dict") = False := eq_false (by decide +kernel)
theorem sq_law_rare_any : (Str.ofString "_law_rare" = Str.ofString "any") = False := eq_false (by decide +kernel)
theorem sq_law_rare_all : (Str.ofString "_law_rare" = Str.ofString "all") = False := eq_false (by decide +kernel)
theorem sq_law_right_walk_list : (Str.ofString "_law_right_walk" = Str.ofString "list") = False := eq_false (by decide +kernel)
theorem sq_law_right_walk_sorted : (Str.ofString "_law_right_walk" = Str.ofString "sorted") = False := eq_false (by decide +kernel)
theorem sq_law_right_walk_range : (Str.ofString "_law_right_walk" = Str.ofString "range") = False := eq_false (by decide +kernel)
theorem sq_law_right_walk_enumerate : (Str.ofString "_law_right_walk" = Str.ofString "enumerate") = False := eq_false (by decide +kernel)
theorem sq_law_right_walk_zip : (Str.ofString "_law_right_walk" = Str.ofString "zip") = False := eq_false (by decide +kernel)
theorem sq_law_right_walk_tuple : (Str.ofString "_law_right_walk" = Str.ofString "tuple") = False := eq_false (by decide +kernel)
theorem sq_law_right_walk_isinstance : (Str.ofString "_law_right_walk" = Str.ofString "isinstance") = False := eq_false (by decide +kernel)
theorem sq_law_right_walk_int : (Str.ofString "_law_right_walk" = Str.ofString "int") = False := eq_false (by decide +kernel)
theorem sq_law_right_walk_set : (Str.ofString "_law_right_walk" = Str.ofString "set") = False := eq_false (by decide +kernel)
theorem sq_law_right_walk_dict : (Str.ofString "_law_right_walk" = Str.ofString "dict") = False := eq_false (by decide +kernel)
theorem sq_law_right_walk_any : (Str.ofString "_law_right_walk" = Str.ofString "any") = False := eq_false (by decide +kernel)
theorem sq_law_right_walk_all : (Str.ofString "_law_right_walk" = Str.ofString "all") = False := eq_false (by decide +kernel)
theorem sq_law_trail_list : (Str.ofString "_law_trail" = Str.ofString "list") = False := eq_false (by decide +kernel)
theorem sq_law_trail_sorted : (Str.ofString "_law_trail" = Str.ofString "sorted") = False := eq_false (by decide +kernel)
theorem sq_law_trail_range : (Str.ofString "_law_trail" = Str.ofString "range") = False := eq_false (by decide +kernel)
theorem sq_law_trail_enumerate : (Str.ofString "_law_trail" = Str.ofString "enumerate") = False := eq_false (by decide +kernel)
theorem sq_law_trail_zip : (Str.ofString "_law_trail" = Str.ofString "zip") = False := eq_false (by decide +kernel)
theorem sq_law_trail_tuple : (Str.ofString "_law_trail" = Str.ofString "tuple") = False := eq_false (by decide +kernel)
theorem sq_law_trail_isinstance : (Str.ofString "_law_trail" = Str.ofString "isinstance") = False := eq_false (by decide +kernel)
theorem sq_law_trail_int : (Str.ofString "_law_trail" = Str.ofString "int") = False := eq_false (by decide +kernel)
theorem sq_law_trail_set : (Str.ofString "_law_trail" = Str.ofString "set") = False := eq_false (by decide +kernel)
theorem sq_law_trail_dict : (Str.ofString "_law_trail" = Str.ofString "dict") = False := eq_false (by decide +kernel)
theorem sq_law_trail_any : (Str.ofString "_law_trail" = Str.ofString "any") = False := eq_false (by decide +kernel)
theorem sq_law_trail_all : (Str.ofString "_law_trail" = Str.ofString "all") = False := eq_false (by decide +kernel)
theorem sq_law_walk_list : (Str.ofString "_law_walk" = Str.ofString "list") = False := eq_false (by decide +kernel)
theorem sq_law_walk_sorted : (Str.ofString "_law_walk" = Str.ofString "sorted") = False := eq_false (by decide +kernel)
theorem sq_law_walk_range : (Str.ofString "_law_walk" = Str.ofString "range") = False := eq_false (by decide +kernel)
theorem sq_law_walk_enumerate : (Str.ofString "_law_walk" = Str.ofString "enumerate") = False := eq_false (by decide +kernel)
theorem sq_law_walk_zip : (Str.ofString "_law_walk" = Str.ofString "zip") = False := eq_false (by decide +kernel)
theorem sq_law_walk_tuple : (Str.ofString "_law_walk" = Str.ofString "tuple") = False := eq_false (by decide +kernel)
theorem sq_law_walk_isinstance : (Str.ofString "_law_walk" = Str.ofString "isinstance") = False := eq_false (by decide +kernel)
theorem sq_law_walk_int : (Str.ofString "_law_walk" = Str.ofString "int") = False := eq_false (by decide +kernel)
theorem sq_law_walk_set : (Str.ofString "_law_walk" = Str.ofString "set") = False := eq_false (by decide +kernel)
theorem sq_law_walk_dict : (Str.ofString "_law_walk" = Str.ofString "dict") = False := eq_false (by decide +kernel)
theorem sq_law_walk_any : (Str.ofString "_law_walk" = Str.ofString "any") = False := eq_false (by decide +kernel)
theorem sq_law_walk_all : (Str.ofString "_law_walk" = Str.ofString "all") = False := eq_false (by decide +kernel)
theorem sq_abs_list : (Str.ofString "abs" = Str.ofString "list") = False := eq_false (by decide +kernel)
theorem sq_abs_sorted : (Str.ofString "abs" = Str.ofString "sorted") = False := eq_false (by decide +kernel)
theorem sq_abs_range : (Str.ofString "abs" = Str.ofString "range") = False := eq_false (by decide +kernel)
theorem sq_abs_enumerate : (Str.ofString "abs" = Str.ofString "enumerate") = False := eq_false (by decide +kernel)
theorem sq_abs_zip : (Str.ofString "abs" = Str.ofString "zip") = False := eq_false (by decide +kernel)
theorem sq_abs_tuple : (Str.ofString "abs" = Str.ofString "tuple") = False := eq_false (by decide +kernel)
theorem sq_abs_isinstance : (Str.ofString "abs" = Str.ofString "isinstance") = False := eq_false (by decide +kernel)
theorem sq_abs_int : (Str.ofString "abs" = Str.ofString "int") = False := eq_false (by decide +kernel)
theorem sq_abs_set : (Str.ofString "abs" = Str.ofString "set") = False := eq_false (by decide +kernel)
theorem sq_abs_dict : (Str.ofString "abs" = Str.ofString "dict") = False := eq_false (by decide +kernel)
theorem sq_abs_any : (Str.ofString "abs" = Str.ofString "any") = False := eq_false (by decide +kernel)
theorem sq_abs_all : (Str.ofString "abs" = Str.ofString "all") = False := eq_false (by decide +kernel)
theorem sq_all_list : (Str.ofString "all" = Str.ofString "list") = False := eq_false (by decide +kernel)
theorem sq_all_sorted : (Str.ofString "all" = Str.ofString "sorted") = False := eq_false (by decide +kernel)
theorem sq_all_range : (Str.ofString "all" = Str.ofString "range") = False := eq_false (by decide +kernel)
theorem sq_all_enumerate : (Str.ofString "all" = Str.ofString "enumerate") = False := eq_false (by decide +kernel)
theorem sq_all_zip : (Str.ofString "all" = Str.ofString "zip") = False := eq_false (by decide +kernel)
theorem sq_all_tuple : (Str.ofString "all" = Str.ofString "tuple") = False := eq_false (by decide +kernel)
theorem sq_all_isinstance : (Str.ofString "all" = Str.ofString "isinstance") = False := eq_false (by decide +kernel)
theorem sq_all_int : (Str.ofString "all" = Str.ofString "int") = False := eq_false (by decide +kernel)
theorem sq_all_set : (Str.ofString "all" = Str.ofString "set") = False := eq_false (by decide +kernel)
theorem sq_all_dict : (Str.ofString "all" = Str.ofString "dict") = False := eq_false (by decide +kernel)
theorem sq_all_any : (Str.ofString "all" = Str.ofString "any") = False := eq_false (by decide +kernel)
theorem sq_all_all : (Str.ofString "all" = Str.ofString "all") = True := eq_true (by decide +kernel)
theorem sq_any_list : (Str.ofString "any" = Str.ofString "list") = False := eq_false (by decide +kernel)
theorem sq_any_sorted : (Str.ofString "any" = Str.ofString "sorted") = False := eq_false (by decide +kernel)
theorem sq_any_range : (Str.ofString "any" = Str.ofString "range") = False := eq_false (by decide +kernel)
theorem sq_any_enumerate : (Str.ofString "any" = Str.ofString "enumerate") = False := eq_false (by decide +kernel)
theorem sq_any_zip : (Str.ofString "any" = Str.ofString "zip") = False := eq_false (by decide +kernel)
theorem sq_any_tuple : (Str.ofString "any" = Str.ofString "tuple") = False := eq_false (by decide +kernel)
theorem sq_any_isinstance : (Str.ofString "any" = Str.ofString "isinstance") = False := eq_false (by decide +kernel)
theorem sq_any_int : (Str.ofString "any" = Str.ofString "int") = False := eq_false (by decide +kernel)
theorem sq_any_set : (Str.ofString "any" = Str.ofString "set") = False := eq_false (by decide +kernel)
theorem sq_any_dict : (Str.ofString "any" = Str.ofString "dict") = False := eq_false (by decide +kernel)
theorem sq_any_any : (Str.ofString "any" = Str.ofString "any") = True := eq_true (by decide +kernel)
theorem sq_any_all : (Str.ofString "any" = Str.ofString "all") = False := eq_false (by decide +kernel)
theorem sq_append_append : (Str.ofString "append" = Str.ofString "append") = True := eq_true (by decide +kernel)
theorem sq_append_find : (Str.ofString "append" = Str.ofString "find") = False := eq_false (by decide +kernel)
theorem sq_append_get : (Str.ofString "append" = Str.ofString "get") = False := eq_false (by decide +kernel)
theorem sq_append_join : (Str.ofString "append" = Str.ofString "join") = False := eq_false (by decide +kernel)
theorem sq_append_list : (Str.ofString "append" = Str.ofString "list") = False := eq_false (by decide +kernel)
theorem sq_append_pop : (Str.ofString "append" = Str.ofString "pop") = False := eq_false (by decide +kernel)
theorem sq_append_sorted : (Str.ofString "append" = Str.ofString "sorted") = False := eq_false (by decide +kernel)
theorem sq_append_split : (Str.ofString "append" = Str.ofString "split") = False := eq_false (by decide +kernel)
theorem sq_cell_kind_list : (Str.ofString "cell_kind" = Str.ofString "list") = False := eq_false (by decide +kernel)
theorem sq_cell_kind_sorted : (Str.ofString "cell_kind" = Str.ofString "sorted") = False := eq_false (by decide +kernel)
theorem sq_cell_kind_range : (Str.ofString "cell_kind" = Str.ofString "range") = False := eq_false (by decide +kernel)
theorem sq_cell_kind_enumerate : (Str.ofString "cell_kind" = Str.ofString "enumerate") = False := eq_false (by decide +kernel)
theorem sq_cell_kind_zip : (Str.ofString "cell_kind" = Str.ofString "zip") = False := eq_false (by decide +kernel)
theorem sq_cell_kind_tuple : (Str.ofString "cell_kind" = Str.ofString "tuple") = False := eq_false (by decide +kernel)
theorem sq_cell_kind_isinstance : (Str.ofString "cell_kind" = Str.ofString "isinstance") = False := eq_false (by decide +kernel)
theorem sq_cell_kind_int : (Str.ofString "cell_kind" = Str.ofString "int") = False := eq_false (by decide +kernel)
theorem sq_cell_kind_set : (Str.ofString "cell_kind" = Str.ofString "set") = False := eq_false (by decide +kernel)
theorem sq_cell_kind_dict : (Str.ofString "cell_kind" = Str.ofString "dict") = False := eq_false (by decide +kernel)
theorem sq_cell_kind_any : (Str.ofString "cell_kind" = Str.ofString "any") = False := eq_false (by decide +kernel)
theorem sq_cell_kind_all : (Str.ofString "cell_kind" = Str.ofString "all") = False := eq_false (by decide +kernel)
theorem sq_divmod_list : (Str.ofString "divmod" = Str.ofString "list") = False := eq_false (by decide +kernel)
theorem sq_divmod_sorted : (Str.ofString "divmod" = Str.ofString "sorted") = False := eq_false (by decide +kernel)
theorem sq_divmod_range : (Str.ofString "divmod" = Str.ofString "range") = False := eq_false (by decide +kernel)
theorem sq_divmod_enumerate : (Str.ofString "divmod" = Str.ofString "enumerate") = False := eq_false (by decide +kernel)
theorem sq_divmod_zip : (Str.ofString "divmod" = Str.ofString "zip") = False := eq_false (by decide +kernel)
theorem sq_divmod_tuple : (Str.ofString "divmod" = Str.ofString "tuple") = False := eq_false (by decide +kernel)
theorem sq_divmod_isinstance : (Str.ofString "divmod" = Str.ofString "isinstance") = False := eq_false (by decide +kernel)
theorem sq_divmod_int : (Str.ofString "divmod" = Str.ofString "int") = False := eq_false (by decide +kernel)
theorem sq_divmod_set : (Str.ofString "divmod" = Str.ofString "set") = False := eq_false (by decide +kernel)
theorem sq_divmod_dict : (Str.ofString "divmod" = Str.ofString "dict") = False := eq_false (by decide +kernel)
theorem sq_divmod_any : (Str.ofString "divmod" = Str.ofString "any") = False := eq_false (by decide +kernel)
theorem sq_divmod_all : (Str.ofString "divmod" = Str.ofString "all") = False := eq_false (by decide +kernel)
theorem sq_find_append : (Str.ofString "find" = Str.ofString "append") = False := eq_false (by decide +kernel)
theorem sq_find_find : (Str.ofString "find" = Str.ofString "find") = True := eq_true (by decide +kernel)
theorem sq_find_get : (Str.ofString "find" = Str.ofString "get") = False := eq_false (by decide +kernel)
theorem sq_find_join : (Str.ofString "find" = Str.ofString "join") = False := eq_false (by decide +kernel)
theorem sq_find_list : (Str.ofString "find" = Str.ofString "list") = False := eq_false (by decide +kernel)
theorem sq_find_pop : (Str.ofString "find" = Str.ofString "pop") = False := eq_false (by decide +kernel)
theorem sq_find_sorted : (Str.ofString "find" = Str.ofString "sorted") = False := eq_false (by decide +kernel)
theorem sq_find_split : (Str.ofString "find" = Str.ofString "split") = False := eq_false (by decide +kernel)
theorem sq_get_append : (Str.ofString "get" = Str.ofString "append") = False := eq_false (by decide +kernel)
theorem sq_get_find : (Str.ofString "get" = Str.ofString "find") = False := eq_false (by decide +kernel)
theorem sq_get_get : (Str.ofString "get" = Str.ofString "get") = True := eq_true (by decide +kernel)
theorem sq_get_join : (Str.ofString "get" = Str.ofString "join") = False := eq_false (by decide +kernel)
theorem sq_get_list : (Str.ofString "get" = Str.ofString "list") = False := eq_false (by decide +kernel)
theorem sq_get_pop : (Str.ofString "get" = Str.ofString "pop") = False := eq_false (by decide +kernel)
theorem sq_get_sorted : (Str.ofString "get" = Str.ofString "sorted") = False := eq_false (by decide +kernel)
theorem sq_get_split : (Str.ofString "get" = Str.ofString "split") = False := eq_false (by decide +kernel)
theorem sq_int_list : (Str.ofString "int" = Str.ofString "list") = False := eq_false (by decide +kernel)
theorem sq_int_sorted : (Str.ofString "int" = Str.ofString "sorted") = False := eq_false (by decide +kernel)
theorem sq_int_range : (Str.ofString "int" = Str.ofString "range") = False := eq_false (by decide +kernel)
theorem sq_int_enumerate : (Str.ofString "int" = Str.ofString "enumerate") = False := eq_false (by decide +kernel)
theorem sq_int_zip : (Str.ofString "int" = Str.ofString "zip") = False := eq_false (by decide +kernel)
theorem sq_int_tuple : (Str.ofString "int" = Str.ofString "tuple") = False := eq_false (by decide +kernel)
theorem sq_int_isinstance : (Str.ofString "int" = Str.ofString "isinstance") = False := eq_false (by decide +kernel)
theorem sq_int_int : (Str.ofString "int" = Str.ofString "int") = True := eq_true (by decide +kernel)
theorem sq_int_set : (Str.ofString "int" = Str.ofString "set") = False := eq_false (by decide +kernel)
theorem sq_int_dict : (Str.ofString "int" = Str.ofString "dict") = False := eq_false (by decide +kernel)
theorem sq_int_any : (Str.ofString "int" = Str.ofString "any") = False := eq_false (by decide +kernel)
theorem sq_int_all : (Str.ofString "int" = Str.ofString "all") = False := eq_false (by decide +kernel)
theorem sq_isinstance_list : (Str.ofString "isinstance" = Str.ofString "list") = False := eq_false (by decide +kernel)
theorem sq_isinstance_sorted : (Str.ofString "isinstance" = Str.ofString "sorted") = False := eq_false (by decide +kernel)
theorem sq_isinstance_range : (Str.ofString "isinstance" = Str.ofString "range") = False := eq_false (by decide +kernel)
theorem sq_isinstance_enumerate : (Str.ofString "isinstance" = Str.ofString "enumerate") = False := eq_false (by decide +kernel)
theorem sq_isinstance_zip : (Str.ofString "isinstance" = Str.ofString "zip") = False := eq_false (by decide +kernel)
theorem sq_isinstance_tuple : (Str.ofString "isinstance" = Str.ofString "tuple") = False := eq_false (by decide +kernel)
theorem sq_isinstance_isinstance : (Str.ofString "isinstance" = Str.ofString "isinstance") = True := eq_true (by decide +kernel)
theorem sq_isinstance_int : (Str.ofString "isinstance" = Str.ofString "int") = False := eq_false (by decide +kernel)
theorem sq_isinstance_set : (Str.ofString "isinstance" = Str.ofString "set") = False := eq_false (by decide +kernel)
theorem sq_isinstance_dict : (Str.ofString "isinstance" = Str.ofString "dict") = False := eq_false (by decide +kernel)
theorem sq_isinstance_any : (Str.ofString "isinstance" = Str.ofString "any") = False := eq_false (by decide +kernel)
theorem sq_isinstance_all : (Str.ofString "isinstance" = Str.ofString "all") = False := eq_false (by decide +kernel)
theorem sq_join_append : (Str.ofString "join" = Str.ofString "append") = False := eq_false (by decide +kernel)
theorem sq_join_find : (Str.ofString "join" = Str.ofString "find") = False := eq_false (by decide +kernel)
theorem sq_join_get : (Str.ofString "join" = Str.ofString "get") = False := eq_false (by decide +kernel)
theorem sq_join_join : (Str.ofString "join" = Str.ofString "join") = True := eq_true (by decide +kernel)
theorem sq_join_list : (Str.ofString "join" = Str.ofString "list") = False := eq_false (by decide +kernel)
theorem sq_join_pop : (Str.ofString "join" = Str.ofString "pop") = False := eq_false (by decide +kernel)
theorem sq_join_sorted : (Str.ofString "join" = Str.ofString "sorted") = False := eq_false (by decide +kernel)
theorem sq_join_split : (Str.ofString "join" = Str.ofString "split") = False := eq_false (by decide +kernel)
theorem sq_len_list : (Str.ofString "len" = Str.ofString "list") = False := eq_false (by decide +kernel)
theorem sq_len_sorted : (Str.ofString "len" = Str.ofString "sorted") = False := eq_false (by decide +kernel)
theorem sq_len_range : (Str.ofString "len" = Str.ofString "range") = False := eq_false (by decide +kernel)
theorem sq_len_enumerate : (Str.ofString "len" = Str.ofString "enumerate") = False := eq_false (by decide +kernel)
theorem sq_len_zip : (Str.ofString "len" = Str.ofString "zip") = False := eq_false (by decide +kernel)
theorem sq_len_tuple : (Str.ofString "len" = Str.ofString "tuple") = False := eq_false (by decide +kernel)
theorem sq_len_isinstance : (Str.ofString "len" = Str.ofString "isinstance") = False := eq_false (by decide +kernel)
theorem sq_len_int : (Str.ofString "len" = Str.ofString "int") = False := eq_false (by decide +kernel)
theorem sq_len_set : (Str.ofString "len" = Str.ofString "set") = False := eq_false (by decide +kernel)
theorem sq_len_dict : (Str.ofString "len" = Str.ofString "dict") = False := eq_false (by decide +kernel)
theorem sq_len_any : (Str.ofString "len" = Str.ofString "any") = False := eq_false (by decide +kernel)
theorem sq_len_all : (Str.ofString "len" = Str.ofString "all") = False := eq_false (by decide +kernel)
theorem sq_max_list : (Str.ofString "max" = Str.ofString "list") = False := eq_false (by decide +kernel)
theorem sq_max_sorted : (Str.ofString "max" = Str.ofString "sorted") = False := eq_false (by decide +kernel)
theorem sq_max_range : (Str.ofString "max" = Str.ofString "range") = False := eq_false (by decide +kernel)
theorem sq_max_enumerate : (Str.ofString "max" = Str.ofString "enumerate") = False := eq_false (by decide +kernel)
theorem sq_max_zip : (Str.ofString "max" = Str.ofString "zip") = False := eq_false (by decide +kernel)
theorem sq_max_tuple : (Str.ofString "max" = Str.ofString "tuple") = False := eq_false (by decide +kernel)
theorem sq_max_isinstance : (Str.ofString "max" = Str.ofString "isinstance") = False := eq_false (by decide +kernel)
theorem sq_max_int : (Str.ofString "max" = Str.ofString "int") = False := eq_false (by decide +kernel)
theorem sq_max_set : (Str.ofString "max" = Str.ofString "set") = False := eq_false (by decide +kernel)
theorem sq_max_dict : (Str.ofString "max" = Str.ofString "dict") = False := eq_false (by decide +kernel)
theorem sq_max_any : (Str.ofString "max" = Str.ofString "any") = False := eq_false (by decide +kernel)
theorem sq_max_all : (Str.ofString "max" = Str.ofString "all") = False := eq_false (by decide +kernel)
theorem sq_next_cell_list : (Str.ofString "next_cell" = Str.ofString "list") = False := eq_false (by decide +kernel)
theorem sq_next_cell_sorted : (Str.ofString "next_cell" = Str.ofString "sorted") = False := eq_false (by decide +kernel)
theorem sq_next_cell_range : (Str.ofString "next_cell" = Str.ofString "range") = False := eq_false (by decide +kernel)
theorem sq_next_cell_enumerate : (Str.ofString "next_cell" = Str.ofString "enumerate") = False := eq_false (by decide +kernel)
theorem sq_next_cell_zip : (Str.ofString "next_cell" = Str.ofString "zip") = False := eq_false (by decide +kernel)
theorem sq_next_cell_tuple : (Str.ofString "next_cell" = Str.ofString "tuple") = False := eq_false (by decide +kernel)
theorem sq_next_cell_isinstance : (Str.ofString "next_cell" = Str.ofString "isinstance") = False := eq_false (by decide +kernel)
theorem sq_next_cell_int : (Str.ofString "next_cell" = Str.ofString "int") = False := eq_false (by decide +kernel)
theorem sq_next_cell_set : (Str.ofString "next_cell" = Str.ofString "set") = False := eq_false (by decide +kernel)
theorem sq_next_cell_dict : (Str.ofString "next_cell" = Str.ofString "dict") = False := eq_false (by decide +kernel)
theorem sq_next_cell_any : (Str.ofString "next_cell" = Str.ofString "any") = False := eq_false (by decide +kernel)
theorem sq_next_cell_all : (Str.ofString "next_cell" = Str.ofString "all") = False := eq_false (by decide +kernel)
theorem sq_ord_list : (Str.ofString "ord" = Str.ofString "list") = False := eq_false (by decide +kernel)
theorem sq_ord_sorted : (Str.ofString "ord" = Str.ofString "sorted") = False := eq_false (by decide +kernel)
theorem sq_ord_range : (Str.ofString "ord" = Str.ofString "range") = False := eq_false (by decide +kernel)
theorem sq_ord_enumerate : (Str.ofString "ord" = Str.ofString "enumerate") = False := eq_false (by decide +kernel)
theorem sq_ord_zip : (Str.ofString "ord" = Str.ofString "zip") = False := eq_false (by decide +kernel)
theorem sq_ord_tuple : (Str.ofString "ord" = Str.ofString "tuple") = False := eq_false (by decide +kernel)
theorem sq_ord_isinstance : (Str.ofString "ord" = Str.ofString "isinstance") = False := eq_false (by decide +kernel)
theorem sq_ord_int : (Str.ofString "ord" = Str.ofString "int") = False := eq_false (by decide +kernel)
theorem sq_ord_set : (Str.ofString "ord" = Str.ofString "set") = False := eq_false (by decide +kernel)
theorem sq_ord_dict : (Str.ofString "ord" = Str.ofString "dict") = False := eq_false (by decide +kernel)
theorem sq_ord_any : (Str.ofString "ord" = Str.ofString "any") = False := eq_false (by decide +kernel)
theorem sq_ord_all : (Str.ofString "ord" = Str.ofString "all") = False := eq_false (by decide +kernel)
theorem sq_range_list : (Str.ofString "range" = Str.ofString "list") = False := eq_false (by decide +kernel)
theorem sq_range_sorted : (Str.ofString "range" = Str.ofString "sorted") = False := eq_false (by decide +kernel)
theorem sq_range_range : (Str.ofString "range" = Str.ofString "range") = True := eq_true (by decide +kernel)
theorem sq_range_enumerate : (Str.ofString "range" = Str.ofString "enumerate") = False := eq_false (by decide +kernel)
theorem sq_range_zip : (Str.ofString "range" = Str.ofString "zip") = False := eq_false (by decide +kernel)
theorem sq_range_tuple : (Str.ofString "range" = Str.ofString "tuple") = False := eq_false (by decide +kernel)
theorem sq_range_isinstance : (Str.ofString "range" = Str.ofString "isinstance") = False := eq_false (by decide +kernel)
theorem sq_range_int : (Str.ofString "range" = Str.ofString "int") = False := eq_false (by decide +kernel)
theorem sq_range_set : (Str.ofString "range" = Str.ofString "set") = False := eq_false (by decide +kernel)
theorem sq_range_dict : (Str.ofString "range" = Str.ofString "dict") = False := eq_false (by decide +kernel)
theorem sq_range_any : (Str.ofString "range" = Str.ofString "any") = False := eq_false (by decide +kernel)
theorem sq_range_all : (Str.ofString "range" = Str.ofString "all") = False := eq_false (by decide +kernel)
theorem sq_sign_at_list : (Str.ofString "sign_at" = Str.ofString "list") = False := eq_false (by decide +kernel)
theorem sq_sign_at_sorted : (Str.ofString "sign_at" = Str.ofString "sorted") = False := eq_false (by decide +kernel)
theorem sq_sign_at_range : (Str.ofString "sign_at" = Str.ofString "range") = False := eq_false (by decide +kernel)
theorem sq_sign_at_enumerate : (Str.ofString "sign_at" = Str.ofString "enumerate") = False := eq_false (by decide +kernel)
theorem sq_sign_at_zip : (Str.ofString "sign_at" = Str.ofString "zip") = False := eq_false (by decide +kernel)
theorem sq_sign_at_tuple : (Str.ofString "sign_at" = Str.ofString "tuple") = False := eq_false (by decide +kernel)
theorem sq_sign_at_isinstance : (Str.ofString "sign_at" = Str.ofString "isinstance") = False := eq_false (by decide +kernel)
theorem sq_sign_at_int : (Str.ofString "sign_at" = Str.ofString "int") = False := eq_false (by decide +kernel)
theorem sq_sign_at_set : (Str.ofString "sign_at" = Str.ofString "set") = False := eq_false (by decide +kernel)
theorem sq_sign_at_dict : (Str.ofString "sign_at" = Str.ofString "dict") = False := eq_false (by decide +kernel)
theorem sq_sign_at_any : (Str.ofString "sign_at" = Str.ofString "any") = False := eq_false (by decide +kernel)
theorem sq_sign_at_all : (Str.ofString "sign_at" = Str.ofString "all") = False := eq_false (by decide +kernel)
theorem sq_tuple_list : (Str.ofString "tuple" = Str.ofString "list") = False := eq_false (by decide +kernel)
theorem sq_tuple_sorted : (Str.ofString "tuple" = Str.ofString "sorted") = False := eq_false (by decide +kernel)
theorem sq_tuple_range : (Str.ofString "tuple" = Str.ofString "range") = False := eq_false (by decide +kernel)
theorem sq_tuple_enumerate : (Str.ofString "tuple" = Str.ofString "enumerate") = False := eq_false (by decide +kernel)
theorem sq_tuple_zip : (Str.ofString "tuple" = Str.ofString "zip") = False := eq_false (by decide +kernel)
theorem sq_tuple_tuple : (Str.ofString "tuple" = Str.ofString "tuple") = True := eq_true (by decide +kernel)
theorem sq_tuple_isinstance : (Str.ofString "tuple" = Str.ofString "isinstance") = False := eq_false (by decide +kernel)
theorem sq_tuple_int : (Str.ofString "tuple" = Str.ofString "int") = False := eq_false (by decide +kernel)
theorem sq_tuple_set : (Str.ofString "tuple" = Str.ofString "set") = False := eq_false (by decide +kernel)
theorem sq_tuple_dict : (Str.ofString "tuple" = Str.ofString "dict") = False := eq_false (by decide +kernel)
theorem sq_tuple_any : (Str.ofString "tuple" = Str.ofString "any") = False := eq_false (by decide +kernel)
theorem sq_tuple_all : (Str.ofString "tuple" = Str.ofString "all") = False := eq_false (by decide +kernel)
theorem sq_walked_list : (Str.ofString "walked" = Str.ofString "list") = False := eq_false (by decide +kernel)
theorem sq_walked_sorted : (Str.ofString "walked" = Str.ofString "sorted") = False := eq_false (by decide +kernel)
theorem sq_walked_range : (Str.ofString "walked" = Str.ofString "range") = False := eq_false (by decide +kernel)
theorem sq_walked_enumerate : (Str.ofString "walked" = Str.ofString "enumerate") = False := eq_false (by decide +kernel)
theorem sq_walked_zip : (Str.ofString "walked" = Str.ofString "zip") = False := eq_false (by decide +kernel)
theorem sq_walked_tuple : (Str.ofString "walked" = Str.ofString "tuple") = False := eq_false (by decide +kernel)
theorem sq_walked_isinstance : (Str.ofString "walked" = Str.ofString "isinstance") = False := eq_false (by decide +kernel)
theorem sq_walked_int : (Str.ofString "walked" = Str.ofString "int") = False := eq_false (by decide +kernel)
theorem sq_walked_set : (Str.ofString "walked" = Str.ofString "set") = False := eq_false (by decide +kernel)
theorem sq_walked_dict : (Str.ofString "walked" = Str.ofString "dict") = False := eq_false (by decide +kernel)
theorem sq_walked_any : (Str.ofString "walked" = Str.ofString "any") = False := eq_false (by decide +kernel)
theorem sq_walked_all : (Str.ofString "walked" = Str.ofString "all") = False := eq_false (by decide +kernel)
abbrev FR (df : Df) (n k : Nat) : Evs := frame (csAt pg n) ⟨df.drop, false⟩ k
theorem bd_door_of : defBody (df_door_of).st = [ (PySem.Stmt.Return (value := (some (PySem.Expr.BinOp (left := (PySem.Expr.Call (func := (PySem.Expr.Name "max" ⟨7, 11, 7, 14⟩)) (args := [ (PySem.Expr.Call (func := (PySem.Expr.Attribute (PySem.Expr.Name "GATES" ⟨7, 15, 7, 20⟩) "find" ⟨7, 15, 7, 25⟩)) (args := [(PySem.Expr.Name "sign" ⟨7, 26, 7, 30⟩)]) (keywords := []) (pos := ⟨7, 15, 7, 31⟩)), (PySem.Expr.Call (func := (PySem.Expr.Attribute (PySem.Expr.Name "LIDS" ⟨7, 33, 7, 37⟩) "find" ⟨7, 33, 7, 42⟩)) (args := [(PySem.Expr.Name "sign" ⟨7, 43, 7, 47⟩)]) (keywords := []) (pos := ⟨7, 33, 7, 48⟩))]) (keywords := []) (pos := ⟨7, 11, 7, 49⟩))) (op := PySem.Operator.Add) (right := (PySem.Expr.Constant (PySem.Const.int 1) 0 ⟨7, 52, 7, 53⟩)) (pos := ⟨7, 11, 7, 53⟩)))) (pos := ⟨7, 4, 7, 53⟩))] := rfl
theorem bd_sign_at : defBody (df_sign_at).st = [ (PySem.Stmt.Assign (targets := [ (PySem.Expr.Tuple (elts := [(PySem.Expr.Name "line" ⟨9, 4, 9, 8⟩), (PySem.Expr.Name "column" ⟨9, 10, 9, 16⟩)]) (k := 0) (pos := ⟨9, 4, 9, 16⟩))]) (value := (PySem.Expr.Call (func := (PySem.Expr.Name "divmod" ⟨9, 19, 9, 25⟩)) (args := [ (PySem.Expr.Name "cell" ⟨9, 26, 9, 30⟩), (PySem.Expr.Call (func := (PySem.Expr.Name "len" ⟨9, 32, 9, 35⟩)) (args := [ (PySem.Expr.Subscript (value := (PySem.Expr.Name "plan" ⟨9, 36, 9, 40⟩)) (slice := (PySem.Expr.Constant (PySem.Const.int 0) 0 ⟨9, 41, 9, 42⟩)) (pos := ⟨9, 36, 9, 43⟩))]) (keywords := []) (pos := ⟨9, 32, 9, 44⟩))]) (keywords := []) (pos := ⟨9, 19, 9, 45⟩))) (pos := ⟨9, 4, 9, 45⟩)), (PySem.Stmt.Return (value := (some (PySem.Expr.Subscript (value := (PySem.Expr.Subscript (value := (PySem.Expr.Name "plan" ⟨10, 11, 10, 15⟩)) (slice := (PySem.Expr.Name "line" ⟨10, 16, 10, 20⟩)) (pos := ⟨10, 11, 10, 21⟩))) (slice := (PySem.Expr.Name "column" ⟨10, 22, 10, 28⟩)) (pos := ⟨10, 11, 10, 29⟩)))) (pos := ⟨10, 4, 10, 29⟩))] := rfl
theorem bd_cell_kind : defBody (df_cell_kind).st = [ (PySem.Stmt.Assign (targets := [(PySem.Expr.Name "sign" ⟨12, 4, 12, 8⟩)]) (value := (PySem.Expr.Call (func := (PySem.Expr.Name "sign_at" ⟨12, 11, 12, 18⟩)) (args := [(PySem.Expr.Name "plan" ⟨12, 19, 12, 23⟩), (PySem.Expr.Name "cell" ⟨12, 25, 12, 29⟩)]) (keywords := []) (pos := ⟨12, 11, 12, 30⟩))) (pos := ⟨12, 4, 12, 30⟩)), (PySem.Stmt.Assign (targets := [(PySem.Expr.Name "door" ⟨13, 4, 13, 8⟩)]) (value := (PySem.Expr.Call (func := (PySem.Expr.Name "_door_of" ⟨13, 11, 13, 19⟩)) (args := [(PySem.Expr.Name "sign" ⟨13, 20, 13, 24⟩)]) (keywords := []) (pos := ⟨13, 11, 13, 25⟩))) (pos := ⟨13, 4, 13, 25⟩)), (PySem.Stmt.If (test := (PySem.Expr.Compare (left := (PySem.Expr.Name "door" ⟨14, 7, 14, 11⟩)) (ops := [PySem.CmpOp.Eq]) (comparators := [(PySem.Expr.Constant (PySem.Const.int 0) 0 ⟨14, 15, 14, 16⟩)]) (pos := ⟨14, 7, 14, 16⟩))) (body := [ (PySem.Stmt.Return (value := (some (PySem.Expr.Call (func := (PySem.Expr.Attribute (PySem.Expr.Name "FIXED_KINDS" ⟨15, 15, 15, 26⟩) "get" ⟨15, 15, 15, 30⟩)) (args := [(PySem.Expr.Name "sign" ⟨15, 31, 15, 35⟩), (PySem.Expr.Constant (PySem.Const.str "free") 0 ⟨15, 37, 15, 43⟩)]) (keywords := []) (pos := ⟨15, 15, 15, 44⟩)))) (pos := ⟨15, 8, 15, 44⟩))]) (orelse := []) (pos := ⟨14, 4, 15, 44⟩)), (PySem.Stmt.If (test := (PySem.Expr.Compare (left := (PySem.Expr.Subscript (value := (PySem.Expr.Name "setting" ⟨16, 7, 16, 14⟩)) (slice := (PySem.Expr.BinOp (left := (PySem.Expr.Name "door" ⟨16, 15, 16, 19⟩)) (op := PySem.Operator.Sub) (right := (PySem.Expr.Constant (PySem.Const.int 1) 0 ⟨16, 22, 16, 23⟩)) (pos := ⟨16, 15, 16, 23⟩))) (pos := ⟨16, 7, 16, 24⟩))) (ops := [PySem.CmpOp.Eq]) (comparators := [(PySem.Expr.Constant (PySem.Const.int 1) 0 ⟨16, 28, 16, 29⟩)]) (pos := ⟨16, 7, 16, 29⟩))) (body := [ (PySem.Stmt.Return (value := (some (PySem.Expr.IfExp (test := (PySem.Expr.Compare (left := (PySem.Expr.Name "sign" ⟨17, 25, 17, 29⟩)) (ops := [PySem.CmpOp.In]) (comparators := [(PySem.Expr.Name "GATES" ⟨17, 33, 17, 38⟩)]) (pos := ⟨17, 25, 17, 38⟩))) (body := (PySem.Expr.Constant (PySem.Const.str "free") 0 ⟨17, 15, 17, 21⟩)) (orelse := (PySem.Expr.Constant (PySem.Const.str "hole") 0 ⟨17, 44, 17, 50⟩)) (pos := ⟨17, 15, 17, 50⟩)))) (pos := ⟨17, 8, 17, 50⟩))]) (orelse := []) (pos := ⟨16, 4, 17, 50⟩)), (PySem.Stmt.Return (value := (some (PySem.Expr.IfExp (test := (PySem.Expr.Compare (left := (PySem.Expr.Name "sign" ⟨18, 21, 18, 25⟩)) (ops := [PySem.CmpOp.In]) (comparators := [(PySem.Expr.Name "GATES" ⟨18, 29, 18, 34⟩)]) (pos := ⟨18, 21, 18, 34⟩))) (body := (PySem.Expr.Constant (PySem.Const.str "wall") 0 ⟨18, 11, 18, 17⟩)) (orelse := (PySem.Expr.Constant (PySem.Const.str "free") 0 ⟨18, 40, 18, 46⟩)) (pos := ⟨18, 11, 18, 46⟩)))) (pos := ⟨18, 4, 18, 46⟩))] := rfl
theorem bd_next_cell : defBody (df_next_cell).st = [ (PySem.Stmt.Assign (targets := [(PySem.Expr.Name "width" ⟨20, 4, 20, 9⟩)]) (value := (PySem.Expr.Call (func := (PySem.Expr.Name "len" ⟨20, 12, 20, 15⟩)) (args := [ (PySem.Expr.Subscript (value := (PySem.Expr.Name "plan" ⟨20, 16, 20, 20⟩)) (slice := (PySem.Expr.Constant (PySem.Const.int 0) 0 ⟨20, 21, 20, 22⟩)) (pos := ⟨20, 16, 20, 23⟩))]) (keywords := []) (pos := ⟨20, 12, 20, 24⟩))) (pos := ⟨20, 4, 20, 24⟩)), (PySem.Stmt.Assign (targets := [ (PySem.Expr.Tuple (elts := [(PySem.Expr.Name "down" ⟨21, 4, 21, 8⟩), (PySem.Expr.Name "right" ⟨21, 10, 21, 15⟩)]) (k := 0) (pos := ⟨21, 4, 21, 15⟩))]) (value := (PySem.Expr.Subscript (value := (PySem.Expr.Name "MOVES" ⟨21, 18, 21, 23⟩)) (slice := (PySem.Expr.Name "direction" ⟨21, 24, 21, 33⟩)) (pos := ⟨21, 18, 21, 34⟩))) (pos := ⟨21, 4, 21, 34⟩)), (PySem.Stmt.Assign (targets := [(PySem.Expr.Name "line" ⟨22, 4, 22, 8⟩)]) (value := (PySem.Expr.BinOp (left := (PySem.Expr.BinOp (left := (PySem.Expr.Name "cell" ⟨22, 11, 22, 15⟩)) (op := PySem.Operator.FloorDiv) (right := (PySem.Expr.Name "width" ⟨22, 19, 22, 24⟩)) (pos := ⟨22, 11, 22, 24⟩))) (op := PySem.Operator.Add) (right := (PySem.Expr.Name "down" ⟨22, 27, 22, 31⟩)) (pos := ⟨22, 11, 22, 31⟩))) (pos := ⟨22, 4, 22, 31⟩)), (PySem.Stmt.Assign (targets := [(PySem.Expr.Name "column" ⟨23, 4, 23, 10⟩)]) (value := (PySem.Expr.BinOp (left := (PySem.Expr.BinOp (left := (PySem.Expr.Name "cell" ⟨23, 13, 23, 17⟩)) (op := PySem.Operator.Mod) (right := (PySem.Expr.Name "width" ⟨23, 20, 23, 25⟩)) (pos := ⟨23, 13, 23, 25⟩))) (op := PySem.Operator.Add) (right := (PySem.Expr.Name "right" ⟨23, 28, 23, 33⟩)) (pos := ⟨23, 13, 23, 33⟩))) (pos := ⟨23, 4, 23, 33⟩)), (PySem.Stmt.If (test := (PySem.Expr.BoolOp (op := PySem.BoolOp.And) (values := [ (PySem.Expr.Compare (left := (PySem.Expr.Constant (PySem.Const.int 0) 0 ⟨24, 7, 24, 8⟩)) (ops := [PySem.CmpOp.LtE, PySem.CmpOp.Lt]) (comparators := [ (PySem.Expr.Name "line" ⟨24, 12, 24, 16⟩), (PySem.Expr.Call (func := (PySem.Expr.Name "len" ⟨24, 19, 24, 22⟩)) (args := [(PySem.Expr.Name "plan" ⟨24, 23, 24, 27⟩)]) (keywords := []) (pos := ⟨24, 19, 24, 28⟩))]) (pos := ⟨24, 7, 24, 28⟩)), (PySem.Expr.Compare (left := (PySem.Expr.Constant (PySem.Const.int 0) 0 ⟨24, 33, 24, 34⟩)) (ops := [PySem.CmpOp.LtE, PySem.CmpOp.Lt]) (comparators := [(PySem.Expr.Name "column" ⟨24, 38, 24, 44⟩), (PySem.Expr.Name "width" ⟨24, 47, 24, 52⟩)]) (pos := ⟨24, 33, 24, 52⟩))]) (pos := ⟨24, 7, 24, 52⟩))) (body := [ (PySem.Stmt.Return (value := (some (PySem.Expr.BinOp (left := (PySem.Expr.BinOp (left := (PySem.Expr.Name "line" ⟨25, 15, 25, 19⟩)) (op := PySem.Operator.Mult) (right := (PySem.Expr.Name "width" ⟨25, 22, 25, 27⟩)) (pos := ⟨25, 15, 25, 27⟩))) (op := PySem.Operator.Add) (right := (PySem.Expr.Name "column" ⟨25, 30, 25, 36⟩)) (pos := ⟨25, 15, 25, 36⟩)))) (pos := ⟨25, 8, 25, 36⟩))]) (orelse := []) (pos := ⟨24, 4, 25, 36⟩)), (PySem.Stmt.Return (some (PySem.Expr.Constant PySem.Const.none 0 ⟨26, 11, 26, 15⟩)) ⟨26, 4, 26, 15⟩)] := rfl
theorem bd_walked : defBody (df_walked).st = [ (PySem.Stmt.Assign (targets := [(PySem.Expr.Name "way" ⟨29, 4, 29, 7⟩)]) (value := (PySem.Expr.Tuple [(PySem.Expr.Name "cell" ⟨29, 11, 29, 15⟩)] 0 ⟨29, 10, 29, 17⟩)) (pos := ⟨29, 4, 29, 17⟩)), (PySem.Stmt.For (target := (PySem.Expr.Name "turn" ⟨30, 8, 30, 12⟩)) (iter := (PySem.Expr.Name "trail" ⟨30, 16, 30, 21⟩)) (body := [ (PySem.Stmt.Assign (targets := [(PySem.Expr.Name "near" ⟨31, 8, 31, 12⟩)]) (value := (PySem.Expr.Call (func := (PySem.Expr.Name "next_cell" ⟨31, 15, 31, 24⟩)) (args := [ (PySem.Expr.Name "plan" ⟨31, 25, 31, 29⟩), (PySem.Expr.Subscript (value := (PySem.Expr.Name "way" ⟨31, 31, 31, 34⟩)) (slice := (PySem.Expr.UnaryOp (op := PySem.UnaryOp.USub) (operand := (PySem.Expr.Constant (PySem.Const.int 1) 0 ⟨31, 36, 31, 37⟩)) (pos := ⟨31, 35, 31, 37⟩))) (pos := ⟨31, 31, 31, 38⟩)), (PySem.Expr.BinOp (left := (PySem.Expr.BinOp (left := (PySem.Expr.Name "direction" ⟨31, 41, 31, 50⟩)) (op := PySem.Operator.Add) (right := (PySem.Expr.Name "turn" ⟨31, 53, 31, 57⟩)) (pos := ⟨31, 41, 31, 57⟩))) (op := PySem.Operator.Mod) (right := (PySem.Expr.Constant (PySem.Const.int 4) 0 ⟨31, 61, 31, 62⟩)) (pos := ⟨31, 40, 31, 62⟩))]) (keywords := []) (pos := ⟨31, 15, 31, 63⟩))) (pos := ⟨31, 8, 31, 63⟩)), (PySem.Stmt.Assign (targets := [(PySem.Expr.Name "kind" ⟨32, 8, 32, 12⟩)]) (value := (PySem.Expr.IfExp (test := (PySem.Expr.Compare (left := (PySem.Expr.Name "near" ⟨32, 25, 32, 29⟩)) (ops := [PySem.CmpOp.Is]) (comparators := [(PySem.Expr.Constant PySem.Const.none 0 ⟨32, 33, 32, 37⟩)]) (pos := ⟨32, 25, 32, 37⟩))) (body := (PySem.Expr.Constant (PySem.Const.str "wall") 0 ⟨32, 15, 32, 21⟩)) (orelse := (PySem.Expr.Call (func := (PySem.Expr.Name "cell_kind" ⟨32, 43, 32, 52⟩)) (args := [ (PySem.Expr.Name "plan" ⟨32, 53, 32, 57⟩), (PySem.Expr.Name "setting" ⟨32, 59, 32, 66⟩), (PySem.Expr.Name "near" ⟨32, 68, 32, 72⟩)]) (keywords := []) (pos := ⟨32, 43, 32, 73⟩))) (pos := ⟨32, 15, 32, 73⟩))) (pos := ⟨32, 8, 32, 73⟩)), (PySem.Stmt.If (test := (PySem.Expr.Compare (left := (PySem.Expr.Name "kind" ⟨33, 11, 33, 15⟩)) (ops := [PySem.CmpOp.Eq]) (comparators := [(PySem.Expr.Constant (PySem.Const.str "wall") 0 ⟨33, 19, 33, 25⟩)]) (pos := ⟨33, 11, 33, 25⟩))) (body := [ (PySem.Stmt.Return (value := (some (PySem.Expr.Tuple (elts := [ (PySem.Expr.Constant (PySem.Const.str "end") 0 ⟨34, 20, 34, 25⟩), (PySem.Expr.Name "way" ⟨34, 27, 34, 30⟩), (PySem.Expr.Constant (PySem.Const.int 1) 0 ⟨34, 32, 34, 33⟩)]) (k := 0) (pos := ⟨34, 19, 34, 34⟩)))) (pos := ⟨34, 12, 34, 34⟩))]) (orelse := []) (pos := ⟨33, 8, 34, 34⟩)), (PySem.Stmt.Assign (targets := [(PySem.Expr.Name "way" ⟨35, 8, 35, 11⟩)]) (value := (PySem.Expr.BinOp (left := (PySem.Expr.Name "way" ⟨35, 14, 35, 17⟩)) (op := PySem.Operator.Add) (right := (PySem.Expr.Tuple [(PySem.Expr.Name "near" ⟨35, 21, 35, 25⟩)] 0 ⟨35, 20, 35, 27⟩)) (pos := ⟨35, 14, 35, 27⟩))) (pos := ⟨35, 8, 35, 27⟩)), (PySem.Stmt.If (test := (PySem.Expr.Compare (left := (PySem.Expr.Name "kind" ⟨36, 11, 36, 15⟩)) (ops := [PySem.CmpOp.NotEq]) (comparators := [(PySem.Expr.Constant (PySem.Const.str "free") 0 ⟨36, 19, 36, 25⟩)]) (pos := ⟨36, 11, 36, 25⟩))) (body := [ (PySem.Stmt.Return (value := (some (PySem.Expr.Tuple (elts := [(PySem.Expr.Constant (PySem.Const.str "touch") 0 ⟨37, 20, 37, 27⟩), (PySem.Expr.Name "way" ⟨37, 29, 37, 32⟩)]) (k := 0) (pos := ⟨37, 19, 37, 33⟩)))) (pos := ⟨37, 12, 37, 33⟩))]) (orelse := []) (pos := ⟨36, 8, 37, 33⟩))]) (orelse := []) (pos := ⟨30, 4, 37, 33⟩)), (PySem.Stmt.Return (value := (some (PySem.Expr.Tuple (elts := [ (PySem.Expr.Constant (PySem.Const.str "end") 0 ⟨38, 12, 38, 17⟩), (PySem.Expr.Name "way" ⟨38, 19, 38, 22⟩), (PySem.Expr.Constant (PySem.Const.int 0) 0 ⟨38, 24, 38, 25⟩)]) (k := 0) (pos := ⟨38, 11, 38, 26⟩)))) (pos := ⟨38, 4, 38, 26⟩))] := rfl
theorem bd_law_begin : defBody (df_law_begin).st = [ (PySem.Stmt.Return (value := (some (PySem.Expr.List (elts := [ (PySem.Expr.ListComp (elt := (PySem.Expr.Call (func := (PySem.Expr.Name "int" ⟨41, 13, 41, 16⟩)) (args := [(PySem.Expr.Name "cell" ⟨41, 17, 41, 21⟩)]) (keywords := []) (pos := ⟨41, 13, 41, 22⟩))) (generators := [ { target := (PySem.Expr.Name "cell" ⟨41, 27, 41, 31⟩), iter := (PySem.Expr.Name "script" ⟨41, 35, 41, 41⟩), ifs := [], is_async := 0 : PySem.Comprehension }]) (scope := { kind := PySem.ScopeKind.function, names := [ (PySem.Str.ofString ".0", PySem.NameKind.local), (PySem.Str.ofString "cell", PySem.NameKind.local), (PySem.Str.ofString "int", PySem.NameKind.globalImplicit)], isGenerator := false, isCoroutine := false, more := [] : PySem.Scope }) (pos := ⟨41, 12, 41, 42⟩)), (PySem.Expr.Constant (PySem.Const.int 0) 0 ⟨41, 44, 41, 45⟩), (PySem.Expr.Constant (PySem.Const.int 0) 0 ⟨41, 47, 41, 48⟩), (PySem.Expr.Constant (PySem.Const.int 7) 0 ⟨41, 50, 41, 51⟩)]) (pos := ⟨41, 11, 41, 52⟩)))) (pos := ⟨41, 4, 41, 52⟩))] := rfl
theorem bd_law_draw : defBody (df_law_draw).st = [ (PySem.Stmt.If (test := (PySem.Expr.Compare (left := (PySem.Expr.Subscript (value := (PySem.Expr.Name "d" ⟨43, 7, 43, 8⟩)) (slice := (PySem.Expr.Constant (PySem.Const.int 2) 0 ⟨43, 9, 43, 10⟩)) (pos := ⟨43, 7, 43, 11⟩))) (ops := [PySem.CmpOp.Gt]) (comparators := [(PySem.Expr.Constant (PySem.Const.int 0) 0 ⟨43, 14, 43, 15⟩)]) (pos := ⟨43, 7, 43, 15⟩))) (body := [ (PySem.Stmt.Assign (targets := [(PySem.Expr.Name "found" ⟨44, 8, 44, 13⟩)]) (value := (PySem.Expr.Subscript (value := (PySem.Expr.Name "d" ⟨44, 16, 44, 17⟩)) (slice := (PySem.Expr.Constant (PySem.Const.int 2) 0 ⟨44, 18, 44, 19⟩)) (pos := ⟨44, 16, 44, 20⟩))) (pos := ⟨44, 8, 44, 20⟩)), (PySem.Stmt.Assign (targets := [ (PySem.Expr.Subscript (value := (PySem.Expr.Name "d" ⟨45, 8, 45, 9⟩)) (slice := (PySem.Expr.Constant (PySem.Const.int 2) 0 ⟨45, 10, 45, 11⟩)) (pos := ⟨45, 8, 45, 12⟩))]) (value := (PySem.Expr.BinOp (left := (PySem.Expr.Name "found" ⟨45, 15, 45, 20⟩)) (op := PySem.Operator.FloorDiv) (right := (PySem.Expr.Name "many" ⟨45, 24, 45, 28⟩)) (pos := ⟨45, 15, 45, 28⟩))) (pos := ⟨45, 8, 45, 28⟩)), (PySem.Stmt.Return (value := (some (PySem.Expr.BinOp (left := (PySem.Expr.Call (func := (PySem.Expr.Name "int" ⟨46, 15, 46, 18⟩)) (args := [(PySem.Expr.Name "found" ⟨46, 19, 46, 24⟩)]) (keywords := []) (pos := ⟨46, 15, 46, 25⟩))) (op := PySem.Operator.Mod) (right := (PySem.Expr.Name "many" ⟨46, 28, 46, 32⟩)) (pos := ⟨46, 15, 46, 32⟩)))) (pos := ⟨46, 8, 46, 32⟩))]) (orelse := []) (pos := ⟨43, 4, 46, 32⟩)), (PySem.Stmt.Assign (targets := [(PySem.Expr.Name "size" ⟨47, 4, 47, 8⟩)]) (value := (PySem.Expr.Constant (PySem.Const.int 0) 0 ⟨47, 11, 47, 12⟩)) (pos := ⟨47, 4, 47, 12⟩)), (PySem.Stmt.If (test := (PySem.Expr.Compare (left := (PySem.Expr.Subscript (value := (PySem.Expr.Name "d" ⟨48, 7, 48, 8⟩)) (slice := (PySem.Expr.Constant (PySem.Const.int 1) 0 ⟨48, 9, 48, 10⟩)) (pos := ⟨48, 7, 48, 11⟩))) (ops := [PySem.CmpOp.Lt]) (comparators := [ (PySem.Expr.Call (func := (PySem.Expr.Name "len" ⟨48, 14, 48, 17⟩)) (args := [ (PySem.Expr.Subscript (value := (PySem.Expr.Name "d" ⟨48, 18, 48, 19⟩)) (slice := (PySem.Expr.Constant (PySem.Const.int 0) 0 ⟨48, 20, 48, 21⟩)) (pos := ⟨48, 18, 48, 22⟩))]) (keywords := []) (pos := ⟨48, 14, 48, 23⟩))]) (pos := ⟨48, 7, 48, 23⟩))) (body := [ (PySem.Stmt.Assign (targets := [(PySem.Expr.Name "cell" ⟨49, 8, 49, 12⟩)]) (value := (PySem.Expr.Subscript (value := (PySem.Expr.Subscript (value := (PySem.Expr.Name "d" ⟨49, 15, 49, 16⟩)) (slice := (PySem.Expr.Constant (PySem.Const.int 0) 0 ⟨49, 17, 49, 18⟩)) (pos := ⟨49, 15, 49, 19⟩))) (slice := (PySem.Expr.Subscript (value := (PySem.Expr.Name "d" ⟨49, 20, 49, 21⟩)) (slice := (PySem.Expr.Constant (PySem.Const.int 1) 0 ⟨49, 22, 49, 23⟩)) (pos := ⟨49, 20, 49, 24⟩))) (pos := ⟨49, 15, 49, 25⟩))) (pos := ⟨49, 8, 49, 25⟩)), (PySem.Stmt.Assign (targets := [(PySem.Expr.Name "size" ⟨50, 8, 50, 12⟩)]) (value := (PySem.Expr.BinOp (left := (PySem.Expr.BinOp (left := (PySem.Expr.Constant (PySem.Const.int 2) 0 ⟨50, 15, 50, 16⟩)) (op := PySem.Operator.Mult) (right := (PySem.Expr.Call (func := (PySem.Expr.Name "abs" ⟨50, 19, 50, 22⟩)) (args := [(PySem.Expr.Name "cell" ⟨50, 23, 50, 27⟩)]) (keywords := []) (pos := ⟨50, 19, 50, 28⟩))) (pos := ⟨50, 15, 50, 28⟩))) (op := PySem.Operator.Add) (right := (PySem.Expr.Call (func := (PySem.Expr.Name "int" ⟨50, 31, 50, 34⟩)) (args := [ (PySem.Expr.Compare (left := (PySem.Expr.Name "cell" ⟨50, 35, 50, 39⟩)) (ops := [PySem.CmpOp.Lt]) (comparators := [(PySem.Expr.Constant (PySem.Const.int 0) 0 ⟨50, 42, 50, 43⟩)]) (pos := ⟨50, 35, 50, 43⟩))]) (keywords := []) (pos := ⟨50, 31, 50, 44⟩))) (pos := ⟨50, 15, 50, 44⟩))) (pos := ⟨50, 8, 50, 44⟩))]) (orelse := []) (pos := ⟨48, 4, 50, 44⟩)), (PySem.Stmt.AugAssign (target := (PySem.Expr.Subscript (value := (PySem.Expr.Name "d" ⟨51, 4, 51, 5⟩)) (slice := (PySem.Expr.Constant (PySem.Const.int 1) 0 ⟨51, 6, 51, 7⟩)) (pos := ⟨51, 4, 51, 8⟩))) (op := PySem.Operator.Add) (value := (PySem.Expr.Constant (PySem.Const.int 1) 0 ⟨51, 12, 51, 13⟩)) (pos := ⟨51, 4, 51, 13⟩)), (PySem.Stmt.If (test := (PySem.Expr.Compare (left := (PySem.Expr.Name "size" ⟨52, 7, 52, 11⟩)) (ops := [PySem.CmpOp.GtE]) (comparators := [ (PySem.Expr.BinOp (left := (PySem.Expr.Constant (PySem.Const.int 2) 0 ⟨52, 15, 52, 16⟩)) (op := PySem.Operator.Mult) (right := (PySem.Expr.BinOp (left := (PySem.Expr.Constant (PySem.Const.int 10) 0 ⟨52, 19, 52, 21⟩)) (op := PySem.Operator.Pow) (right := (PySem.Expr.Constant (PySem.Const.int 18) 0 ⟨52, 25, 52, 27⟩)) (pos := ⟨52, 19, 52, 27⟩))) (pos := ⟨52, 15, 52, 27⟩))]) (pos := ⟨52, 7, 52, 27⟩))) (body := [ (PySem.Stmt.Assign (targets := [(PySem.Expr.Name "found" ⟨53, 8, 53, 13⟩)]) (value := (PySem.Expr.BinOp (left := (PySem.Expr.Call (func := (PySem.Expr.Name "int" ⟨53, 16, 53, 19⟩)) (args := [ (PySem.Expr.BinOp (left := (PySem.Expr.Name "size" ⟨53, 20, 53, 24⟩)) (op := PySem.Operator.FloorDiv) (right := (PySem.Expr.Constant (PySem.Const.int 2) 0 ⟨53, 28, 53, 29⟩)) (pos := ⟨53, 20, 53, 29⟩))]) (keywords := []) (pos := ⟨53, 16, 53, 30⟩))) (op := PySem.Operator.Mod) (right := (PySem.Expr.BinOp (left := (PySem.Expr.Constant (PySem.Const.int 1) 0 ⟨53, 34, 53, 35⟩)) (op := PySem.Operator.LShift) (right := (PySem.Expr.Constant (PySem.Const.int 6000) 0 ⟨53, 39, 53, 43⟩)) (pos := ⟨53, 34, 53, 43⟩))) (pos := ⟨53, 16, 53, 44⟩))) (pos := ⟨53, 8, 53, 44⟩)), (PySem.Stmt.Assign (targets := [ (PySem.Expr.Subscript (value := (PySem.Expr.Name "d" ⟨54, 8, 54, 9⟩)) (slice := (PySem.Expr.Constant (PySem.Const.int 2) 0 ⟨54, 10, 54, 11⟩)) (pos := ⟨54, 8, 54, 12⟩))]) (value := (PySem.Expr.BinOp (left := (PySem.Expr.Name "found" ⟨54, 15, 54, 20⟩)) (op := PySem.Operator.FloorDiv) (right := (PySem.Expr.Name "many" ⟨54, 24, 54, 28⟩)) (pos := ⟨54, 15, 54, 28⟩))) (pos := ⟨54, 8, 54, 28⟩)), (PySem.Stmt.Return (value := (some (PySem.Expr.BinOp (left := (PySem.Expr.Call (func := (PySem.Expr.Name "int" ⟨55, 15, 55, 18⟩)) (args := [(PySem.Expr.Name "found" ⟨55, 19, 55, 24⟩)]) (keywords := []) (pos := ⟨55, 15, 55, 25⟩))) (op := PySem.Operator.Mod) (right := (PySem.Expr.Name "many" ⟨55, 28, 55, 32⟩)) (pos := ⟨55, 15, 55, 32⟩)))) (pos := ⟨55, 8, 55, 32⟩))]) (orelse := []) (pos := ⟨52, 4, 55, 32⟩)), (PySem.Stmt.Assign (targets := [ (PySem.Expr.Subscript (value := (PySem.Expr.Name "d" ⟨56, 4, 56, 5⟩)) (slice := (PySem.Expr.Constant (PySem.Const.int 3) 0 ⟨56, 6, 56, 7⟩)) (pos := ⟨56, 4, 56, 8⟩))]) (value := (PySem.Expr.BinOp (left := (PySem.Expr.Call (func := (PySem.Expr.Name "int" ⟨56, 11, 56, 14⟩)) (args := [ (PySem.Expr.BinOp (left := (PySem.Expr.BinOp (left := (PySem.Expr.BinOp (left := (PySem.Expr.BinOp (left := (PySem.Expr.Subscript (value := (PySem.Expr.Name "d" ⟨56, 15, 56, 16⟩)) (slice := (PySem.Expr.Constant (PySem.Const.int 3) 0 ⟨56, 17, 56, 18⟩)) (pos := ⟨56, 15, 56, 19⟩))) (op := PySem.Operator.Mult) (right := (PySem.Expr.Constant (PySem.Const.int 48271) 0 ⟨56, 22, 56, 27⟩)) (pos := ⟨56, 15, 56, 27⟩))) (op := PySem.Operator.Add) (right := (PySem.Expr.BinOp (left := (PySem.Expr.BinOp (left := (PySem.Expr.Call (func := (PySem.Expr.Name "int" ⟨56, 30, 56, 33⟩)) (args := [(PySem.Expr.Name "size" ⟨56, 34, 56, 38⟩)]) (keywords := []) (pos := ⟨56, 30, 56, 39⟩))) (op := PySem.Operator.Mod) (right := (PySem.Expr.Constant (PySem.Const.int 2147483629) 0 ⟨56, 42, 56, 52⟩)) (pos := ⟨56, 30, 56, 52⟩))) (op := PySem.Operator.Mult) (right := (PySem.Expr.Constant (PySem.Const.int 16807) 0 ⟨56, 55, 56, 60⟩)) (pos := ⟨56, 30, 56, 60⟩))) (pos := ⟨56, 15, 56, 60⟩))) (op := PySem.Operator.Add) (right := (PySem.Expr.BinOp (left := (PySem.Expr.Subscript (value := (PySem.Expr.Name "d" ⟨56, 63, 56, 64⟩)) (slice := (PySem.Expr.Constant (PySem.Const.int 1) 0 ⟨56, 65, 56, 66⟩)) (pos := ⟨56, 63, 56, 67⟩))) (op := PySem.Operator.Mult) (right := (PySem.Expr.Constant (PySem.Const.int 69621) 0 ⟨56, 70, 56, 75⟩)) (pos := ⟨56, 63, 56, 75⟩))) (pos := ⟨56, 15, 56, 75⟩))) (op := PySem.Operator.Add) (right := (PySem.Expr.Constant (PySem.Const.int 11) 0 ⟨56, 78, 56, 80⟩)) (pos := ⟨56, 15, 56, 80⟩))]) (keywords := []) (pos := ⟨56, 11, 56, 81⟩))) (op := PySem.Operator.Mod) (right := (PySem.Expr.Constant (PySem.Const.int 2147483647) 0 ⟨56, 84, 56, 94⟩)) (pos := ⟨56, 11, 56, 94⟩))) (pos := ⟨56, 4, 56, 94⟩)), (PySem.Stmt.Return (value := (some (PySem.Expr.BinOp (left := (PySem.Expr.Call (func := (PySem.Expr.Name "int" ⟨57, 11, 57, 14⟩)) (args := [ (PySem.Expr.BinOp (left := (PySem.Expr.Subscript (value := (PySem.Expr.Name "d" ⟨57, 15, 57, 16⟩)) (slice := (PySem.Expr.Constant (PySem.Const.int 3) 0 ⟨57, 17, 57, 18⟩)) (pos := ⟨57, 15, 57, 19⟩))) (op := PySem.Operator.FloorDiv) (right := (PySem.Expr.Constant (PySem.Const.int 16) 0 ⟨57, 23, 57, 25⟩)) (pos := ⟨57, 15, 57, 25⟩))]) (keywords := []) (pos := ⟨57, 11, 57, 26⟩))) (op := PySem.Operator.Mod) (right := (PySem.Expr.Name "many" ⟨57, 29, 57, 33⟩)) (pos := ⟨57, 11, 57, 33⟩)))) (pos := ⟨57, 4, 57, 33⟩))] := rfl
theorem bd_law_pick : defBody (df_law_pick).st = [ (PySem.Stmt.Return (value := (some (PySem.Expr.Subscript (value := (PySem.Expr.Name "row" ⟨59, 11, 59, 14⟩)) (slice := (PySem.Expr.Call (func := (PySem.Expr.Name "_law_draw" ⟨59, 15, 59, 24⟩)) (args := [ (PySem.Expr.Name "d" ⟨59, 25, 59, 26⟩), (PySem.Expr.Call (func := (PySem.Expr.Name "len" ⟨59, 28, 59, 31⟩)) (args := [(PySem.Expr.Name "row" ⟨59, 32, 59, 35⟩)]) (keywords := []) (pos := ⟨59, 28, 59, 36⟩))]) (keywords := []) (pos := ⟨59, 15, 59, 37⟩))) (pos := ⟨59, 11, 59, 38⟩)))) (pos := ⟨59, 4, 59, 38⟩))] := rfl
theorem bd_law_rare : defBody (df_law_rare).st = [ (PySem.Stmt.Return (value := (some (PySem.Expr.Compare (left := (PySem.Expr.Call (func := (PySem.Expr.Name "_law_draw" ⟨61, 11, 61, 20⟩)) (args := [(PySem.Expr.Name "d" ⟨61, 21, 61, 22⟩), (PySem.Expr.Name "many" ⟨61, 24, 61, 28⟩)]) (keywords := []) (pos := ⟨61, 11, 61, 29⟩))) (ops := [PySem.CmpOp.Eq]) (comparators := [ (PySem.Expr.BinOp (left := (PySem.Expr.Name "many" ⟨61, 33, 61, 37⟩)) (op := PySem.Operator.FloorDiv) (right := (PySem.Expr.Constant (PySem.Const.int 2) 0 ⟨61, 41, 61, 42⟩)) (pos := ⟨61, 33, 61, 42⟩))]) (pos := ⟨61, 11, 61, 42⟩)))) (pos := ⟨61, 4, 61, 42⟩))] := rfl
theorem bd_law_is_int : defBody (df_law_is_int).st = [ (PySem.Stmt.Return (value := (some (PySem.Expr.BoolOp (op := PySem.BoolOp.And) (values := [ (PySem.Expr.Call (func := (PySem.Expr.Name "isinstance" ⟨63, 11, 63, 21⟩)) (args := [(PySem.Expr.Name "thing" ⟨63, 22, 63, 27⟩), (PySem.Expr.Name "int" ⟨63, 29, 63, 32⟩)]) (keywords := []) (pos := ⟨63, 11, 63, 33⟩)), (PySem.Expr.UnaryOp (op := PySem.UnaryOp.Not) (operand := (PySem.Expr.Call (func := (PySem.Expr.Name "isinstance" ⟨63, 43, 63, 53⟩)) (args := [(PySem.Expr.Name "thing" ⟨63, 54, 63, 59⟩), (PySem.Expr.Name "bool" ⟨63, 61, 63, 65⟩)]) (keywords := []) (pos := ⟨63, 43, 63, 66⟩))) (pos := ⟨63, 39, 63, 66⟩))]) (pos := ⟨63, 11, 63, 67⟩)))) (pos := ⟨63, 4, 63, 67⟩))] := rfl
theorem bd_law_is_ints : defBody (df_law_is_ints).st = [ (PySem.Stmt.Return (value := (some (PySem.Expr.BoolOp (op := PySem.BoolOp.And) (values := [ (PySem.Expr.Call (func := (PySem.Expr.Name "isinstance" ⟨65, 11, 65, 21⟩)) (args := [(PySem.Expr.Name "row" ⟨65, 22, 65, 25⟩), (PySem.Expr.Name "tuple" ⟨65, 27, 65, 32⟩)]) (keywords := []) (pos := ⟨65, 11, 65, 33⟩)), (PySem.Expr.Call (func := (PySem.Expr.Name "all" ⟨65, 38, 65, 41⟩)) (args := [ (PySem.Expr.ListComp (elt := (PySem.Expr.Call (func := (PySem.Expr.Name "_law_is_int" ⟨65, 43, 65, 54⟩)) (args := [(PySem.Expr.Name "part" ⟨65, 55, 65, 59⟩)]) (keywords := []) (pos := ⟨65, 43, 65, 60⟩))) (generators := [ { target := (PySem.Expr.Name "part" ⟨65, 65, 65, 69⟩), iter := (PySem.Expr.Name "row" ⟨65, 73, 65, 76⟩), ifs := [], is_async := 0 : PySem.Comprehension }]) (scope := { kind := PySem.ScopeKind.function, names := [ (PySem.Str.ofString ".0", PySem.NameKind.local), (PySem.Str.ofString "part", PySem.NameKind.local), (PySem.Str.ofString "_law_is_int", PySem.NameKind.globalImplicit)], isGenerator := false, isCoroutine := false, more := [] : PySem.Scope }) (pos := ⟨65, 42, 65, 77⟩))]) (keywords := []) (pos := ⟨65, 38, 65, 78⟩))]) (pos := ⟨65, 11, 65, 78⟩)))) (pos := ⟨65, 4, 65, 78⟩))] := rfl
theorem bd_law_doors : defBody (df_law_doors).st = [ (PySem.Stmt.Assign (targets := [(PySem.Expr.Name "most" ⟨67, 4, 67, 8⟩)]) (value := (PySem.Expr.Constant (PySem.Const.int 0) 0 ⟨67, 11, 67, 12⟩)) (pos := ⟨67, 4, 67, 12⟩)), (PySem.Stmt.For (target := (PySem.Expr.Name "line" ⟨68, 8, 68, 12⟩)) (iter := (PySem.Expr.Name "plan" ⟨68, 16, 68, 20⟩)) (body := [ (PySem.Stmt.For (target := (PySem.Expr.Name "char" ⟨69, 12, 69, 16⟩)) (iter := (PySem.Expr.Name "line" ⟨69, 20, 69, 24⟩)) (body := [ (PySem.Stmt.If (test := (PySem.Expr.Compare (left := (PySem.Expr.Name "char" ⟨70, 15, 70, 19⟩)) (ops := [PySem.CmpOp.In]) (comparators := [(PySem.Expr.Constant (PySem.Const.str "123456") 0 ⟨70, 23, 70, 31⟩)]) (pos := ⟨70, 15, 70, 31⟩))) (body := [ (PySem.Stmt.Assign (targets := [(PySem.Expr.Name "most" ⟨71, 16, 71, 20⟩)]) (value := (PySem.Expr.Call (func := (PySem.Expr.Name "max" ⟨71, 23, 71, 26⟩)) (args := [ (PySem.Expr.Name "most" ⟨71, 27, 71, 31⟩), (PySem.Expr.Call (func := (PySem.Expr.Name "int" ⟨71, 33, 71, 36⟩)) (args := [(PySem.Expr.Name "char" ⟨71, 37, 71, 41⟩)]) (keywords := []) (pos := ⟨71, 33, 71, 42⟩))]) (keywords := []) (pos := ⟨71, 23, 71, 43⟩))) (pos := ⟨71, 16, 71, 43⟩))]) (orelse := []) (pos := ⟨70, 12, 71, 43⟩)), (PySem.Stmt.If (test := (PySem.Expr.Compare (left := (PySem.Expr.Name "char" ⟨72, 15, 72, 19⟩)) (ops := [PySem.CmpOp.In]) (comparators := [(PySem.Expr.Constant (PySem.Const.str "ABCDEF") 0 ⟨72, 23, 72, 31⟩)]) (pos := ⟨72, 15, 72, 31⟩))) (body := [ (PySem.Stmt.Assign (targets := [(PySem.Expr.Name "most" ⟨73, 16, 73, 20⟩)]) (value := (PySem.Expr.Call (func := (PySem.Expr.Name "max" ⟨73, 23, 73, 26⟩)) (args := [ (PySem.Expr.Name "most" ⟨73, 27, 73, 31⟩), (PySem.Expr.BinOp (left := (PySem.Expr.Call (func := (PySem.Expr.Name "ord" ⟨73, 33, 73, 36⟩)) (args := [(PySem.Expr.Name "char" ⟨73, 37, 73, 41⟩)]) (keywords := []) (pos := ⟨73, 33, 73, 42⟩))) (op := PySem.Operator.Sub) (right := (PySem.Expr.Constant (PySem.Const.int 64) 0 ⟨73, 45, 73, 47⟩)) (pos := ⟨73, 33, 73, 47⟩))]) (keywords := []) (pos := ⟨73, 23, 73, 48⟩))) (pos := ⟨73, 16, 73, 48⟩))]) (orelse := []) (pos := ⟨72, 12, 73, 48⟩))]) (orelse := []) (pos := ⟨69, 8, 73, 48⟩))]) (orelse := []) (pos := ⟨68, 4, 73, 48⟩)), (PySem.Stmt.Return (some (PySem.Expr.Name "most" ⟨74, 11, 74, 15⟩)) ⟨74, 4, 74, 15⟩)] := rfl
theorem bd_law_kind : defBody (df_law_kind).st = [ (PySem.Stmt.Assign (targets := [(PySem.Expr.Name "width" ⟨76, 4, 76, 9⟩)]) (value := (PySem.Expr.Call (func := (PySem.Expr.Name "len" ⟨76, 12, 76, 15⟩)) (args := [ (PySem.Expr.Subscript (value := (PySem.Expr.Name "plan" ⟨76, 16, 76, 20⟩)) (slice := (PySem.Expr.Constant (PySem.Const.int 0) 0 ⟨76, 21, 76, 22⟩)) (pos := ⟨76, 16, 76, 23⟩))]) (keywords := []) (pos := ⟨76, 12, 76, 24⟩))) (pos := ⟨76, 4, 76, 24⟩)), (PySem.Stmt.Assign (targets := [(PySem.Expr.Name "char" ⟨77, 4, 77, 8⟩)]) (value := (PySem.Expr.Subscript (value := (PySem.Expr.Subscript (value := (PySem.Expr.Name "plan" ⟨77, 11, 77, 15⟩)) (slice := (PySem.Expr.BinOp (left := (PySem.Expr.Name "cell" ⟨77, 16, 77, 20⟩)) (op := PySem.Operator.FloorDiv) (right := (PySem.Expr.Name "width" ⟨77, 24, 77, 29⟩)) (pos := ⟨77, 16, 77, 29⟩))) (pos := ⟨77, 11, 77, 30⟩))) (slice := (PySem.Expr.BinOp (left := (PySem.Expr.Call (func := (PySem.Expr.Name "int" ⟨77, 31, 77, 34⟩)) (args := [(PySem.Expr.Name "cell" ⟨77, 35, 77, 39⟩)]) (keywords := []) (pos := ⟨77, 31, 77, 40⟩))) (op := PySem.Operator.Mod) (right := (PySem.Expr.Name "width" ⟨77, 43, 77, 48⟩)) (pos := ⟨77, 31, 77, 48⟩))) (pos := ⟨77, 11, 77, 49⟩))) (pos := ⟨77, 4, 77, 49⟩)), (PySem.Stmt.If (test := (PySem.Expr.Compare (left := (PySem.Expr.Name "char" ⟨78, 7, 78, 11⟩)) (ops := [PySem.CmpOp.Eq]) (comparators := [(PySem.Expr.Constant (PySem.Const.str "#") 0 ⟨78, 15, 78, 18⟩)]) (pos := ⟨78, 7, 78, 18⟩))) (body := [(PySem.Stmt.Return (some (PySem.Expr.Constant (PySem.Const.str "wall") 0 ⟨79, 15, 79, 21⟩)) ⟨79, 8, 79, 21⟩)]) (orelse := []) (pos := ⟨78, 4, 79, 21⟩)), (PySem.Stmt.If (test := (PySem.Expr.Compare (left := (PySem.Expr.Name "char" ⟨80, 7, 80, 11⟩)) (ops := [PySem.CmpOp.Eq]) (comparators := [(PySem.Expr.Constant (PySem.Const.str "*") 0 ⟨80, 15, 80, 18⟩)]) (pos := ⟨80, 7, 80, 18⟩))) (body := [ (PySem.Stmt.Return (some (PySem.Expr.Constant (PySem.Const.str "glass") 0 ⟨81, 15, 81, 22⟩)) ⟨81, 8, 81, 22⟩)]) (orelse := []) (pos := ⟨80, 4, 81, 22⟩)), (PySem.Stmt.If (test := (PySem.Expr.Compare (left := (PySem.Expr.Name "char" ⟨82, 7, 82, 11⟩)) (ops := [PySem.CmpOp.Eq]) (comparators := [(PySem.Expr.Constant (PySem.Const.str "!") 0 ⟨82, 15, 82, 18⟩)]) (pos := ⟨82, 7, 82, 18⟩))) (body := [(PySem.Stmt.Return (some (PySem.Expr.Constant (PySem.Const.str "hole") 0 ⟨83, 15, 83, 21⟩)) ⟨83, 8, 83, 21⟩)]) (orelse := []) (pos := ⟨82, 4, 83, 21⟩)), (PySem.Stmt.If (test := (PySem.Expr.BoolOp (op := PySem.BoolOp.And) (values := [ (PySem.Expr.Compare (left := (PySem.Expr.Name "char" ⟨84, 7, 84, 11⟩)) (ops := [PySem.CmpOp.In]) (comparators := [(PySem.Expr.Constant (PySem.Const.str "123456") 0 ⟨84, 15, 84, 23⟩)]) (pos := ⟨84, 7, 84, 23⟩)), (PySem.Expr.Compare (left := (PySem.Expr.Subscript (value := (PySem.Expr.Name "setting" ⟨84, 28, 84, 35⟩)) (slice := (PySem.Expr.BinOp (left := (PySem.Expr.Call (func := (PySem.Expr.Name "int" ⟨84, 36, 84, 39⟩)) (args := [(PySem.Expr.Name "char" ⟨84, 40, 84, 44⟩)]) (keywords := []) (pos := ⟨84, 36, 84, 45⟩))) (op := PySem.Operator.Sub) (right := (PySem.Expr.Constant (PySem.Const.int 1) 0 ⟨84, 48, 84, 49⟩)) (pos := ⟨84, 36, 84, 49⟩))) (pos := ⟨84, 28, 84, 50⟩))) (ops := [PySem.CmpOp.Eq]) (comparators := [(PySem.Expr.Constant (PySem.Const.int 0) 0 ⟨84, 54, 84, 55⟩)]) (pos := ⟨84, 28, 84, 55⟩))]) (pos := ⟨84, 7, 84, 55⟩))) (body := [(PySem.Stmt.Return (some (PySem.Expr.Constant (PySem.Const.str "wall") 0 ⟨85, 15, 85, 21⟩)) ⟨85, 8, 85, 21⟩)]) (orelse := []) (pos := ⟨84, 4, 85, 21⟩)), (PySem.Stmt.If (test := (PySem.Expr.BoolOp (op := PySem.BoolOp.And) (values := [ (PySem.Expr.Compare (left := (PySem.Expr.Name "char" ⟨86, 7, 86, 11⟩)) (ops := [PySem.CmpOp.In]) (comparators := [(PySem.Expr.Constant (PySem.Const.str "ABCDEF") 0 ⟨86, 15, 86, 23⟩)]) (pos := ⟨86, 7, 86, 23⟩)), (PySem.Expr.Compare (left := (PySem.Expr.Subscript (value := (PySem.Expr.Name "setting" ⟨86, 28, 86, 35⟩)) (slice := (PySem.Expr.BinOp (left := (PySem.Expr.Call (func := (PySem.Expr.Name "ord" ⟨86, 36, 86, 39⟩)) (args := [(PySem.Expr.Name "char" ⟨86, 40, 86, 44⟩)]) (keywords := []) (pos := ⟨86, 36, 86, 45⟩))) (op := PySem.Operator.Sub) (right := (PySem.Expr.Constant (PySem.Const.int 65) 0 ⟨86, 48, 86, 50⟩)) (pos := ⟨86, 36, 86, 50⟩))) (pos := ⟨86, 28, 86, 51⟩))) (ops := [PySem.CmpOp.Eq]) (comparators := [(PySem.Expr.Constant (PySem.Const.int 1) 0 ⟨86, 55, 86, 56⟩)]) (pos := ⟨86, 28, 86, 56⟩))]) (pos := ⟨86, 7, 86, 56⟩))) (body := [(PySem.Stmt.Return (some (PySem.Expr.Constant (PySem.Const.str "hole") 0 ⟨87, 15, 87, 21⟩)) ⟨87, 8, 87, 21⟩)]) (orelse := []) (pos := ⟨86, 4, 87, 21⟩)), (PySem.Stmt.Return (some (PySem.Expr.Constant (PySem.Const.str "free") 0 ⟨88, 11, 88, 17⟩)) ⟨88, 4, 88, 17⟩)] := rfl
theorem bd_law_next : defBody (df_law_next).st = [ (PySem.Stmt.Assign (targets := [(PySem.Expr.Name "width" ⟨90, 4, 90, 9⟩)]) (value := (PySem.Expr.Call (func := (PySem.Expr.Name "len" ⟨90, 12, 90, 15⟩)) (args := [ (PySem.Expr.Subscript (value := (PySem.Expr.Name "plan" ⟨90, 16, 90, 20⟩)) (slice := (PySem.Expr.Constant (PySem.Const.int 0) 0 ⟨90, 21, 90, 22⟩)) (pos := ⟨90, 16, 90, 23⟩))]) (keywords := []) (pos := ⟨90, 12, 90, 24⟩))) (pos := ⟨90, 4, 90, 24⟩)), (PySem.Stmt.Assign (targets := [(PySem.Expr.Name "line" ⟨91, 4, 91, 8⟩)]) (value := (PySem.Expr.BinOp (left := (PySem.Expr.BinOp (left := (PySem.Expr.BinOp (left := (PySem.Expr.Name "cell" ⟨91, 11, 91, 15⟩)) (op := PySem.Operator.FloorDiv) (right := (PySem.Expr.Name "width" ⟨91, 19, 91, 24⟩)) (pos := ⟨91, 11, 91, 24⟩))) (op := PySem.Operator.Add) (right := (PySem.Expr.Compare (left := (PySem.Expr.Name "direction" ⟨91, 28, 91, 37⟩)) (ops := [PySem.CmpOp.Eq]) (comparators := [(PySem.Expr.Constant (PySem.Const.int 2) 0 ⟨91, 41, 91, 42⟩)]) (pos := ⟨91, 28, 91, 42⟩))) (pos := ⟨91, 11, 91, 43⟩))) (op := PySem.Operator.Sub) (right := (PySem.Expr.Compare (left := (PySem.Expr.Name "direction" ⟨91, 47, 91, 56⟩)) (ops := [PySem.CmpOp.Eq]) (comparators := [(PySem.Expr.Constant (PySem.Const.int 0) 0 ⟨91, 60, 91, 61⟩)]) (pos := ⟨91, 47, 91, 61⟩))) (pos := ⟨91, 11, 91, 62⟩))) (pos := ⟨91, 4, 91, 62⟩)), (PySem.Stmt.Assign (targets := [(PySem.Expr.Name "column" ⟨92, 4, 92, 10⟩)]) (value := (PySem.Expr.BinOp (left := (PySem.Expr.BinOp (left := (PySem.Expr.BinOp (left := (PySem.Expr.Call (func := (PySem.Expr.Name "int" ⟨92, 13, 92, 16⟩)) (args := [(PySem.Expr.Name "cell" ⟨92, 17, 92, 21⟩)]) (keywords := []) (pos := ⟨92, 13, 92, 22⟩))) (op := PySem.Operator.Mod) (right := (PySem.Expr.Name "width" ⟨92, 25, 92, 30⟩)) (pos := ⟨92, 13, 92, 30⟩))) (op := PySem.Operator.Add) (right := (PySem.Expr.Compare (left := (PySem.Expr.Name "direction" ⟨92, 34, 92, 43⟩)) (ops := [PySem.CmpOp.Eq]) (comparators := [(PySem.Expr.Constant (PySem.Const.int 1) 0 ⟨92, 47, 92, 48⟩)]) (pos := ⟨92, 34, 92, 48⟩))) (pos := ⟨92, 13, 92, 49⟩))) (op := PySem.Operator.Sub) (right := (PySem.Expr.Compare (left := (PySem.Expr.Name "direction" ⟨92, 53, 92, 62⟩)) (ops := [PySem.CmpOp.Eq]) (comparators := [(PySem.Expr.Constant (PySem.Const.int 3) 0 ⟨92, 66, 92, 67⟩)]) (pos := ⟨92, 53, 92, 67⟩))) (pos := ⟨92, 13, 92, 68⟩))) (pos := ⟨92, 4, 92, 68⟩)), (PySem.Stmt.If (test := (PySem.Expr.BoolOp (op := PySem.BoolOp.And) (values := [ (PySem.Expr.Compare (left := (PySem.Expr.Constant (PySem.Const.int 0) 0 ⟨93, 7, 93, 8⟩)) (ops := [PySem.CmpOp.LtE, PySem.CmpOp.Lt]) (comparators := [ (PySem.Expr.Name "line" ⟨93, 12, 93, 16⟩), (PySem.Expr.Call (func := (PySem.Expr.Name "len" ⟨93, 19, 93, 22⟩)) (args := [(PySem.Expr.Name "plan" ⟨93, 23, 93, 27⟩)]) (keywords := []) (pos := ⟨93, 19, 93, 28⟩))]) (pos := ⟨93, 7, 93, 28⟩)), (PySem.Expr.Compare (left := (PySem.Expr.Constant (PySem.Const.int 0) 0 ⟨93, 33, 93, 34⟩)) (ops := [PySem.CmpOp.LtE, PySem.CmpOp.Lt]) (comparators := [(PySem.Expr.Name "column" ⟨93, 38, 93, 44⟩), (PySem.Expr.Name "width" ⟨93, 47, 93, 52⟩)]) (pos := ⟨93, 33, 93, 52⟩))]) (pos := ⟨93, 7, 93, 52⟩))) (body := [ (PySem.Stmt.Return (value := (some (PySem.Expr.BinOp (left := (PySem.Expr.BinOp (left := (PySem.Expr.Name "line" ⟨94, 15, 94, 19⟩)) (op := PySem.Operator.Mult) (right := (PySem.Expr.Name "width" ⟨94, 22, 94, 27⟩)) (pos := ⟨94, 15, 94, 27⟩))) (op := PySem.Operator.Add) (right := (PySem.Expr.Name "column" ⟨94, 30, 94, 36⟩)) (pos := ⟨94, 15, 94, 36⟩)))) (pos := ⟨94, 8, 94, 36⟩))]) (orelse := []) (pos := ⟨93, 4, 94, 36⟩)), (PySem.Stmt.Return (some (PySem.Expr.Constant PySem.Const.none 0 ⟨95, 11, 95, 15⟩)) ⟨95, 4, 95, 15⟩)] := rfl
theorem bd_law_product : defBody (df_law_product).st = [ (PySem.Stmt.Assign (targets := [(PySem.Expr.Name "found" ⟨97, 4, 97, 9⟩)]) (value := (PySem.Expr.List [(PySem.Expr.Tuple [] 0 ⟨97, 13, 97, 15⟩)] ⟨97, 12, 97, 16⟩)) (pos := ⟨97, 4, 97, 16⟩)), (PySem.Stmt.For (target := (PySem.Expr.Name "row" ⟨98, 8, 98, 11⟩)) (iter := (PySem.Expr.Name "rows" ⟨98, 15, 98, 19⟩)) (body := [ (PySem.Stmt.Assign (targets := [(PySem.Expr.Name "new" ⟨99, 8, 99, 11⟩)]) (value := (PySem.Expr.List [] ⟨99, 14, 99, 16⟩)) (pos := ⟨99, 8, 99, 16⟩)), (PySem.Stmt.For (target := (PySem.Expr.Name "one" ⟨100, 12, 100, 15⟩)) (iter := (PySem.Expr.Name "found" ⟨100, 19, 100, 24⟩)) (body := [ (PySem.Stmt.Assign (targets := [(PySem.Expr.Name "new" ⟨101, 12, 101, 15⟩)]) (value := (PySem.Expr.BinOp (left := (PySem.Expr.Name "new" ⟨101, 18, 101, 21⟩)) (op := PySem.Operator.Add) (right := (PySem.Expr.ListComp (elt := (PySem.Expr.BinOp (left := (PySem.Expr.Name "one" ⟨101, 25, 101, 28⟩)) (op := PySem.Operator.Add) (right := (PySem.Expr.Tuple [(PySem.Expr.Name "thing" ⟨101, 32, 101, 37⟩)] 0 ⟨101, 31, 101, 39⟩)) (pos := ⟨101, 25, 101, 39⟩))) (generators := [ { target := (PySem.Expr.Name "thing" ⟨101, 44, 101, 49⟩), iter := (PySem.Expr.Name "row" ⟨101, 53, 101, 56⟩), ifs := [], is_async := 0 : PySem.Comprehension }]) (scope := { kind := PySem.ScopeKind.function, names := [ (PySem.Str.ofString ".0", PySem.NameKind.local), (PySem.Str.ofString "thing", PySem.NameKind.local), (PySem.Str.ofString "one", PySem.NameKind.free)], isGenerator := false, isCoroutine := false, more := [] : PySem.Scope }) (pos := ⟨101, 24, 101, 57⟩))) (pos := ⟨101, 18, 101, 57⟩))) (pos := ⟨101, 12, 101, 57⟩))]) (orelse := []) (pos := ⟨100, 8, 101, 57⟩)), (PySem.Stmt.Assign (targets := [(PySem.Expr.Name "found" ⟨102, 8, 102, 13⟩)]) (value := (PySem.Expr.Name "new" ⟨102, 16, 102, 19⟩)) (pos := ⟨102, 8, 102, 19⟩))]) (orelse := []) (pos := ⟨98, 4, 102, 19⟩)), (PySem.Stmt.Return (some (PySem.Expr.Name "found" ⟨103, 11, 103, 16⟩)) ⟨103, 4, 103, 16⟩)] := rfl
theorem bd_law_walk : defBody (df_law_walk).st = [ (PySem.Stmt.Assign (targets := [(PySem.Expr.Name "way" ⟨105, 4, 105, 7⟩)]) (value := (PySem.Expr.Tuple [(PySem.Expr.Name "cell" ⟨105, 11, 105, 15⟩)] 0 ⟨105, 10, 105, 17⟩)) (pos := ⟨105, 4, 105, 17⟩)), (PySem.Stmt.For (target := (PySem.Expr.Name "turn" ⟨106, 8, 106, 12⟩)) (iter := (PySem.Expr.Name "trail" ⟨106, 16, 106, 21⟩)) (body := [ (PySem.Stmt.Assign (targets := [(PySem.Expr.Name "other" ⟨107, 8, 107, 13⟩)]) (value := (PySem.Expr.Call (func := (PySem.Expr.Name "_law_next" ⟨107, 16, 107, 25⟩)) (args := [ (PySem.Expr.Name "plan" ⟨107, 26, 107, 30⟩), (PySem.Expr.Subscript (value := (PySem.Expr.Name "way" ⟨107, 32, 107, 35⟩)) (slice := (PySem.Expr.UnaryOp (op := PySem.UnaryOp.USub) (operand := (PySem.Expr.Constant (PySem.Const.int 1) 0 ⟨107, 37, 107, 38⟩)) (pos := ⟨107, 36, 107, 38⟩))) (pos := ⟨107, 32, 107, 39⟩)), (PySem.Expr.BinOp (left := (PySem.Expr.Call (func := (PySem.Expr.Name "int" ⟨107, 41, 107, 44⟩)) (args := [ (PySem.Expr.BinOp (left := (PySem.Expr.Name "direction" ⟨107, 45, 107, 54⟩)) (op := PySem.Operator.Add) (right := (PySem.Expr.Name "turn" ⟨107, 57, 107, 61⟩)) (pos := ⟨107, 45, 107, 61⟩))]) (keywords := []) (pos := ⟨107, 41, 107, 62⟩))) (op := PySem.Operator.Mod) (right := (PySem.Expr.Constant (PySem.Const.int 4) 0 ⟨107, 65, 107, 66⟩)) (pos := ⟨107, 41, 107, 66⟩))]) (keywords := []) (pos := ⟨107, 16, 107, 67⟩))) (pos := ⟨107, 8, 107, 67⟩)), (PySem.Stmt.Assign (targets := [(PySem.Expr.Name "kind" ⟨108, 8, 108, 12⟩)]) (value := (PySem.Expr.Constant (PySem.Const.str "wall") 0 ⟨108, 15, 108, 21⟩)) (pos := ⟨108, 8, 108, 21⟩)), (PySem.Stmt.If (test := (PySem.Expr.Compare (left := (PySem.Expr.Name "other" ⟨109, 11, 109, 16⟩)) (ops := [PySem.CmpOp.IsNot]) (comparators := [(PySem.Expr.Constant PySem.Const.none 0 ⟨109, 24, 109, 28⟩)]) (pos := ⟨109, 11, 109, 28⟩))) (body := [ (PySem.Stmt.Assign (targets := [(PySem.Expr.Name "kind" ⟨110, 12, 110, 16⟩)]) (value := (PySem.Expr.Call (func := (PySem.Expr.Name "_law_kind" ⟨110, 19, 110, 28⟩)) (args := [ (PySem.Expr.Name "plan" ⟨110, 29, 110, 33⟩), (PySem.Expr.Name "setting" ⟨110, 35, 110, 42⟩), (PySem.Expr.Name "other" ⟨110, 44, 110, 49⟩)]) (keywords := []) (pos := ⟨110, 19, 110, 50⟩))) (pos := ⟨110, 12, 110, 50⟩))]) (orelse := []) (pos := ⟨109, 8, 110, 50⟩)), (PySem.Stmt.If (test := (PySem.Expr.Compare (left := (PySem.Expr.Name "kind" ⟨111, 11, 111, 15⟩)) (ops := [PySem.CmpOp.Eq]) (comparators := [(PySem.Expr.Constant (PySem.Const.str "wall") 0 ⟨111, 19, 111, 25⟩)]) (pos := ⟨111, 11, 111, 25⟩))) (body := [ (PySem.Stmt.Return (value := (some (PySem.Expr.Tuple (elts := [ (PySem.Expr.Constant (PySem.Const.bool false) 0 ⟨112, 20, 112, 25⟩), (PySem.Expr.Name "way" ⟨112, 27, 112, 30⟩), (PySem.Expr.Constant (PySem.Const.int 1) 0 ⟨112, 32, 112, 33⟩)]) (k := 0) (pos := ⟨112, 19, 112, 34⟩)))) (pos := ⟨112, 12, 112, 34⟩))]) (orelse := []) (pos := ⟨111, 8, 112, 34⟩)), (PySem.Stmt.Assign (targets := [(PySem.Expr.Name "way" ⟨113, 8, 113, 11⟩)]) (value := (PySem.Expr.BinOp (left := (PySem.Expr.Name "way" ⟨113, 14, 113, 17⟩)) (op := PySem.Operator.Add) (right := (PySem.Expr.Tuple [(PySem.Expr.Name "other" ⟨113, 21, 113, 26⟩)] 0 ⟨113, 20, 113, 28⟩)) (pos := ⟨113, 14, 113, 28⟩))) (pos := ⟨113, 8, 113, 28⟩)), (PySem.Stmt.If (test := (PySem.Expr.Compare (left := (PySem.Expr.Name "kind" ⟨114, 11, 114, 15⟩)) (ops := [PySem.CmpOp.NotEq]) (comparators := [(PySem.Expr.Constant (PySem.Const.str "free") 0 ⟨114, 19, 114, 25⟩)]) (pos := ⟨114, 11, 114, 25⟩))) (body := [ (PySem.Stmt.Return (value := (some (PySem.Expr.Tuple (elts := [ (PySem.Expr.Constant (PySem.Const.bool true) 0 ⟨115, 20, 115, 24⟩), (PySem.Expr.Name "way" ⟨115, 26, 115, 29⟩), (PySem.Expr.Constant (PySem.Const.int 0) 0 ⟨115, 31, 115, 32⟩)]) (k := 0) (pos := ⟨115, 19, 115, 33⟩)))) (pos := ⟨115, 12, 115, 33⟩))]) (orelse := []) (pos := ⟨114, 8, 115, 33⟩))]) (orelse := []) (pos := ⟨106, 4, 115, 33⟩)), (PySem.Stmt.Return (value := (some (PySem.Expr.Tuple (elts := [ (PySem.Expr.Constant (PySem.Const.bool false) 0 ⟨116, 12, 116, 17⟩), (PySem.Expr.Name "way" ⟨116, 19, 116, 22⟩), (PySem.Expr.Constant (PySem.Const.int 0) 0 ⟨116, 24, 116, 25⟩)]) (k := 0) (pos := ⟨116, 11, 116, 26⟩)))) (pos := ⟨116, 4, 116, 26⟩))] := rfl
theorem bd_law_free_cells : defBody (df_law_free_cells).st = [ (PySem.Stmt.Assign (targets := [(PySem.Expr.Name "found" ⟨118, 4, 118, 9⟩)]) (value := (PySem.Expr.List [] ⟨118, 12, 118, 14⟩)) (pos := ⟨118, 4, 118, 14⟩)), (PySem.Stmt.For (target := (PySem.Expr.Name "cell" ⟨119, 8, 119, 12⟩)) (iter := (PySem.Expr.Call (func := (PySem.Expr.Name "range" ⟨119, 16, 119, 21⟩)) (args := [ (PySem.Expr.BinOp (left := (PySem.Expr.Call (func := (PySem.Expr.Name "len" ⟨119, 22, 119, 25⟩)) (args := [(PySem.Expr.Name "plan" ⟨119, 26, 119, 30⟩)]) (keywords := []) (pos := ⟨119, 22, 119, 31⟩))) (op := PySem.Operator.Mult) (right := (PySem.Expr.Call (func := (PySem.Expr.Name "len" ⟨119, 34, 119, 37⟩)) (args := [ (PySem.Expr.Subscript (value := (PySem.Expr.Name "plan" ⟨119, 38, 119, 42⟩)) (slice := (PySem.Expr.Constant (PySem.Const.int 0) 0 ⟨119, 43, 119, 44⟩)) (pos := ⟨119, 38, 119, 45⟩))]) (keywords := []) (pos := ⟨119, 34, 119, 46⟩))) (pos := ⟨119, 22, 119, 46⟩))]) (keywords := []) (pos := ⟨119, 16, 119, 47⟩))) (body := [ (PySem.Stmt.If (test := (PySem.Expr.Call (func := (PySem.Expr.Name "any" ⟨120, 11, 120, 14⟩)) (args := [ (PySem.Expr.ListComp (elt := (PySem.Expr.Compare (left := (PySem.Expr.Call (func := (PySem.Expr.Name "_law_kind" ⟨120, 16, 120, 25⟩)) (args := [ (PySem.Expr.Name "plan" ⟨120, 26, 120, 30⟩), (PySem.Expr.Name "setting" ⟨120, 32, 120, 39⟩), (PySem.Expr.Name "cell" ⟨120, 41, 120, 45⟩)]) (keywords := []) (pos := ⟨120, 16, 120, 46⟩))) (ops := [PySem.CmpOp.Eq]) (comparators := [(PySem.Expr.Constant (PySem.Const.str "free") 0 ⟨120, 50, 120, 56⟩)]) (pos := ⟨120, 16, 120, 56⟩))) (generators := [ { target := (PySem.Expr.Name "setting" ⟨120, 61, 120, 68⟩), iter := (PySem.Expr.Name "settings" ⟨120, 72, 120, 80⟩), ifs := [], is_async := 0 : PySem.Comprehension }]) (scope := { kind := PySem.ScopeKind.function, names := [ (PySem.Str.ofString ".0", PySem.NameKind.local), (PySem.Str.ofString "setting", PySem.NameKind.local), (PySem.Str.ofString "_law_kind", PySem.NameKind.globalImplicit), (PySem.Str.ofString "cell", PySem.NameKind.free), (PySem.Str.ofString "plan", PySem.NameKind.free)], isGenerator := false, isCoroutine := false, more := [] : PySem.Scope }) (pos := ⟨120, 15, 120, 81⟩))]) (keywords := []) (pos := ⟨120, 11, 120, 82⟩))) (body := [ (PySem.Stmt.Expr (value := (PySem.Expr.Call (func := (PySem.Expr.Attribute (PySem.Expr.Name "found" ⟨121, 12, 121, 17⟩) "append" ⟨121, 12, 121, 24⟩)) (args := [(PySem.Expr.Name "cell" ⟨121, 25, 121, 29⟩)]) (keywords := []) (pos := ⟨121, 12, 121, 30⟩))) (pos := ⟨121, 12, 121, 30⟩))]) (orelse := []) (pos := ⟨120, 8, 121, 30⟩))]) (orelse := []) (pos := ⟨119, 4, 121, 30⟩)), (PySem.Stmt.Return (value := (some (PySem.Expr.Call (func := (PySem.Expr.Name "tuple" ⟨122, 11, 122, 16⟩)) (args := [(PySem.Expr.Name "found" ⟨122, 17, 122, 22⟩)]) (keywords := []) (pos := ⟨122, 11, 122, 23⟩)))) (pos := ⟨122, 4, 122, 23⟩))] := rfl
theorem bd_law_floor : defBody (df_law_floor).st = [ (PySem.Stmt.Assign (targets := [(PySem.Expr.Name "lines" ⟨124, 4, 124, 9⟩)]) (value := (PySem.Expr.BinOp (left := (PySem.Expr.Constant (PySem.Const.int 1) 0 ⟨124, 12, 124, 13⟩)) (op := PySem.Operator.Add) (right := (PySem.Expr.Call (func := (PySem.Expr.Name "_law_draw" ⟨124, 16, 124, 25⟩)) (args := [(PySem.Expr.Name "d" ⟨124, 26, 124, 27⟩), (PySem.Expr.Constant (PySem.Const.int 3) 0 ⟨124, 29, 124, 30⟩)]) (keywords := []) (pos := ⟨124, 16, 124, 31⟩))) (pos := ⟨124, 12, 124, 31⟩))) (pos := ⟨124, 4, 124, 31⟩)), (PySem.Stmt.Assign (targets := [(PySem.Expr.Name "width" ⟨125, 4, 125, 9⟩)]) (value := (PySem.Expr.BinOp (left := (PySem.Expr.Constant (PySem.Const.int 1) 0 ⟨125, 12, 125, 13⟩)) (op := PySem.Operator.Add) (right := (PySem.Expr.Call (func := (PySem.Expr.Name "_law_draw" ⟨125, 16, 125, 25⟩)) (args := [(PySem.Expr.Name "d" ⟨125, 26, 125, 27⟩), (PySem.Expr.Constant (PySem.Const.int 4) 0 ⟨125, 29, 125, 30⟩)]) (keywords := []) (pos := ⟨125, 16, 125, 31⟩))) (pos := ⟨125, 12, 125, 31⟩))) (pos := ⟨125, 4, 125, 31⟩)), (PySem.Stmt.If (test := (PySem.Expr.Call (func := (PySem.Expr.Name "_law_rare" ⟨126, 7, 126, 16⟩)) (args := [(PySem.Expr.Name "d" ⟨126, 17, 126, 18⟩), (PySem.Expr.Constant (PySem.Const.int 8) 0 ⟨126, 20, 126, 21⟩)]) (keywords := []) (pos := ⟨126, 7, 126, 22⟩))) (body := [ (PySem.Stmt.Assign (targets := [(PySem.Expr.Name "lines" ⟨127, 8, 127, 13⟩)]) (value := (PySem.Expr.BinOp (left := (PySem.Expr.Constant (PySem.Const.int 1) 0 ⟨127, 16, 127, 17⟩)) (op := PySem.Operator.Add) (right := (PySem.Expr.Call (func := (PySem.Expr.Name "_law_draw" ⟨127, 20, 127, 29⟩)) (args := [(PySem.Expr.Name "d" ⟨127, 30, 127, 31⟩), (PySem.Expr.Constant (PySem.Const.int 8) 0 ⟨127, 33, 127, 34⟩)]) (keywords := []) (pos := ⟨127, 20, 127, 35⟩))) (pos := ⟨127, 16, 127, 35⟩))) (pos := ⟨127, 8, 127, 35⟩)), (PySem.Stmt.Assign (targets := [(PySem.Expr.Name "width" ⟨128, 8, 128, 13⟩)]) (value := (PySem.Expr.BinOp (left := (PySem.Expr.Constant (PySem.Const.int 1) 0 ⟨128, 16, 128, 17⟩)) (op := PySem.Operator.Add) (right := (PySem.Expr.Call (func := (PySem.Expr.Name "_law_draw" ⟨128, 20, 128, 29⟩)) (args := [(PySem.Expr.Name "d" ⟨128, 30, 128, 31⟩), (PySem.Expr.Constant (PySem.Const.int 8) 0 ⟨128, 33, 128, 34⟩)]) (keywords := []) (pos := ⟨128, 20, 128, 35⟩))) (pos := ⟨128, 16, 128, 35⟩))) (pos := ⟨128, 8, 128, 35⟩))]) (orelse := []) (pos := ⟨126, 4, 128, 35⟩)), (PySem.Stmt.Assign (targets := [(PySem.Expr.Name "menu" ⟨129, 4, 129, 8⟩)]) (value := (PySem.Expr.Call (func := (PySem.Expr.Name "_law_pick" ⟨129, 11, 129, 20⟩)) (args := [ (PySem.Expr.Name "d" ⟨129, 21, 129, 22⟩), (PySem.Expr.List (elts := [ (PySem.Expr.Constant (PySem.Const.str "......,,+ab1A#*!") 0 ⟨129, 25, 129, 43⟩), (PySem.Expr.Constant (PySem.Const.str "....,+abcdefgh123456ABCDEF#*!") 0 ⟨129, 45, 129, 76⟩), (PySem.Expr.Constant (PySem.Const.str "..,,1122AABB##**!!") 0 ⟨129, 78, 129, 98⟩), (PySem.Expr.Constant (PySem.Const.str "...........,,,,6F#") 0 ⟨129, 100, 129, 120⟩)]) (pos := ⟨129, 24, 129, 121⟩))]) (keywords := []) (pos := ⟨129, 11, 129, 122⟩))) (pos := ⟨129, 4, 129, 122⟩)), (PySem.Stmt.Assign (targets := [(PySem.Expr.Name "plan" ⟨130, 4, 130, 8⟩)]) (value := (PySem.Expr.List [] ⟨130, 11, 130, 13⟩)) (pos := ⟨130, 4, 130, 13⟩)), (PySem.Stmt.For (target := (PySem.Expr.Name "line" ⟨131, 8, 131, 12⟩)) (iter := (PySem.Expr.Call (func := (PySem.Expr.Name "range" ⟨131, 16, 131, 21⟩)) (args := [(PySem.Expr.Name "lines" ⟨131, 22, 131, 27⟩)]) (keywords := []) (pos := ⟨131, 16, 131, 28⟩))) (body := [ (PySem.Stmt.Expr (value := (PySem.Expr.Call (func := (PySem.Expr.Attribute (PySem.Expr.Name "plan" ⟨132, 8, 132, 12⟩) "append" ⟨132, 8, 132, 19⟩)) (args := [ (PySem.Expr.Call (func := (PySem.Expr.Attribute (value := (PySem.Expr.Constant (PySem.Const.str "") 0 ⟨132, 20, 132, 22⟩)) (attr := "join") (pos := ⟨132, 20, 132, 27⟩))) (args := [ (PySem.Expr.ListComp (elt := (PySem.Expr.Call (func := (PySem.Expr.Name "_law_pick" ⟨132, 29, 132, 38⟩)) (args := [(PySem.Expr.Name "d" ⟨132, 39, 132, 40⟩), (PySem.Expr.Name "menu" ⟨132, 42, 132, 46⟩)]) (keywords := []) (pos := ⟨132, 29, 132, 47⟩))) (generators := [ { target := (PySem.Expr.Name "column" ⟨132, 52, 132, 58⟩), iter := (PySem.Expr.Call (func := (PySem.Expr.Name "range" ⟨132, 62, 132, 67⟩)) (args := [(PySem.Expr.Name "width" ⟨132, 68, 132, 73⟩)]) (keywords := []) (pos := ⟨132, 62, 132, 74⟩)), ifs := [], is_async := 0 : PySem.Comprehension }]) (scope := { kind := PySem.ScopeKind.function, names := [ (PySem.Str.ofString ".0", PySem.NameKind.local), (PySem.Str.ofString "column", PySem.NameKind.local), (PySem.Str.ofString "_law_pick", PySem.NameKind.globalImplicit), (PySem.Str.ofString "d", PySem.NameKind.free), (PySem.Str.ofString "menu", PySem.NameKind.free)], isGenerator := false, isCoroutine := false, more := [] : PySem.Scope }) (pos := ⟨132, 28, 132, 75⟩))]) (keywords := []) (pos := ⟨132, 20, 132, 76⟩))]) (keywords := []) (pos := ⟨132, 8, 132, 77⟩))) (pos := ⟨132, 8, 132, 77⟩))]) (orelse := []) (pos := ⟨131, 4, 132, 77⟩)), (PySem.Stmt.Return (value := (some (PySem.Expr.Call (func := (PySem.Expr.Name "tuple" ⟨133, 11, 133, 16⟩)) (args := [(PySem.Expr.Name "plan" ⟨133, 17, 133, 21⟩)]) (keywords := []) (pos := ⟨133, 11, 133, 22⟩)))) (pos := ⟨133, 4, 133, 22⟩))] := rfl
theorem bd_law_ground : defBody (df_law_ground).st = [ (PySem.Stmt.Assign (targets := [(PySem.Expr.Name "plan" ⟨135, 4, 135, 8⟩)]) (value := (PySem.Expr.Call (func := (PySem.Expr.Name "_law_floor" ⟨135, 11, 135, 21⟩)) (args := [(PySem.Expr.Name "d" ⟨135, 22, 135, 23⟩)]) (keywords := []) (pos := ⟨135, 11, 135, 24⟩))) (pos := ⟨135, 4, 135, 24⟩)), (PySem.Stmt.Assign (targets := [(PySem.Expr.Name "setting" ⟨136, 4, 136, 11⟩)]) (value := (PySem.Expr.Call (func := (PySem.Expr.Name "tuple" ⟨136, 14, 136, 19⟩)) (args := [ (PySem.Expr.ListComp (elt := (PySem.Expr.Call (func := (PySem.Expr.Name "_law_draw" ⟨136, 21, 136, 30⟩)) (args := [(PySem.Expr.Name "d" ⟨136, 31, 136, 32⟩), (PySem.Expr.Constant (PySem.Const.int 2) 0 ⟨136, 34, 136, 35⟩)]) (keywords := []) (pos := ⟨136, 21, 136, 36⟩))) (generators := [ { target := (PySem.Expr.Name "k" ⟨136, 41, 136, 42⟩), iter := (PySem.Expr.Call (func := (PySem.Expr.Name "range" ⟨136, 46, 136, 51⟩)) (args := [ (PySem.Expr.Call (func := (PySem.Expr.Name "_law_doors" ⟨136, 52, 136, 62⟩)) (args := [(PySem.Expr.Name "plan" ⟨136, 63, 136, 67⟩)]) (keywords := []) (pos := ⟨136, 52, 136, 68⟩))]) (keywords := []) (pos := ⟨136, 46, 136, 69⟩)), ifs := [], is_async := 0 : PySem.Comprehension }]) (scope := { kind := PySem.ScopeKind.function, names := [ (PySem.Str.ofString ".0", PySem.NameKind.local), (PySem.Str.ofString "k", PySem.NameKind.local), (PySem.Str.ofString "_law_draw", PySem.NameKind.globalImplicit), (PySem.Str.ofString "d", PySem.NameKind.free)], isGenerator := false, isCoroutine := false, more := [] : PySem.Scope }) (pos := ⟨136, 20, 136, 70⟩))]) (keywords := []) (pos := ⟨136, 14, 136, 71⟩))) (pos := ⟨136, 4, 136, 71⟩)), (PySem.Stmt.Assign (targets := [(PySem.Expr.Name "free" ⟨137, 4, 137, 8⟩)]) (value := (PySem.Expr.Call (func := (PySem.Expr.Name "_law_free_cells" ⟨137, 11, 137, 26⟩)) (args := [ (PySem.Expr.Name "plan" ⟨137, 27, 137, 31⟩), (PySem.Expr.Tuple [(PySem.Expr.Name "setting" ⟨137, 34, 137, 41⟩)] 0 ⟨137, 33, 137, 43⟩)]) (keywords := []) (pos := ⟨137, 11, 137, 44⟩))) (pos := ⟨137, 4, 137, 44⟩)), (PySem.Stmt.If (test := (PySem.Expr.Compare (left := (PySem.Expr.Call (func := (PySem.Expr.Name "len" ⟨138, 7, 138, 10⟩)) (args := [(PySem.Expr.Name "free" ⟨138, 11, 138, 15⟩)]) (keywords := []) (pos := ⟨138, 7, 138, 16⟩))) (ops := [PySem.CmpOp.Eq]) (comparators := [(PySem.Expr.Constant (PySem.Const.int 0) 0 ⟨138, 20, 138, 21⟩)]) (pos := ⟨138, 7, 138, 21⟩))) (body := [ (PySem.Stmt.Assign (targets := [(PySem.Expr.Name "plan" ⟨139, 8, 139, 12⟩)]) (value := (PySem.Expr.BinOp (left := (PySem.Expr.Tuple (elts := [ (PySem.Expr.BinOp (left := (PySem.Expr.Constant (PySem.Const.str ".") 0 ⟨139, 16, 139, 19⟩)) (op := PySem.Operator.Add) (right := (PySem.Expr.Subscript (value := (PySem.Expr.Subscript (value := (PySem.Expr.Name "plan" ⟨139, 22, 139, 26⟩)) (slice := (PySem.Expr.Constant (PySem.Const.int 0) 0 ⟨139, 27, 139, 28⟩)) (pos := ⟨139, 22, 139, 29⟩))) (slice := (PySem.Expr.Slice (lower := (some (PySem.Expr.Constant (PySem.Const.int 1) 0 ⟨139, 30, 139, 31⟩))) (upper := none) (step := none) (pos := ⟨139, 30, 139, 32⟩))) (pos := ⟨139, 22, 139, 33⟩))) (pos := ⟨139, 16, 139, 33⟩))]) (k := 0) (pos := ⟨139, 15, 139, 35⟩))) (op := PySem.Operator.Add) (right := (PySem.Expr.Subscript (value := (PySem.Expr.Name "plan" ⟨139, 38, 139, 42⟩)) (slice := (PySem.Expr.Slice (lower := (some (PySem.Expr.Constant (PySem.Const.int 1) 0 ⟨139, 43, 139, 44⟩))) (upper := none) (step := none) (pos := ⟨139, 43, 139, 45⟩))) (pos := ⟨139, 38, 139, 46⟩))) (pos := ⟨139, 15, 139, 46⟩))) (pos := ⟨139, 8, 139, 46⟩)), (PySem.Stmt.Assign (targets := [(PySem.Expr.Name "setting" ⟨140, 8, 140, 15⟩)]) (value := (PySem.Expr.Subscript (value := (PySem.Expr.Name "setting" ⟨140, 18, 140, 25⟩)) (slice := (PySem.Expr.Slice (lower := none) (upper := (some (PySem.Expr.Call (func := (PySem.Expr.Name "_law_doors" ⟨140, 27, 140, 37⟩)) (args := [(PySem.Expr.Name "plan" ⟨140, 38, 140, 42⟩)]) (keywords := []) (pos := ⟨140, 27, 140, 43⟩)))) (step := none) (pos := ⟨140, 26, 140, 43⟩))) (pos := ⟨140, 18, 140, 44⟩))) (pos := ⟨140, 8, 140, 44⟩)), (PySem.Stmt.Assign (targets := [(PySem.Expr.Name "free" ⟨141, 8, 141, 12⟩)]) (value := (PySem.Expr.Call (func := (PySem.Expr.Name "_law_free_cells" ⟨141, 15, 141, 30⟩)) (args := [ (PySem.Expr.Name "plan" ⟨141, 31, 141, 35⟩), (PySem.Expr.Tuple [(PySem.Expr.Name "setting" ⟨141, 38, 141, 45⟩)] 0 ⟨141, 37, 141, 47⟩)]) (keywords := []) (pos := ⟨141, 15, 141, 48⟩))) (pos := ⟨141, 8, 141, 48⟩))]) (orelse := []) (pos := ⟨138, 4, 141, 48⟩)), (PySem.Stmt.Return (value := (some (PySem.Expr.Tuple (elts := [ (PySem.Expr.Name "plan" ⟨142, 12, 142, 16⟩), (PySem.Expr.Name "setting" ⟨142, 18, 142, 25⟩), (PySem.Expr.Name "free" ⟨142, 27, 142, 31⟩)]) (k := 0) (pos := ⟨142, 11, 142, 32⟩)))) (pos := ⟨142, 4, 142, 32⟩))] := rfl
theorem bd_law_trail : defBody (df_law_trail).st = [ (PySem.Stmt.Return (value := (some (PySem.Expr.Call (func := (PySem.Expr.Name "tuple" ⟨144, 11, 144, 16⟩)) (args := [ (PySem.Expr.ListComp (elt := (PySem.Expr.Call (func := (PySem.Expr.Name "_law_draw" ⟨144, 18, 144, 27⟩)) (args := [(PySem.Expr.Name "d" ⟨144, 28, 144, 29⟩), (PySem.Expr.Constant (PySem.Const.int 4) 0 ⟨144, 31, 144, 32⟩)]) (keywords := []) (pos := ⟨144, 18, 144, 33⟩))) (generators := [ { target := (PySem.Expr.Name "k" ⟨144, 38, 144, 39⟩), iter := (PySem.Expr.Call (func := (PySem.Expr.Name "range" ⟨144, 43, 144, 48⟩)) (args := [ (PySem.Expr.Subscript (value := (PySem.Expr.List (elts := [ (PySem.Expr.Constant (PySem.Const.int 1) 0 ⟨144, 50, 144, 51⟩), (PySem.Expr.Constant (PySem.Const.int 2) 0 ⟨144, 53, 144, 54⟩), (PySem.Expr.Constant (PySem.Const.int 3) 0 ⟨144, 56, 144, 57⟩), (PySem.Expr.Constant (PySem.Const.int 3) 0 ⟨144, 59, 144, 60⟩), (PySem.Expr.Constant (PySem.Const.int 0) 0 ⟨144, 62, 144, 63⟩), (PySem.Expr.Constant (PySem.Const.int 1) 0 ⟨144, 65, 144, 66⟩), (PySem.Expr.Constant (PySem.Const.int 2) 0 ⟨144, 68, 144, 69⟩), (PySem.Expr.Constant (PySem.Const.int 3) 0 ⟨144, 71, 144, 72⟩)]) (pos := ⟨144, 49, 144, 73⟩))) (slice := (PySem.Expr.Call (func := (PySem.Expr.Name "_law_draw" ⟨144, 74, 144, 83⟩)) (args := [(PySem.Expr.Name "d" ⟨144, 84, 144, 85⟩), (PySem.Expr.Constant (PySem.Const.int 8) 0 ⟨144, 87, 144, 88⟩)]) (keywords := []) (pos := ⟨144, 74, 144, 89⟩))) (pos := ⟨144, 49, 144, 90⟩))]) (keywords := []) (pos := ⟨144, 43, 144, 91⟩)), ifs := [], is_async := 0 : PySem.Comprehension }]) (scope := { kind := PySem.ScopeKind.function, names := [ (PySem.Str.ofString ".0", PySem.NameKind.local), (PySem.Str.ofString "k", PySem.NameKind.local), (PySem.Str.ofString "_law_draw", PySem.NameKind.globalImplicit), (PySem.Str.ofString "d", PySem.NameKind.free)], isGenerator := false, isCoroutine := false, more := [] : PySem.Scope }) (pos := ⟨144, 17, 144, 92⟩))]) (keywords := []) (pos := ⟨144, 11, 144, 93⟩)))) (pos := ⟨144, 4, 144, 93⟩))] := rfl
theorem bd_law_asked_walks : defBody (df_law_asked_walks).st = [ (PySem.Stmt.Assign (targets := [(PySem.Expr.Name "found" ⟨146, 4, 146, 9⟩)]) (value := (PySem.Expr.List [] ⟨146, 12, 146, 14⟩)) (pos := ⟨146, 4, 146, 14⟩)), (PySem.Stmt.Assign (targets := [(PySem.Expr.Name "first" ⟨147, 4, 147, 9⟩)]) (value := (PySem.Expr.Call (func := (PySem.Expr.Name "_law_pick" ⟨147, 12, 147, 21⟩)) (args := [(PySem.Expr.Name "d" ⟨147, 22, 147, 23⟩), (PySem.Expr.Name "free" ⟨147, 25, 147, 29⟩)]) (keywords := []) (pos := ⟨147, 12, 147, 30⟩))) (pos := ⟨147, 4, 147, 30⟩)), (PySem.Stmt.If (test := (PySem.Expr.Compare (left := (PySem.Expr.Call (func := (PySem.Expr.Name "_law_draw" ⟨148, 7, 148, 16⟩)) (args := [(PySem.Expr.Name "d" ⟨148, 17, 148, 18⟩), (PySem.Expr.Constant (PySem.Const.int 4) 0 ⟨148, 20, 148, 21⟩)]) (keywords := []) (pos := ⟨148, 7, 148, 22⟩))) (ops := [PySem.CmpOp.Eq]) (comparators := [(PySem.Expr.Constant (PySem.Const.int 1) 0 ⟨148, 26, 148, 27⟩)]) (pos := ⟨148, 7, 148, 27⟩))) (body := [ (PySem.Stmt.Assign (targets := [(PySem.Expr.Name "direction" ⟨149, 8, 149, 17⟩)]) (value := (PySem.Expr.Call (func := (PySem.Expr.Name "_law_draw" ⟨149, 20, 149, 29⟩)) (args := [(PySem.Expr.Name "d" ⟨149, 30, 149, 31⟩), (PySem.Expr.Constant (PySem.Const.int 4) 0 ⟨149, 33, 149, 34⟩)]) (keywords := []) (pos := ⟨149, 20, 149, 35⟩))) (pos := ⟨149, 8, 149, 35⟩)), (PySem.Stmt.For (target := (PySem.Expr.Name "size" ⟨150, 12, 150, 16⟩)) (iter := (PySem.Expr.Call (func := (PySem.Expr.Name "range" ⟨150, 20, 150, 25⟩)) (args := [(PySem.Expr.Constant (PySem.Const.int 4) 0 ⟨150, 26, 150, 27⟩)]) (keywords := []) (pos := ⟨150, 20, 150, 28⟩))) (body := [ (PySem.Stmt.For (target := (PySem.Expr.Name "trail" ⟨151, 16, 151, 21⟩)) (iter := (PySem.Expr.Call (func := (PySem.Expr.Name "_law_product" ⟨151, 25, 151, 37⟩)) (args := [ (PySem.Expr.BinOp (left := (PySem.Expr.List (elts := [ (PySem.Expr.Tuple (elts := [ (PySem.Expr.Constant (PySem.Const.int 0) 0 ⟨151, 40, 151, 41⟩), (PySem.Expr.Constant (PySem.Const.int 1) 0 ⟨151, 43, 151, 44⟩), (PySem.Expr.Constant (PySem.Const.int 2) 0 ⟨151, 46, 151, 47⟩), (PySem.Expr.Constant (PySem.Const.int 3) 0 ⟨151, 49, 151, 50⟩)]) (k := 0) (pos := ⟨151, 39, 151, 51⟩))]) (pos := ⟨151, 38, 151, 52⟩))) (op := PySem.Operator.Mult) (right := (PySem.Expr.Name "size" ⟨151, 55, 151, 59⟩)) (pos := ⟨151, 38, 151, 59⟩))]) (keywords := []) (pos := ⟨151, 25, 151, 60⟩))) (body := [ (PySem.Stmt.Expr (value := (PySem.Expr.Call (func := (PySem.Expr.Attribute (PySem.Expr.Name "found" ⟨152, 16, 152, 21⟩) "append" ⟨152, 16, 152, 28⟩)) (args := [ (PySem.Expr.Tuple (elts := [ (PySem.Expr.Name "first" ⟨152, 30, 152, 35⟩), (PySem.Expr.Name "direction" ⟨152, 37, 152, 46⟩), (PySem.Expr.Name "trail" ⟨152, 48, 152, 53⟩)]) (k := 0) (pos := ⟨152, 29, 152, 54⟩))]) (keywords := []) (pos := ⟨152, 16, 152, 55⟩))) (pos := ⟨152, 16, 152, 55⟩))]) (orelse := []) (pos := ⟨151, 12, 152, 55⟩))]) (orelse := []) (pos := ⟨150, 8, 152, 55⟩))]) (orelse := [ (PySem.Stmt.For (target := (PySem.Expr.Name "k" ⟨154, 12, 154, 13⟩)) (iter := (PySem.Expr.Call (func := (PySem.Expr.Name "range" ⟨154, 17, 154, 22⟩)) (args := [(PySem.Expr.Constant (PySem.Const.int 12) 0 ⟨154, 23, 154, 25⟩)]) (keywords := []) (pos := ⟨154, 17, 154, 26⟩))) (body := [ (PySem.Stmt.Expr (value := (PySem.Expr.Call (func := (PySem.Expr.Attribute (PySem.Expr.Name "found" ⟨155, 12, 155, 17⟩) "append" ⟨155, 12, 155, 24⟩)) (args := [ (PySem.Expr.Tuple (elts := [ (PySem.Expr.Name "first" ⟨155, 26, 155, 31⟩), (PySem.Expr.Call (func := (PySem.Expr.Name "_law_draw" ⟨155, 33, 155, 42⟩)) (args := [(PySem.Expr.Name "d" ⟨155, 43, 155, 44⟩), (PySem.Expr.Constant (PySem.Const.int 4) 0 ⟨155, 46, 155, 47⟩)]) (keywords := []) (pos := ⟨155, 33, 155, 48⟩)), (PySem.Expr.Call (func := (PySem.Expr.Name "_law_trail" ⟨155, 50, 155, 60⟩)) (args := [(PySem.Expr.Name "d" ⟨155, 61, 155, 62⟩)]) (keywords := []) (pos := ⟨155, 50, 155, 63⟩))]) (k := 0) (pos := ⟨155, 25, 155, 64⟩))]) (keywords := []) (pos := ⟨155, 12, 155, 65⟩))) (pos := ⟨155, 12, 155, 65⟩))]) (orelse := []) (pos := ⟨154, 8, 155, 65⟩))]) (pos := ⟨148, 4, 155, 65⟩)), (PySem.Stmt.Assign (targets := [(PySem.Expr.Name "most" ⟨156, 4, 156, 8⟩)]) (value := (PySem.Expr.Call (func := (PySem.Expr.Name "_law_trail" ⟨156, 11, 156, 21⟩)) (args := [(PySem.Expr.Name "d" ⟨156, 22, 156, 23⟩)]) (keywords := []) (pos := ⟨156, 11, 156, 24⟩))) (pos := ⟨156, 4, 156, 24⟩)), (PySem.Stmt.For (target := (PySem.Expr.Name "cell" ⟨157, 8, 157, 12⟩)) (iter := (PySem.Expr.Name "free" ⟨157, 16, 157, 20⟩)) (body := [ (PySem.Stmt.For (target := (PySem.Expr.Name "direction" ⟨158, 12, 158, 21⟩)) (iter := (PySem.Expr.Call (func := (PySem.Expr.Name "range" ⟨158, 25, 158, 30⟩)) (args := [(PySem.Expr.Constant (PySem.Const.int 4) 0 ⟨158, 31, 158, 32⟩)]) (keywords := []) (pos := ⟨158, 25, 158, 33⟩))) (body := [ (PySem.Stmt.Expr (value := (PySem.Expr.Call (func := (PySem.Expr.Attribute (PySem.Expr.Name "found" ⟨159, 12, 159, 17⟩) "append" ⟨159, 12, 159, 24⟩)) (args := [ (PySem.Expr.Tuple (elts := [ (PySem.Expr.Name "cell" ⟨159, 26, 159, 30⟩), (PySem.Expr.Name "direction" ⟨159, 32, 159, 41⟩), (PySem.Expr.Name "most" ⟨159, 43, 159, 47⟩)]) (k := 0) (pos := ⟨159, 25, 159, 48⟩))]) (keywords := []) (pos := ⟨159, 12, 159, 49⟩))) (pos := ⟨159, 12, 159, 49⟩))]) (orelse := []) (pos := ⟨158, 8, 159, 49⟩))]) (orelse := []) (pos := ⟨157, 4, 159, 49⟩)), (PySem.Stmt.Return (some (PySem.Expr.Name "found" ⟨160, 11, 160, 16⟩)) ⟨160, 4, 160, 16⟩)] := rfl
theorem bd_law_due_walk : defBody (df_law_due_walk).st = [ (PySem.Stmt.Assign (targets := [ (PySem.Expr.Tuple (elts := [ (PySem.Expr.Name "touch" ⟨162, 4, 162, 9⟩), (PySem.Expr.Name "way" ⟨162, 11, 162, 14⟩), (PySem.Expr.Name "bumped" ⟨162, 16, 162, 22⟩)]) (k := 0) (pos := ⟨162, 4, 162, 22⟩))]) (value := (PySem.Expr.Call (func := (PySem.Expr.Name "_law_walk" ⟨162, 25, 162, 34⟩)) (args := [ (PySem.Expr.Name "plan" ⟨162, 35, 162, 39⟩), (PySem.Expr.Name "setting" ⟨162, 41, 162, 48⟩), (PySem.Expr.Name "cell" ⟨162, 50, 162, 54⟩), (PySem.Expr.Name "direction" ⟨162, 56, 162, 65⟩), (PySem.Expr.Name "trail" ⟨162, 67, 162, 72⟩)]) (keywords := []) (pos := ⟨162, 25, 162, 73⟩))) (pos := ⟨162, 4, 162, 73⟩)), (PySem.Stmt.If (test := (PySem.Expr.Name "touch" ⟨163, 7, 163, 12⟩)) (body := [ (PySem.Stmt.Return (value := (some (PySem.Expr.Tuple (elts := [ (PySem.Expr.Constant (PySem.Const.str "touch") 0 ⟨164, 16, 164, 23⟩), (PySem.Expr.Name "way" ⟨164, 25, 164, 28⟩)]) (k := 0) (pos := ⟨164, 15, 164, 29⟩)))) (pos := ⟨164, 8, 164, 29⟩))]) (orelse := []) (pos := ⟨163, 4, 164, 29⟩)), (PySem.Stmt.Return (value := (some (PySem.Expr.Tuple (elts := [ (PySem.Expr.Constant (PySem.Const.str "end") 0 ⟨165, 12, 165, 17⟩), (PySem.Expr.Name "way" ⟨165, 19, 165, 22⟩), (PySem.Expr.Name "bumped" ⟨165, 24, 165, 30⟩)]) (k := 0) (pos := ⟨165, 11, 165, 31⟩)))) (pos := ⟨165, 4, 165, 31⟩))] := rfl
theorem bd_law_right_walk : defBody (df_law_right_walk).st = [ (PySem.Stmt.If (test := (PySem.Expr.BoolOp (op := PySem.BoolOp.Or) (values := [ (PySem.Expr.UnaryOp (op := PySem.UnaryOp.Not) (operand := (PySem.Expr.Call (func := (PySem.Expr.Name "isinstance" ⟨167, 11, 167, 21⟩)) (args := [(PySem.Expr.Name "told" ⟨167, 22, 167, 26⟩), (PySem.Expr.Name "tuple" ⟨167, 28, 167, 33⟩)]) (keywords := []) (pos := ⟨167, 11, 167, 34⟩))) (pos := ⟨167, 7, 167, 34⟩)), (PySem.Expr.Compare (left := (PySem.Expr.Name "told" ⟨167, 38, 167, 42⟩)) (ops := [PySem.CmpOp.NotEq]) (comparators := [(PySem.Expr.Name "due" ⟨167, 46, 167, 49⟩)]) (pos := ⟨167, 38, 167, 49⟩)), (PySem.Expr.UnaryOp (op := PySem.UnaryOp.Not) (operand := (PySem.Expr.Call (func := (PySem.Expr.Name "_law_is_ints" ⟨167, 58, 167, 70⟩)) (args := [ (PySem.Expr.Subscript (value := (PySem.Expr.Name "told" ⟨167, 71, 167, 75⟩)) (slice := (PySem.Expr.Constant (PySem.Const.int 1) 0 ⟨167, 76, 167, 77⟩)) (pos := ⟨167, 71, 167, 78⟩))]) (keywords := []) (pos := ⟨167, 58, 167, 79⟩))) (pos := ⟨167, 54, 167, 79⟩))]) (pos := ⟨167, 7, 167, 80⟩))) (body := [ (PySem.Stmt.Return (value := (some (PySem.Expr.Constant (PySem.Const.bool false) 0 ⟨168, 15, 168, 20⟩))) (pos := ⟨168, 8, 168, 20⟩))]) (orelse := []) (pos := ⟨167, 4, 168, 20⟩)), (PySem.Stmt.Return (value := (some (PySem.Expr.BoolOp (op := PySem.BoolOp.Or) (values := [ (PySem.Expr.Compare (left := (PySem.Expr.Call (func := (PySem.Expr.Name "len" ⟨169, 11, 169, 14⟩)) (args := [(PySem.Expr.Name "due" ⟨169, 15, 169, 18⟩)]) (keywords := []) (pos := ⟨169, 11, 169, 19⟩))) (ops := [PySem.CmpOp.Eq]) (comparators := [(PySem.Expr.Constant (PySem.Const.int 2) 0 ⟨169, 23, 169, 24⟩)]) (pos := ⟨169, 11, 169, 24⟩)), (PySem.Expr.Call (func := (PySem.Expr.Name "_law_is_int" ⟨169, 28, 169, 39⟩)) (args := [ (PySem.Expr.Subscript (value := (PySem.Expr.Name "told" ⟨169, 40, 169, 44⟩)) (slice := (PySem.Expr.Constant (PySem.Const.int 2) 0 ⟨169, 45, 169, 46⟩)) (pos := ⟨169, 40, 169, 47⟩))]) (keywords := []) (pos := ⟨169, 28, 169, 48⟩))]) (pos := ⟨169, 11, 169, 48⟩)))) (pos := ⟨169, 4, 169, 48⟩))] := rfl
theorem bd_law : defBody (df_law).st = [ (PySem.Stmt.Assign (targets := [(PySem.Expr.Name "d" ⟨171, 4, 171, 5⟩)]) (value := (PySem.Expr.Call (func := (PySem.Expr.Name "_law_begin" ⟨171, 8, 171, 18⟩)) (args := [(PySem.Expr.Name "script" ⟨171, 19, 171, 25⟩)]) (keywords := []) (pos := ⟨171, 8, 171, 26⟩))) (pos := ⟨171, 4, 171, 26⟩)), (PySem.Stmt.Assign (targets := [ (PySem.Expr.Tuple (elts := [ (PySem.Expr.Name "plan" ⟨172, 4, 172, 8⟩), (PySem.Expr.Name "setting" ⟨172, 10, 172, 17⟩), (PySem.Expr.Name "free" ⟨172, 19, 172, 23⟩)]) (k := 0) (pos := ⟨172, 4, 172, 23⟩))]) (value := (PySem.Expr.Call (func := (PySem.Expr.Name "_law_ground" ⟨172, 26, 172, 37⟩)) (args := [(PySem.Expr.Name "d" ⟨172, 38, 172, 39⟩)]) (keywords := []) (pos := ⟨172, 26, 172, 40⟩))) (pos := ⟨172, 4, 172, 40⟩)), (PySem.Stmt.Assign (targets := [(PySem.Expr.Name "other" ⟨173, 4, 173, 9⟩)]) (value := (PySem.Expr.Call (func := (PySem.Expr.Name "tuple" ⟨173, 12, 173, 17⟩)) (args := [ (PySem.Expr.ListComp (elt := (PySem.Expr.Call (func := (PySem.Expr.Name "_law_draw" ⟨173, 19, 173, 28⟩)) (args := [(PySem.Expr.Name "d" ⟨173, 29, 173, 30⟩), (PySem.Expr.Constant (PySem.Const.int 2) 0 ⟨173, 32, 173, 33⟩)]) (keywords := []) (pos := ⟨173, 19, 173, 34⟩))) (generators := [ { target := (PySem.Expr.Name "state" ⟨173, 39, 173, 44⟩), iter := (PySem.Expr.Name "setting" ⟨173, 48, 173, 55⟩), ifs := [], is_async := 0 : PySem.Comprehension }]) (scope := { kind := PySem.ScopeKind.function, names := [ (PySem.Str.ofString ".0", PySem.NameKind.local), (PySem.Str.ofString "state", PySem.NameKind.local), (PySem.Str.ofString "_law_draw", PySem.NameKind.globalImplicit), (PySem.Str.ofString "d", PySem.NameKind.free)], isGenerator := false, isCoroutine := false, more := [] : PySem.Scope }) (pos := ⟨173, 18, 173, 56⟩))]) (keywords := []) (pos := ⟨173, 12, 173, 57⟩))) (pos := ⟨173, 4, 173, 57⟩)), (PySem.Stmt.Assign (targets := [(PySem.Expr.Name "rows" ⟨174, 4, 174, 8⟩)]) (value := (PySem.Expr.List [] ⟨174, 11, 174, 13⟩)) (pos := ⟨174, 4, 174, 13⟩)), (PySem.Stmt.For (target := (PySem.Expr.Tuple (elts := [ (PySem.Expr.Name "cell" ⟨175, 8, 175, 12⟩), (PySem.Expr.Name "direction" ⟨175, 14, 175, 23⟩), (PySem.Expr.Name "trail" ⟨175, 25, 175, 30⟩)]) (k := 0) (pos := ⟨175, 8, 175, 30⟩))) (iter := (PySem.Expr.Call (func := (PySem.Expr.Name "_law_asked_walks" ⟨175, 34, 175, 50⟩)) (args := [(PySem.Expr.Name "d" ⟨175, 51, 175, 52⟩), (PySem.Expr.Name "free" ⟨175, 54, 175, 58⟩)]) (keywords := []) (pos := ⟨175, 34, 175, 59⟩))) (body := [ (PySem.Stmt.For (target := (PySem.Expr.Name "states" ⟨176, 12, 176, 18⟩)) (iter := (PySem.Expr.Tuple (elts := [(PySem.Expr.Name "setting" ⟨176, 23, 176, 30⟩), (PySem.Expr.Name "other" ⟨176, 32, 176, 37⟩)]) (k := 0) (pos := ⟨176, 22, 176, 38⟩))) (body := [ (PySem.Stmt.If (test := (PySem.Expr.Compare (left := (PySem.Expr.Call (func := (PySem.Expr.Name "_law_kind" ⟨177, 15, 177, 24⟩)) (args := [ (PySem.Expr.Name "plan" ⟨177, 25, 177, 29⟩), (PySem.Expr.Name "states" ⟨177, 31, 177, 37⟩), (PySem.Expr.Name "cell" ⟨177, 39, 177, 43⟩)]) (keywords := []) (pos := ⟨177, 15, 177, 44⟩))) (ops := [PySem.CmpOp.Eq]) (comparators := [(PySem.Expr.Constant (PySem.Const.str "free") 0 ⟨177, 48, 177, 54⟩)]) (pos := ⟨177, 15, 177, 54⟩))) (body := [ (PySem.Stmt.Assign (targets := [(PySem.Expr.Name "due" ⟨178, 16, 178, 19⟩)]) (value := (PySem.Expr.Call (func := (PySem.Expr.Name "_law_due_walk" ⟨178, 22, 178, 35⟩)) (args := [ (PySem.Expr.Name "plan" ⟨178, 36, 178, 40⟩), (PySem.Expr.Name "states" ⟨178, 42, 178, 48⟩), (PySem.Expr.Name "cell" ⟨178, 50, 178, 54⟩), (PySem.Expr.Name "direction" ⟨178, 56, 178, 65⟩), (PySem.Expr.Name "trail" ⟨178, 67, 178, 72⟩)]) (keywords := []) (pos := ⟨178, 22, 178, 73⟩))) (pos := ⟨178, 16, 178, 73⟩)), (PySem.Stmt.Expr (value := (PySem.Expr.Call (func := (PySem.Expr.Attribute (PySem.Expr.Name "rows" ⟨179, 16, 179, 20⟩) "append" ⟨179, 16, 179, 27⟩)) (args := [ (PySem.Expr.Tuple (elts := [ (PySem.Expr.Name "states" ⟨179, 29, 179, 35⟩), (PySem.Expr.Name "cell" ⟨179, 37, 179, 41⟩), (PySem.Expr.Name "direction" ⟨179, 43, 179, 52⟩), (PySem.Expr.Name "trail" ⟨179, 54, 179, 59⟩), (PySem.Expr.Name "due" ⟨179, 61, 179, 64⟩)]) (k := 0) (pos := ⟨179, 28, 179, 65⟩))]) (keywords := []) (pos := ⟨179, 16, 179, 66⟩))) (pos := ⟨179, 16, 179, 66⟩))]) (orelse := []) (pos := ⟨177, 12, 179, 66⟩))]) (orelse := []) (pos := ⟨176, 8, 179, 66⟩))]) (orelse := []) (pos := ⟨175, 4, 179, 66⟩)), (PySem.Stmt.For (target := (PySem.Expr.Tuple (elts := [ (PySem.Expr.Name "states" ⟨180, 8, 180, 14⟩), (PySem.Expr.Name "cell" ⟨180, 16, 180, 20⟩), (PySem.Expr.Name "direction" ⟨180, 22, 180, 31⟩), (PySem.Expr.Name "trail" ⟨180, 33, 180, 38⟩), (PySem.Expr.Name "due" ⟨180, 40, 180, 43⟩)]) (k := 0) (pos := ⟨180, 8, 180, 43⟩))) (iter := (PySem.Expr.BinOp (left := (PySem.Expr.Name "rows" ⟨180, 47, 180, 51⟩)) (op := PySem.Operator.Add) (right := (PySem.Expr.Name "rows" ⟨180, 54, 180, 58⟩)) (pos := ⟨180, 47, 180, 58⟩))) (body := [ (PySem.Stmt.If (test := (PySem.Expr.UnaryOp (op := PySem.UnaryOp.Not) (operand := (PySem.Expr.Call (func := (PySem.Expr.Name "_law_right_walk" ⟨181, 15, 181, 30⟩)) (args := [ (PySem.Expr.Call (func := (PySem.Expr.Name "walked" ⟨181, 31, 181, 37⟩)) (args := [ (PySem.Expr.Name "plan" ⟨181, 38, 181, 42⟩), (PySem.Expr.Name "states" ⟨181, 44, 181, 50⟩), (PySem.Expr.Name "cell" ⟨181, 52, 181, 56⟩), (PySem.Expr.Name "direction" ⟨181, 58, 181, 67⟩), (PySem.Expr.Name "trail" ⟨181, 69, 181, 74⟩)]) (keywords := []) (pos := ⟨181, 31, 181, 75⟩)), (PySem.Expr.Name "due" ⟨181, 77, 181, 80⟩)]) (keywords := []) (pos := ⟨181, 15, 181, 81⟩))) (pos := ⟨181, 11, 181, 81⟩))) (body := [ (PySem.Stmt.Return (value := (some (PySem.Expr.Constant (PySem.Const.bool false) 0 ⟨182, 19, 182, 24⟩))) (pos := ⟨182, 12, 182, 24⟩))]) (orelse := []) (pos := ⟨181, 8, 182, 24⟩))]) (orelse := []) (pos := ⟨180, 4, 182, 24⟩)), (PySem.Stmt.Return (value := (some (PySem.Expr.Constant (PySem.Const.bool true) 0 ⟨183, 11, 183, 15⟩))) (pos := ⟨183, 4, 183, 15⟩))] := rfl
theorem st_door_of (cs : Cs) (a0 : D) : runP cs df_door_of [a0] = valP (ssE (frame cs ⟨df_door_of.drop, false⟩ 60) (fmOf df_door_of) [ (PySem.Stmt.Return (value := (some (PySem.Expr.BinOp (left := (PySem.Expr.Call (func := (PySem.Expr.Name "max" ⟨7, 11, 7, 14⟩)) (args := [ (PySem.Expr.Call (func := (PySem.Expr.Attribute (PySem.Expr.Name "GATES" ⟨7, 15, 7, 20⟩) "find" ⟨7, 15, 7, 25⟩)) (args := [(PySem.Expr.Name "sign" ⟨7, 26, 7, 30⟩)]) (keywords := []) (pos := ⟨7, 15, 7, 31⟩)), (PySem.Expr.Call (func := (PySem.Expr.Attribute (PySem.Expr.Name "LIDS" ⟨7, 33, 7, 37⟩) "find" ⟨7, 33, 7, 42⟩)) (args := [(PySem.Expr.Name "sign" ⟨7, 43, 7, 47⟩)]) (keywords := []) (pos := ⟨7, 33, 7, 48⟩))]) (keywords := []) (pos := ⟨7, 11, 7, 49⟩))) (op := PySem.Operator.Add) (right := (PySem.Expr.Constant (PySem.Const.int 1) 0 ⟨7, 52, 7, 53⟩)) (pos := ⟨7, 11, 7, 53⟩)))) (pos := ⟨7, 4, 7, 53⟩))] [Sl.val a0]) := runP_eq (k := 1) (m := 1) rfl rfl bd_door_of rfl (show List.map Sl.val ([a0] : List D) ++ List.replicate (1 - 1) Sl.non = [Sl.val a0] from rfl)
theorem st_sign_at (cs : Cs) (a0 a1 : D) : runP cs df_sign_at [a0, a1] = valP (ssE (frame cs ⟨df_sign_at.drop, false⟩ 60) (fmOf df_sign_at) [ (PySem.Stmt.Assign (targets := [ (PySem.Expr.Tuple (elts := [(PySem.Expr.Name "line" ⟨9, 4, 9, 8⟩), (PySem.Expr.Name "column" ⟨9, 10, 9, 16⟩)]) (k := 0) (pos := ⟨9, 4, 9, 16⟩))]) (value := (PySem.Expr.Call (func := (PySem.Expr.Name "divmod" ⟨9, 19, 9, 25⟩)) (args := [ (PySem.Expr.Name "cell" ⟨9, 26, 9, 30⟩), (PySem.Expr.Call (func := (PySem.Expr.Name "len" ⟨9, 32, 9, 35⟩)) (args := [ (PySem.Expr.Subscript (value := (PySem.Expr.Name "plan" ⟨9, 36, 9, 40⟩)) (slice := (PySem.Expr.Constant (PySem.Const.int 0) 0 ⟨9, 41, 9, 42⟩)) (pos := ⟨9, 36, 9, 43⟩))]) (keywords := []) (pos := ⟨9, 32, 9, 44⟩))]) (keywords := []) (pos := ⟨9, 19, 9, 45⟩))) (pos := ⟨9, 4, 9, 45⟩)), (PySem.Stmt.Return (value := (some (PySem.Expr.Subscript (value := (PySem.Expr.Subscript (value := (PySem.Expr.Name "plan" ⟨10, 11, 10, 15⟩)) (slice := (PySem.Expr.Name "line" ⟨10, 16, 10, 20⟩)) (pos := ⟨10, 11, 10, 21⟩))) (slice := (PySem.Expr.Name "column" ⟨10, 22, 10, 28⟩)) (pos := ⟨10, 11, 10, 29⟩)))) (pos := ⟨10, 4, 10, 29⟩))] [Sl.val a0, Sl.val a1, Sl.non, Sl.non]) := runP_eq (k := 2) (m := 4) rfl rfl bd_sign_at rfl (show List.map Sl.val ([a0, a1] : List D) ++ List.replicate (4 - 2) Sl.non = [Sl.val a0, Sl.val a1, Sl.non, Sl.non] from rfl)
theorem st_cell_kind (cs : Cs) (a0 a1 a2 : D) : runP cs df_cell_kind [a0, a1, a2] = valP (ssE (frame cs ⟨df_cell_kind.drop, false⟩ 60) (fmOf df_cell_kind) [ (PySem.Stmt.Assign (targets := [(PySem.Expr.Name "sign" ⟨12, 4, 12, 8⟩)]) (value := (PySem.Expr.Call (func := (PySem.Expr.Name "sign_at" ⟨12, 11, 12, 18⟩)) (args := [(PySem.Expr.Name "plan" ⟨12, 19, 12, 23⟩), (PySem.Expr.Name "cell" ⟨12, 25, 12, 29⟩)]) (keywords := []) (pos := ⟨12, 11, 12, 30⟩))) (pos := ⟨12, 4, 12, 30⟩)), (PySem.Stmt.Assign (targets := [(PySem.Expr.Name "door" ⟨13, 4, 13, 8⟩)]) (value := (PySem.Expr.Call (func := (PySem.Expr.Name "_door_of" ⟨13, 11, 13, 19⟩)) (args := [(PySem.Expr.Name "sign" ⟨13, 20, 13, 24⟩)]) (keywords := []) (pos := ⟨13, 11, 13, 25⟩))) (pos := ⟨13, 4, 13, 25⟩)), (PySem.Stmt.If (test := (PySem.Expr.Compare (left := (PySem.Expr.Name "door" ⟨14, 7, 14, 11⟩)) (ops := [PySem.CmpOp.Eq]) (comparators := [(PySem.Expr.Constant (PySem.Const.int 0) 0 ⟨14, 15, 14, 16⟩)]) (pos := ⟨14, 7, 14, 16⟩))) (body := [ (PySem.Stmt.Return (value := (some (PySem.Expr.Call (func := (PySem.Expr.Attribute (PySem.Expr.Name "FIXED_KINDS" ⟨15, 15, 15, 26⟩) "get" ⟨15, 15, 15, 30⟩)) (args := [(PySem.Expr.Name "sign" ⟨15, 31, 15, 35⟩), (PySem.Expr.Constant (PySem.Const.str "free") 0 ⟨15, 37, 15, 43⟩)]) (keywords := []) (pos := ⟨15, 15, 15, 44⟩)))) (pos := ⟨15, 8, 15, 44⟩))]) (orelse := []) (pos := ⟨14, 4, 15, 44⟩)), (PySem.Stmt.If (test := (PySem.Expr.Compare (left := (PySem.Expr.Subscript (value := (PySem.Expr.Name "setting" ⟨16, 7, 16, 14⟩)) (slice := (PySem.Expr.BinOp (left := (PySem.Expr.Name "door" ⟨16, 15, 16, 19⟩)) (op := PySem.Operator.Sub) (right := (PySem.Expr.Constant (PySem.Const.int 1) 0 ⟨16, 22, 16, 23⟩)) (pos := ⟨16, 15, 16, 23⟩))) (pos := ⟨16, 7, 16, 24⟩))) (ops := [PySem.CmpOp.Eq]) (comparators := [(PySem.Expr.Constant (PySem.Const.int 1) 0 ⟨16, 28, 16, 29⟩)]) (pos := ⟨16, 7, 16, 29⟩))) (body := [ (PySem.Stmt.Return (value := (some (PySem.Expr.IfExp (test := (PySem.Expr.Compare (left := (PySem.Expr.Name "sign" ⟨17, 25, 17, 29⟩)) (ops := [PySem.CmpOp.In]) (comparators := [(PySem.Expr.Name "GATES" ⟨17, 33, 17, 38⟩)]) (pos := ⟨17, 25, 17, 38⟩))) (body := (PySem.Expr.Constant (PySem.Const.str "free") 0 ⟨17, 15, 17, 21⟩)) (orelse := (PySem.Expr.Constant (PySem.Const.str "hole") 0 ⟨17, 44, 17, 50⟩)) (pos := ⟨17, 15, 17, 50⟩)))) (pos := ⟨17, 8, 17, 50⟩))]) (orelse := []) (pos := ⟨16, 4, 17, 50⟩)), (PySem.Stmt.Return (value := (some (PySem.Expr.IfExp (test := (PySem.Expr.Compare (left := (PySem.Expr.Name "sign" ⟨18, 21, 18, 25⟩)) (ops := [PySem.CmpOp.In]) (comparators := [(PySem.Expr.Name "GATES" ⟨18, 29, 18, 34⟩)]) (pos := ⟨18, 21, 18, 34⟩))) (body := (PySem.Expr.Constant (PySem.Const.str "wall") 0 ⟨18, 11, 18, 17⟩)) (orelse := (PySem.Expr.Constant (PySem.Const.str "free") 0 ⟨18, 40, 18, 46⟩)) (pos := ⟨18, 11, 18, 46⟩)))) (pos := ⟨18, 4, 18, 46⟩))] [Sl.val a0, Sl.val a1, Sl.val a2, Sl.non, Sl.non]) := runP_eq (k := 3) (m := 5) rfl rfl bd_cell_kind rfl (show List.map Sl.val ([a0, a1, a2] : List D) ++ List.replicate (5 - 3) Sl.non = [Sl.val a0, Sl.val a1, Sl.val a2, Sl.non, Sl.non] from rfl)
theorem st_next_cell (cs : Cs) (a0 a1 a2 : D) : runP cs df_next_cell [a0, a1, a2] = valP (ssE (frame cs ⟨df_next_cell.drop, false⟩ 60) (fmOf df_next_cell) [ (PySem.Stmt.Assign (targets := [(PySem.Expr.Name "width" ⟨20, 4, 20, 9⟩)]) (value := (PySem.Expr.Call (func := (PySem.Expr.Name "len" ⟨20, 12, 20, 15⟩)) (args := [ (PySem.Expr.Subscript (value := (PySem.Expr.Name "plan" ⟨20, 16, 20, 20⟩)) (slice := (PySem.Expr.Constant (PySem.Const.int 0) 0 ⟨20, 21, 20, 22⟩)) (pos := ⟨20, 16, 20, 23⟩))]) (keywords := []) (pos := ⟨20, 12, 20, 24⟩))) (pos := ⟨20, 4, 20, 24⟩)), (PySem.Stmt.Assign (targets := [ (PySem.Expr.Tuple (elts := [(PySem.Expr.Name "down" ⟨21, 4, 21, 8⟩), (PySem.Expr.Name "right" ⟨21, 10, 21, 15⟩)]) (k := 0) (pos := ⟨21, 4, 21, 15⟩))]) (value := (PySem.Expr.Subscript (value := (PySem.Expr.Name "MOVES" ⟨21, 18, 21, 23⟩)) (slice := (PySem.Expr.Name "direction" ⟨21, 24, 21, 33⟩)) (pos := ⟨21, 18, 21, 34⟩))) (pos := ⟨21, 4, 21, 34⟩)), (PySem.Stmt.Assign (targets := [(PySem.Expr.Name "line" ⟨22, 4, 22, 8⟩)]) (value := (PySem.Expr.BinOp (left := (PySem.Expr.BinOp (left := (PySem.Expr.Name "cell" ⟨22, 11, 22, 15⟩)) (op := PySem.Operator.FloorDiv) (right := (PySem.Expr.Name "width" ⟨22, 19, 22, 24⟩)) (pos := ⟨22, 11, 22, 24⟩))) (op := PySem.Operator.Add) (right := (PySem.Expr.Name "down" ⟨22, 27, 22, 31⟩)) (pos := ⟨22, 11, 22, 31⟩))) (pos := ⟨22, 4, 22, 31⟩)), (PySem.Stmt.Assign (targets := [(PySem.Expr.Name "column" ⟨23, 4, 23, 10⟩)]) (value := (PySem.Expr.BinOp (left := (PySem.Expr.BinOp (left := (PySem.Expr.Name "cell" ⟨23, 13, 23, 17⟩)) (op := PySem.Operator.Mod) (right := (PySem.Expr.Name "width" ⟨23, 20, 23, 25⟩)) (pos := ⟨23, 13, 23, 25⟩))) (op := PySem.Operator.Add) (right := (PySem.Expr.Name "right" ⟨23, 28, 23, 33⟩)) (pos := ⟨23, 13, 23, 33⟩))) (pos := ⟨23, 4, 23, 33⟩)), (PySem.Stmt.If (test := (PySem.Expr.BoolOp (op := PySem.BoolOp.And) (values := [ (PySem.Expr.Compare (left := (PySem.Expr.Constant (PySem.Const.int 0) 0 ⟨24, 7, 24, 8⟩)) (ops := [PySem.CmpOp.LtE, PySem.CmpOp.Lt]) (comparators := [ (PySem.Expr.Name "line" ⟨24, 12, 24, 16⟩), (PySem.Expr.Call (func := (PySem.Expr.Name "len" ⟨24, 19, 24, 22⟩)) (args := [(PySem.Expr.Name "plan" ⟨24, 23, 24, 27⟩)]) (keywords := []) (pos := ⟨24, 19, 24, 28⟩))]) (pos := ⟨24, 7, 24, 28⟩)), (PySem.Expr.Compare (left := (PySem.Expr.Constant (PySem.Const.int 0) 0 ⟨24, 33, 24, 34⟩)) (ops := [PySem.CmpOp.LtE, PySem.CmpOp.Lt]) (comparators := [(PySem.Expr.Name "column" ⟨24, 38, 24, 44⟩), (PySem.Expr.Name "width" ⟨24, 47, 24, 52⟩)]) (pos := ⟨24, 33, 24, 52⟩))]) (pos := ⟨24, 7, 24, 52⟩))) (body := [ (PySem.Stmt.Return (value := (some (PySem.Expr.BinOp (left := (PySem.Expr.BinOp (left := (PySem.Expr.Name "line" ⟨25, 15, 25, 19⟩)) (op := PySem.Operator.Mult) (right := (PySem.Expr.Name "width" ⟨25, 22, 25, 27⟩)) (pos := ⟨25, 15, 25, 27⟩))) (op := PySem.Operator.Add) (right := (PySem.Expr.Name "column" ⟨25, 30, 25, 36⟩)) (pos := ⟨25, 15, 25, 36⟩)))) (pos := ⟨25, 8, 25, 36⟩))]) (orelse := []) (pos := ⟨24, 4, 25, 36⟩)), (PySem.Stmt.Return (some (PySem.Expr.Constant PySem.Const.none 0 ⟨26, 11, 26, 15⟩)) ⟨26, 4, 26, 15⟩)] [Sl.val a0, Sl.val a1, Sl.val a2, Sl.non, Sl.non, Sl.non, Sl.non, Sl.non]) := runP_eq (k := 3) (m := 8) rfl rfl bd_next_cell rfl (show List.map Sl.val ([a0, a1, a2] : List D) ++ List.replicate (8 - 3) Sl.non = [Sl.val a0, Sl.val a1, Sl.val a2, Sl.non, Sl.non, Sl.non, Sl.non, Sl.non] from rfl)
theorem st_walked (cs : Cs) (a0 a1 a2 a3 a4 : D) : runP cs df_walked [a0, a1, a2, a3, a4] = valP (ssE (frame cs ⟨df_walked.drop, false⟩ 60) (fmOf df_walked) [ (PySem.Stmt.Assign (targets := [(PySem.Expr.Name "way" ⟨29, 4, 29, 7⟩)]) (value := (PySem.Expr.Tuple [(PySem.Expr.Name "cell" ⟨29, 11, 29, 15⟩)] 0 ⟨29, 10, 29, 17⟩)) (pos := ⟨29, 4, 29, 17⟩)), (PySem.Stmt.For (target := (PySem.Expr.Name "turn" ⟨30, 8, 30, 12⟩)) (iter := (PySem.Expr.Name "trail" ⟨30, 16, 30, 21⟩)) (body := [ (PySem.Stmt.Assign (targets := [(PySem.Expr.Name "near" ⟨31, 8, 31, 12⟩)]) (value := (PySem.Expr.Call (func := (PySem.Expr.Name "next_cell" ⟨31, 15, 31, 24⟩)) (args := [ (PySem.Expr.Name "plan" ⟨31, 25, 31, 29⟩), (PySem.Expr.Subscript (value := (PySem.Expr.Name "way" ⟨31, 31, 31, 34⟩)) (slice := (PySem.Expr.UnaryOp (op := PySem.UnaryOp.USub) (operand := (PySem.Expr.Constant (PySem.Const.int 1) 0 ⟨31, 36, 31, 37⟩)) (pos := ⟨31, 35, 31, 37⟩))) (pos := ⟨31, 31, 31, 38⟩)), (PySem.Expr.BinOp (left := (PySem.Expr.BinOp (left := (PySem.Expr.Name "direction" ⟨31, 41, 31, 50⟩)) (op := PySem.Operator.Add) (right := (PySem.Expr.Name "turn" ⟨31, 53, 31, 57⟩)) (pos := ⟨31, 41, 31, 57⟩))) (op := PySem.Operator.Mod) (right := (PySem.Expr.Constant (PySem.Const.int 4) 0 ⟨31, 61, 31, 62⟩)) (pos := ⟨31, 40, 31, 62⟩))]) (keywords := []) (pos := ⟨31, 15, 31, 63⟩))) (pos := ⟨31, 8, 31, 63⟩)), (PySem.Stmt.Assign (targets := [(PySem.Expr.Name "kind" ⟨32, 8, 32, 12⟩)]) (value := (PySem.Expr.IfExp (test := (PySem.Expr.Compare (left := (PySem.Expr.Name "near" ⟨32, 25, 32, 29⟩)) (ops := [PySem.CmpOp.Is]) (comparators := [(PySem.Expr.Constant PySem.Const.none 0 ⟨32, 33, 32, 37⟩)]) (pos := ⟨32, 25, 32, 37⟩))) (body := (PySem.Expr.Constant (PySem.Const.str "wall") 0 ⟨32, 15, 32, 21⟩)) (orelse := (PySem.Expr.Call (func := (PySem.Expr.Name "cell_kind" ⟨32, 43, 32, 52⟩)) (args := [ (PySem.Expr.Name "plan" ⟨32, 53, 32, 57⟩), (PySem.Expr.Name "setting" ⟨32, 59, 32, 66⟩), (PySem.Expr.Name "near" ⟨32, 68, 32, 72⟩)]) (keywords := []) (pos := ⟨32, 43, 32, 73⟩))) (pos := ⟨32, 15, 32, 73⟩))) (pos := ⟨32, 8, 32, 73⟩)), (PySem.Stmt.If (test := (PySem.Expr.Compare (left := (PySem.Expr.Name "kind" ⟨33, 11, 33, 15⟩)) (ops := [PySem.CmpOp.Eq]) (comparators := [(PySem.Expr.Constant (PySem.Const.str "wall") 0 ⟨33, 19, 33, 25⟩)]) (pos := ⟨33, 11, 33, 25⟩))) (body := [ (PySem.Stmt.Return (value := (some (PySem.Expr.Tuple (elts := [ (PySem.Expr.Constant (PySem.Const.str "end") 0 ⟨34, 20, 34, 25⟩), (PySem.Expr.Name "way" ⟨34, 27, 34, 30⟩), (PySem.Expr.Constant (PySem.Const.int 1) 0 ⟨34, 32, 34, 33⟩)]) (k := 0) (pos := ⟨34, 19, 34, 34⟩)))) (pos := ⟨34, 12, 34, 34⟩))]) (orelse := []) (pos := ⟨33, 8, 34, 34⟩)), (PySem.Stmt.Assign (targets := [(PySem.Expr.Name "way" ⟨35, 8, 35, 11⟩)]) (value := (PySem.Expr.BinOp (left := (PySem.Expr.Name "way" ⟨35, 14, 35, 17⟩)) (op := PySem.Operator.Add) (right := (PySem.Expr.Tuple [(PySem.Expr.Name "near" ⟨35, 21, 35, 25⟩)] 0 ⟨35, 20, 35, 27⟩)) (pos := ⟨35, 14, 35, 27⟩))) (pos := ⟨35, 8, 35, 27⟩)), (PySem.Stmt.If (test := (PySem.Expr.Compare (left := (PySem.Expr.Name "kind" ⟨36, 11, 36, 15⟩)) (ops := [PySem.CmpOp.NotEq]) (comparators := [(PySem.Expr.Constant (PySem.Const.str "free") 0 ⟨36, 19, 36, 25⟩)]) (pos := ⟨36, 11, 36, 25⟩))) (body := [ (PySem.Stmt.Return (value := (some (PySem.Expr.Tuple (elts := [(PySem.Expr.Constant (PySem.Const.str "touch") 0 ⟨37, 20, 37, 27⟩), (PySem.Expr.Name "way" ⟨37, 29, 37, 32⟩)]) (k := 0) (pos := ⟨37, 19, 37, 33⟩)))) (pos := ⟨37, 12, 37, 33⟩))]) (orelse := []) (pos := ⟨36, 8, 37, 33⟩))]) (orelse := []) (pos := ⟨30, 4, 37, 33⟩)), (PySem.Stmt.Return (value := (some (PySem.Expr.Tuple (elts := [ (PySem.Expr.Constant (PySem.Const.str "end") 0 ⟨38, 12, 38, 17⟩), (PySem.Expr.Name "way" ⟨38, 19, 38, 22⟩), (PySem.Expr.Constant (PySem.Const.int 0) 0 ⟨38, 24, 38, 25⟩)]) (k := 0) (pos := ⟨38, 11, 38, 26⟩)))) (pos := ⟨38, 4, 38, 26⟩))] [Sl.val a0, Sl.val a1, Sl.val a2, Sl.val a3, Sl.val a4, Sl.non, Sl.non, Sl.non, Sl.non]) := runP_eq (k := 5) (m := 9) rfl rfl bd_walked rfl (show List.map Sl.val ([a0, a1, a2, a3, a4] : List D) ++ List.replicate (9 - 5) Sl.non = [Sl.val a0, Sl.val a1, Sl.val a2, Sl.val a3, Sl.val a4, Sl.non, Sl.non, Sl.non, Sl.non] from rfl)
theorem st_law_begin (cs : Cs) (a0 : D) : runF cs df_law_begin [a0] = valF (ssE (frame cs ⟨df_law_begin.drop, true⟩ 60) (fmOf df_law_begin) [ (PySem.Stmt.Return (value := (some (PySem.Expr.List (elts := [ (PySem.Expr.ListComp (elt := (PySem.Expr.Call (func := (PySem.Expr.Name "int" ⟨41, 13, 41, 16⟩)) (args := [(PySem.Expr.Name "cell" ⟨41, 17, 41, 21⟩)]) (keywords := []) (pos := ⟨41, 13, 41, 22⟩))) (generators := [ { target := (PySem.Expr.Name "cell" ⟨41, 27, 41, 31⟩), iter := (PySem.Expr.Name "script" ⟨41, 35, 41, 41⟩), ifs := [], is_async := 0 : PySem.Comprehension }]) (scope := { kind := PySem.ScopeKind.function, names := [ (PySem.Str.ofString ".0", PySem.NameKind.local), (PySem.Str.ofString "cell", PySem.NameKind.local), (PySem.Str.ofString "int", PySem.NameKind.globalImplicit)], isGenerator := false, isCoroutine := false, more := [] : PySem.Scope }) (pos := ⟨41, 12, 41, 42⟩)), (PySem.Expr.Constant (PySem.Const.int 0) 0 ⟨41, 44, 41, 45⟩), (PySem.Expr.Constant (PySem.Const.int 0) 0 ⟨41, 47, 41, 48⟩), (PySem.Expr.Constant (PySem.Const.int 7) 0 ⟨41, 50, 41, 51⟩)]) (pos := ⟨41, 11, 41, 52⟩)))) (pos := ⟨41, 4, 41, 52⟩))] [Sl.val a0, Sl.non]) := runF_eq (k := 1) (m := 2) rfl rfl bd_law_begin rfl (show List.map Sl.val ([a0] : List D) ++ List.replicate (2 - 1) Sl.non = [Sl.val a0, Sl.non] from rfl)
theorem st_law_draw (cs : Cs) (d0 : Ct) (a0 : D) : runO cs df_law_draw d0 [a0] = valO (ssE (frame cs ⟨df_law_draw.drop, false⟩ 60) (fmOf df_law_draw) [ (PySem.Stmt.If (test := (PySem.Expr.Compare (left := (PySem.Expr.Subscript (value := (PySem.Expr.Name "d" ⟨43, 7, 43, 8⟩)) (slice := (PySem.Expr.Constant (PySem.Const.int 2) 0 ⟨43, 9, 43, 10⟩)) (pos := ⟨43, 7, 43, 11⟩))) (ops := [PySem.CmpOp.Gt]) (comparators := [(PySem.Expr.Constant (PySem.Const.int 0) 0 ⟨43, 14, 43, 15⟩)]) (pos := ⟨43, 7, 43, 15⟩))) (body := [ (PySem.Stmt.Assign (targets := [(PySem.Expr.Name "found" ⟨44, 8, 44, 13⟩)]) (value := (PySem.Expr.Subscript (value := (PySem.Expr.Name "d" ⟨44, 16, 44, 17⟩)) (slice := (PySem.Expr.Constant (PySem.Const.int 2) 0 ⟨44, 18, 44, 19⟩)) (pos := ⟨44, 16, 44, 20⟩))) (pos := ⟨44, 8, 44, 20⟩)), (PySem.Stmt.Assign (targets := [ (PySem.Expr.Subscript (value := (PySem.Expr.Name "d" ⟨45, 8, 45, 9⟩)) (slice := (PySem.Expr.Constant (PySem.Const.int 2) 0 ⟨45, 10, 45, 11⟩)) (pos := ⟨45, 8, 45, 12⟩))]) (value := (PySem.Expr.BinOp (left := (PySem.Expr.Name "found" ⟨45, 15, 45, 20⟩)) (op := PySem.Operator.FloorDiv) (right := (PySem.Expr.Name "many" ⟨45, 24, 45, 28⟩)) (pos := ⟨45, 15, 45, 28⟩))) (pos := ⟨45, 8, 45, 28⟩)), (PySem.Stmt.Return (value := (some (PySem.Expr.BinOp (left := (PySem.Expr.Call (func := (PySem.Expr.Name "int" ⟨46, 15, 46, 18⟩)) (args := [(PySem.Expr.Name "found" ⟨46, 19, 46, 24⟩)]) (keywords := []) (pos := ⟨46, 15, 46, 25⟩))) (op := PySem.Operator.Mod) (right := (PySem.Expr.Name "many" ⟨46, 28, 46, 32⟩)) (pos := ⟨46, 15, 46, 32⟩)))) (pos := ⟨46, 8, 46, 32⟩))]) (orelse := []) (pos := ⟨43, 4, 46, 32⟩)), (PySem.Stmt.Assign (targets := [(PySem.Expr.Name "size" ⟨47, 4, 47, 8⟩)]) (value := (PySem.Expr.Constant (PySem.Const.int 0) 0 ⟨47, 11, 47, 12⟩)) (pos := ⟨47, 4, 47, 12⟩)), (PySem.Stmt.If (test := (PySem.Expr.Compare (left := (PySem.Expr.Subscript (value := (PySem.Expr.Name "d" ⟨48, 7, 48, 8⟩)) (slice := (PySem.Expr.Constant (PySem.Const.int 1) 0 ⟨48, 9, 48, 10⟩)) (pos := ⟨48, 7, 48, 11⟩))) (ops := [PySem.CmpOp.Lt]) (comparators := [ (PySem.Expr.Call (func := (PySem.Expr.Name "len" ⟨48, 14, 48, 17⟩)) (args := [ (PySem.Expr.Subscript (value := (PySem.Expr.Name "d" ⟨48, 18, 48, 19⟩)) (slice := (PySem.Expr.Constant (PySem.Const.int 0) 0 ⟨48, 20, 48, 21⟩)) (pos := ⟨48, 18, 48, 22⟩))]) (keywords := []) (pos := ⟨48, 14, 48, 23⟩))]) (pos := ⟨48, 7, 48, 23⟩))) (body := [ (PySem.Stmt.Assign (targets := [(PySem.Expr.Name "cell" ⟨49, 8, 49, 12⟩)]) (value := (PySem.Expr.Subscript (value := (PySem.Expr.Subscript (value := (PySem.Expr.Name "d" ⟨49, 15, 49, 16⟩)) (slice := (PySem.Expr.Constant (PySem.Const.int 0) 0 ⟨49, 17, 49, 18⟩)) (pos := ⟨49, 15, 49, 19⟩))) (slice := (PySem.Expr.Subscript (value := (PySem.Expr.Name "d" ⟨49, 20, 49, 21⟩)) (slice := (PySem.Expr.Constant (PySem.Const.int 1) 0 ⟨49, 22, 49, 23⟩)) (pos := ⟨49, 20, 49, 24⟩))) (pos := ⟨49, 15, 49, 25⟩))) (pos := ⟨49, 8, 49, 25⟩)), (PySem.Stmt.Assign (targets := [(PySem.Expr.Name "size" ⟨50, 8, 50, 12⟩)]) (value := (PySem.Expr.BinOp (left := (PySem.Expr.BinOp (left := (PySem.Expr.Constant (PySem.Const.int 2) 0 ⟨50, 15, 50, 16⟩)) (op := PySem.Operator.Mult) (right := (PySem.Expr.Call (func := (PySem.Expr.Name "abs" ⟨50, 19, 50, 22⟩)) (args := [(PySem.Expr.Name "cell" ⟨50, 23, 50, 27⟩)]) (keywords := []) (pos := ⟨50, 19, 50, 28⟩))) (pos := ⟨50, 15, 50, 28⟩))) (op := PySem.Operator.Add) (right := (PySem.Expr.Call (func := (PySem.Expr.Name "int" ⟨50, 31, 50, 34⟩)) (args := [ (PySem.Expr.Compare (left := (PySem.Expr.Name "cell" ⟨50, 35, 50, 39⟩)) (ops := [PySem.CmpOp.Lt]) (comparators := [(PySem.Expr.Constant (PySem.Const.int 0) 0 ⟨50, 42, 50, 43⟩)]) (pos := ⟨50, 35, 50, 43⟩))]) (keywords := []) (pos := ⟨50, 31, 50, 44⟩))) (pos := ⟨50, 15, 50, 44⟩))) (pos := ⟨50, 8, 50, 44⟩))]) (orelse := []) (pos := ⟨48, 4, 50, 44⟩)), (PySem.Stmt.AugAssign (target := (PySem.Expr.Subscript (value := (PySem.Expr.Name "d" ⟨51, 4, 51, 5⟩)) (slice := (PySem.Expr.Constant (PySem.Const.int 1) 0 ⟨51, 6, 51, 7⟩)) (pos := ⟨51, 4, 51, 8⟩))) (op := PySem.Operator.Add) (value := (PySem.Expr.Constant (PySem.Const.int 1) 0 ⟨51, 12, 51, 13⟩)) (pos := ⟨51, 4, 51, 13⟩)), (PySem.Stmt.If (test := (PySem.Expr.Compare (left := (PySem.Expr.Name "size" ⟨52, 7, 52, 11⟩)) (ops := [PySem.CmpOp.GtE]) (comparators := [ (PySem.Expr.BinOp (left := (PySem.Expr.Constant (PySem.Const.int 2) 0 ⟨52, 15, 52, 16⟩)) (op := PySem.Operator.Mult) (right := (PySem.Expr.BinOp (left := (PySem.Expr.Constant (PySem.Const.int 10) 0 ⟨52, 19, 52, 21⟩)) (op := PySem.Operator.Pow) (right := (PySem.Expr.Constant (PySem.Const.int 18) 0 ⟨52, 25, 52, 27⟩)) (pos := ⟨52, 19, 52, 27⟩))) (pos := ⟨52, 15, 52, 27⟩))]) (pos := ⟨52, 7, 52, 27⟩))) (body := [ (PySem.Stmt.Assign (targets := [(PySem.Expr.Name "found" ⟨53, 8, 53, 13⟩)]) (value := (PySem.Expr.BinOp (left := (PySem.Expr.Call (func := (PySem.Expr.Name "int" ⟨53, 16, 53, 19⟩)) (args := [ (PySem.Expr.BinOp (left := (PySem.Expr.Name "size" ⟨53, 20, 53, 24⟩)) (op := PySem.Operator.FloorDiv) (right := (PySem.Expr.Constant (PySem.Const.int 2) 0 ⟨53, 28, 53, 29⟩)) (pos := ⟨53, 20, 53, 29⟩))]) (keywords := []) (pos := ⟨53, 16, 53, 30⟩))) (op := PySem.Operator.Mod) (right := (PySem.Expr.BinOp (left := (PySem.Expr.Constant (PySem.Const.int 1) 0 ⟨53, 34, 53, 35⟩)) (op := PySem.Operator.LShift) (right := (PySem.Expr.Constant (PySem.Const.int 6000) 0 ⟨53, 39, 53, 43⟩)) (pos := ⟨53, 34, 53, 43⟩))) (pos := ⟨53, 16, 53, 44⟩))) (pos := ⟨53, 8, 53, 44⟩)), (PySem.Stmt.Assign (targets := [ (PySem.Expr.Subscript (value := (PySem.Expr.Name "d" ⟨54, 8, 54, 9⟩)) (slice := (PySem.Expr.Constant (PySem.Const.int 2) 0 ⟨54, 10, 54, 11⟩)) (pos := ⟨54, 8, 54, 12⟩))]) (value := (PySem.Expr.BinOp (left := (PySem.Expr.Name "found" ⟨54, 15, 54, 20⟩)) (op := PySem.Operator.FloorDiv) (right := (PySem.Expr.Name "many" ⟨54, 24, 54, 28⟩)) (pos := ⟨54, 15, 54, 28⟩))) (pos := ⟨54, 8, 54, 28⟩)), (PySem.Stmt.Return (value := (some (PySem.Expr.BinOp (left := (PySem.Expr.Call (func := (PySem.Expr.Name "int" ⟨55, 15, 55, 18⟩)) (args := [(PySem.Expr.Name "found" ⟨55, 19, 55, 24⟩)]) (keywords := []) (pos := ⟨55, 15, 55, 25⟩))) (op := PySem.Operator.Mod) (right := (PySem.Expr.Name "many" ⟨55, 28, 55, 32⟩)) (pos := ⟨55, 15, 55, 32⟩)))) (pos := ⟨55, 8, 55, 32⟩))]) (orelse := []) (pos := ⟨52, 4, 55, 32⟩)), (PySem.Stmt.Assign (targets := [ (PySem.Expr.Subscript (value := (PySem.Expr.Name "d" ⟨56, 4, 56, 5⟩)) (slice := (PySem.Expr.Constant (PySem.Const.int 3) 0 ⟨56, 6, 56, 7⟩)) (pos := ⟨56, 4, 56, 8⟩))]) (value := (PySem.Expr.BinOp (left := (PySem.Expr.Call (func := (PySem.Expr.Name "int" ⟨56, 11, 56, 14⟩)) (args := [ (PySem.Expr.BinOp (left := (PySem.Expr.BinOp (left := (PySem.Expr.BinOp (left := (PySem.Expr.BinOp (left := (PySem.Expr.Subscript (value := (PySem.Expr.Name "d" ⟨56, 15, 56, 16⟩)) (slice := (PySem.Expr.Constant (PySem.Const.int 3) 0 ⟨56, 17, 56, 18⟩)) (pos := ⟨56, 15, 56, 19⟩))) (op := PySem.Operator.Mult) (right := (PySem.Expr.Constant (PySem.Const.int 48271) 0 ⟨56, 22, 56, 27⟩)) (pos := ⟨56, 15, 56, 27⟩))) (op := PySem.Operator.Add) (right := (PySem.Expr.BinOp (left := (PySem.Expr.BinOp (left := (PySem.Expr.Call (func := (PySem.Expr.Name "int" ⟨56, 30, 56, 33⟩)) (args := [(PySem.Expr.Name "size" ⟨56, 34, 56, 38⟩)]) (keywords := []) (pos := ⟨56, 30, 56, 39⟩))) (op := PySem.Operator.Mod) (right := (PySem.Expr.Constant (PySem.Const.int 2147483629) 0 ⟨56, 42, 56, 52⟩)) (pos := ⟨56, 30, 56, 52⟩))) (op := PySem.Operator.Mult) (right := (PySem.Expr.Constant (PySem.Const.int 16807) 0 ⟨56, 55, 56, 60⟩)) (pos := ⟨56, 30, 56, 60⟩))) (pos := ⟨56, 15, 56, 60⟩))) (op := PySem.Operator.Add) (right := (PySem.Expr.BinOp (left := (PySem.Expr.Subscript (value := (PySem.Expr.Name "d" ⟨56, 63, 56, 64⟩)) (slice := (PySem.Expr.Constant (PySem.Const.int 1) 0 ⟨56, 65, 56, 66⟩)) (pos := ⟨56, 63, 56, 67⟩))) (op := PySem.Operator.Mult) (right := (PySem.Expr.Constant (PySem.Const.int 69621) 0 ⟨56, 70, 56, 75⟩)) (pos := ⟨56, 63, 56, 75⟩))) (pos := ⟨56, 15, 56, 75⟩))) (op := PySem.Operator.Add) (right := (PySem.Expr.Constant (PySem.Const.int 11) 0 ⟨56, 78, 56, 80⟩)) (pos := ⟨56, 15, 56, 80⟩))]) (keywords := []) (pos := ⟨56, 11, 56, 81⟩))) (op := PySem.Operator.Mod) (right := (PySem.Expr.Constant (PySem.Const.int 2147483647) 0 ⟨56, 84, 56, 94⟩)) (pos := ⟨56, 11, 56, 94⟩))) (pos := ⟨56, 4, 56, 94⟩)), (PySem.Stmt.Return (value := (some (PySem.Expr.BinOp (left := (PySem.Expr.Call (func := (PySem.Expr.Name "int" ⟨57, 11, 57, 14⟩)) (args := [ (PySem.Expr.BinOp (left := (PySem.Expr.Subscript (value := (PySem.Expr.Name "d" ⟨57, 15, 57, 16⟩)) (slice := (PySem.Expr.Constant (PySem.Const.int 3) 0 ⟨57, 17, 57, 18⟩)) (pos := ⟨57, 15, 57, 19⟩))) (op := PySem.Operator.FloorDiv) (right := (PySem.Expr.Constant (PySem.Const.int 16) 0 ⟨57, 23, 57, 25⟩)) (pos := ⟨57, 15, 57, 25⟩))]) (keywords := []) (pos := ⟨57, 11, 57, 26⟩))) (op := PySem.Operator.Mod) (right := (PySem.Expr.Name "many" ⟨57, 29, 57, 33⟩)) (pos := ⟨57, 11, 57, 33⟩)))) (pos := ⟨57, 4, 57, 33⟩))] [Sl.own true d0, Sl.val a0, Sl.non, Sl.non, Sl.non]) := runO_eq (k := 2) (m := 5) rfl rfl bd_law_draw rfl (show Sl.own true d0 :: (List.map Sl.val ([a0] : List D) ++ List.replicate (5 - 2) Sl.non) = [Sl.own true d0, Sl.val a0, Sl.non, Sl.non, Sl.non] from rfl)
theorem st_law_pick (cs : Cs) (d0 : Ct) (a0 : D) : runO cs df_law_pick d0 [a0] = valO (ssE (frame cs ⟨df_law_pick.drop, false⟩ 60) (fmOf df_law_pick) [ (PySem.Stmt.Return (value := (some (PySem.Expr.Subscript (value := (PySem.Expr.Name "row" ⟨59, 11, 59, 14⟩)) (slice := (PySem.Expr.Call (func := (PySem.Expr.Name "_law_draw" ⟨59, 15, 59, 24⟩)) (args := [ (PySem.Expr.Name "d" ⟨59, 25, 59, 26⟩), (PySem.Expr.Call (func := (PySem.Expr.Name "len" ⟨59, 28, 59, 31⟩)) (args := [(PySem.Expr.Name "row" ⟨59, 32, 59, 35⟩)]) (keywords := []) (pos := ⟨59, 28, 59, 36⟩))]) (keywords := []) (pos := ⟨59, 15, 59, 37⟩))) (pos := ⟨59, 11, 59, 38⟩)))) (pos := ⟨59, 4, 59, 38⟩))] [Sl.own true d0, Sl.val a0]) := runO_eq (k := 2) (m := 2) rfl rfl bd_law_pick rfl (show Sl.own true d0 :: (List.map Sl.val ([a0] : List D) ++ List.replicate (2 - 2) Sl.non) = [Sl.own true d0, Sl.val a0] from rfl)
theorem st_law_rare (cs : Cs) (d0 : Ct) (a0 : D) : runO cs df_law_rare d0 [a0] = valO (ssE (frame cs ⟨df_law_rare.drop, false⟩ 60) (fmOf df_law_rare) [ (PySem.Stmt.Return (value := (some (PySem.Expr.Compare (left := (PySem.Expr.Call (func := (PySem.Expr.Name "_law_draw" ⟨61, 11, 61, 20⟩)) (args := [(PySem.Expr.Name "d" ⟨61, 21, 61, 22⟩), (PySem.Expr.Name "many" ⟨61, 24, 61, 28⟩)]) (keywords := []) (pos := ⟨61, 11, 61, 29⟩))) (ops := [PySem.CmpOp.Eq]) (comparators := [ (PySem.Expr.BinOp (left := (PySem.Expr.Name "many" ⟨61, 33, 61, 37⟩)) (op := PySem.Operator.FloorDiv) (right := (PySem.Expr.Constant (PySem.Const.int 2) 0 ⟨61, 41, 61, 42⟩)) (pos := ⟨61, 33, 61, 42⟩))]) (pos := ⟨61, 11, 61, 42⟩)))) (pos := ⟨61, 4, 61, 42⟩))] [Sl.own true d0, Sl.val a0]) := runO_eq (k := 2) (m := 2) rfl rfl bd_law_rare rfl (show Sl.own true d0 :: (List.map Sl.val ([a0] : List D) ++ List.replicate (2 - 2) Sl.non) = [Sl.own true d0, Sl.val a0] from rfl)
theorem st_law_is_int (cs : Cs) (a0 : D) : runP cs df_law_is_int [a0] = valP (ssE (frame cs ⟨df_law_is_int.drop, false⟩ 60) (fmOf df_law_is_int) [ (PySem.Stmt.Return (value := (some (PySem.Expr.BoolOp (op := PySem.BoolOp.And) (values := [ (PySem.Expr.Call (func := (PySem.Expr.Name "isinstance" ⟨63, 11, 63, 21⟩)) (args := [(PySem.Expr.Name "thing" ⟨63, 22, 63, 27⟩), (PySem.Expr.Name "int" ⟨63, 29, 63, 32⟩)]) (keywords := []) (pos := ⟨63, 11, 63, 33⟩)), (PySem.Expr.UnaryOp (op := PySem.UnaryOp.Not) (operand := (PySem.Expr.Call (func := (PySem.Expr.Name "isinstance" ⟨63, 43, 63, 53⟩)) (args := [(PySem.Expr.Name "thing" ⟨63, 54, 63, 59⟩), (PySem.Expr.Name "bool" ⟨63, 61, 63, 65⟩)]) (keywords := []) (pos := ⟨63, 43, 63, 66⟩))) (pos := ⟨63, 39, 63, 66⟩))]) (pos := ⟨63, 11, 63, 67⟩)))) (pos := ⟨63, 4, 63, 67⟩))] [Sl.val a0]) := runP_eq (k := 1) (m := 1) rfl rfl bd_law_is_int rfl (show List.map Sl.val ([a0] : List D) ++ List.replicate (1 - 1) Sl.non = [Sl.val a0] from rfl)
theorem st_law_is_ints (cs : Cs) (a0 : D) : runP cs df_law_is_ints [a0] = valP (ssE (frame cs ⟨df_law_is_ints.drop, false⟩ 60) (fmOf df_law_is_ints) [ (PySem.Stmt.Return (value := (some (PySem.Expr.BoolOp (op := PySem.BoolOp.And) (values := [ (PySem.Expr.Call (func := (PySem.Expr.Name "isinstance" ⟨65, 11, 65, 21⟩)) (args := [(PySem.Expr.Name "row" ⟨65, 22, 65, 25⟩), (PySem.Expr.Name "tuple" ⟨65, 27, 65, 32⟩)]) (keywords := []) (pos := ⟨65, 11, 65, 33⟩)), (PySem.Expr.Call (func := (PySem.Expr.Name "all" ⟨65, 38, 65, 41⟩)) (args := [ (PySem.Expr.ListComp (elt := (PySem.Expr.Call (func := (PySem.Expr.Name "_law_is_int" ⟨65, 43, 65, 54⟩)) (args := [(PySem.Expr.Name "part" ⟨65, 55, 65, 59⟩)]) (keywords := []) (pos := ⟨65, 43, 65, 60⟩))) (generators := [ { target := (PySem.Expr.Name "part" ⟨65, 65, 65, 69⟩), iter := (PySem.Expr.Name "row" ⟨65, 73, 65, 76⟩), ifs := [], is_async := 0 : PySem.Comprehension }]) (scope := { kind := PySem.ScopeKind.function, names := [ (PySem.Str.ofString ".0", PySem.NameKind.local), (PySem.Str.ofString "part", PySem.NameKind.local), (PySem.Str.ofString "_law_is_int", PySem.NameKind.globalImplicit)], isGenerator := false, isCoroutine := false, more := [] : PySem.Scope }) (pos := ⟨65, 42, 65, 77⟩))]) (keywords := []) (pos := ⟨65, 38, 65, 78⟩))]) (pos := ⟨65, 11, 65, 78⟩)))) (pos := ⟨65, 4, 65, 78⟩))] [Sl.val a0, Sl.non]) := runP_eq (k := 1) (m := 2) rfl rfl bd_law_is_ints rfl (show List.map Sl.val ([a0] : List D) ++ List.replicate (2 - 1) Sl.non = [Sl.val a0, Sl.non] from rfl)
theorem st_law_doors (cs : Cs) (a0 : D) : runP cs df_law_doors [a0] = valP (ssE (frame cs ⟨df_law_doors.drop, false⟩ 60) (fmOf df_law_doors) [ (PySem.Stmt.Assign (targets := [(PySem.Expr.Name "most" ⟨67, 4, 67, 8⟩)]) (value := (PySem.Expr.Constant (PySem.Const.int 0) 0 ⟨67, 11, 67, 12⟩)) (pos := ⟨67, 4, 67, 12⟩)), (PySem.Stmt.For (target := (PySem.Expr.Name "line" ⟨68, 8, 68, 12⟩)) (iter := (PySem.Expr.Name "plan" ⟨68, 16, 68, 20⟩)) (body := [ (PySem.Stmt.For (target := (PySem.Expr.Name "char" ⟨69, 12, 69, 16⟩)) (iter := (PySem.Expr.Name "line" ⟨69, 20, 69, 24⟩)) (body := [ (PySem.Stmt.If (test := (PySem.Expr.Compare (left := (PySem.Expr.Name "char" ⟨70, 15, 70, 19⟩)) (ops := [PySem.CmpOp.In]) (comparators := [(PySem.Expr.Constant (PySem.Const.str "123456") 0 ⟨70, 23, 70, 31⟩)]) (pos := ⟨70, 15, 70, 31⟩))) (body := [ (PySem.Stmt.Assign (targets := [(PySem.Expr.Name "most" ⟨71, 16, 71, 20⟩)]) (value := (PySem.Expr.Call (func := (PySem.Expr.Name "max" ⟨71, 23, 71, 26⟩)) (args := [ (PySem.Expr.Name "most" ⟨71, 27, 71, 31⟩), (PySem.Expr.Call (func := (PySem.Expr.Name "int" ⟨71, 33, 71, 36⟩)) (args := [(PySem.Expr.Name "char" ⟨71, 37, 71, 41⟩)]) (keywords := []) (pos := ⟨71, 33, 71, 42⟩))]) (keywords := []) (pos := ⟨71, 23, 71, 43⟩))) (pos := ⟨71, 16, 71, 43⟩))]) (orelse := []) (pos := ⟨70, 12, 71, 43⟩)), (PySem.Stmt.If (test := (PySem.Expr.Compare (left := (PySem.Expr.Name "char" ⟨72, 15, 72, 19⟩)) (ops := [PySem.CmpOp.In]) (comparators := [(PySem.Expr.Constant (PySem.Const.str "ABCDEF") 0 ⟨72, 23, 72, 31⟩)]) (pos := ⟨72, 15, 72, 31⟩))) (body := [ (PySem.Stmt.Assign (targets := [(PySem.Expr.Name "most" ⟨73, 16, 73, 20⟩)]) (value := (PySem.Expr.Call (func := (PySem.Expr.Name "max" ⟨73, 23, 73, 26⟩)) (args := [ (PySem.Expr.Name "most" ⟨73, 27, 73, 31⟩), (PySem.Expr.BinOp (left := (PySem.Expr.Call (func := (PySem.Expr.Name "ord" ⟨73, 33, 73, 36⟩)) (args := [(PySem.Expr.Name "char" ⟨73, 37, 73, 41⟩)]) (keywords := []) (pos := ⟨73, 33, 73, 42⟩))) (op := PySem.Operator.Sub) (right := (PySem.Expr.Constant (PySem.Const.int 64) 0 ⟨73, 45, 73, 47⟩)) (pos := ⟨73, 33, 73, 47⟩))]) (keywords := []) (pos := ⟨73, 23, 73, 48⟩))) (pos := ⟨73, 16, 73, 48⟩))]) (orelse := []) (pos := ⟨72, 12, 73, 48⟩))]) (orelse := []) (pos := ⟨69, 8, 73, 48⟩))]) (orelse := []) (pos := ⟨68, 4, 73, 48⟩)), (PySem.Stmt.Return (some (PySem.Expr.Name "most" ⟨74, 11, 74, 15⟩)) ⟨74, 4, 74, 15⟩)] [Sl.val a0, Sl.non, Sl.non, Sl.non]) := runP_eq (k := 1) (m := 4) rfl rfl bd_law_doors rfl (show List.map Sl.val ([a0] : List D) ++ List.replicate (4 - 1) Sl.non = [Sl.val a0, Sl.non, Sl.non, Sl.non] from rfl)
theorem st_law_kind (cs : Cs) (a0 a1 a2 : D) : runP cs df_law_kind [a0, a1, a2] = valP (ssE (frame cs ⟨df_law_kind.drop, false⟩ 60) (fmOf df_law_kind) [ (PySem.Stmt.Assign (targets := [(PySem.Expr.Name "width" ⟨76, 4, 76, 9⟩)]) (value := (PySem.Expr.Call (func := (PySem.Expr.Name "len" ⟨76, 12, 76, 15⟩)) (args := [ (PySem.Expr.Subscript (value := (PySem.Expr.Name "plan" ⟨76, 16, 76, 20⟩)) (slice := (PySem.Expr.Constant (PySem.Const.int 0) 0 ⟨76, 21, 76, 22⟩)) (pos := ⟨76, 16, 76, 23⟩))]) (keywords := []) (pos := ⟨76, 12, 76, 24⟩))) (pos := ⟨76, 4, 76, 24⟩)), (PySem.Stmt.Assign (targets := [(PySem.Expr.Name "char" ⟨77, 4, 77, 8⟩)]) (value := (PySem.Expr.Subscript (value := (PySem.Expr.Subscript (value := (PySem.Expr.Name "plan" ⟨77, 11, 77, 15⟩)) (slice := (PySem.Expr.BinOp (left := (PySem.Expr.Name "cell" ⟨77, 16, 77, 20⟩)) (op := PySem.Operator.FloorDiv) (right := (PySem.Expr.Name "width" ⟨77, 24, 77, 29⟩)) (pos := ⟨77, 16, 77, 29⟩))) (pos := ⟨77, 11, 77, 30⟩))) (slice := (PySem.Expr.BinOp (left := (PySem.Expr.Call (func := (PySem.Expr.Name "int" ⟨77, 31, 77, 34⟩)) (args := [(PySem.Expr.Name "cell" ⟨77, 35, 77, 39⟩)]) (keywords := []) (pos := ⟨77, 31, 77, 40⟩))) (op := PySem.Operator.Mod) (right := (PySem.Expr.Name "width" ⟨77, 43, 77, 48⟩)) (pos := ⟨77, 31, 77, 48⟩))) (pos := ⟨77, 11, 77, 49⟩))) (pos := ⟨77, 4, 77, 49⟩)), (PySem.Stmt.If (test := (PySem.Expr.Compare (left := (PySem.Expr.Name "char" ⟨78, 7, 78, 11⟩)) (ops := [PySem.CmpOp.Eq]) (comparators := [(PySem.Expr.Constant (PySem.Const.str "#") 0 ⟨78, 15, 78, 18⟩)]) (pos := ⟨78, 7, 78, 18⟩))) (body := [(PySem.Stmt.Return (some (PySem.Expr.Constant (PySem.Const.str "wall") 0 ⟨79, 15, 79, 21⟩)) ⟨79, 8, 79, 21⟩)]) (orelse := []) (pos := ⟨78, 4, 79, 21⟩)), (PySem.Stmt.If (test := (PySem.Expr.Compare (left := (PySem.Expr.Name "char" ⟨80, 7, 80, 11⟩)) (ops := [PySem.CmpOp.Eq]) (comparators := [(PySem.Expr.Constant (PySem.Const.str "*") 0 ⟨80, 15, 80, 18⟩)]) (pos := ⟨80, 7, 80, 18⟩))) (body := [ (PySem.Stmt.Return (some (PySem.Expr.Constant (PySem.Const.str "glass") 0 ⟨81, 15, 81, 22⟩)) ⟨81, 8, 81, 22⟩)]) (orelse := []) (pos := ⟨80, 4, 81, 22⟩)), (PySem.Stmt.If (test := (PySem.Expr.Compare (left := (PySem.Expr.Name "char" ⟨82, 7, 82, 11⟩)) (ops := [PySem.CmpOp.Eq]) (comparators := [(PySem.Expr.Constant (PySem.Const.str "!") 0 ⟨82, 15, 82, 18⟩)]) (pos := ⟨82, 7, 82, 18⟩))) (body := [(PySem.Stmt.Return (some (PySem.Expr.Constant (PySem.Const.str "hole") 0 ⟨83, 15, 83, 21⟩)) ⟨83, 8, 83, 21⟩)]) (orelse := []) (pos := ⟨82, 4, 83, 21⟩)), (PySem.Stmt.If (test := (PySem.Expr.BoolOp (op := PySem.BoolOp.And) (values := [ (PySem.Expr.Compare (left := (PySem.Expr.Name "char" ⟨84, 7, 84, 11⟩)) (ops := [PySem.CmpOp.In]) (comparators := [(PySem.Expr.Constant (PySem.Const.str "123456") 0 ⟨84, 15, 84, 23⟩)]) (pos := ⟨84, 7, 84, 23⟩)), (PySem.Expr.Compare (left := (PySem.Expr.Subscript (value := (PySem.Expr.Name "setting" ⟨84, 28, 84, 35⟩)) (slice := (PySem.Expr.BinOp (left := (PySem.Expr.Call (func := (PySem.Expr.Name "int" ⟨84, 36, 84, 39⟩)) (args := [(PySem.Expr.Name "char" ⟨84, 40, 84, 44⟩)]) (keywords := []) (pos := ⟨84, 36, 84, 45⟩))) (op := PySem.Operator.Sub) (right := (PySem.Expr.Constant (PySem.Const.int 1) 0 ⟨84, 48, 84, 49⟩)) (pos := ⟨84, 36, 84, 49⟩))) (pos := ⟨84, 28, 84, 50⟩))) (ops := [PySem.CmpOp.Eq]) (comparators := [(PySem.Expr.Constant (PySem.Const.int 0) 0 ⟨84, 54, 84, 55⟩)]) (pos := ⟨84, 28, 84, 55⟩))]) (pos := ⟨84, 7, 84, 55⟩))) (body := [(PySem.Stmt.Return (some (PySem.Expr.Constant (PySem.Const.str "wall") 0 ⟨85, 15, 85, 21⟩)) ⟨85, 8, 85, 21⟩)]) (orelse := []) (pos := ⟨84, 4, 85, 21⟩)), (PySem.Stmt.If (test := (PySem.Expr.BoolOp (op := PySem.BoolOp.And) (values := [ (PySem.Expr.Compare (left := (PySem.Expr.Name "char" ⟨86, 7, 86, 11⟩)) (ops := [PySem.CmpOp.In]) (comparators := [(PySem.Expr.Constant (PySem.Const.str "ABCDEF") 0 ⟨86, 15, 86, 23⟩)]) (pos := ⟨86, 7, 86, 23⟩)), (PySem.Expr.Compare (left := (PySem.Expr.Subscript (value := (PySem.Expr.Name "setting" ⟨86, 28, 86, 35⟩)) (slice := (PySem.Expr.BinOp (left := (PySem.Expr.Call (func := (PySem.Expr.Name "ord" ⟨86, 36, 86, 39⟩)) (args := [(PySem.Expr.Name "char" ⟨86, 40, 86, 44⟩)]) (keywords := []) (pos := ⟨86, 36, 86, 45⟩))) (op := PySem.Operator.Sub) (right := (PySem.Expr.Constant (PySem.Const.int 65) 0 ⟨86, 48, 86, 50⟩)) (pos := ⟨86, 36, 86, 50⟩))) (pos := ⟨86, 28, 86, 51⟩))) (ops := [PySem.CmpOp.Eq]) (comparators := [(PySem.Expr.Constant (PySem.Const.int 1) 0 ⟨86, 55, 86, 56⟩)]) (pos := ⟨86, 28, 86, 56⟩))]) (pos := ⟨86, 7, 86, 56⟩))) (body := [(PySem.Stmt.Return (some (PySem.Expr.Constant (PySem.Const.str "hole") 0 ⟨87, 15, 87, 21⟩)) ⟨87, 8, 87, 21⟩)]) (orelse := []) (pos := ⟨86, 4, 87, 21⟩)), (PySem.Stmt.Return (some (PySem.Expr.Constant (PySem.Const.str "free") 0 ⟨88, 11, 88, 17⟩)) ⟨88, 4, 88, 17⟩)] [Sl.val a0, Sl.val a1, Sl.val a2, Sl.non, Sl.non]) := runP_eq (k := 3) (m := 5) rfl rfl bd_law_kind rfl (show List.map Sl.val ([a0, a1, a2] : List D) ++ List.replicate (5 - 3) Sl.non = [Sl.val a0, Sl.val a1, Sl.val a2, Sl.non, Sl.non] from rfl)
theorem st_law_next (cs : Cs) (a0 a1 a2 : D) : runP cs df_law_next [a0, a1, a2] = valP (ssE (frame cs ⟨df_law_next.drop, false⟩ 60) (fmOf df_law_next) [ (PySem.Stmt.Assign (targets := [(PySem.Expr.Name "width" ⟨90, 4, 90, 9⟩)]) (value := (PySem.Expr.Call (func := (PySem.Expr.Name "len" ⟨90, 12, 90, 15⟩)) (args := [ (PySem.Expr.Subscript (value := (PySem.Expr.Name "plan" ⟨90, 16, 90, 20⟩)) (slice := (PySem.Expr.Constant (PySem.Const.int 0) 0 ⟨90, 21, 90, 22⟩)) (pos := ⟨90, 16, 90, 23⟩))]) (keywords := []) (pos := ⟨90, 12, 90, 24⟩))) (pos := ⟨90, 4, 90, 24⟩)), (PySem.Stmt.Assign (targets := [(PySem.Expr.Name "line" ⟨91, 4, 91, 8⟩)]) (value := (PySem.Expr.BinOp (left := (PySem.Expr.BinOp (left := (PySem.Expr.BinOp (left := (PySem.Expr.Name "cell" ⟨91, 11, 91, 15⟩)) (op := PySem.Operator.FloorDiv) (right := (PySem.Expr.Name "width" ⟨91, 19, 91, 24⟩)) (pos := ⟨91, 11, 91, 24⟩))) (op := PySem.Operator.Add) (right := (PySem.Expr.Compare (left := (PySem.Expr.Name "direction" ⟨91, 28, 91, 37⟩)) (ops := [PySem.CmpOp.Eq]) (comparators := [(PySem.Expr.Constant (PySem.Const.int 2) 0 ⟨91, 41, 91, 42⟩)]) (pos := ⟨91, 28, 91, 42⟩))) (pos := ⟨91, 11, 91, 43⟩))) (op := PySem.Operator.Sub) (right := (PySem.Expr.Compare (left := (PySem.Expr.Name "direction" ⟨91, 47, 91, 56⟩)) (ops := [PySem.CmpOp.Eq]) (comparators := [(PySem.Expr.Constant (PySem.Const.int 0) 0 ⟨91, 60, 91, 61⟩)]) (pos := ⟨91, 47, 91, 61⟩))) (pos := ⟨91, 11, 91, 62⟩))) (pos := ⟨91, 4, 91, 62⟩)), (PySem.Stmt.Assign (targets := [(PySem.Expr.Name "column" ⟨92, 4, 92, 10⟩)]) (value := (PySem.Expr.BinOp (left := (PySem.Expr.BinOp (left := (PySem.Expr.BinOp (left := (PySem.Expr.Call (func := (PySem.Expr.Name "int" ⟨92, 13, 92, 16⟩)) (args := [(PySem.Expr.Name "cell" ⟨92, 17, 92, 21⟩)]) (keywords := []) (pos := ⟨92, 13, 92, 22⟩))) (op := PySem.Operator.Mod) (right := (PySem.Expr.Name "width" ⟨92, 25, 92, 30⟩)) (pos := ⟨92, 13, 92, 30⟩))) (op := PySem.Operator.Add) (right := (PySem.Expr.Compare (left := (PySem.Expr.Name "direction" ⟨92, 34, 92, 43⟩)) (ops := [PySem.CmpOp.Eq]) (comparators := [(PySem.Expr.Constant (PySem.Const.int 1) 0 ⟨92, 47, 92, 48⟩)]) (pos := ⟨92, 34, 92, 48⟩))) (pos := ⟨92, 13, 92, 49⟩))) (op := PySem.Operator.Sub) (right := (PySem.Expr.Compare (left := (PySem.Expr.Name "direction" ⟨92, 53, 92, 62⟩)) (ops := [PySem.CmpOp.Eq]) (comparators := [(PySem.Expr.Constant (PySem.Const.int 3) 0 ⟨92, 66, 92, 67⟩)]) (pos := ⟨92, 53, 92, 67⟩))) (pos := ⟨92, 13, 92, 68⟩))) (pos := ⟨92, 4, 92, 68⟩)), (PySem.Stmt.If (test := (PySem.Expr.BoolOp (op := PySem.BoolOp.And) (values := [ (PySem.Expr.Compare (left := (PySem.Expr.Constant (PySem.Const.int 0) 0 ⟨93, 7, 93, 8⟩)) (ops := [PySem.CmpOp.LtE, PySem.CmpOp.Lt]) (comparators := [ (PySem.Expr.Name "line" ⟨93, 12, 93, 16⟩), (PySem.Expr.Call (func := (PySem.Expr.Name "len" ⟨93, 19, 93, 22⟩)) (args := [(PySem.Expr.Name "plan" ⟨93, 23, 93, 27⟩)]) (keywords := []) (pos := ⟨93, 19, 93, 28⟩))]) (pos := ⟨93, 7, 93, 28⟩)), (PySem.Expr.Compare (left := (PySem.Expr.Constant (PySem.Const.int 0) 0 ⟨93, 33, 93, 34⟩)) (ops := [PySem.CmpOp.LtE, PySem.CmpOp.Lt]) (comparators := [(PySem.Expr.Name "column" ⟨93, 38, 93, 44⟩), (PySem.Expr.Name "width" ⟨93, 47, 93, 52⟩)]) (pos := ⟨93, 33, 93, 52⟩))]) (pos := ⟨93, 7, 93, 52⟩))) (body := [ (PySem.Stmt.Return (value := (some (PySem.Expr.BinOp (left := (PySem.Expr.BinOp (left := (PySem.Expr.Name "line" ⟨94, 15, 94, 19⟩)) (op := PySem.Operator.Mult) (right := (PySem.Expr.Name "width" ⟨94, 22, 94, 27⟩)) (pos := ⟨94, 15, 94, 27⟩))) (op := PySem.Operator.Add) (right := (PySem.Expr.Name "column" ⟨94, 30, 94, 36⟩)) (pos := ⟨94, 15, 94, 36⟩)))) (pos := ⟨94, 8, 94, 36⟩))]) (orelse := []) (pos := ⟨93, 4, 94, 36⟩)), (PySem.Stmt.Return (some (PySem.Expr.Constant PySem.Const.none 0 ⟨95, 11, 95, 15⟩)) ⟨95, 4, 95, 15⟩)] [Sl.val a0, Sl.val a1, Sl.val a2, Sl.non, Sl.non, Sl.non]) := runP_eq (k := 3) (m := 6) rfl rfl bd_law_next rfl (show List.map Sl.val ([a0, a1, a2] : List D) ++ List.replicate (6 - 3) Sl.non = [Sl.val a0, Sl.val a1, Sl.val a2, Sl.non, Sl.non, Sl.non] from rfl)
theorem st_law_product (cs : Cs) (a0 : D) : runP cs df_law_product [a0] = valP (ssE (frame cs ⟨df_law_product.drop, false⟩ 60) (fmOf df_law_product) [ (PySem.Stmt.Assign (targets := [(PySem.Expr.Name "found" ⟨97, 4, 97, 9⟩)]) (value := (PySem.Expr.List [(PySem.Expr.Tuple [] 0 ⟨97, 13, 97, 15⟩)] ⟨97, 12, 97, 16⟩)) (pos := ⟨97, 4, 97, 16⟩)), (PySem.Stmt.For (target := (PySem.Expr.Name "row" ⟨98, 8, 98, 11⟩)) (iter := (PySem.Expr.Name "rows" ⟨98, 15, 98, 19⟩)) (body := [ (PySem.Stmt.Assign (targets := [(PySem.Expr.Name "new" ⟨99, 8, 99, 11⟩)]) (value := (PySem.Expr.List [] ⟨99, 14, 99, 16⟩)) (pos := ⟨99, 8, 99, 16⟩)), (PySem.Stmt.For (target := (PySem.Expr.Name "one" ⟨100, 12, 100, 15⟩)) (iter := (PySem.Expr.Name "found" ⟨100, 19, 100, 24⟩)) (body := [ (PySem.Stmt.Assign (targets := [(PySem.Expr.Name "new" ⟨101, 12, 101, 15⟩)]) (value := (PySem.Expr.BinOp (left := (PySem.Expr.Name "new" ⟨101, 18, 101, 21⟩)) (op := PySem.Operator.Add) (right := (PySem.Expr.ListComp (elt := (PySem.Expr.BinOp (left := (PySem.Expr.Name "one" ⟨101, 25, 101, 28⟩)) (op := PySem.Operator.Add) (right := (PySem.Expr.Tuple [(PySem.Expr.Name "thing" ⟨101, 32, 101, 37⟩)] 0 ⟨101, 31, 101, 39⟩)) (pos := ⟨101, 25, 101, 39⟩))) (generators := [ { target := (PySem.Expr.Name "thing" ⟨101, 44, 101, 49⟩), iter := (PySem.Expr.Name "row" ⟨101, 53, 101, 56⟩), ifs := [], is_async := 0 : PySem.Comprehension }]) (scope := { kind := PySem.ScopeKind.function, names := [ (PySem.Str.ofString ".0", PySem.NameKind.local), (PySem.Str.ofString "thing", PySem.NameKind.local), (PySem.Str.ofString "one", PySem.NameKind.free)], isGenerator := false, isCoroutine := false, more := [] : PySem.Scope }) (pos := ⟨101, 24, 101, 57⟩))) (pos := ⟨101, 18, 101, 57⟩))) (pos := ⟨101, 12, 101, 57⟩))]) (orelse := []) (pos := ⟨100, 8, 101, 57⟩)), (PySem.Stmt.Assign (targets := [(PySem.Expr.Name "found" ⟨102, 8, 102, 13⟩)]) (value := (PySem.Expr.Name "new" ⟨102, 16, 102, 19⟩)) (pos := ⟨102, 8, 102, 19⟩))]) (orelse := []) (pos := ⟨98, 4, 102, 19⟩)), (PySem.Stmt.Return (some (PySem.Expr.Name "found" ⟨103, 11, 103, 16⟩)) ⟨103, 4, 103, 16⟩)] [Sl.val a0, Sl.non, Sl.non, Sl.non, Sl.non, Sl.non]) := runP_eq (k := 1) (m := 6) rfl rfl bd_law_product rfl (show List.map Sl.val ([a0] : List D) ++ List.replicate (6 - 1) Sl.non = [Sl.val a0, Sl.non, Sl.non, Sl.non, Sl.non, Sl.non] from rfl)
theorem st_law_walk (cs : Cs) (a0 a1 a2 a3 a4 : D) : runP cs df_law_walk [a0, a1, a2, a3, a4] = valP (ssE (frame cs ⟨df_law_walk.drop, false⟩ 60) (fmOf df_law_walk) [ (PySem.Stmt.Assign (targets := [(PySem.Expr.Name "way" ⟨105, 4, 105, 7⟩)]) (value := (PySem.Expr.Tuple [(PySem.Expr.Name "cell" ⟨105, 11, 105, 15⟩)] 0 ⟨105, 10, 105, 17⟩)) (pos := ⟨105, 4, 105, 17⟩)), (PySem.Stmt.For (target := (PySem.Expr.Name "turn" ⟨106, 8, 106, 12⟩)) (iter := (PySem.Expr.Name "trail" ⟨106, 16, 106, 21⟩)) (body := [ (PySem.Stmt.Assign (targets := [(PySem.Expr.Name "other" ⟨107, 8, 107, 13⟩)]) (value := (PySem.Expr.Call (func := (PySem.Expr.Name "_law_next" ⟨107, 16, 107, 25⟩)) (args := [ (PySem.Expr.Name "plan" ⟨107, 26, 107, 30⟩), (PySem.Expr.Subscript (value := (PySem.Expr.Name "way" ⟨107, 32, 107, 35⟩)) (slice := (PySem.Expr.UnaryOp (op := PySem.UnaryOp.USub) (operand := (PySem.Expr.Constant (PySem.Const.int 1) 0 ⟨107, 37, 107, 38⟩)) (pos := ⟨107, 36, 107, 38⟩))) (pos := ⟨107, 32, 107, 39⟩)), (PySem.Expr.BinOp (left := (PySem.Expr.Call (func := (PySem.Expr.Name "int" ⟨107, 41, 107, 44⟩)) (args := [ (PySem.Expr.BinOp (left := (PySem.Expr.Name "direction" ⟨107, 45, 107, 54⟩)) (op := PySem.Operator.Add) (right := (PySem.Expr.Name "turn" ⟨107, 57, 107, 61⟩)) (pos := ⟨107, 45, 107, 61⟩))]) (keywords := []) (pos := ⟨107, 41, 107, 62⟩))) (op := PySem.Operator.Mod) (right := (PySem.Expr.Constant (PySem.Const.int 4) 0 ⟨107, 65, 107, 66⟩)) (pos := ⟨107, 41, 107, 66⟩))]) (keywords := []) (pos := ⟨107, 16, 107, 67⟩))) (pos := ⟨107, 8, 107, 67⟩)), (PySem.Stmt.Assign (targets := [(PySem.Expr.Name "kind" ⟨108, 8, 108, 12⟩)]) (value := (PySem.Expr.Constant (PySem.Const.str "wall") 0 ⟨108, 15, 108, 21⟩)) (pos := ⟨108, 8, 108, 21⟩)), (PySem.Stmt.If (test := (PySem.Expr.Compare (left := (PySem.Expr.Name "other" ⟨109, 11, 109, 16⟩)) (ops := [PySem.CmpOp.IsNot]) (comparators := [(PySem.Expr.Constant PySem.Const.none 0 ⟨109, 24, 109, 28⟩)]) (pos := ⟨109, 11, 109, 28⟩))) (body := [ (PySem.Stmt.Assign (targets := [(PySem.Expr.Name "kind" ⟨110, 12, 110, 16⟩)]) (value := (PySem.Expr.Call (func := (PySem.Expr.Name "_law_kind" ⟨110, 19, 110, 28⟩)) (args := [ (PySem.Expr.Name "plan" ⟨110, 29, 110, 33⟩), (PySem.Expr.Name "setting" ⟨110, 35, 110, 42⟩), (PySem.Expr.Name "other" ⟨110, 44, 110, 49⟩)]) (keywords := []) (pos := ⟨110, 19, 110, 50⟩))) (pos := ⟨110, 12, 110, 50⟩))]) (orelse := []) (pos := ⟨109, 8, 110, 50⟩)), (PySem.Stmt.If (test := (PySem.Expr.Compare (left := (PySem.Expr.Name "kind" ⟨111, 11, 111, 15⟩)) (ops := [PySem.CmpOp.Eq]) (comparators := [(PySem.Expr.Constant (PySem.Const.str "wall") 0 ⟨111, 19, 111, 25⟩)]) (pos := ⟨111, 11, 111, 25⟩))) (body := [ (PySem.Stmt.Return (value := (some (PySem.Expr.Tuple (elts := [ (PySem.Expr.Constant (PySem.Const.bool false) 0 ⟨112, 20, 112, 25⟩), (PySem.Expr.Name "way" ⟨112, 27, 112, 30⟩), (PySem.Expr.Constant (PySem.Const.int 1) 0 ⟨112, 32, 112, 33⟩)]) (k := 0) (pos := ⟨112, 19, 112, 34⟩)))) (pos := ⟨112, 12, 112, 34⟩))]) (orelse := []) (pos := ⟨111, 8, 112, 34⟩)), (PySem.Stmt.Assign (targets := [(PySem.Expr.Name "way" ⟨113, 8, 113, 11⟩)]) (value := (PySem.Expr.BinOp (left := (PySem.Expr.Name "way" ⟨113, 14, 113, 17⟩)) (op := PySem.Operator.Add) (right := (PySem.Expr.Tuple [(PySem.Expr.Name "other" ⟨113, 21, 113, 26⟩)] 0 ⟨113, 20, 113, 28⟩)) (pos := ⟨113, 14, 113, 28⟩))) (pos := ⟨113, 8, 113, 28⟩)), (PySem.Stmt.If (test := (PySem.Expr.Compare (left := (PySem.Expr.Name "kind" ⟨114, 11, 114, 15⟩)) (ops := [PySem.CmpOp.NotEq]) (comparators := [(PySem.Expr.Constant (PySem.Const.str "free") 0 ⟨114, 19, 114, 25⟩)]) (pos := ⟨114, 11, 114, 25⟩))) (body := [ (PySem.Stmt.Return (value := (some (PySem.Expr.Tuple (elts := [ (PySem.Expr.Constant (PySem.Const.bool true) 0 ⟨115, 20, 115, 24⟩), (PySem.Expr.Name "way" ⟨115, 26, 115, 29⟩), (PySem.Expr.Constant (PySem.Const.int 0) 0 ⟨115, 31, 115, 32⟩)]) (k := 0) (pos := ⟨115, 19, 115, 33⟩)))) (pos := ⟨115, 12, 115, 33⟩))]) (orelse := []) (pos := ⟨114, 8, 115, 33⟩))]) (orelse := []) (pos := ⟨106, 4, 115, 33⟩)), (PySem.Stmt.Return (value := (some (PySem.Expr.Tuple (elts := [ (PySem.Expr.Constant (PySem.Const.bool false) 0 ⟨116, 12, 116, 17⟩), (PySem.Expr.Name "way" ⟨116, 19, 116, 22⟩), (PySem.Expr.Constant (PySem.Const.int 0) 0 ⟨116, 24, 116, 25⟩)]) (k := 0) (pos := ⟨116, 11, 116, 26⟩)))) (pos := ⟨116, 4, 116, 26⟩))] [Sl.val a0, Sl.val a1, Sl.val a2, Sl.val a3, Sl.val a4, Sl.non, Sl.non, Sl.non, Sl.non]) := runP_eq (k := 5) (m := 9) rfl rfl bd_law_walk rfl (show List.map Sl.val ([a0, a1, a2, a3, a4] : List D) ++ List.replicate (9 - 5) Sl.non = [Sl.val a0, Sl.val a1, Sl.val a2, Sl.val a3, Sl.val a4, Sl.non, Sl.non, Sl.non, Sl.non] from rfl)
theorem st_law_free_cells (cs : Cs) (a0 a1 : D) : runP cs df_law_free_cells [a0, a1] = valP (ssE (frame cs ⟨df_law_free_cells.drop, false⟩ 60) (fmOf df_law_free_cells) [ (PySem.Stmt.Assign (targets := [(PySem.Expr.Name "found" ⟨118, 4, 118, 9⟩)]) (value := (PySem.Expr.List [] ⟨118, 12, 118, 14⟩)) (pos := ⟨118, 4, 118, 14⟩)), (PySem.Stmt.For (target := (PySem.Expr.Name "cell" ⟨119, 8, 119, 12⟩)) (iter := (PySem.Expr.Call (func := (PySem.Expr.Name "range" ⟨119, 16, 119, 21⟩)) (args := [ (PySem.Expr.BinOp (left := (PySem.Expr.Call (func := (PySem.Expr.Name "len" ⟨119, 22, 119, 25⟩)) (args := [(PySem.Expr.Name "plan" ⟨119, 26, 119, 30⟩)]) (keywords := []) (pos := ⟨119, 22, 119, 31⟩))) (op := PySem.Operator.Mult) (right := (PySem.Expr.Call (func := (PySem.Expr.Name "len" ⟨119, 34, 119, 37⟩)) (args := [ (PySem.Expr.Subscript (value := (PySem.Expr.Name "plan" ⟨119, 38, 119, 42⟩)) (slice := (PySem.Expr.Constant (PySem.Const.int 0) 0 ⟨119, 43, 119, 44⟩)) (pos := ⟨119, 38, 119, 45⟩))]) (keywords := []) (pos := ⟨119, 34, 119, 46⟩))) (pos := ⟨119, 22, 119, 46⟩))]) (keywords := []) (pos := ⟨119, 16, 119, 47⟩))) (body := [ (PySem.Stmt.If (test := (PySem.Expr.Call (func := (PySem.Expr.Name "any" ⟨120, 11, 120, 14⟩)) (args := [ (PySem.Expr.ListComp (elt := (PySem.Expr.Compare (left := (PySem.Expr.Call (func := (PySem.Expr.Name "_law_kind" ⟨120, 16, 120, 25⟩)) (args := [ (PySem.Expr.Name "plan" ⟨120, 26, 120, 30⟩), (PySem.Expr.Name "setting" ⟨120, 32, 120, 39⟩), (PySem.Expr.Name "cell" ⟨120, 41, 120, 45⟩)]) (keywords := []) (pos := ⟨120, 16, 120, 46⟩))) (ops := [PySem.CmpOp.Eq]) (comparators := [(PySem.Expr.Constant (PySem.Const.str "free") 0 ⟨120, 50, 120, 56⟩)]) (pos := ⟨120, 16, 120, 56⟩))) (generators := [ { target := (PySem.Expr.Name "setting" ⟨120, 61, 120, 68⟩), iter := (PySem.Expr.Name "settings" ⟨120, 72, 120, 80⟩), ifs := [], is_async := 0 : PySem.Comprehension }]) (scope := { kind := PySem.ScopeKind.function, names := [ (PySem.Str.ofString ".0", PySem.NameKind.local), (PySem.Str.ofString "setting", PySem.NameKind.local), (PySem.Str.ofString "_law_kind", PySem.NameKind.globalImplicit), (PySem.Str.ofString "cell", PySem.NameKind.free), (PySem.Str.ofString "plan", PySem.NameKind.free)], isGenerator := false, isCoroutine := false, more := [] : PySem.Scope }) (pos := ⟨120, 15, 120, 81⟩))]) (keywords := []) (pos := ⟨120, 11, 120, 82⟩))) (body := [ (PySem.Stmt.Expr (value := (PySem.Expr.Call (func := (PySem.Expr.Attribute (PySem.Expr.Name "found" ⟨121, 12, 121, 17⟩) "append" ⟨121, 12, 121, 24⟩)) (args := [(PySem.Expr.Name "cell" ⟨121, 25, 121, 29⟩)]) (keywords := []) (pos := ⟨121, 12, 121, 30⟩))) (pos := ⟨121, 12, 121, 30⟩))]) (orelse := []) (pos := ⟨120, 8, 121, 30⟩))]) (orelse := []) (pos := ⟨119, 4, 121, 30⟩)), (PySem.Stmt.Return (value := (some (PySem.Expr.Call (func := (PySem.Expr.Name "tuple" ⟨122, 11, 122, 16⟩)) (args := [(PySem.Expr.Name "found" ⟨122, 17, 122, 22⟩)]) (keywords := []) (pos := ⟨122, 11, 122, 23⟩)))) (pos := ⟨122, 4, 122, 23⟩))] [Sl.val a0, Sl.val a1, Sl.non, Sl.non, Sl.non]) := runP_eq (k := 2) (m := 5) rfl rfl bd_law_free_cells rfl (show List.map Sl.val ([a0, a1] : List D) ++ List.replicate (5 - 2) Sl.non = [Sl.val a0, Sl.val a1, Sl.non, Sl.non, Sl.non] from rfl)
theorem st_law_floor (cs : Cs) (d0 : Ct) : runO cs df_law_floor d0 [] = valO (ssE (frame cs ⟨df_law_floor.drop, false⟩ 60) (fmOf df_law_floor) [ (PySem.Stmt.Assign (targets := [(PySem.Expr.Name "lines" ⟨124, 4, 124, 9⟩)]) (value := (PySem.Expr.BinOp (left := (PySem.Expr.Constant (PySem.Const.int 1) 0 ⟨124, 12, 124, 13⟩)) (op := PySem.Operator.Add) (right := (PySem.Expr.Call (func := (PySem.Expr.Name "_law_draw" ⟨124, 16, 124, 25⟩)) (args := [(PySem.Expr.Name "d" ⟨124, 26, 124, 27⟩), (PySem.Expr.Constant (PySem.Const.int 3) 0 ⟨124, 29, 124, 30⟩)]) (keywords := []) (pos := ⟨124, 16, 124, 31⟩))) (pos := ⟨124, 12, 124, 31⟩))) (pos := ⟨124, 4, 124, 31⟩)), (PySem.Stmt.Assign (targets := [(PySem.Expr.Name "width" ⟨125, 4, 125, 9⟩)]) (value := (PySem.Expr.BinOp (left := (PySem.Expr.Constant (PySem.Const.int 1) 0 ⟨125, 12, 125, 13⟩)) (op := PySem.Operator.Add) (right := (PySem.Expr.Call (func := (PySem.Expr.Name "_law_draw" ⟨125, 16, 125, 25⟩)) (args := [(PySem.Expr.Name "d" ⟨125, 26, 125, 27⟩), (PySem.Expr.Constant (PySem.Const.int 4) 0 ⟨125, 29, 125, 30⟩)]) (keywords := []) (pos := ⟨125, 16, 125, 31⟩))) (pos := ⟨125, 12, 125, 31⟩))) (pos := ⟨125, 4, 125, 31⟩)), (PySem.Stmt.If (test := (PySem.Expr.Call (func := (PySem.Expr.Name "_law_rare" ⟨126, 7, 126, 16⟩)) (args := [(PySem.Expr.Name "d" ⟨126, 17, 126, 18⟩), (PySem.Expr.Constant (PySem.Const.int 8) 0 ⟨126, 20, 126, 21⟩)]) (keywords := []) (pos := ⟨126, 7, 126, 22⟩))) (body := [ (PySem.Stmt.Assign (targets := [(PySem.Expr.Name "lines" ⟨127, 8, 127, 13⟩)]) (value := (PySem.Expr.BinOp (left := (PySem.Expr.Constant (PySem.Const.int 1) 0 ⟨127, 16, 127, 17⟩)) (op := PySem.Operator.Add) (right := (PySem.Expr.Call (func := (PySem.Expr.Name "_law_draw" ⟨127, 20, 127, 29⟩)) (args := [(PySem.Expr.Name "d" ⟨127, 30, 127, 31⟩), (PySem.Expr.Constant (PySem.Const.int 8) 0 ⟨127, 33, 127, 34⟩)]) (keywords := []) (pos := ⟨127, 20, 127, 35⟩))) (pos := ⟨127, 16, 127, 35⟩))) (pos := ⟨127, 8, 127, 35⟩)), (PySem.Stmt.Assign (targets := [(PySem.Expr.Name "width" ⟨128, 8, 128, 13⟩)]) (value := (PySem.Expr.BinOp (left := (PySem.Expr.Constant (PySem.Const.int 1) 0 ⟨128, 16, 128, 17⟩)) (op := PySem.Operator.Add) (right := (PySem.Expr.Call (func := (PySem.Expr.Name "_law_draw" ⟨128, 20, 128, 29⟩)) (args := [(PySem.Expr.Name "d" ⟨128, 30, 128, 31⟩), (PySem.Expr.Constant (PySem.Const.int 8) 0 ⟨128, 33, 128, 34⟩)]) (keywords := []) (pos := ⟨128, 20, 128, 35⟩))) (pos := ⟨128, 16, 128, 35⟩))) (pos := ⟨128, 8, 128, 35⟩))]) (orelse := []) (pos := ⟨126, 4, 128, 35⟩)), (PySem.Stmt.Assign (targets := [(PySem.Expr.Name "menu" ⟨129, 4, 129, 8⟩)]) (value := (PySem.Expr.Call (func := (PySem.Expr.Name "_law_pick" ⟨129, 11, 129, 20⟩)) (args := [ (PySem.Expr.Name "d" ⟨129, 21, 129, 22⟩), (PySem.Expr.List (elts := [ (PySem.Expr.Constant (PySem.Const.str "......,,+ab1A#*!") 0 ⟨129, 25, 129, 43⟩), (PySem.Expr.Constant (PySem.Const.str "....,+abcdefgh123456ABCDEF#*!") 0 ⟨129, 45, 129, 76⟩), (PySem.Expr.Constant (PySem.Const.str "..,,1122AABB##**!!") 0 ⟨129, 78, 129, 98⟩), (PySem.Expr.Constant (PySem.Const.str "...........,,,,6F#") 0 ⟨129, 100, 129, 120⟩)]) (pos := ⟨129, 24, 129, 121⟩))]) (keywords := []) (pos := ⟨129, 11, 129, 122⟩))) (pos := ⟨129, 4, 129, 122⟩)), (PySem.Stmt.Assign (targets := [(PySem.Expr.Name "plan" ⟨130, 4, 130, 8⟩)]) (value := (PySem.Expr.List [] ⟨130, 11, 130, 13⟩)) (pos := ⟨130, 4, 130, 13⟩)), (PySem.Stmt.For (target := (PySem.Expr.Name "line" ⟨131, 8, 131, 12⟩)) (iter := (PySem.Expr.Call (func := (PySem.Expr.Name "range" ⟨131, 16, 131, 21⟩)) (args := [(PySem.Expr.Name "lines" ⟨131, 22, 131, 27⟩)]) (keywords := []) (pos := ⟨131, 16, 131, 28⟩))) (body := [ (PySem.Stmt.Expr (value := (PySem.Expr.Call (func := (PySem.Expr.Attribute (PySem.Expr.Name "plan" ⟨132, 8, 132, 12⟩) "append" ⟨132, 8, 132, 19⟩)) (args := [ (PySem.Expr.Call (func := (PySem.Expr.Attribute (value := (PySem.Expr.Constant (PySem.Const.str "") 0 ⟨132, 20, 132, 22⟩)) (attr := "join") (pos := ⟨132, 20, 132, 27⟩))) (args := [ (PySem.Expr.ListComp (elt := (PySem.Expr.Call (func := (PySem.Expr.Name "_law_pick" ⟨132, 29, 132, 38⟩)) (args := [(PySem.Expr.Name "d" ⟨132, 39, 132, 40⟩), (PySem.Expr.Name "menu" ⟨132, 42, 132, 46⟩)]) (keywords := []) (pos := ⟨132, 29, 132, 47⟩))) (generators := [ { target := (PySem.Expr.Name "column" ⟨132, 52, 132, 58⟩), iter := (PySem.Expr.Call (func := (PySem.Expr.Name "range" ⟨132, 62, 132, 67⟩)) (args := [(PySem.Expr.Name "width" ⟨132, 68, 132, 73⟩)]) (keywords := []) (pos := ⟨132, 62, 132, 74⟩)), ifs := [], is_async := 0 : PySem.Comprehension }]) (scope := { kind := PySem.ScopeKind.function, names := [ (PySem.Str.ofString ".0", PySem.NameKind.local), (PySem.Str.ofString "column", PySem.NameKind.local), (PySem.Str.ofString "_law_pick", PySem.NameKind.globalImplicit), (PySem.Str.ofString "d", PySem.NameKind.free), (PySem.Str.ofString "menu", PySem.NameKind.free)], isGenerator := false, isCoroutine := false, more := [] : PySem.Scope }) (pos := ⟨132, 28, 132, 75⟩))]) (keywords := []) (pos := ⟨132, 20, 132, 76⟩))]) (keywords := []) (pos := ⟨132, 8, 132, 77⟩))) (pos := ⟨132, 8, 132, 77⟩))]) (orelse := []) (pos := ⟨131, 4, 132, 77⟩)), (PySem.Stmt.Return (value := (some (PySem.Expr.Call (func := (PySem.Expr.Name "tuple" ⟨133, 11, 133, 16⟩)) (args := [(PySem.Expr.Name "plan" ⟨133, 17, 133, 21⟩)]) (keywords := []) (pos := ⟨133, 11, 133, 22⟩)))) (pos := ⟨133, 4, 133, 22⟩))] [Sl.own true d0, Sl.non, Sl.non, Sl.non, Sl.non, Sl.non, Sl.non]) := runO_eq (k := 1) (m := 7) rfl rfl bd_law_floor rfl (show Sl.own true d0 :: (List.map Sl.val ([] : List D) ++ List.replicate (7 - 1) Sl.non) = [Sl.own true d0, Sl.non, Sl.non, Sl.non, Sl.non, Sl.non, Sl.non] from rfl)
theorem st_law_ground (cs : Cs) (d0 : Ct) : runO cs df_law_ground d0 [] = valO (ssE (frame cs ⟨df_law_ground.drop, false⟩ 60) (fmOf df_law_ground) [ (PySem.Stmt.Assign (targets := [(PySem.Expr.Name "plan" ⟨135, 4, 135, 8⟩)]) (value := (PySem.Expr.Call (func := (PySem.Expr.Name "_law_floor" ⟨135, 11, 135, 21⟩)) (args := [(PySem.Expr.Name "d" ⟨135, 22, 135, 23⟩)]) (keywords := []) (pos := ⟨135, 11, 135, 24⟩))) (pos := ⟨135, 4, 135, 24⟩)), (PySem.Stmt.Assign (targets := [(PySem.Expr.Name "setting" ⟨136, 4, 136, 11⟩)]) (value := (PySem.Expr.Call (func := (PySem.Expr.Name "tuple" ⟨136, 14, 136, 19⟩)) (args := [ (PySem.Expr.ListComp (elt := (PySem.Expr.Call (func := (PySem.Expr.Name "_law_draw" ⟨136, 21, 136, 30⟩)) (args := [(PySem.Expr.Name "d" ⟨136, 31, 136, 32⟩), (PySem.Expr.Constant (PySem.Const.int 2) 0 ⟨136, 34, 136, 35⟩)]) (keywords := []) (pos := ⟨136, 21, 136, 36⟩))) (generators := [ { target := (PySem.Expr.Name "k" ⟨136, 41, 136, 42⟩), iter := (PySem.Expr.Call (func := (PySem.Expr.Name "range" ⟨136, 46, 136, 51⟩)) (args := [ (PySem.Expr.Call (func := (PySem.Expr.Name "_law_doors" ⟨136, 52, 136, 62⟩)) (args := [(PySem.Expr.Name "plan" ⟨136, 63, 136, 67⟩)]) (keywords := []) (pos := ⟨136, 52, 136, 68⟩))]) (keywords := []) (pos := ⟨136, 46, 136, 69⟩)), ifs := [], is_async := 0 : PySem.Comprehension }]) (scope := { kind := PySem.ScopeKind.function, names := [ (PySem.Str.ofString ".0", PySem.NameKind.local), (PySem.Str.ofString "k", PySem.NameKind.local), (PySem.Str.ofString "_law_draw", PySem.NameKind.globalImplicit), (PySem.Str.ofString "d", PySem.NameKind.free)], isGenerator := false, isCoroutine := false, more := [] : PySem.Scope }) (pos := ⟨136, 20, 136, 70⟩))]) (keywords := []) (pos := ⟨136, 14, 136, 71⟩))) (pos := ⟨136, 4, 136, 71⟩)), (PySem.Stmt.Assign (targets := [(PySem.Expr.Name "free" ⟨137, 4, 137, 8⟩)]) (value := (PySem.Expr.Call (func := (PySem.Expr.Name "_law_free_cells" ⟨137, 11, 137, 26⟩)) (args := [ (PySem.Expr.Name "plan" ⟨137, 27, 137, 31⟩), (PySem.Expr.Tuple [(PySem.Expr.Name "setting" ⟨137, 34, 137, 41⟩)] 0 ⟨137, 33, 137, 43⟩)]) (keywords := []) (pos := ⟨137, 11, 137, 44⟩))) (pos := ⟨137, 4, 137, 44⟩)), (PySem.Stmt.If (test := (PySem.Expr.Compare (left := (PySem.Expr.Call (func := (PySem.Expr.Name "len" ⟨138, 7, 138, 10⟩)) (args := [(PySem.Expr.Name "free" ⟨138, 11, 138, 15⟩)]) (keywords := []) (pos := ⟨138, 7, 138, 16⟩))) (ops := [PySem.CmpOp.Eq]) (comparators := [(PySem.Expr.Constant (PySem.Const.int 0) 0 ⟨138, 20, 138, 21⟩)]) (pos := ⟨138, 7, 138, 21⟩))) (body := [ (PySem.Stmt.Assign (targets := [(PySem.Expr.Name "plan" ⟨139, 8, 139, 12⟩)]) (value := (PySem.Expr.BinOp (left := (PySem.Expr.Tuple (elts := [ (PySem.Expr.BinOp (left := (PySem.Expr.Constant (PySem.Const.str ".") 0 ⟨139, 16, 139, 19⟩)) (op := PySem.Operator.Add) (right := (PySem.Expr.Subscript (value := (PySem.Expr.Subscript (value := (PySem.Expr.Name "plan" ⟨139, 22, 139, 26⟩)) (slice := (PySem.Expr.Constant (PySem.Const.int 0) 0 ⟨139, 27, 139, 28⟩)) (pos := ⟨139, 22, 139, 29⟩))) (slice := (PySem.Expr.Slice (lower := (some (PySem.Expr.Constant (PySem.Const.int 1) 0 ⟨139, 30, 139, 31⟩))) (upper := none) (step := none) (pos := ⟨139, 30, 139, 32⟩))) (pos := ⟨139, 22, 139, 33⟩))) (pos := ⟨139, 16, 139, 33⟩))]) (k := 0) (pos := ⟨139, 15, 139, 35⟩))) (op := PySem.Operator.Add) (right := (PySem.Expr.Subscript (value := (PySem.Expr.Name "plan" ⟨139, 38, 139, 42⟩)) (slice := (PySem.Expr.Slice (lower := (some (PySem.Expr.Constant (PySem.Const.int 1) 0 ⟨139, 43, 139, 44⟩))) (upper := none) (step := none) (pos := ⟨139, 43, 139, 45⟩))) (pos := ⟨139, 38, 139, 46⟩))) (pos := ⟨139, 15, 139, 46⟩))) (pos := ⟨139, 8, 139, 46⟩)), (PySem.Stmt.Assign (targets := [(PySem.Expr.Name "setting" ⟨140, 8, 140, 15⟩)]) (value := (PySem.Expr.Subscript (value := (PySem.Expr.Name "setting" ⟨140, 18, 140, 25⟩)) (slice := (PySem.Expr.Slice (lower := none) (upper := (some (PySem.Expr.Call (func := (PySem.Expr.Name "_law_doors" ⟨140, 27, 140, 37⟩)) (args := [(PySem.Expr.Name "plan" ⟨140, 38, 140, 42⟩)]) (keywords := []) (pos := ⟨140, 27, 140, 43⟩)))) (step := none) (pos := ⟨140, 26, 140, 43⟩))) (pos := ⟨140, 18, 140, 44⟩))) (pos := ⟨140, 8, 140, 44⟩)), (PySem.Stmt.Assign (targets := [(PySem.Expr.Name "free" ⟨141, 8, 141, 12⟩)]) (value := (PySem.Expr.Call (func := (PySem.Expr.Name "_law_free_cells" ⟨141, 15, 141, 30⟩)) (args := [ (PySem.Expr.Name "plan" ⟨141, 31, 141, 35⟩), (PySem.Expr.Tuple [(PySem.Expr.Name "setting" ⟨141, 38, 141, 45⟩)] 0 ⟨141, 37, 141, 47⟩)]) (keywords := []) (pos := ⟨141, 15, 141, 48⟩))) (pos := ⟨141, 8, 141, 48⟩))]) (orelse := []) (pos := ⟨138, 4, 141, 48⟩)), (PySem.Stmt.Return (value := (some (PySem.Expr.Tuple (elts := [ (PySem.Expr.Name "plan" ⟨142, 12, 142, 16⟩), (PySem.Expr.Name "setting" ⟨142, 18, 142, 25⟩), (PySem.Expr.Name "free" ⟨142, 27, 142, 31⟩)]) (k := 0) (pos := ⟨142, 11, 142, 32⟩)))) (pos := ⟨142, 4, 142, 32⟩))] [Sl.own true d0, Sl.non, Sl.non, Sl.non, Sl.non]) := runO_eq (k := 1) (m := 5) rfl rfl bd_law_ground rfl (show Sl.own true d0 :: (List.map Sl.val ([] : List D) ++ List.replicate (5 - 1) Sl.non) = [Sl.own true d0, Sl.non, Sl.non, Sl.non, Sl.non] from rfl)
theorem st_law_trail (cs : Cs) (d0 : Ct) : runO cs df_law_trail d0 [] = valO (ssE (frame cs ⟨df_law_trail.drop, false⟩ 60) (fmOf df_law_trail) [ (PySem.Stmt.Return (value := (some (PySem.Expr.Call (func := (PySem.Expr.Name "tuple" ⟨144, 11, 144, 16⟩)) (args := [ (PySem.Expr.ListComp (elt := (PySem.Expr.Call (func := (PySem.Expr.Name "_law_draw" ⟨144, 18, 144, 27⟩)) (args := [(PySem.Expr.Name "d" ⟨144, 28, 144, 29⟩), (PySem.Expr.Constant (PySem.Const.int 4) 0 ⟨144, 31, 144, 32⟩)]) (keywords := []) (pos := ⟨144, 18, 144, 33⟩))) (generators := [ { target := (PySem.Expr.Name "k" ⟨144, 38, 144, 39⟩), iter := (PySem.Expr.Call (func := (PySem.Expr.Name "range" ⟨144, 43, 144, 48⟩)) (args := [ (PySem.Expr.Subscript (value := (PySem.Expr.List (elts := [ (PySem.Expr.Constant (PySem.Const.int 1) 0 ⟨144, 50, 144, 51⟩), (PySem.Expr.Constant (PySem.Const.int 2) 0 ⟨144, 53, 144, 54⟩), (PySem.Expr.Constant (PySem.Const.int 3) 0 ⟨144, 56, 144, 57⟩), (PySem.Expr.Constant (PySem.Const.int 3) 0 ⟨144, 59, 144, 60⟩), (PySem.Expr.Constant (PySem.Const.int 0) 0 ⟨144, 62, 144, 63⟩), (PySem.Expr.Constant (PySem.Const.int 1) 0 ⟨144, 65, 144, 66⟩), (PySem.Expr.Constant (PySem.Const.int 2) 0 ⟨144, 68, 144, 69⟩), (PySem.Expr.Constant (PySem.Const.int 3) 0 ⟨144, 71, 144, 72⟩)]) (pos := ⟨144, 49, 144, 73⟩))) (slice := (PySem.Expr.Call (func := (PySem.Expr.Name "_law_draw" ⟨144, 74, 144, 83⟩)) (args := [(PySem.Expr.Name "d" ⟨144, 84, 144, 85⟩), (PySem.Expr.Constant (PySem.Const.int 8) 0 ⟨144, 87, 144, 88⟩)]) (keywords := []) (pos := ⟨144, 74, 144, 89⟩))) (pos := ⟨144, 49, 144, 90⟩))]) (keywords := []) (pos := ⟨144, 43, 144, 91⟩)), ifs := [], is_async := 0 : PySem.Comprehension }]) (scope := { kind := PySem.ScopeKind.function, names := [ (PySem.Str.ofString ".0", PySem.NameKind.local), (PySem.Str.ofString "k", PySem.NameKind.local), (PySem.Str.ofString "_law_draw", PySem.NameKind.globalImplicit), (PySem.Str.ofString "d", PySem.NameKind.free)], isGenerator := false, isCoroutine := false, more := [] : PySem.Scope }) (pos := ⟨144, 17, 144, 92⟩))]) (keywords := []) (pos := ⟨144, 11, 144, 93⟩)))) (pos := ⟨144, 4, 144, 93⟩))] [Sl.own true d0, Sl.non]) := runO_eq (k := 1) (m := 2) rfl rfl bd_law_trail rfl (show Sl.own true d0 :: (List.map Sl.val ([] : List D) ++ List.replicate (2 - 1) Sl.non) = [Sl.own true d0, Sl.non] from rfl)
theorem st_law_asked_walks (cs : Cs) (d0 : Ct) (a0 : D) : runO cs df_law_asked_walks d0 [a0] = valO (ssE (frame cs ⟨df_law_asked_walks.drop, false⟩ 60) (fmOf df_law_asked_walks) [ (PySem.Stmt.Assign (targets := [(PySem.Expr.Name "found" ⟨146, 4, 146, 9⟩)]) (value := (PySem.Expr.List [] ⟨146, 12, 146, 14⟩)) (pos := ⟨146, 4, 146, 14⟩)), (PySem.Stmt.Assign (targets := [(PySem.Expr.Name "first" ⟨147, 4, 147, 9⟩)]) (value := (PySem.Expr.Call (func := (PySem.Expr.Name "_law_pick" ⟨147, 12, 147, 21⟩)) (args := [(PySem.Expr.Name "d" ⟨147, 22, 147, 23⟩), (PySem.Expr.Name "free" ⟨147, 25, 147, 29⟩)]) (keywords := []) (pos := ⟨147, 12, 147, 30⟩))) (pos := ⟨147, 4, 147, 30⟩)), (PySem.Stmt.If (test := (PySem.Expr.Compare (left := (PySem.Expr.Call (func := (PySem.Expr.Name "_law_draw" ⟨148, 7, 148, 16⟩)) (args := [(PySem.Expr.Name "d" ⟨148, 17, 148, 18⟩), (PySem.Expr.Constant (PySem.Const.int 4) 0 ⟨148, 20, 148, 21⟩)]) (keywords := []) (pos := ⟨148, 7, 148, 22⟩))) (ops := [PySem.CmpOp.Eq]) (comparators := [(PySem.Expr.Constant (PySem.Const.int 1) 0 ⟨148, 26, 148, 27⟩)]) (pos := ⟨148, 7, 148, 27⟩))) (body := [ (PySem.Stmt.Assign (targets := [(PySem.Expr.Name "direction" ⟨149, 8, 149, 17⟩)]) (value := (PySem.Expr.Call (func := (PySem.Expr.Name "_law_draw" ⟨149, 20, 149, 29⟩)) (args := [(PySem.Expr.Name "d" ⟨149, 30, 149, 31⟩), (PySem.Expr.Constant (PySem.Const.int 4) 0 ⟨149, 33, 149, 34⟩)]) (keywords := []) (pos := ⟨149, 20, 149, 35⟩))) (pos := ⟨149, 8, 149, 35⟩)), (PySem.Stmt.For (target := (PySem.Expr.Name "size" ⟨150, 12, 150, 16⟩)) (iter := (PySem.Expr.Call (func := (PySem.Expr.Name "range" ⟨150, 20, 150, 25⟩)) (args := [(PySem.Expr.Constant (PySem.Const.int 4) 0 ⟨150, 26, 150, 27⟩)]) (keywords := []) (pos := ⟨150, 20, 150, 28⟩))) (body := [ (PySem.Stmt.For (target := (PySem.Expr.Name "trail" ⟨151, 16, 151, 21⟩)) (iter := (PySem.Expr.Call (func := (PySem.Expr.Name "_law_product" ⟨151, 25, 151, 37⟩)) (args := [ (PySem.Expr.BinOp (left := (PySem.Expr.List (elts := [ (PySem.Expr.Tuple (elts := [ (PySem.Expr.Constant (PySem.Const.int 0) 0 ⟨151, 40, 151, 41⟩), (PySem.Expr.Constant (PySem.Const.int 1) 0 ⟨151, 43, 151, 44⟩), (PySem.Expr.Constant (PySem.Const.int 2) 0 ⟨151, 46, 151, 47⟩), (PySem.Expr.Constant (PySem.Const.int 3) 0 ⟨151, 49, 151, 50⟩)]) (k := 0) (pos := ⟨151, 39, 151, 51⟩))]) (pos := ⟨151, 38, 151, 52⟩))) (op := PySem.Operator.Mult) (right := (PySem.Expr.Name "size" ⟨151, 55, 151, 59⟩)) (pos := ⟨151, 38, 151, 59⟩))]) (keywords := []) (pos := ⟨151, 25, 151, 60⟩))) (body := [ (PySem.Stmt.Expr (value := (PySem.Expr.Call (func := (PySem.Expr.Attribute (PySem.Expr.Name "found" ⟨152, 16, 152, 21⟩) "append" ⟨152, 16, 152, 28⟩)) (args := [ (PySem.Expr.Tuple (elts := [ (PySem.Expr.Name "first" ⟨152, 30, 152, 35⟩), (PySem.Expr.Name "direction" ⟨152, 37, 152, 46⟩), (PySem.Expr.Name "trail" ⟨152, 48, 152, 53⟩)]) (k := 0) (pos := ⟨152, 29, 152, 54⟩))]) (keywords := []) (pos := ⟨152, 16, 152, 55⟩))) (pos := ⟨152, 16, 152, 55⟩))]) (orelse := []) (pos := ⟨151, 12, 152, 55⟩))]) (orelse := []) (pos := ⟨150, 8, 152, 55⟩))]) (orelse := [ (PySem.Stmt.For (target := (PySem.Expr.Name "k" ⟨154, 12, 154, 13⟩)) (iter := (PySem.Expr.Call (func := (PySem.Expr.Name "range" ⟨154, 17, 154, 22⟩)) (args := [(PySem.Expr.Constant (PySem.Const.int 12) 0 ⟨154, 23, 154, 25⟩)]) (keywords := []) (pos := ⟨154, 17, 154, 26⟩))) (body := [ (PySem.Stmt.Expr (value := (PySem.Expr.Call (func := (PySem.Expr.Attribute (PySem.Expr.Name "found" ⟨155, 12, 155, 17⟩) "append" ⟨155, 12, 155, 24⟩)) (args := [ (PySem.Expr.Tuple (elts := [ (PySem.Expr.Name "first" ⟨155, 26, 155, 31⟩), (PySem.Expr.Call (func := (PySem.Expr.Name "_law_draw" ⟨155, 33, 155, 42⟩)) (args := [(PySem.Expr.Name "d" ⟨155, 43, 155, 44⟩), (PySem.Expr.Constant (PySem.Const.int 4) 0 ⟨155, 46, 155, 47⟩)]) (keywords := []) (pos := ⟨155, 33, 155, 48⟩)), (PySem.Expr.Call (func := (PySem.Expr.Name "_law_trail" ⟨155, 50, 155, 60⟩)) (args := [(PySem.Expr.Name "d" ⟨155, 61, 155, 62⟩)]) (keywords := []) (pos := ⟨155, 50, 155, 63⟩))]) (k := 0) (pos := ⟨155, 25, 155, 64⟩))]) (keywords := []) (pos := ⟨155, 12, 155, 65⟩))) (pos := ⟨155, 12, 155, 65⟩))]) (orelse := []) (pos := ⟨154, 8, 155, 65⟩))]) (pos := ⟨148, 4, 155, 65⟩)), (PySem.Stmt.Assign (targets := [(PySem.Expr.Name "most" ⟨156, 4, 156, 8⟩)]) (value := (PySem.Expr.Call (func := (PySem.Expr.Name "_law_trail" ⟨156, 11, 156, 21⟩)) (args := [(PySem.Expr.Name "d" ⟨156, 22, 156, 23⟩)]) (keywords := []) (pos := ⟨156, 11, 156, 24⟩))) (pos := ⟨156, 4, 156, 24⟩)), (PySem.Stmt.For (target := (PySem.Expr.Name "cell" ⟨157, 8, 157, 12⟩)) (iter := (PySem.Expr.Name "free" ⟨157, 16, 157, 20⟩)) (body := [ (PySem.Stmt.For (target := (PySem.Expr.Name "direction" ⟨158, 12, 158, 21⟩)) (iter := (PySem.Expr.Call (func := (PySem.Expr.Name "range" ⟨158, 25, 158, 30⟩)) (args := [(PySem.Expr.Constant (PySem.Const.int 4) 0 ⟨158, 31, 158, 32⟩)]) (keywords := []) (pos := ⟨158, 25, 158, 33⟩))) (body := [ (PySem.Stmt.Expr (value := (PySem.Expr.Call (func := (PySem.Expr.Attribute (PySem.Expr.Name "found" ⟨159, 12, 159, 17⟩) "append" ⟨159, 12, 159, 24⟩)) (args := [ (PySem.Expr.Tuple (elts := [ (PySem.Expr.Name "cell" ⟨159, 26, 159, 30⟩), (PySem.Expr.Name "direction" ⟨159, 32, 159, 41⟩), (PySem.Expr.Name "most" ⟨159, 43, 159, 47⟩)]) (k := 0) (pos := ⟨159, 25, 159, 48⟩))]) (keywords := []) (pos := ⟨159, 12, 159, 49⟩))) (pos := ⟨159, 12, 159, 49⟩))]) (orelse := []) (pos := ⟨158, 8, 159, 49⟩))]) (orelse := []) (pos := ⟨157, 4, 159, 49⟩)), (PySem.Stmt.Return (some (PySem.Expr.Name "found" ⟨160, 11, 160, 16⟩)) ⟨160, 4, 160, 16⟩)] [Sl.own true d0, Sl.val a0, Sl.non, Sl.non, Sl.non, Sl.non, Sl.non, Sl.non, Sl.non, Sl.non]) := runO_eq (k := 2) (m := 10) rfl rfl bd_law_asked_walks rfl (show Sl.own true d0 :: (List.map Sl.val ([a0] : List D) ++ List.replicate (10 - 2) Sl.non) = [Sl.own true d0, Sl.val a0, Sl.non, Sl.non, Sl.non, Sl.non, Sl.non, Sl.non, Sl.non, Sl.non] from rfl)
theorem st_law_due_walk (cs : Cs) (a0 a1 a2 a3 a4 : D) : runP cs df_law_due_walk [a0, a1, a2, a3, a4] = valP (ssE (frame cs ⟨df_law_due_walk.drop, false⟩ 60) (fmOf df_law_due_walk) [ (PySem.Stmt.Assign (targets := [ (PySem.Expr.Tuple (elts := [ (PySem.Expr.Name "touch" ⟨162, 4, 162, 9⟩), (PySem.Expr.Name "way" ⟨162, 11, 162, 14⟩), (PySem.Expr.Name "bumped" ⟨162, 16, 162, 22⟩)]) (k := 0) (pos := ⟨162, 4, 162, 22⟩))]) (value := (PySem.Expr.Call (func := (PySem.Expr.Name "_law_walk" ⟨162, 25, 162, 34⟩)) (args := [ (PySem.Expr.Name "plan" ⟨162, 35, 162, 39⟩), (PySem.Expr.Name "setting" ⟨162, 41, 162, 48⟩), (PySem.Expr.Name "cell" ⟨162, 50, 162, 54⟩), (PySem.Expr.Name "direction" ⟨162, 56, 162, 65⟩), (PySem.Expr.Name "trail" ⟨162, 67, 162, 72⟩)]) (keywords := []) (pos := ⟨162, 25, 162, 73⟩))) (pos := ⟨162, 4, 162, 73⟩)), (PySem.Stmt.If (test := (PySem.Expr.Name "touch" ⟨163, 7, 163, 12⟩)) (body := [ (PySem.Stmt.Return (value := (some (PySem.Expr.Tuple (elts := [ (PySem.Expr.Constant (PySem.Const.str "touch") 0 ⟨164, 16, 164, 23⟩), (PySem.Expr.Name "way" ⟨164, 25, 164, 28⟩)]) (k := 0) (pos := ⟨164, 15, 164, 29⟩)))) (pos := ⟨164, 8, 164, 29⟩))]) (orelse := []) (pos := ⟨163, 4, 164, 29⟩)), (PySem.Stmt.Return (value := (some (PySem.Expr.Tuple (elts := [ (PySem.Expr.Constant (PySem.Const.str "end") 0 ⟨165, 12, 165, 17⟩), (PySem.Expr.Name "way" ⟨165, 19, 165, 22⟩), (PySem.Expr.Name "bumped" ⟨165, 24, 165, 30⟩)]) (k := 0) (pos := ⟨165, 11, 165, 31⟩)))) (pos := ⟨165, 4, 165, 31⟩))] [Sl.val a0, Sl.val a1, Sl.val a2, Sl.val a3, Sl.val a4, Sl.non, Sl.non, Sl.non]) := runP_eq (k := 5) (m := 8) rfl rfl bd_law_due_walk rfl (show List.map Sl.val ([a0, a1, a2, a3, a4] : List D) ++ List.replicate (8 - 5) Sl.non = [Sl.val a0, Sl.val a1, Sl.val a2, Sl.val a3, Sl.val a4, Sl.non, Sl.non, Sl.non] from rfl)
theorem st_law_right_walk (cs : Cs) (a0 a1 : D) : runP cs df_law_right_walk [a0, a1] = valP (ssE (frame cs ⟨df_law_right_walk.drop, false⟩ 60) (fmOf df_law_right_walk) [ (PySem.Stmt.If (test := (PySem.Expr.BoolOp (op := PySem.BoolOp.Or) (values := [ (PySem.Expr.UnaryOp (op := PySem.UnaryOp.Not) (operand := (PySem.Expr.Call (func := (PySem.Expr.Name "isinstance" ⟨167, 11, 167, 21⟩)) (args := [(PySem.Expr.Name "told" ⟨167, 22, 167, 26⟩), (PySem.Expr.Name "tuple" ⟨167, 28, 167, 33⟩)]) (keywords := []) (pos := ⟨167, 11, 167, 34⟩))) (pos := ⟨167, 7, 167, 34⟩)), (PySem.Expr.Compare (left := (PySem.Expr.Name "told" ⟨167, 38, 167, 42⟩)) (ops := [PySem.CmpOp.NotEq]) (comparators := [(PySem.Expr.Name "due" ⟨167, 46, 167, 49⟩)]) (pos := ⟨167, 38, 167, 49⟩)), (PySem.Expr.UnaryOp (op := PySem.UnaryOp.Not) (operand := (PySem.Expr.Call (func := (PySem.Expr.Name "_law_is_ints" ⟨167, 58, 167, 70⟩)) (args := [ (PySem.Expr.Subscript (value := (PySem.Expr.Name "told" ⟨167, 71, 167, 75⟩)) (slice := (PySem.Expr.Constant (PySem.Const.int 1) 0 ⟨167, 76, 167, 77⟩)) (pos := ⟨167, 71, 167, 78⟩))]) (keywords := []) (pos := ⟨167, 58, 167, 79⟩))) (pos := ⟨167, 54, 167, 79⟩))]) (pos := ⟨167, 7, 167, 80⟩))) (body := [ (PySem.Stmt.Return (value := (some (PySem.Expr.Constant (PySem.Const.bool false) 0 ⟨168, 15, 168, 20⟩))) (pos := ⟨168, 8, 168, 20⟩))]) (orelse := []) (pos := ⟨167, 4, 168, 20⟩)), (PySem.Stmt.Return (value := (some (PySem.Expr.BoolOp (op := PySem.BoolOp.Or) (values := [ (PySem.Expr.Compare (left := (PySem.Expr.Call (func := (PySem.Expr.Name "len" ⟨169, 11, 169, 14⟩)) (args := [(PySem.Expr.Name "due" ⟨169, 15, 169, 18⟩)]) (keywords := []) (pos := ⟨169, 11, 169, 19⟩))) (ops := [PySem.CmpOp.Eq]) (comparators := [(PySem.Expr.Constant (PySem.Const.int 2) 0 ⟨169, 23, 169, 24⟩)]) (pos := ⟨169, 11, 169, 24⟩)), (PySem.Expr.Call (func := (PySem.Expr.Name "_law_is_int" ⟨169, 28, 169, 39⟩)) (args := [ (PySem.Expr.Subscript (value := (PySem.Expr.Name "told" ⟨169, 40, 169, 44⟩)) (slice := (PySem.Expr.Constant (PySem.Const.int 2) 0 ⟨169, 45, 169, 46⟩)) (pos := ⟨169, 40, 169, 47⟩))]) (keywords := []) (pos := ⟨169, 28, 169, 48⟩))]) (pos := ⟨169, 11, 169, 48⟩)))) (pos := ⟨169, 4, 169, 48⟩))] [Sl.val a0, Sl.val a1]) := runP_eq (k := 2) (m := 2) rfl rfl bd_law_right_walk rfl (show List.map Sl.val ([a0, a1] : List D) ++ List.replicate (2 - 2) Sl.non = [Sl.val a0, Sl.val a1] from rfl)
theorem st_law (cs : Cs) (a0 : D) : runP cs df_law [a0] = valP (ssE (frame cs ⟨df_law.drop, false⟩ 60) (fmOf df_law) [ (PySem.Stmt.Assign (targets := [(PySem.Expr.Name "d" ⟨171, 4, 171, 5⟩)]) (value := (PySem.Expr.Call (func := (PySem.Expr.Name "_law_begin" ⟨171, 8, 171, 18⟩)) (args := [(PySem.Expr.Name "script" ⟨171, 19, 171, 25⟩)]) (keywords := []) (pos := ⟨171, 8, 171, 26⟩))) (pos := ⟨171, 4, 171, 26⟩)), (PySem.Stmt.Assign (targets := [ (PySem.Expr.Tuple (elts := [ (PySem.Expr.Name "plan" ⟨172, 4, 172, 8⟩), (PySem.Expr.Name "setting" ⟨172, 10, 172, 17⟩), (PySem.Expr.Name "free" ⟨172, 19, 172, 23⟩)]) (k := 0) (pos := ⟨172, 4, 172, 23⟩))]) (value := (PySem.Expr.Call (func := (PySem.Expr.Name "_law_ground" ⟨172, 26, 172, 37⟩)) (args := [(PySem.Expr.Name "d" ⟨172, 38, 172, 39⟩)]) (keywords := []) (pos := ⟨172, 26, 172, 40⟩))) (pos := ⟨172, 4, 172, 40⟩)), (PySem.Stmt.Assign (targets := [(PySem.Expr.Name "other" ⟨173, 4, 173, 9⟩)]) (value := (PySem.Expr.Call (func := (PySem.Expr.Name "tuple" ⟨173, 12, 173, 17⟩)) (args := [ (PySem.Expr.ListComp (elt := (PySem.Expr.Call (func := (PySem.Expr.Name "_law_draw" ⟨173, 19, 173, 28⟩)) (args := [(PySem.Expr.Name "d" ⟨173, 29, 173, 30⟩), (PySem.Expr.Constant (PySem.Const.int 2) 0 ⟨173, 32, 173, 33⟩)]) (keywords := []) (pos := ⟨173, 19, 173, 34⟩))) (generators := [ { target := (PySem.Expr.Name "state" ⟨173, 39, 173, 44⟩), iter := (PySem.Expr.Name "setting" ⟨173, 48, 173, 55⟩), ifs := [], is_async := 0 : PySem.Comprehension }]) (scope := { kind := PySem.ScopeKind.function, names := [ (PySem.Str.ofString ".0", PySem.NameKind.local), (PySem.Str.ofString "state", PySem.NameKind.local), (PySem.Str.ofString "_law_draw", PySem.NameKind.globalImplicit), (PySem.Str.ofString "d", PySem.NameKind.free)], isGenerator := false, isCoroutine := false, more := [] : PySem.Scope }) (pos := ⟨173, 18, 173, 56⟩))]) (keywords := []) (pos := ⟨173, 12, 173, 57⟩))) (pos := ⟨173, 4, 173, 57⟩)), (PySem.Stmt.Assign (targets := [(PySem.Expr.Name "rows" ⟨174, 4, 174, 8⟩)]) (value := (PySem.Expr.List [] ⟨174, 11, 174, 13⟩)) (pos := ⟨174, 4, 174, 13⟩)), (PySem.Stmt.For (target := (PySem.Expr.Tuple (elts := [ (PySem.Expr.Name "cell" ⟨175, 8, 175, 12⟩), (PySem.Expr.Name "direction" ⟨175, 14, 175, 23⟩), (PySem.Expr.Name "trail" ⟨175, 25, 175, 30⟩)]) (k := 0) (pos := ⟨175, 8, 175, 30⟩))) (iter := (PySem.Expr.Call (func := (PySem.Expr.Name "_law_asked_walks" ⟨175, 34, 175, 50⟩)) (args := [(PySem.Expr.Name "d" ⟨175, 51, 175, 52⟩), (PySem.Expr.Name "free" ⟨175, 54, 175, 58⟩)]) (keywords := []) (pos := ⟨175, 34, 175, 59⟩))) (body := [ (PySem.Stmt.For (target := (PySem.Expr.Name "states" ⟨176, 12, 176, 18⟩)) (iter := (PySem.Expr.Tuple (elts := [(PySem.Expr.Name "setting" ⟨176, 23, 176, 30⟩), (PySem.Expr.Name "other" ⟨176, 32, 176, 37⟩)]) (k := 0) (pos := ⟨176, 22, 176, 38⟩))) (body := [ (PySem.Stmt.If (test := (PySem.Expr.Compare (left := (PySem.Expr.Call (func := (PySem.Expr.Name "_law_kind" ⟨177, 15, 177, 24⟩)) (args := [ (PySem.Expr.Name "plan" ⟨177, 25, 177, 29⟩), (PySem.Expr.Name "states" ⟨177, 31, 177, 37⟩), (PySem.Expr.Name "cell" ⟨177, 39, 177, 43⟩)]) (keywords := []) (pos := ⟨177, 15, 177, 44⟩))) (ops := [PySem.CmpOp.Eq]) (comparators := [(PySem.Expr.Constant (PySem.Const.str "free") 0 ⟨177, 48, 177, 54⟩)]) (pos := ⟨177, 15, 177, 54⟩))) (body := [ (PySem.Stmt.Assign (targets := [(PySem.Expr.Name "due" ⟨178, 16, 178, 19⟩)]) (value := (PySem.Expr.Call (func := (PySem.Expr.Name "_law_due_walk" ⟨178, 22, 178, 35⟩)) (args := [ (PySem.Expr.Name "plan" ⟨178, 36, 178, 40⟩), (PySem.Expr.Name "states" ⟨178, 42, 178, 48⟩), (PySem.Expr.Name "cell" ⟨178, 50, 178, 54⟩), (PySem.Expr.Name "direction" ⟨178, 56, 178, 65⟩), (PySem.Expr.Name "trail" ⟨178, 67, 178, 72⟩)]) (keywords := []) (pos := ⟨178, 22, 178, 73⟩))) (pos := ⟨178, 16, 178, 73⟩)), (PySem.Stmt.Expr (value := (PySem.Expr.Call (func := (PySem.Expr.Attribute (PySem.Expr.Name "rows" ⟨179, 16, 179, 20⟩) "append" ⟨179, 16, 179, 27⟩)) (args := [ (PySem.Expr.Tuple (elts := [ (PySem.Expr.Name "states" ⟨179, 29, 179, 35⟩), (PySem.Expr.Name "cell" ⟨179, 37, 179, 41⟩), (PySem.Expr.Name "direction" ⟨179, 43, 179, 52⟩), (PySem.Expr.Name "trail" ⟨179, 54, 179, 59⟩), (PySem.Expr.Name "due" ⟨179, 61, 179, 64⟩)]) (k := 0) (pos := ⟨179, 28, 179, 65⟩))]) (keywords := []) (pos := ⟨179, 16, 179, 66⟩))) (pos := ⟨179, 16, 179, 66⟩))]) (orelse := []) (pos := ⟨177, 12, 179, 66⟩))]) (orelse := []) (pos := ⟨176, 8, 179, 66⟩))]) (orelse := []) (pos := ⟨175, 4, 179, 66⟩)), (PySem.Stmt.For (target := (PySem.Expr.Tuple (elts := [ (PySem.Expr.Name "states" ⟨180, 8, 180, 14⟩), (PySem.Expr.Name "cell" ⟨180, 16, 180, 20⟩), (PySem.Expr.Name "direction" ⟨180, 22, 180, 31⟩), (PySem.Expr.Name "trail" ⟨180, 33, 180, 38⟩), (PySem.Expr.Name "due" ⟨180, 40, 180, 43⟩)]) (k := 0) (pos := ⟨180, 8, 180, 43⟩))) (iter := (PySem.Expr.BinOp (left := (PySem.Expr.Name "rows" ⟨180, 47, 180, 51⟩)) (op := PySem.Operator.Add) (right := (PySem.Expr.Name "rows" ⟨180, 54, 180, 58⟩)) (pos := ⟨180, 47, 180, 58⟩))) (body := [ (PySem.Stmt.If (test := (PySem.Expr.UnaryOp (op := PySem.UnaryOp.Not) (operand := (PySem.Expr.Call (func := (PySem.Expr.Name "_law_right_walk" ⟨181, 15, 181, 30⟩)) (args := [ (PySem.Expr.Call (func := (PySem.Expr.Name "walked" ⟨181, 31, 181, 37⟩)) (args := [ (PySem.Expr.Name "plan" ⟨181, 38, 181, 42⟩), (PySem.Expr.Name "states" ⟨181, 44, 181, 50⟩), (PySem.Expr.Name "cell" ⟨181, 52, 181, 56⟩), (PySem.Expr.Name "direction" ⟨181, 58, 181, 67⟩), (PySem.Expr.Name "trail" ⟨181, 69, 181, 74⟩)]) (keywords := []) (pos := ⟨181, 31, 181, 75⟩)), (PySem.Expr.Name "due" ⟨181, 77, 181, 80⟩)]) (keywords := []) (pos := ⟨181, 15, 181, 81⟩))) (pos := ⟨181, 11, 181, 81⟩))) (body := [ (PySem.Stmt.Return (value := (some (PySem.Expr.Constant (PySem.Const.bool false) 0 ⟨182, 19, 182, 24⟩))) (pos := ⟨182, 12, 182, 24⟩))]) (orelse := []) (pos := ⟨181, 8, 182, 24⟩))]) (orelse := []) (pos := ⟨180, 4, 182, 24⟩)), (PySem.Stmt.Return (value := (some (PySem.Expr.Constant (PySem.Const.bool true) 0 ⟨183, 11, 183, 15⟩))) (pos := ⟨183, 4, 183, 15⟩))] [Sl.val a0, Sl.non, Sl.non, Sl.non, Sl.non, Sl.non, Sl.non, Sl.non, Sl.non, Sl.non, Sl.non, Sl.non, Sl.non]) := runP_eq (k := 1) (m := 13) rfl rfl bd_law rfl (show List.map Sl.val ([a0] : List D) ++ List.replicate (13 - 1) Sl.non = [Sl.val a0, Sl.non, Sl.non, Sl.non, Sl.non, Sl.non, Sl.non, Sl.non, Sl.non, Sl.non, Sl.non, Sl.non, Sl.non] from rfl)
abbrev FT_walked_30 : Expr := (PySem.Expr.Name "turn" ⟨30, 8, 30, 12⟩)
abbrev FB_walked_30 : List Stmt := [ (PySem.Stmt.Assign (targets := [(PySem.Expr.Name "near" ⟨31, 8, 31, 12⟩)]) (value := (PySem.Expr.Call (func := (PySem.Expr.Name "next_cell" ⟨31, 15, 31, 24⟩)) (args := [ (PySem.Expr.Name "plan" ⟨31, 25, 31, 29⟩), (PySem.Expr.Subscript (value := (PySem.Expr.Name "way" ⟨31, 31, 31, 34⟩)) (slice := (PySem.Expr.UnaryOp (op := PySem.UnaryOp.USub) (operand := (PySem.Expr.Constant (PySem.Const.int 1) 0 ⟨31, 36, 31, 37⟩)) (pos := ⟨31, 35, 31, 37⟩))) (pos := ⟨31, 31, 31, 38⟩)), (PySem.Expr.BinOp (left := (PySem.Expr.BinOp (left := (PySem.Expr.Name "direction" ⟨31, 41, 31, 50⟩)) (op := PySem.Operator.Add) (right := (PySem.Expr.Name "turn" ⟨31, 53, 31, 57⟩)) (pos := ⟨31, 41, 31, 57⟩))) (op := PySem.Operator.Mod) (right := (PySem.Expr.Constant (PySem.Const.int 4) 0 ⟨31, 61, 31, 62⟩)) (pos := ⟨31, 40, 31, 62⟩))]) (keywords := []) (pos := ⟨31, 15, 31, 63⟩))) (pos := ⟨31, 8, 31, 63⟩)), (PySem.Stmt.Assign (targets := [(PySem.Expr.Name "kind" ⟨32, 8, 32, 12⟩)]) (value := (PySem.Expr.IfExp (test := (PySem.Expr.Compare (left := (PySem.Expr.Name "near" ⟨32, 25, 32, 29⟩)) (ops := [PySem.CmpOp.Is]) (comparators := [(PySem.Expr.Constant PySem.Const.none 0 ⟨32, 33, 32, 37⟩)]) (pos := ⟨32, 25, 32, 37⟩))) (body := (PySem.Expr.Constant (PySem.Const.str "wall") 0 ⟨32, 15, 32, 21⟩)) (orelse := (PySem.Expr.Call (func := (PySem.Expr.Name "cell_kind" ⟨32, 43, 32, 52⟩)) (args := [ (PySem.Expr.Name "plan" ⟨32, 53, 32, 57⟩), (PySem.Expr.Name "setting" ⟨32, 59, 32, 66⟩), (PySem.Expr.Name "near" ⟨32, 68, 32, 72⟩)]) (keywords := []) (pos := ⟨32, 43, 32, 73⟩))) (pos := ⟨32, 15, 32, 73⟩))) (pos := ⟨32, 8, 32, 73⟩)), (PySem.Stmt.If (test := (PySem.Expr.Compare (left := (PySem.Expr.Name "kind" ⟨33, 11, 33, 15⟩)) (ops := [PySem.CmpOp.Eq]) (comparators := [(PySem.Expr.Constant (PySem.Const.str "wall") 0 ⟨33, 19, 33, 25⟩)]) (pos := ⟨33, 11, 33, 25⟩))) (body := [ (PySem.Stmt.Return (value := (some (PySem.Expr.Tuple (elts := [ (PySem.Expr.Constant (PySem.Const.str "end") 0 ⟨34, 20, 34, 25⟩), (PySem.Expr.Name "way" ⟨34, 27, 34, 30⟩), (PySem.Expr.Constant (PySem.Const.int 1) 0 ⟨34, 32, 34, 33⟩)]) (k := 0) (pos := ⟨34, 19, 34, 34⟩)))) (pos := ⟨34, 12, 34, 34⟩))]) (orelse := []) (pos := ⟨33, 8, 34, 34⟩)), (PySem.Stmt.Assign (targets := [(PySem.Expr.Name "way" ⟨35, 8, 35, 11⟩)]) (value := (PySem.Expr.BinOp (left := (PySem.Expr.Name "way" ⟨35, 14, 35, 17⟩)) (op := PySem.Operator.Add) (right := (PySem.Expr.Tuple [(PySem.Expr.Name "near" ⟨35, 21, 35, 25⟩)] 0 ⟨35, 20, 35, 27⟩)) (pos := ⟨35, 14, 35, 27⟩))) (pos := ⟨35, 8, 35, 27⟩)), (PySem.Stmt.If (test := (PySem.Expr.Compare (left := (PySem.Expr.Name "kind" ⟨36, 11, 36, 15⟩)) (ops := [PySem.CmpOp.NotEq]) (comparators := [(PySem.Expr.Constant (PySem.Const.str "free") 0 ⟨36, 19, 36, 25⟩)]) (pos := ⟨36, 11, 36, 25⟩))) (body := [ (PySem.Stmt.Return (value := (some (PySem.Expr.Tuple (elts := [(PySem.Expr.Constant (PySem.Const.str "touch") 0 ⟨37, 20, 37, 27⟩), (PySem.Expr.Name "way" ⟨37, 29, 37, 32⟩)]) (k := 0) (pos := ⟨37, 19, 37, 33⟩)))) (pos := ⟨37, 12, 37, 33⟩))]) (orelse := []) (pos := ⟨36, 8, 37, 33⟩))]
abbrev EL_law_begin_0 : Expr := (PySem.Expr.Call (func := (PySem.Expr.Name "int" ⟨41, 13, 41, 16⟩)) (args := [(PySem.Expr.Name "cell" ⟨41, 17, 41, 21⟩)]) (keywords := []) (pos := ⟨41, 13, 41, 22⟩))
abbrev SC_law_begin_0 : Scope := { kind := PySem.ScopeKind.function, names := [ (PySem.Str.ofString ".0", PySem.NameKind.local), (PySem.Str.ofString "cell", PySem.NameKind.local), (PySem.Str.ofString "int", PySem.NameKind.globalImplicit)], isGenerator := false, isCoroutine := false, more := [] : PySem.Scope }
abbrev TG_law_begin_0 : Expr := (PySem.Expr.Name "cell" ⟨41, 27, 41, 31⟩)
abbrev IT_law_begin_0 : Expr := (PySem.Expr.Name "script" ⟨41, 35, 41, 41⟩)
abbrev IF_law_begin_0 : List Expr := []
abbrev EL_law_is_ints_0 : Expr := (PySem.Expr.Call (func := (PySem.Expr.Name "_law_is_int" ⟨65, 43, 65, 54⟩)) (args := [(PySem.Expr.Name "part" ⟨65, 55, 65, 59⟩)]) (keywords := []) (pos := ⟨65, 43, 65, 60⟩))
abbrev SC_law_is_ints_0 : Scope := { kind := PySem.ScopeKind.function, names := [ (PySem.Str.ofString ".0", PySem.NameKind.local), (PySem.Str.ofString "part", PySem.NameKind.local), (PySem.Str.ofString "_law_is_int", PySem.NameKind.globalImplicit)], isGenerator := false, isCoroutine := false, more := [] : PySem.Scope }
abbrev TG_law_is_ints_0 : Expr := (PySem.Expr.Name "part" ⟨65, 65, 65, 69⟩)
abbrev IT_law_is_ints_0 : Expr := (PySem.Expr.Name "row" ⟨65, 73, 65, 76⟩)
abbrev IF_law_is_ints_0 : List Expr := []
abbrev FT_law_doors_68 : Expr := (PySem.Expr.Name "line" ⟨68, 8, 68, 12⟩)
abbrev FB_law_doors_68 : List Stmt := [ (PySem.Stmt.For (target := (PySem.Expr.Name "char" ⟨69, 12, 69, 16⟩)) (iter := (PySem.Expr.Name "line" ⟨69, 20, 69, 24⟩)) (body := [ (PySem.Stmt.If (test := (PySem.Expr.Compare (left := (PySem.Expr.Name "char" ⟨70, 15, 70, 19⟩)) (ops := [PySem.CmpOp.In]) (comparators := [(PySem.Expr.Constant (PySem.Const.str "123456") 0 ⟨70, 23, 70, 31⟩)]) (pos := ⟨70, 15, 70, 31⟩))) (body := [ (PySem.Stmt.Assign (targets := [(PySem.Expr.Name "most" ⟨71, 16, 71, 20⟩)]) (value := (PySem.Expr.Call (func := (PySem.Expr.Name "max" ⟨71, 23, 71, 26⟩)) (args := [ (PySem.Expr.Name "most" ⟨71, 27, 71, 31⟩), (PySem.Expr.Call (func := (PySem.Expr.Name "int" ⟨71, 33, 71, 36⟩)) (args := [(PySem.Expr.Name "char" ⟨71, 37, 71, 41⟩)]) (keywords := []) (pos := ⟨71, 33, 71, 42⟩))]) (keywords := []) (pos := ⟨71, 23, 71, 43⟩))) (pos := ⟨71, 16, 71, 43⟩))]) (orelse := []) (pos := ⟨70, 12, 71, 43⟩)), (PySem.Stmt.If (test := (PySem.Expr.Compare (left := (PySem.Expr.Name "char" ⟨72, 15, 72, 19⟩)) (ops := [PySem.CmpOp.In]) (comparators := [(PySem.Expr.Constant (PySem.Const.str "ABCDEF") 0 ⟨72, 23, 72, 31⟩)]) (pos := ⟨72, 15, 72, 31⟩))) (body := [ (PySem.Stmt.Assign (targets := [(PySem.Expr.Name "most" ⟨73, 16, 73, 20⟩)]) (value := (PySem.Expr.Call (func := (PySem.Expr.Name "max" ⟨73, 23, 73, 26⟩)) (args := [ (PySem.Expr.Name "most" ⟨73, 27, 73, 31⟩), (PySem.Expr.BinOp (left := (PySem.Expr.Call (func := (PySem.Expr.Name "ord" ⟨73, 33, 73, 36⟩)) (args := [(PySem.Expr.Name "char" ⟨73, 37, 73, 41⟩)]) (keywords := []) (pos := ⟨73, 33, 73, 42⟩))) (op := PySem.Operator.Sub) (right := (PySem.Expr.Constant (PySem.Const.int 64) 0 ⟨73, 45, 73, 47⟩)) (pos := ⟨73, 33, 73, 47⟩))]) (keywords := []) (pos := ⟨73, 23, 73, 48⟩))) (pos := ⟨73, 16, 73, 48⟩))]) (orelse := []) (pos := ⟨72, 12, 73, 48⟩))]) (orelse := []) (pos := ⟨69, 8, 73, 48⟩))]
abbrev FT_law_doors_69 : Expr := (PySem.Expr.Name "char" ⟨69, 12, 69, 16⟩)
abbrev FB_law_doors_69 : List Stmt := [ (PySem.Stmt.If (test := (PySem.Expr.Compare (left := (PySem.Expr.Name "char" ⟨70, 15, 70, 19⟩)) (ops := [PySem.CmpOp.In]) (comparators := [(PySem.Expr.Constant (PySem.Const.str "123456") 0 ⟨70, 23, 70, 31⟩)]) (pos := ⟨70, 15, 70, 31⟩))) (body := [ (PySem.Stmt.Assign (targets := [(PySem.Expr.Name "most" ⟨71, 16, 71, 20⟩)]) (value := (PySem.Expr.Call (func := (PySem.Expr.Name "max" ⟨71, 23, 71, 26⟩)) (args := [ (PySem.Expr.Name "most" ⟨71, 27, 71, 31⟩), (PySem.Expr.Call (func := (PySem.Expr.Name "int" ⟨71, 33, 71, 36⟩)) (args := [(PySem.Expr.Name "char" ⟨71, 37, 71, 41⟩)]) (keywords := []) (pos := ⟨71, 33, 71, 42⟩))]) (keywords := []) (pos := ⟨71, 23, 71, 43⟩))) (pos := ⟨71, 16, 71, 43⟩))]) (orelse := []) (pos := ⟨70, 12, 71, 43⟩)), (PySem.Stmt.If (test := (PySem.Expr.Compare (left := (PySem.Expr.Name "char" ⟨72, 15, 72, 19⟩)) (ops := [PySem.CmpOp.In]) (comparators := [(PySem.Expr.Constant (PySem.Const.str "ABCDEF") 0 ⟨72, 23, 72, 31⟩)]) (pos := ⟨72, 15, 72, 31⟩))) (body := [ (PySem.Stmt.Assign (targets := [(PySem.Expr.Name "most" ⟨73, 16, 73, 20⟩)]) (value := (PySem.Expr.Call (func := (PySem.Expr.Name "max" ⟨73, 23, 73, 26⟩)) (args := [ (PySem.Expr.Name "most" ⟨73, 27, 73, 31⟩), (PySem.Expr.BinOp (left := (PySem.Expr.Call (func := (PySem.Expr.Name "ord" ⟨73, 33, 73, 36⟩)) (args := [(PySem.Expr.Name "char" ⟨73, 37, 73, 41⟩)]) (keywords := []) (pos := ⟨73, 33, 73, 42⟩))) (op := PySem.Operator.Sub) (right := (PySem.Expr.Constant (PySem.Const.int 64) 0 ⟨73, 45, 73, 47⟩)) (pos := ⟨73, 33, 73, 47⟩))]) (keywords := []) (pos := ⟨73, 23, 73, 48⟩))) (pos := ⟨73, 16, 73, 48⟩))]) (orelse := []) (pos := ⟨72, 12, 73, 48⟩))]
abbrev FT_law_product_98 : Expr := (PySem.Expr.Name "row" ⟨98, 8, 98, 11⟩)
abbrev FB_law_product_98 : List Stmt := [ (PySem.Stmt.Assign (targets := [(PySem.Expr.Name "new" ⟨99, 8, 99, 11⟩)]) (value := (PySem.Expr.List [] ⟨99, 14, 99, 16⟩)) (pos := ⟨99, 8, 99, 16⟩)), (PySem.Stmt.For (target := (PySem.Expr.Name "one" ⟨100, 12, 100, 15⟩)) (iter := (PySem.Expr.Name "found" ⟨100, 19, 100, 24⟩)) (body := [ (PySem.Stmt.Assign (targets := [(PySem.Expr.Name "new" ⟨101, 12, 101, 15⟩)]) (value := (PySem.Expr.BinOp (left := (PySem.Expr.Name "new" ⟨101, 18, 101, 21⟩)) (op := PySem.Operator.Add) (right := (PySem.Expr.ListComp (elt := (PySem.Expr.BinOp (left := (PySem.Expr.Name "one" ⟨101, 25, 101, 28⟩)) (op := PySem.Operator.Add) (right := (PySem.Expr.Tuple [(PySem.Expr.Name "thing" ⟨101, 32, 101, 37⟩)] 0 ⟨101, 31, 101, 39⟩)) (pos := ⟨101, 25, 101, 39⟩))) (generators := [ { target := (PySem.Expr.Name "thing" ⟨101, 44, 101, 49⟩), iter := (PySem.Expr.Name "row" ⟨101, 53, 101, 56⟩), ifs := [], is_async := 0 : PySem.Comprehension }]) (scope := { kind := PySem.ScopeKind.function, names := [ (PySem.Str.ofString ".0", PySem.NameKind.local), (PySem.Str.ofString "thing", PySem.NameKind.local), (PySem.Str.ofString "one", PySem.NameKind.free)], isGenerator := false, isCoroutine := false, more := [] : PySem.Scope }) (pos := ⟨101, 24, 101, 57⟩))) (pos := ⟨101, 18, 101, 57⟩))) (pos := ⟨101, 12, 101, 57⟩))]) (orelse := []) (pos := ⟨100, 8, 101, 57⟩)), (PySem.Stmt.Assign (targets := [(PySem.Expr.Name "found" ⟨102, 8, 102, 13⟩)]) (value := (PySem.Expr.Name "new" ⟨102, 16, 102, 19⟩)) (pos := ⟨102, 8, 102, 19⟩))]
abbrev FT_law_product_100 : Expr := (PySem.Expr.Name "one" ⟨100, 12, 100, 15⟩)
abbrev FB_law_product_100 : List Stmt := [ (PySem.Stmt.Assign (targets := [(PySem.Expr.Name "new" ⟨101, 12, 101, 15⟩)]) (value := (PySem.Expr.BinOp (left := (PySem.Expr.Name "new" ⟨101, 18, 101, 21⟩)) (op := PySem.Operator.Add) (right := (PySem.Expr.ListComp (elt := (PySem.Expr.BinOp (left := (PySem.Expr.Name "one" ⟨101, 25, 101, 28⟩)) (op := PySem.Operator.Add) (right := (PySem.Expr.Tuple [(PySem.Expr.Name "thing" ⟨101, 32, 101, 37⟩)] 0 ⟨101, 31, 101, 39⟩)) (pos := ⟨101, 25, 101, 39⟩))) (generators := [ { target := (PySem.Expr.Name "thing" ⟨101, 44, 101, 49⟩), iter := (PySem.Expr.Name "row" ⟨101, 53, 101, 56⟩), ifs := [], is_async := 0 : PySem.Comprehension }]) (scope := { kind := PySem.ScopeKind.function, names := [ (PySem.Str.ofString ".0", PySem.NameKind.local), (PySem.Str.ofString "thing", PySem.NameKind.local), (PySem.Str.ofString "one", PySem.NameKind.free)], isGenerator := false, isCoroutine := false, more := [] : PySem.Scope }) (pos := ⟨101, 24, 101, 57⟩))) (pos := ⟨101, 18, 101, 57⟩))) (pos := ⟨101, 12, 101, 57⟩))]
abbrev EL_law_product_0 : Expr := (PySem.Expr.BinOp (left := (PySem.Expr.Name "one" ⟨101, 25, 101, 28⟩)) (op := PySem.Operator.Add) (right := (PySem.Expr.Tuple [(PySem.Expr.Name "thing" ⟨101, 32, 101, 37⟩)] 0 ⟨101, 31, 101, 39⟩)) (pos := ⟨101, 25, 101, 39⟩))
abbrev SC_law_product_0 : Scope := { kind := PySem.ScopeKind.function, names := [ (PySem.Str.ofString ".0", PySem.NameKind.local), (PySem.Str.ofString "thing", PySem.NameKind.local), (PySem.Str.ofString "one", PySem.NameKind.free)], isGenerator := false, isCoroutine := false, more := [] : PySem.Scope }
abbrev TG_law_product_0 : Expr := (PySem.Expr.Name "thing" ⟨101, 44, 101, 49⟩)
abbrev IT_law_product_0 : Expr := (PySem.Expr.Name "row" ⟨101, 53, 101, 56⟩)
abbrev IF_law_product_0 : List Expr := []
abbrev FT_law_walk_106 : Expr := (PySem.Expr.Name "turn" ⟨106, 8, 106, 12⟩)
abbrev FB_law_walk_106 : List Stmt := [ (PySem.Stmt.Assign (targets := [(PySem.Expr.Name "other" ⟨107, 8, 107, 13⟩)]) (value := (PySem.Expr.Call (func := (PySem.Expr.Name "_law_next" ⟨107, 16, 107, 25⟩)) (args := [ (PySem.Expr.Name "plan" ⟨107, 26, 107, 30⟩), (PySem.Expr.Subscript (value := (PySem.Expr.Name "way" ⟨107, 32, 107, 35⟩)) (slice := (PySem.Expr.UnaryOp (op := PySem.UnaryOp.USub) (operand := (PySem.Expr.Constant (PySem.Const.int 1) 0 ⟨107, 37, 107, 38⟩)) (pos := ⟨107, 36, 107, 38⟩))) (pos := ⟨107, 32, 107, 39⟩)), (PySem.Expr.BinOp (left := (PySem.Expr.Call (func := (PySem.Expr.Name "int" ⟨107, 41, 107, 44⟩)) (args := [ (PySem.Expr.BinOp (left := (PySem.Expr.Name "direction" ⟨107, 45, 107, 54⟩)) (op := PySem.Operator.Add) (right := (PySem.Expr.Name "turn" ⟨107, 57, 107, 61⟩)) (pos := ⟨107, 45, 107, 61⟩))]) (keywords := []) (pos := ⟨107, 41, 107, 62⟩))) (op := PySem.Operator.Mod) (right := (PySem.Expr.Constant (PySem.Const.int 4) 0 ⟨107, 65, 107, 66⟩)) (pos := ⟨107, 41, 107, 66⟩))]) (keywords := []) (pos := ⟨107, 16, 107, 67⟩))) (pos := ⟨107, 8, 107, 67⟩)), (PySem.Stmt.Assign (targets := [(PySem.Expr.Name "kind" ⟨108, 8, 108, 12⟩)]) (value := (PySem.Expr.Constant (PySem.Const.str "wall") 0 ⟨108, 15, 108, 21⟩)) (pos := ⟨108, 8, 108, 21⟩)), (PySem.Stmt.If (test := (PySem.Expr.Compare (left := (PySem.Expr.Name "other" ⟨109, 11, 109, 16⟩)) (ops := [PySem.CmpOp.IsNot]) (comparators := [(PySem.Expr.Constant PySem.Const.none 0 ⟨109, 24, 109, 28⟩)]) (pos := ⟨109, 11, 109, 28⟩))) (body := [ (PySem.Stmt.Assign (targets := [(PySem.Expr.Name "kind" ⟨110, 12, 110, 16⟩)]) (value := (PySem.Expr.Call (func := (PySem.Expr.Name "_law_kind" ⟨110, 19, 110, 28⟩)) (args := [ (PySem.Expr.Name "plan" ⟨110, 29, 110, 33⟩), (PySem.Expr.Name "setting" ⟨110, 35, 110, 42⟩), (PySem.Expr.Name "other" ⟨110, 44, 110, 49⟩)]) (keywords := []) (pos := ⟨110, 19, 110, 50⟩))) (pos := ⟨110, 12, 110, 50⟩))]) (orelse := []) (pos := ⟨109, 8, 110, 50⟩)), (PySem.Stmt.If (test := (PySem.Expr.Compare (left := (PySem.Expr.Name "kind" ⟨111, 11, 111, 15⟩)) (ops := [PySem.CmpOp.Eq]) (comparators := [(PySem.Expr.Constant (PySem.Const.str "wall") 0 ⟨111, 19, 111, 25⟩)]) (pos := ⟨111, 11, 111, 25⟩))) (body := [ (PySem.Stmt.Return (value := (some (PySem.Expr.Tuple (elts := [ (PySem.Expr.Constant (PySem.Const.bool false) 0 ⟨112, 20, 112, 25⟩), (PySem.Expr.Name "way" ⟨112, 27, 112, 30⟩), (PySem.Expr.Constant (PySem.Const.int 1) 0 ⟨112, 32, 112, 33⟩)]) (k := 0) (pos := ⟨112, 19, 112, 34⟩)))) (pos := ⟨112, 12, 112, 34⟩))]) (orelse := []) (pos := ⟨111, 8, 112, 34⟩)), (PySem.Stmt.Assign (targets := [(PySem.Expr.Name "way" ⟨113, 8, 113, 11⟩)]) (value := (PySem.Expr.BinOp (left := (PySem.Expr.Name "way" ⟨113, 14, 113, 17⟩)) (op := PySem.Operator.Add) (right := (PySem.Expr.Tuple [(PySem.Expr.Name "other" ⟨113, 21, 113, 26⟩)] 0 ⟨113, 20, 113, 28⟩)) (pos := ⟨113, 14, 113, 28⟩))) (pos := ⟨113, 8, 113, 28⟩)), (PySem.Stmt.If (test := (PySem.Expr.Compare (left := (PySem.Expr.Name "kind" ⟨114, 11, 114, 15⟩)) (ops := [PySem.CmpOp.NotEq]) (comparators := [(PySem.Expr.Constant (PySem.Const.str "free") 0 ⟨114, 19, 114, 25⟩)]) (pos := ⟨114, 11, 114, 25⟩))) (body := [ (PySem.Stmt.Return (value := (some (PySem.Expr.Tuple (elts := [ (PySem.Expr.Constant (PySem.Const.bool true) 0 ⟨115, 20, 115, 24⟩), (PySem.Expr.Name "way" ⟨115, 26, 115, 29⟩), (PySem.Expr.Constant (PySem.Const.int 0) 0 ⟨115, 31, 115, 32⟩)]) (k := 0) (pos := ⟨115, 19, 115, 33⟩)))) (pos := ⟨115, 12, 115, 33⟩))]) (orelse := []) (pos := ⟨114, 8, 115, 33⟩))]
abbrev FT_law_free_cells_119 : Expr := (PySem.Expr.Name "cell" ⟨119, 8, 119, 12⟩)
abbrev FB_law_free_cells_119 : List Stmt := [ (PySem.Stmt.If (test := (PySem.Expr.Call (func := (PySem.Expr.Name "any" ⟨120, 11, 120, 14⟩)) (args := [ (PySem.Expr.ListComp (elt := (PySem.Expr.Compare (left := (PySem.Expr.Call (func := (PySem.Expr.Name "_law_kind" ⟨120, 16, 120, 25⟩)) (args := [ (PySem.Expr.Name "plan" ⟨120, 26, 120, 30⟩), (PySem.Expr.Name "setting" ⟨120, 32, 120, 39⟩), (PySem.Expr.Name "cell" ⟨120, 41, 120, 45⟩)]) (keywords := []) (pos := ⟨120, 16, 120, 46⟩))) (ops := [PySem.CmpOp.Eq]) (comparators := [(PySem.Expr.Constant (PySem.Const.str "free") 0 ⟨120, 50, 120, 56⟩)]) (pos := ⟨120, 16, 120, 56⟩))) (generators := [ { target := (PySem.Expr.Name "setting" ⟨120, 61, 120, 68⟩), iter := (PySem.Expr.Name "settings" ⟨120, 72, 120, 80⟩), ifs := [], is_async := 0 : PySem.Comprehension }]) (scope := { kind := PySem.ScopeKind.function, names := [ (PySem.Str.ofString ".0", PySem.NameKind.local), (PySem.Str.ofString "setting", PySem.NameKind.local), (PySem.Str.ofString "_law_kind", PySem.NameKind.globalImplicit), (PySem.Str.ofString "cell", PySem.NameKind.free), (PySem.Str.ofString "plan", PySem.NameKind.free)], isGenerator := false, isCoroutine := false, more := [] : PySem.Scope }) (pos := ⟨120, 15, 120, 81⟩))]) (keywords := []) (pos := ⟨120, 11, 120, 82⟩))) (body := [ (PySem.Stmt.Expr (value := (PySem.Expr.Call (func := (PySem.Expr.Attribute (PySem.Expr.Name "found" ⟨121, 12, 121, 17⟩) "append" ⟨121, 12, 121, 24⟩)) (args := [(PySem.Expr.Name "cell" ⟨121, 25, 121, 29⟩)]) (keywords := []) (pos := ⟨121, 12, 121, 30⟩))) (pos := ⟨121, 12, 121, 30⟩))]) (orelse := []) (pos := ⟨120, 8, 121, 30⟩))]
abbrev EL_law_free_cells_0 : Expr := (PySem.Expr.Compare (left := (PySem.Expr.Call (func := (PySem.Expr.Name "_law_kind" ⟨120, 16, 120, 25⟩)) (args := [ (PySem.Expr.Name "plan" ⟨120, 26, 120, 30⟩), (PySem.Expr.Name "setting" ⟨120, 32, 120, 39⟩), (PySem.Expr.Name "cell" ⟨120, 41, 120, 45⟩)]) (keywords := []) (pos := ⟨120, 16, 120, 46⟩))) (ops := [PySem.CmpOp.Eq]) (comparators := [(PySem.Expr.Constant (PySem.Const.str "free") 0 ⟨120, 50, 120, 56⟩)]) (pos := ⟨120, 16, 120, 56⟩))
abbrev SC_law_free_cells_0 : Scope := { kind := PySem.ScopeKind.function, names := [ (PySem.Str.ofString ".0", PySem.NameKind.local), (PySem.Str.ofString "setting", PySem.NameKind.local), (PySem.Str.ofString "_law_kind", PySem.NameKind.globalImplicit), (PySem.Str.ofString "cell", PySem.NameKind.free), (PySem.Str.ofString "plan", PySem.NameKind.free)], isGenerator := false, isCoroutine := false, more := [] : PySem.Scope }
abbrev TG_law_free_cells_0 : Expr := (PySem.Expr.Name "setting" ⟨120, 61, 120, 68⟩)
abbrev IT_law_free_cells_0 : Expr := (PySem.Expr.Name "settings" ⟨120, 72, 120, 80⟩)
abbrev IF_law_free_cells_0 : List Expr := []
abbrev FT_law_floor_131 : Expr := (PySem.Expr.Name "line" ⟨131, 8, 131, 12⟩)
abbrev FB_law_floor_131 : List Stmt := [ (PySem.Stmt.Expr (value := (PySem.Expr.Call (func := (PySem.Expr.Attribute (PySem.Expr.Name "plan" ⟨132, 8, 132, 12⟩) "append" ⟨132, 8, 132, 19⟩)) (args := [ (PySem.Expr.Call (func := (PySem.Expr.Attribute (value := (PySem.Expr.Constant (PySem.Const.str "") 0 ⟨132, 20, 132, 22⟩)) (attr := "join") (pos := ⟨132, 20, 132, 27⟩))) (args := [ (PySem.Expr.ListComp (elt := (PySem.Expr.Call (func := (PySem.Expr.Name "_law_pick" ⟨132, 29, 132, 38⟩)) (args := [(PySem.Expr.Name "d" ⟨132, 39, 132, 40⟩), (PySem.Expr.Name "menu" ⟨132, 42, 132, 46⟩)]) (keywords := []) (pos := ⟨132, 29, 132, 47⟩))) (generators := [ { target := (PySem.Expr.Name "column" ⟨132, 52, 132, 58⟩), iter := (PySem.Expr.Call (func := (PySem.Expr.Name "range" ⟨132, 62, 132, 67⟩)) (args := [(PySem.Expr.Name "width" ⟨132, 68, 132, 73⟩)]) (keywords := []) (pos := ⟨132, 62, 132, 74⟩)), ifs := [], is_async := 0 : PySem.Comprehension }]) (scope := { kind := PySem.ScopeKind.function, names := [ (PySem.Str.ofString ".0", PySem.NameKind.local), (PySem.Str.ofString "column", PySem.NameKind.local), (PySem.Str.ofString "_law_pick", PySem.NameKind.globalImplicit), (PySem.Str.ofString "d", PySem.NameKind.free), (PySem.Str.ofString "menu", PySem.NameKind.free)], isGenerator := false, isCoroutine := false, more := [] : PySem.Scope }) (pos := ⟨132, 28, 132, 75⟩))]) (keywords := []) (pos := ⟨132, 20, 132, 76⟩))]) (keywords := []) (pos := ⟨132, 8, 132, 77⟩))) (pos := ⟨132, 8, 132, 77⟩))]
abbrev EL_law_floor_0 : Expr := (PySem.Expr.Call (func := (PySem.Expr.Name "_law_pick" ⟨132, 29, 132, 38⟩)) (args := [(PySem.Expr.Name "d" ⟨132, 39, 132, 40⟩), (PySem.Expr.Name "menu" ⟨132, 42, 132, 46⟩)]) (keywords := []) (pos := ⟨132, 29, 132, 47⟩))
abbrev SC_law_floor_0 : Scope := { kind := PySem.ScopeKind.function, names := [ (PySem.Str.ofString ".0", PySem.NameKind.local), (PySem.Str.ofString "column", PySem.NameKind.local), (PySem.Str.ofString "_law_pick", PySem.NameKind.globalImplicit), (PySem.Str.ofString "d", PySem.NameKind.free), (PySem.Str.ofString "menu", PySem.NameKind.free)], isGenerator := false, isCoroutine := false, more := [] : PySem.Scope }
abbrev TG_law_floor_0 : Expr := (PySem.Expr.Name "column" ⟨132, 52, 132, 58⟩)
abbrev IT_law_floor_0 : Expr := (PySem.Expr.Call (func := (PySem.Expr.Name "range" ⟨132, 62, 132, 67⟩)) (args := [(PySem.Expr.Name "width" ⟨132, 68, 132, 73⟩)]) (keywords := []) (pos := ⟨132, 62, 132, 74⟩))
abbrev IF_law_floor_0 : List Expr := []
abbrev EL_law_ground_0 : Expr := (PySem.Expr.Call (func := (PySem.Expr.Name "_law_draw" ⟨136, 21, 136, 30⟩)) (args := [(PySem.Expr.Name "d" ⟨136, 31, 136, 32⟩), (PySem.Expr.Constant (PySem.Const.int 2) 0 ⟨136, 34, 136, 35⟩)]) (keywords := []) (pos := ⟨136, 21, 136, 36⟩))
abbrev SC_law_ground_0 : Scope := { kind := PySem.ScopeKind.function, names := [ (PySem.Str.ofString ".0", PySem.NameKind.local), (PySem.Str.ofString "k", PySem.NameKind.local), (PySem.Str.ofString "_law_draw", PySem.NameKind.globalImplicit), (PySem.Str.ofString "d", PySem.NameKind.free)], isGenerator := false, isCoroutine := false, more := [] : PySem.Scope }
abbrev TG_law_ground_0 : Expr := (PySem.Expr.Name "k" ⟨136, 41, 136, 42⟩)
abbrev IT_law_ground_0 : Expr := (PySem.Expr.Call (func := (PySem.Expr.Name "range" ⟨136, 46, 136, 51⟩)) (args := [ (PySem.Expr.Call (func := (PySem.Expr.Name "_law_doors" ⟨136, 52, 136, 62⟩)) (args := [(PySem.Expr.Name "plan" ⟨136, 63, 136, 67⟩)]) (keywords := []) (pos := ⟨136, 52, 136, 68⟩))]) (keywords := []) (pos := ⟨136, 46, 136, 69⟩))
abbrev IF_law_ground_0 : List Expr := []
abbrev EL_law_trail_0 : Expr := (PySem.Expr.Call (func := (PySem.Expr.Name "_law_draw" ⟨144, 18, 144, 27⟩)) (args := [(PySem.Expr.Name "d" ⟨144, 28, 144, 29⟩), (PySem.Expr.Constant (PySem.Const.int 4) 0 ⟨144, 31, 144, 32⟩)]) (keywords := []) (pos := ⟨144, 18, 144, 33⟩))
abbrev SC_law_trail_0 : Scope := { kind := PySem.ScopeKind.function, names := [ (PySem.Str.ofString ".0", PySem.NameKind.local), (PySem.Str.ofString "k", PySem.NameKind.local), (PySem.Str.ofString "_law_draw", PySem.NameKind.globalImplicit), (PySem.Str.ofString "d", PySem.NameKind.free)], isGenerator := false, isCoroutine := false, more := [] : PySem.Scope }
abbrev TG_law_trail_0 : Expr := (PySem.Expr.Name "k" ⟨144, 38, 144, 39⟩)
abbrev IT_law_trail_0 : Expr := (PySem.Expr.Call (func := (PySem.Expr.Name "range" ⟨144, 43, 144, 48⟩)) (args := [ (PySem.Expr.Subscript (value := (PySem.Expr.List (elts := [ (PySem.Expr.Constant (PySem.Const.int 1) 0 ⟨144, 50, 144, 51⟩), (PySem.Expr.Constant (PySem.Const.int 2) 0 ⟨144, 53, 144, 54⟩), (PySem.Expr.Constant (PySem.Const.int 3) 0 ⟨144, 56, 144, 57⟩), (PySem.Expr.Constant (PySem.Const.int 3) 0 ⟨144, 59, 144, 60⟩), (PySem.Expr.Constant (PySem.Const.int 0) 0 ⟨144, 62, 144, 63⟩), (PySem.Expr.Constant (PySem.Const.int 1) 0 ⟨144, 65, 144, 66⟩), (PySem.Expr.Constant (PySem.Const.int 2) 0 ⟨144, 68, 144, 69⟩), (PySem.Expr.Constant (PySem.Const.int 3) 0 ⟨144, 71, 144, 72⟩)]) (pos := ⟨144, 49, 144, 73⟩))) (slice := (PySem.Expr.Call (func := (PySem.Expr.Name "_law_draw" ⟨144, 74, 144, 83⟩)) (args := [(PySem.Expr.Name "d" ⟨144, 84, 144, 85⟩), (PySem.Expr.Constant (PySem.Const.int 8) 0 ⟨144, 87, 144, 88⟩)]) (keywords := []) (pos := ⟨144, 74, 144, 89⟩))) (pos := ⟨144, 49, 144, 90⟩))]) (keywords := []) (pos := ⟨144, 43, 144, 91⟩))
abbrev IF_law_trail_0 : List Expr := []
abbrev FT_law_asked_walks_150 : Expr := (PySem.Expr.Name "size" ⟨150, 12, 150, 16⟩)
abbrev FB_law_asked_walks_150 : List Stmt := [ (PySem.Stmt.For (target := (PySem.Expr.Name "trail" ⟨151, 16, 151, 21⟩)) (iter := (PySem.Expr.Call (func := (PySem.Expr.Name "_law_product" ⟨151, 25, 151, 37⟩)) (args := [ (PySem.Expr.BinOp (left := (PySem.Expr.List (elts := [ (PySem.Expr.Tuple (elts := [ (PySem.Expr.Constant (PySem.Const.int 0) 0 ⟨151, 40, 151, 41⟩), (PySem.Expr.Constant (PySem.Const.int 1) 0 ⟨151, 43, 151, 44⟩), (PySem.Expr.Constant (PySem.Const.int 2) 0 ⟨151, 46, 151, 47⟩), (PySem.Expr.Constant (PySem.Const.int 3) 0 ⟨151, 49, 151, 50⟩)]) (k := 0) (pos := ⟨151, 39, 151, 51⟩))]) (pos := ⟨151, 38, 151, 52⟩))) (op := PySem.Operator.Mult) (right := (PySem.Expr.Name "size" ⟨151, 55, 151, 59⟩)) (pos := ⟨151, 38, 151, 59⟩))]) (keywords := []) (pos := ⟨151, 25, 151, 60⟩))) (body := [ (PySem.Stmt.Expr (value := (PySem.Expr.Call (func := (PySem.Expr.Attribute (PySem.Expr.Name "found" ⟨152, 16, 152, 21⟩) "append" ⟨152, 16, 152, 28⟩)) (args := [ (PySem.Expr.Tuple (elts := [ (PySem.Expr.Name "first" ⟨152, 30, 152, 35⟩), (PySem.Expr.Name "direction" ⟨152, 37, 152, 46⟩), (PySem.Expr.Name "trail" ⟨152, 48, 152, 53⟩)]) (k := 0) (pos := ⟨152, 29, 152, 54⟩))]) (keywords := []) (pos := ⟨152, 16, 152, 55⟩))) (pos := ⟨152, 16, 152, 55⟩))]) (orelse := []) (pos := ⟨151, 12, 152, 55⟩))]
abbrev FT_law_asked_walks_151 : Expr := (PySem.Expr.Name "trail" ⟨151, 16, 151, 21⟩)
abbrev FB_law_asked_walks_151 : List Stmt := [ (PySem.Stmt.Expr (value := (PySem.Expr.Call (func := (PySem.Expr.Attribute (PySem.Expr.Name "found" ⟨152, 16, 152, 21⟩) "append" ⟨152, 16, 152, 28⟩)) (args := [ (PySem.Expr.Tuple (elts := [ (PySem.Expr.Name "first" ⟨152, 30, 152, 35⟩), (PySem.Expr.Name "direction" ⟨152, 37, 152, 46⟩), (PySem.Expr.Name "trail" ⟨152, 48, 152, 53⟩)]) (k := 0) (pos := ⟨152, 29, 152, 54⟩))]) (keywords := []) (pos := ⟨152, 16, 152, 55⟩))) (pos := ⟨152, 16, 152, 55⟩))]
abbrev FT_law_asked_walks_154 : Expr := (PySem.Expr.Name "k" ⟨154, 12, 154, 13⟩)
abbrev FB_law_asked_walks_154 : List Stmt := [ (PySem.Stmt.Expr (value := (PySem.Expr.Call (func := (PySem.Expr.Attribute (PySem.Expr.Name "found" ⟨155, 12, 155, 17⟩) "append" ⟨155, 12, 155, 24⟩)) (args := [ (PySem.Expr.Tuple (elts := [ (PySem.Expr.Name "first" ⟨155, 26, 155, 31⟩), (PySem.Expr.Call (func := (PySem.Expr.Name "_law_draw" ⟨155, 33, 155, 42⟩)) (args := [(PySem.Expr.Name "d" ⟨155, 43, 155, 44⟩), (PySem.Expr.Constant (PySem.Const.int 4) 0 ⟨155, 46, 155, 47⟩)]) (keywords := []) (pos := ⟨155, 33, 155, 48⟩)), (PySem.Expr.Call (func := (PySem.Expr.Name "_law_trail" ⟨155, 50, 155, 60⟩)) (args := [(PySem.Expr.Name "d" ⟨155, 61, 155, 62⟩)]) (keywords := []) (pos := ⟨155, 50, 155, 63⟩))]) (k := 0) (pos := ⟨155, 25, 155, 64⟩))]) (keywords := []) (pos := ⟨155, 12, 155, 65⟩))) (pos := ⟨155, 12, 155, 65⟩))]
abbrev FT_law_asked_walks_157 : Expr := (PySem.Expr.Name "cell" ⟨157, 8, 157, 12⟩)
abbrev FB_law_asked_walks_157 : List Stmt := [ (PySem.Stmt.For (target := (PySem.Expr.Name "direction" ⟨158, 12, 158, 21⟩)) (iter := (PySem.Expr.Call (func := (PySem.Expr.Name "range" ⟨158, 25, 158, 30⟩)) (args := [(PySem.Expr.Constant (PySem.Const.int 4) 0 ⟨158, 31, 158, 32⟩)]) (keywords := []) (pos := ⟨158, 25, 158, 33⟩))) (body := [ (PySem.Stmt.Expr (value := (PySem.Expr.Call (func := (PySem.Expr.Attribute (PySem.Expr.Name "found" ⟨159, 12, 159, 17⟩) "append" ⟨159, 12, 159, 24⟩)) (args := [ (PySem.Expr.Tuple (elts := [ (PySem.Expr.Name "cell" ⟨159, 26, 159, 30⟩), (PySem.Expr.Name "direction" ⟨159, 32, 159, 41⟩), (PySem.Expr.Name "most" ⟨159, 43, 159, 47⟩)]) (k := 0) (pos := ⟨159, 25, 159, 48⟩))]) (keywords := []) (pos := ⟨159, 12, 159, 49⟩))) (pos := ⟨159, 12, 159, 49⟩))]) (orelse := []) (pos := ⟨158, 8, 159, 49⟩))]
abbrev FT_law_asked_walks_158 : Expr := (PySem.Expr.Name "direction" ⟨158, 12, 158, 21⟩)
abbrev FB_law_asked_walks_158 : List Stmt := [ (PySem.Stmt.Expr (value := (PySem.Expr.Call (func := (PySem.Expr.Attribute (PySem.Expr.Name "found" ⟨159, 12, 159, 17⟩) "append" ⟨159, 12, 159, 24⟩)) (args := [ (PySem.Expr.Tuple (elts := [ (PySem.Expr.Name "cell" ⟨159, 26, 159, 30⟩), (PySem.Expr.Name "direction" ⟨159, 32, 159, 41⟩), (PySem.Expr.Name "most" ⟨159, 43, 159, 47⟩)]) (k := 0) (pos := ⟨159, 25, 159, 48⟩))]) (keywords := []) (pos := ⟨159, 12, 159, 49⟩))) (pos := ⟨159, 12, 159, 49⟩))]
abbrev EL_law_0 : Expr := (PySem.Expr.Call (func := (PySem.Expr.Name "_law_draw" ⟨173, 19, 173, 28⟩)) (args := [(PySem.Expr.Name "d" ⟨173, 29, 173, 30⟩), (PySem.Expr.Constant (PySem.Const.int 2) 0 ⟨173, 32, 173, 33⟩)]) (keywords := []) (pos := ⟨173, 19, 173, 34⟩))
abbrev SC_law_0 : Scope := { kind := PySem.ScopeKind.function, names := [ (PySem.Str.ofString ".0", PySem.NameKind.local), (PySem.Str.ofString "state", PySem.NameKind.local), (PySem.Str.ofString "_law_draw", PySem.NameKind.globalImplicit), (PySem.Str.ofString "d", PySem.NameKind.free)], isGenerator := false, isCoroutine := false, more := [] : PySem.Scope }
abbrev TG_law_0 : Expr := (PySem.Expr.Name "state" ⟨173, 39, 173, 44⟩)
abbrev IT_law_0 : Expr := (PySem.Expr.Name "setting" ⟨173, 48, 173, 55⟩)
abbrev IF_law_0 : List Expr := []
abbrev FT_law_175 : Expr := (PySem.Expr.Tuple (elts := [ (PySem.Expr.Name "cell" ⟨175, 8, 175, 12⟩), (PySem.Expr.Name "direction" ⟨175, 14, 175, 23⟩), (PySem.Expr.Name "trail" ⟨175, 25, 175, 30⟩)]) (k := 0) (pos := ⟨175, 8, 175, 30⟩))
abbrev FB_law_175 : List Stmt := [ (PySem.Stmt.For (target := (PySem.Expr.Name "states" ⟨176, 12, 176, 18⟩)) (iter := (PySem.Expr.Tuple (elts := [(PySem.Expr.Name "setting" ⟨176, 23, 176, 30⟩), (PySem.Expr.Name "other" ⟨176, 32, 176, 37⟩)]) (k := 0) (pos := ⟨176, 22, 176, 38⟩))) (body := [ (PySem.Stmt.If (test := (PySem.Expr.Compare (left := (PySem.Expr.Call (func := (PySem.Expr.Name "_law_kind" ⟨177, 15, 177, 24⟩)) (args := [ (PySem.Expr.Name "plan" ⟨177, 25, 177, 29⟩), (PySem.Expr.Name "states" ⟨177, 31, 177, 37⟩), (PySem.Expr.Name "cell" ⟨177, 39, 177, 43⟩)]) (keywords := []) (pos := ⟨177, 15, 177, 44⟩))) (ops := [PySem.CmpOp.Eq]) (comparators := [(PySem.Expr.Constant (PySem.Const.str "free") 0 ⟨177, 48, 177, 54⟩)]) (pos := ⟨177, 15, 177, 54⟩))) (body := [ (PySem.Stmt.Assign (targets := [(PySem.Expr.Name "due" ⟨178, 16, 178, 19⟩)]) (value := (PySem.Expr.Call (func := (PySem.Expr.Name "_law_due_walk" ⟨178, 22, 178, 35⟩)) (args := [ (PySem.Expr.Name "plan" ⟨178, 36, 178, 40⟩), (PySem.Expr.Name "states" ⟨178, 42, 178, 48⟩), (PySem.Expr.Name "cell" ⟨178, 50, 178, 54⟩), (PySem.Expr.Name "direction" ⟨178, 56, 178, 65⟩), (PySem.Expr.Name "trail" ⟨178, 67, 178, 72⟩)]) (keywords := []) (pos := ⟨178, 22, 178, 73⟩))) (pos := ⟨178, 16, 178, 73⟩)), (PySem.Stmt.Expr (value := (PySem.Expr.Call (func := (PySem.Expr.Attribute (PySem.Expr.Name "rows" ⟨179, 16, 179, 20⟩) "append" ⟨179, 16, 179, 27⟩)) (args := [ (PySem.Expr.Tuple (elts := [ (PySem.Expr.Name "states" ⟨179, 29, 179, 35⟩), (PySem.Expr.Name "cell" ⟨179, 37, 179, 41⟩), (PySem.Expr.Name "direction" ⟨179, 43, 179, 52⟩), (PySem.Expr.Name "trail" ⟨179, 54, 179, 59⟩), (PySem.Expr.Name "due" ⟨179, 61, 179, 64⟩)]) (k := 0) (pos := ⟨179, 28, 179, 65⟩))]) (keywords := []) (pos := ⟨179, 16, 179, 66⟩))) (pos := ⟨179, 16, 179, 66⟩))]) (orelse := []) (pos := ⟨177, 12, 179, 66⟩))]) (orelse := []) (pos := ⟨176, 8, 179, 66⟩))]
abbrev FT_law_176 : Expr := (PySem.Expr.Name "states" ⟨176, 12, 176, 18⟩)
abbrev FB_law_176 : List Stmt := [ (PySem.Stmt.If (test := (PySem.Expr.Compare (left := (PySem.Expr.Call (func := (PySem.Expr.Name "_law_kind" ⟨177, 15, 177, 24⟩)) (args := [ (PySem.Expr.Name "plan" ⟨177, 25, 177, 29⟩), (PySem.Expr.Name "states" ⟨177, 31, 177, 37⟩), (PySem.Expr.Name "cell" ⟨177, 39, 177, 43⟩)]) (keywords := []) (pos := ⟨177, 15, 177, 44⟩))) (ops := [PySem.CmpOp.Eq]) (comparators := [(PySem.Expr.Constant (PySem.Const.str "free") 0 ⟨177, 48, 177, 54⟩)]) (pos := ⟨177, 15, 177, 54⟩))) (body := [ (PySem.Stmt.Assign (targets := [(PySem.Expr.Name "due" ⟨178, 16, 178, 19⟩)]) (value := (PySem.Expr.Call (func := (PySem.Expr.Name "_law_due_walk" ⟨178, 22, 178, 35⟩)) (args := [ (PySem.Expr.Name "plan" ⟨178, 36, 178, 40⟩), (PySem.Expr.Name "states" ⟨178, 42, 178, 48⟩), (PySem.Expr.Name "cell" ⟨178, 50, 178, 54⟩), (PySem.Expr.Name "direction" ⟨178, 56, 178, 65⟩), (PySem.Expr.Name "trail" ⟨178, 67, 178, 72⟩)]) (keywords := []) (pos := ⟨178, 22, 178, 73⟩))) (pos := ⟨178, 16, 178, 73⟩)), (PySem.Stmt.Expr (value := (PySem.Expr.Call (func := (PySem.Expr.Attribute (PySem.Expr.Name "rows" ⟨179, 16, 179, 20⟩) "append" ⟨179, 16, 179, 27⟩)) (args := [ (PySem.Expr.Tuple (elts := [ (PySem.Expr.Name "states" ⟨179, 29, 179, 35⟩), (PySem.Expr.Name "cell" ⟨179, 37, 179, 41⟩), (PySem.Expr.Name "direction" ⟨179, 43, 179, 52⟩), (PySem.Expr.Name "trail" ⟨179, 54, 179, 59⟩), (PySem.Expr.Name "due" ⟨179, 61, 179, 64⟩)]) (k := 0) (pos := ⟨179, 28, 179, 65⟩))]) (keywords := []) (pos := ⟨179, 16, 179, 66⟩))) (pos := ⟨179, 16, 179, 66⟩))]) (orelse := []) (pos := ⟨177, 12, 179, 66⟩))]
abbrev FT_law_180 : Expr := (PySem.Expr.Tuple (elts := [ (PySem.Expr.Name "states" ⟨180, 8, 180, 14⟩), (PySem.Expr.Name "cell" ⟨180, 16, 180, 20⟩), (PySem.Expr.Name "direction" ⟨180, 22, 180, 31⟩), (PySem.Expr.Name "trail" ⟨180, 33, 180, 38⟩), (PySem.Expr.Name "due" ⟨180, 40, 180, 43⟩)]) (k := 0) (pos := ⟨180, 8, 180, 43⟩))
abbrev FB_law_180 : List Stmt := [ (PySem.Stmt.If (test := (PySem.Expr.UnaryOp (op := PySem.UnaryOp.Not) (operand := (PySem.Expr.Call (func := (PySem.Expr.Name "_law_right_walk" ⟨181, 15, 181, 30⟩)) (args := [ (PySem.Expr.Call (func := (PySem.Expr.Name "walked" ⟨181, 31, 181, 37⟩)) (args := [ (PySem.Expr.Name "plan" ⟨181, 38, 181, 42⟩), (PySem.Expr.Name "states" ⟨181, 44, 181, 50⟩), (PySem.Expr.Name "cell" ⟨181, 52, 181, 56⟩), (PySem.Expr.Name "direction" ⟨181, 58, 181, 67⟩), (PySem.Expr.Name "trail" ⟨181, 69, 181, 74⟩)]) (keywords := []) (pos := ⟨181, 31, 181, 75⟩)), (PySem.Expr.Name "due" ⟨181, 77, 181, 80⟩)]) (keywords := []) (pos := ⟨181, 15, 181, 81⟩))) (pos := ⟨181, 11, 181, 81⟩))) (body := [ (PySem.Stmt.Return (value := (some (PySem.Expr.Constant (PySem.Const.bool false) 0 ⟨182, 19, 182, 24⟩))) (pos := ⟨182, 12, 182, 24⟩))]) (orelse := []) (pos := ⟨181, 8, 182, 24⟩))]
theorem nc_law_begin_0 : Ev.ownOf (fmOf df_law_begin) ({ kind := PySem.ScopeKind.function, names := [ (PySem.Str.ofString ".0", PySem.NameKind.local), (PySem.Str.ofString "cell", PySem.NameKind.local), (PySem.Str.ofString "int", PySem.NameKind.globalImplicit)], isGenerator := false, isCoroutine := false, more := [] : PySem.Scope } : Scope) = ([("cell", 1)] : List (Str × Nat)) ∧ blkC (fmOf df_law_begin).N ((fmOf df_law_begin)).sc ({ kind := PySem.ScopeKind.function, names := [ (PySem.Str.ofString ".0", PySem.NameKind.local), (PySem.Str.ofString "cell", PySem.NameKind.local), (PySem.Str.ofString "int", PySem.NameKind.globalImplicit)], isGenerator := false, isCoroutine := false, more := [] : PySem.Scope } : Scope) ([("cell", 1)] : List (Str × Nat)) = true ∧ lcFlags 2 [1] = [false, true] ∧ slot (blkFm (fmOf df_law_begin) ({ kind := PySem.ScopeKind.function, names := [ (PySem.Str.ofString ".0", PySem.NameKind.local), (PySem.Str.ofString "cell", PySem.NameKind.local), (PySem.Str.ofString "int", PySem.NameKind.globalImplicit)], isGenerator := false, isCoroutine := false, more := [] : PySem.Scope } : Scope)) "cell" = some 1 ∧ slotL (blkFm (fmOf df_law_begin) ({ kind := PySem.ScopeKind.function, names := [ (PySem.Str.ofString ".0", PySem.NameKind.local), (PySem.Str.ofString "cell", PySem.NameKind.local), (PySem.Str.ofString "int", PySem.NameKind.globalImplicit)], isGenerator := false, isCoroutine := false, more := [] : PySem.Scope } : Scope)) "cell" = some 1 ∧ slot (blkFm (fmOf df_law_begin) ({ kind := PySem.ScopeKind.function, names := [ (PySem.Str.ofString ".0", PySem.NameKind.local), (PySem.Str.ofString "cell", PySem.NameKind.local), (PySem.Str.ofString "int", PySem.NameKind.globalImplicit)], isGenerator := false, isCoroutine := false, more := [] : PySem.Scope } : Scope)) "int" = none ∧ glB (blkFm (fmOf df_law_begin) ({ kind := PySem.ScopeKind.function, names := [ (PySem.Str.ofString ".0", PySem.NameKind.local), (PySem.Str.ofString "cell", PySem.NameKind.local), (PySem.Str.ofString "int", PySem.NameKind.globalImplicit)], isGenerator := false, isCoroutine := false, more := [] : PySem.Scope } : Scope)).sc "int" = true := by
  refine ⟨?_, ?_, ?_, ?_, ?_, ?_, ?_⟩
  all_goals rfl
theorem nc_law_is_ints_0 : Ev.ownOf (fmOf df_law_is_ints) ({ kind := PySem.ScopeKind.function, names := [ (PySem.Str.ofString ".0", PySem.NameKind.local), (PySem.Str.ofString "part", PySem.NameKind.local), (PySem.Str.ofString "_law_is_int", PySem.NameKind.globalImplicit)], isGenerator := false, isCoroutine := false, more := [] : PySem.Scope } : Scope) = ([("part", 1)] : List (Str × Nat)) ∧ blkC (fmOf df_law_is_ints).N ((fmOf df_law_is_ints)).sc ({ kind := PySem.ScopeKind.function, names := [ (PySem.Str.ofString ".0", PySem.NameKind.local), (PySem.Str.ofString "part", PySem.NameKind.local), (PySem.Str.ofString "_law_is_int", PySem.NameKind.globalImplicit)], isGenerator := false, isCoroutine := false, more := [] : PySem.Scope } : Scope) ([("part", 1)] : List (Str × Nat)) = true ∧ lcFlags 2 [1] = [false, true] ∧ slot (blkFm (fmOf df_law_is_ints) ({ kind := PySem.ScopeKind.function, names := [ (PySem.Str.ofString ".0", PySem.NameKind.local), (PySem.Str.ofString "part", PySem.NameKind.local), (PySem.Str.ofString "_law_is_int", PySem.NameKind.globalImplicit)], isGenerator := false, isCoroutine := false, more := [] : PySem.Scope } : Scope)) "part" = some 1 ∧ slotL (blkFm (fmOf df_law_is_ints) ({ kind := PySem.ScopeKind.function, names := [ (PySem.Str.ofString ".0", PySem.NameKind.local), (PySem.Str.ofString "part", PySem.NameKind.local), (PySem.Str.ofString "_law_is_int", PySem.NameKind.globalImplicit)], isGenerator := false, isCoroutine := false, more := [] : PySem.Scope } : Scope)) "part" = some 1 ∧ slot (blkFm (fmOf df_law_is_ints) ({ kind := PySem.ScopeKind.function, names := [ (PySem.Str.ofString ".0", PySem.NameKind.local), (PySem.Str.ofString "part", PySem.NameKind.local), (PySem.Str.ofString "_law_is_int", PySem.NameKind.globalImplicit)], isGenerator := false, isCoroutine := false, more := [] : PySem.Scope } : Scope)) "_law_is_int" = none ∧ glB (blkFm (fmOf df_law_is_ints) ({ kind := PySem.ScopeKind.function, names := [ (PySem.Str.ofString ".0", PySem.NameKind.local), (PySem.Str.ofString "part", PySem.NameKind.local), (PySem.Str.ofString "_law_is_int", PySem.NameKind.globalImplicit)], isGenerator := false, isCoroutine := false, more := [] : PySem.Scope } : Scope)).sc "_law_is_int" = true := by
  refine ⟨?_, ?_, ?_, ?_, ?_, ?_, ?_⟩
  all_goals rfl
theorem nc_law_product_0 : Ev.ownOf (fmOf df_law_product) ({ kind := PySem.ScopeKind.function, names := [ (PySem.Str.ofString ".0", PySem.NameKind.local), (PySem.Str.ofString "thing", PySem.NameKind.local), (PySem.Str.ofString "one", PySem.NameKind.free)], isGenerator := false, isCoroutine := false, more := [] : PySem.Scope } : Scope) = ([("thing", 5)] : List (Str × Nat)) ∧ blkC (fmOf df_law_product).N ((fmOf df_law_product)).sc ({ kind := PySem.ScopeKind.function, names := [ (PySem.Str.ofString ".0", PySem.NameKind.local), (PySem.Str.ofString "thing", PySem.NameKind.local), (PySem.Str.ofString "one", PySem.NameKind.free)], isGenerator := false, isCoroutine := false, more := [] : PySem.Scope } : Scope) ([("thing", 5)] : List (Str × Nat)) = true ∧ lcFlags 6 [5] = [false, false, false, false, false, true] ∧ slot (blkFm (fmOf df_law_product) ({ kind := PySem.ScopeKind.function, names := [ (PySem.Str.ofString ".0", PySem.NameKind.local), (PySem.Str.ofString "thing", PySem.NameKind.local), (PySem.Str.ofString "one", PySem.NameKind.free)], isGenerator := false, isCoroutine := false, more := [] : PySem.Scope } : Scope)) "thing" = some 5 ∧ slotL (blkFm (fmOf df_law_product) ({ kind := PySem.ScopeKind.function, names := [ (PySem.Str.ofString ".0", PySem.NameKind.local), (PySem.Str.ofString "thing", PySem.NameKind.local), (PySem.Str.ofString "one", PySem.NameKind.free)], isGenerator := false, isCoroutine := false, more := [] : PySem.Scope } : Scope)) "thing" = some 5 ∧ slot (blkFm (fmOf df_law_product) ({ kind := PySem.ScopeKind.function, names := [ (PySem.Str.ofString ".0", PySem.NameKind.local), (PySem.Str.ofString "thing", PySem.NameKind.local), (PySem.Str.ofString "one", PySem.NameKind.free)], isGenerator := false, isCoroutine := false, more := [] : PySem.Scope } : Scope)) "one" = some 4 := by
  refine ⟨?_, ?_, ?_, ?_, ?_, ?_⟩
  all_goals rfl
theorem nc_law_free_cells_0 : Ev.ownOf (fmOf df_law_free_cells) ({ kind := PySem.ScopeKind.function, names := [ (PySem.Str.ofString ".0", PySem.NameKind.local), (PySem.Str.ofString "setting", PySem.NameKind.local), (PySem.Str.ofString "_law_kind", PySem.NameKind.globalImplicit), (PySem.Str.ofString "cell", PySem.NameKind.free), (PySem.Str.ofString "plan", PySem.NameKind.free)], isGenerator := false, isCoroutine := false, more := [] : PySem.Scope } : Scope) = ([("setting", 4)] : List (Str × Nat)) ∧ blkC (fmOf df_law_free_cells).N ((fmOf df_law_free_cells)).sc ({ kind := PySem.ScopeKind.function, names := [ (PySem.Str.ofString ".0", PySem.NameKind.local), (PySem.Str.ofString "setting", PySem.NameKind.local), (PySem.Str.ofString "_law_kind", PySem.NameKind.globalImplicit), (PySem.Str.ofString "cell", PySem.NameKind.free), (PySem.Str.ofString "plan", PySem.NameKind.free)], isGenerator := false, isCoroutine := false, more := [] : PySem.Scope } : Scope) ([("setting", 4)] : List (Str × Nat)) = true ∧ lcFlags 5 [4] = [false, false, false, false, true] ∧ slot (blkFm (fmOf df_law_free_cells) ({ kind := PySem.ScopeKind.function, names := [ (PySem.Str.ofString ".0", PySem.NameKind.local), (PySem.Str.ofString "setting", PySem.NameKind.local), (PySem.Str.ofString "_law_kind", PySem.NameKind.globalImplicit), (PySem.Str.ofString "cell", PySem.NameKind.free), (PySem.Str.ofString "plan", PySem.NameKind.free)], isGenerator := false, isCoroutine := false, more := [] : PySem.Scope } : Scope)) "setting" = some 4 ∧ slotL (blkFm (fmOf df_law_free_cells) ({ kind := PySem.ScopeKind.function, names := [ (PySem.Str.ofString ".0", PySem.NameKind.local), (PySem.Str.ofString "setting", PySem.NameKind.local), (PySem.Str.ofString "_law_kind", PySem.NameKind.globalImplicit), (PySem.Str.ofString "cell", PySem.NameKind.free), (PySem.Str.ofString "plan", PySem.NameKind.free)], isGenerator := false, isCoroutine := false, more := [] : PySem.Scope } : Scope)) "setting" = some 4 ∧ slot (blkFm (fmOf df_law_free_cells) ({ kind := PySem.ScopeKind.function, names := [ (PySem.Str.ofString ".0", PySem.NameKind.local), (PySem.Str.ofString "setting", PySem.NameKind.local), (PySem.Str.ofString "_law_kind", PySem.NameKind.globalImplicit), (PySem.Str.ofString "cell", PySem.NameKind.free), (PySem.Str.ofString "plan", PySem.NameKind.free)], isGenerator := false, isCoroutine := false, more := [] : PySem.Scope } : Scope)) "_law_kind" = none ∧ glB (blkFm (fmOf df_law_free_cells) ({ kind := PySem.ScopeKind.function, names := [ (PySem.Str.ofString ".0", PySem.NameKind.local), (PySem.Str.ofString "setting", PySem.NameKind.local), (PySem.Str.ofString "_law_kind", PySem.NameKind.globalImplicit), (PySem.Str.ofString "cell", PySem.NameKind.free), (PySem.Str.ofString "plan", PySem.NameKind.free)], isGenerator := false, isCoroutine := false, more := [] : PySem.Scope } : Scope)).sc "_law_kind" = true ∧ slot (blkFm (fmOf df_law_free_cells) ({ kind := PySem.ScopeKind.function, names := [ (PySem.Str.ofString ".0", PySem.NameKind.local), (PySem.Str.ofString "setting", PySem.NameKind.local), (PySem.Str.ofString "_law_kind", PySem.NameKind.globalImplicit), (PySem.Str.ofString "cell", PySem.NameKind.free), (PySem.Str.ofString "plan", PySem.NameKind.free)], isGenerator := false, isCoroutine := false, more := [] : PySem.Scope } : Scope)) "cell" = some 3 ∧ slot (blkFm (fmOf df_law_free_cells) ({ kind := PySem.ScopeKind.function, names := [ (PySem.Str.ofString ".0", PySem.NameKind.local), (PySem.Str.ofString "setting", PySem.NameKind.local), (PySem.Str.ofString "_law_kind", PySem.NameKind.globalImplicit), (PySem.Str.ofString "cell", PySem.NameKind.free), (PySem.Str.ofString "plan", PySem.NameKind.free)], isGenerator := false, isCoroutine := false, more := [] : PySem.Scope } : Scope)) "plan" = some 0 := by
  refine ⟨?_, ?_, ?_, ?_, ?_, ?_, ?_, ?_, ?_⟩
  all_goals rfl
theorem nc_law_floor_0 : Ev.ownOf (fmOf df_law_floor) ({ kind := PySem.ScopeKind.function, names := [ (PySem.Str.ofString ".0", PySem.NameKind.local), (PySem.Str.ofString "column", PySem.NameKind.local), (PySem.Str.ofString "_law_pick", PySem.NameKind.globalImplicit), (PySem.Str.ofString "d", PySem.NameKind.free), (PySem.Str.ofString "menu", PySem.NameKind.free)], isGenerator := false, isCoroutine := false, more := [] : PySem.Scope } : Scope) = ([("column", 6)] : List (Str × Nat)) ∧ blkC (fmOf df_law_floor).N ((fmOf df_law_floor)).sc ({ kind := PySem.ScopeKind.function, names := [ (PySem.Str.ofString ".0", PySem.NameKind.local), (PySem.Str.ofString "column", PySem.NameKind.local), (PySem.Str.ofString "_law_pick", PySem.NameKind.globalImplicit), (PySem.Str.ofString "d", PySem.NameKind.free), (PySem.Str.ofString "menu", PySem.NameKind.free)], isGenerator := false, isCoroutine := false, more := [] : PySem.Scope } : Scope) ([("column", 6)] : List (Str × Nat)) = true ∧ lcFlags 7 [6] = [false, false, false, false, false, false, true] ∧ slot (blkFm (fmOf df_law_floor) ({ kind := PySem.ScopeKind.function, names := [ (PySem.Str.ofString ".0", PySem.NameKind.local), (PySem.Str.ofString "column", PySem.NameKind.local), (PySem.Str.ofString "_law_pick", PySem.NameKind.globalImplicit), (PySem.Str.ofString "d", PySem.NameKind.free), (PySem.Str.ofString "menu", PySem.NameKind.free)], isGenerator := false, isCoroutine := false, more := [] : PySem.Scope } : Scope)) "column" = some 6 ∧ slotL (blkFm (fmOf df_law_floor) ({ kind := PySem.ScopeKind.function, names := [ (PySem.Str.ofString ".0", PySem.NameKind.local), (PySem.Str.ofString "column", PySem.NameKind.local), (PySem.Str.ofString "_law_pick", PySem.NameKind.globalImplicit), (PySem.Str.ofString "d", PySem.NameKind.free), (PySem.Str.ofString "menu", PySem.NameKind.free)], isGenerator := false, isCoroutine := false, more := [] : PySem.Scope } : Scope)) "column" = some 6 ∧ slot (blkFm (fmOf df_law_floor) ({ kind := PySem.ScopeKind.function, names := [ (PySem.Str.ofString ".0", PySem.NameKind.local), (PySem.Str.ofString "column", PySem.NameKind.local), (PySem.Str.ofString "_law_pick", PySem.NameKind.globalImplicit), (PySem.Str.ofString "d", PySem.NameKind.free), (PySem.Str.ofString "menu", PySem.NameKind.free)], isGenerator := false, isCoroutine := false, more := [] : PySem.Scope } : Scope)) "_law_pick" = none ∧ glB (blkFm (fmOf df_law_floor) ({ kind := PySem.ScopeKind.function, names := [ (PySem.Str.ofString ".0", PySem.NameKind.local), (PySem.Str.ofString "column", PySem.NameKind.local), (PySem.Str.ofString "_law_pick", PySem.NameKind.globalImplicit), (PySem.Str.ofString "d", PySem.NameKind.free), (PySem.Str.ofString "menu", PySem.NameKind.free)], isGenerator := false, isCoroutine := false, more := [] : PySem.Scope } : Scope)).sc "_law_pick" = true ∧ slot (blkFm (fmOf df_law_floor) ({ kind := PySem.ScopeKind.function, names := [ (PySem.Str.ofString ".0", PySem.NameKind.local), (PySem.Str.ofString "column", PySem.NameKind.local), (PySem.Str.ofString "_law_pick", PySem.NameKind.globalImplicit), (PySem.Str.ofString "d", PySem.NameKind.free), (PySem.Str.ofString "menu", PySem.NameKind.free)], isGenerator := false, isCoroutine := false, more := [] : PySem.Scope } : Scope)) "d" = some 0 ∧ slot (blkFm (fmOf df_law_floor) ({ kind := PySem.ScopeKind.function, names := [ (PySem.Str.ofString ".0", PySem.NameKind.local), (PySem.Str.ofString "column", PySem.NameKind.local), (PySem.Str.ofString "_law_pick", PySem.NameKind.globalImplicit), (PySem.Str.ofString "d", PySem.NameKind.free), (PySem.Str.ofString "menu", PySem.NameKind.free)], isGenerator := false, isCoroutine := false, more := [] : PySem.Scope } : Scope)) "menu" = some 3 := by
  refine ⟨?_, ?_, ?_, ?_, ?_, ?_, ?_, ?_, ?_⟩
  all_goals rfl
theorem nc_law_ground_0 : Ev.ownOf (fmOf df_law_ground) ({ kind := PySem.ScopeKind.function, names := [ (PySem.Str.ofString ".0", PySem.NameKind.local), (PySem.Str.ofString "k", PySem.NameKind.local), (PySem.Str.ofString "_law_draw", PySem.NameKind.globalImplicit), (PySem.Str.ofString "d", PySem.NameKind.free)], isGenerator := false, isCoroutine := false, more := [] : PySem.Scope } : Scope) = ([("k", 4)] : List (Str × Nat)) ∧ blkC (fmOf df_law_ground).N ((fmOf df_law_ground)).sc ({ kind := PySem.ScopeKind.function, names := [ (PySem.Str.ofString ".0", PySem.NameKind.local), (PySem.Str.ofString "k", PySem.NameKind.local), (PySem.Str.ofString "_law_draw", PySem.NameKind.globalImplicit), (PySem.Str.ofString "d", PySem.NameKind.free)], isGenerator := false, isCoroutine := false, more := [] : PySem.Scope } : Scope) ([("k", 4)] : List (Str × Nat)) = true ∧ lcFlags 5 [4] = [false, false, false, false, true] ∧ slot (blkFm (fmOf df_law_ground) ({ kind := PySem.ScopeKind.function, names := [ (PySem.Str.ofString ".0", PySem.NameKind.local), (PySem.Str.ofString "k", PySem.NameKind.local), (PySem.Str.ofString "_law_draw", PySem.NameKind.globalImplicit), (PySem.Str.ofString "d", PySem.NameKind.free)], isGenerator := false, isCoroutine := false, more := [] : PySem.Scope } : Scope)) "k" = some 4 ∧ slotL (blkFm (fmOf df_law_ground) ({ kind := PySem.ScopeKind.function, names := [ (PySem.Str.ofString ".0", PySem.NameKind.local), (PySem.Str.ofString "k", PySem.NameKind.local), (PySem.Str.ofString "_law_draw", PySem.NameKind.globalImplicit), (PySem.Str.ofString "d", PySem.NameKind.free)], isGenerator := false, isCoroutine := false, more := [] : PySem.Scope } : Scope)) "k" = some 4 ∧ slot (blkFm (fmOf df_law_ground) ({ kind := PySem.ScopeKind.function, names := [ (PySem.Str.ofString ".0", PySem.NameKind.local), (PySem.Str.ofString "k", PySem.NameKind.local), (PySem.Str.ofString "_law_draw", PySem.NameKind.globalImplicit), (PySem.Str.ofString "d", PySem.NameKind.free)], isGenerator := false, isCoroutine := false, more := [] : PySem.Scope } : Scope)) "_law_draw" = none ∧ glB (blkFm (fmOf df_law_ground) ({ kind := PySem.ScopeKind.function, names := [ (PySem.Str.ofString ".0", PySem.NameKind.local), (PySem.Str.ofString "k", PySem.NameKind.local), (PySem.Str.ofString "_law_draw", PySem.NameKind.globalImplicit), (PySem.Str.ofString "d", PySem.NameKind.free)], isGenerator := false, isCoroutine := false, more := [] : PySem.Scope } : Scope)).sc "_law_draw" = true ∧ slot (blkFm (fmOf df_law_ground) ({ kind := PySem.ScopeKind.function, names := [ (PySem.Str.ofString ".0", PySem.NameKind.local), (PySem.Str.ofString "k", PySem.NameKind.local), (PySem.Str.ofString "_law_draw", PySem.NameKind.globalImplicit), (PySem.Str.ofString "d", PySem.NameKind.free)], isGenerator := false, isCoroutine := false, more := [] : PySem.Scope } : Scope)) "d" = some 0 := by
  refine ⟨?_, ?_, ?_, ?_, ?_, ?_, ?_, ?_⟩
  all_goals rfl
theorem nc_law_trail_0 : Ev.ownOf (fmOf df_law_trail) ({ kind := PySem.ScopeKind.function, names := [ (PySem.Str.ofString ".0", PySem.NameKind.local), (PySem.Str.ofString "k", PySem.NameKind.local), (PySem.Str.ofString "_law_draw", PySem.NameKind.globalImplicit), (PySem.Str.ofString "d", PySem.NameKind.free)], isGenerator := false, isCoroutine := false, more := [] : PySem.Scope } : Scope) = ([("k", 1)] : List (Str × Nat)) ∧ blkC (fmOf df_law_trail).N ((fmOf df_law_trail)).sc ({ kind := PySem.ScopeKind.function, names := [ (PySem.Str.ofString ".0", PySem.NameKind.local), (PySem.Str.ofString "k", PySem.NameKind.local), (PySem.Str.ofString "_law_draw", PySem.NameKind.globalImplicit), (PySem.Str.ofString "d", PySem.NameKind.free)], isGenerator := false, isCoroutine := false, more := [] : PySem.Scope } : Scope) ([("k", 1)] : List (Str × Nat)) = true ∧ lcFlags 2 [1] = [false, true] ∧ slot (blkFm (fmOf df_law_trail) ({ kind := PySem.ScopeKind.function, names := [ (PySem.Str.ofString ".0", PySem.NameKind.local), (PySem.Str.ofString "k", PySem.NameKind.local), (PySem.Str.ofString "_law_draw", PySem.NameKind.globalImplicit), (PySem.Str.ofString "d", PySem.NameKind.free)], isGenerator := false, isCoroutine := false, more := [] : PySem.Scope } : Scope)) "k" = some 1 ∧ slotL (blkFm (fmOf df_law_trail) ({ kind := PySem.ScopeKind.function, names := [ (PySem.Str.ofString ".0", PySem.NameKind.local), (PySem.Str.ofString "k", PySem.NameKind.local), (PySem.Str.ofString "_law_draw", PySem.NameKind.globalImplicit), (PySem.Str.ofString "d", PySem.NameKind.free)], isGenerator := false, isCoroutine := false, more := [] : PySem.Scope } : Scope)) "k" = some 1 ∧ slot (blkFm (fmOf df_law_trail) ({ kind := PySem.ScopeKind.function, names := [ (PySem.Str.ofString ".0", PySem.NameKind.local), (PySem.Str.ofString "k", PySem.NameKind.local), (PySem.Str.ofString "_law_draw", PySem.NameKind.globalImplicit), (PySem.Str.ofString "d", PySem.NameKind.free)], isGenerator := false, isCoroutine := false, more := [] : PySem.Scope } : Scope)) "_law_draw" = none ∧ glB (blkFm (fmOf df_law_trail) ({ kind := PySem.ScopeKind.function, names := [ (PySem.Str.ofString ".0", PySem.NameKind.local), (PySem.Str.ofString "k", PySem.NameKind.local), (PySem.Str.ofString "_law_draw", PySem.NameKind.globalImplicit), (PySem.Str.ofString "d", PySem.NameKind.free)], isGenerator := false, isCoroutine := false, more := [] : PySem.Scope } : Scope)).sc "_law_draw" = true ∧ slot (blkFm (fmOf df_law_trail) ({ kind := PySem.ScopeKind.function, names := [ (PySem.Str.ofString ".0", PySem.NameKind.local), (PySem.Str.ofString "k", PySem.NameKind.local), (PySem.Str.ofString "_law_draw", PySem.NameKind.globalImplicit), (PySem.Str.ofString "d", PySem.NameKind.free)], isGenerator := false, isCoroutine := false, more := [] : PySem.Scope } : Scope)) "d" = some 0 := by
  refine ⟨?_, ?_, ?_, ?_, ?_, ?_, ?_, ?_⟩
  all_goals rfl
theorem nc_law_0 : Ev.ownOf (fmOf df_law) ({ kind := PySem.ScopeKind.function, names := [ (PySem.Str.ofString ".0", PySem.NameKind.local), (PySem.Str.ofString "state", PySem.NameKind.local), (PySem.Str.ofString "_law_draw", PySem.NameKind.globalImplicit), (PySem.Str.ofString "d", PySem.NameKind.free)], isGenerator := false, isCoroutine := false, more := [] : PySem.Scope } : Scope) = ([("state", 12)] : List (Str × Nat)) ∧ blkC (fmOf df_law).N ((fmOf df_law)).sc ({ kind := PySem.ScopeKind.function, names := [ (PySem.Str.ofString ".0", PySem.NameKind.local), (PySem.Str.ofString "state", PySem.NameKind.local), (PySem.Str.ofString "_law_draw", PySem.NameKind.globalImplicit), (PySem.Str.ofString "d", PySem.NameKind.free)], isGenerator := false, isCoroutine := false, more := [] : PySem.Scope } : Scope) ([("state", 12)] : List (Str × Nat)) = true ∧ lcFlags 13 [12] = [false, false, false, false, false, false, false, false, false, false, false, false, true] ∧ slot (blkFm (fmOf df_law) ({ kind := PySem.ScopeKind.function, names := [ (PySem.Str.ofString ".0", PySem.NameKind.local), (PySem.Str.ofString "state", PySem.NameKind.local), (PySem.Str.ofString "_law_draw", PySem.NameKind.globalImplicit), (PySem.Str.ofString "d", PySem.NameKind.free)], isGenerator := false, isCoroutine := false, more := [] : PySem.Scope } : Scope)) "state" = some 12 ∧ slotL (blkFm (fmOf df_law) ({ kind := PySem.ScopeKind.function, names := [ (PySem.Str.ofString ".0", PySem.NameKind.local), (PySem.Str.ofString "state", PySem.NameKind.local), (PySem.Str.ofString "_law_draw", PySem.NameKind.globalImplicit), (PySem.Str.ofString "d", PySem.NameKind.free)], isGenerator := false, isCoroutine := false, more := [] : PySem.Scope } : Scope)) "state" = some 12 ∧ slot (blkFm (fmOf df_law) ({ kind := PySem.ScopeKind.function, names := [ (PySem.Str.ofString ".0", PySem.NameKind.local), (PySem.Str.ofString "state", PySem.NameKind.local), (PySem.Str.ofString "_law_draw", PySem.NameKind.globalImplicit), (PySem.Str.ofString "d", PySem.NameKind.free)], isGenerator := false, isCoroutine := false, more := [] : PySem.Scope } : Scope)) "_law_draw" = none ∧ glB (blkFm (fmOf df_law) ({ kind := PySem.ScopeKind.function, names := [ (PySem.Str.ofString ".0", PySem.NameKind.local), (PySem.Str.ofString "state", PySem.NameKind.local), (PySem.Str.ofString "_law_draw", PySem.NameKind.globalImplicit), (PySem.Str.ofString "d", PySem.NameKind.free)], isGenerator := false, isCoroutine := false, more := [] : PySem.Scope } : Scope)).sc "_law_draw" = true ∧ slot (blkFm (fmOf df_law) ({ kind := PySem.ScopeKind.function, names := [ (PySem.Str.ofString ".0", PySem.NameKind.local), (PySem.Str.ofString "state", PySem.NameKind.local), (PySem.Str.ofString "_law_draw", PySem.NameKind.globalImplicit), (PySem.Str.ofString "d", PySem.NameKind.free)], isGenerator := false, isCoroutine := false, more := [] : PySem.Scope } : Scope)) "d" = some 1 := by
  refine ⟨?_, ?_, ?_, ?_, ?_, ?_, ?_, ?_⟩
  all_goals rfl
end T16

set_option Elab.async false
set_option linter.all false
set_option maxRecDepth 100000
set_option maxHeartbeats 1000000
set_option exponentiation.threshold 10000
namespace T16
open PySem PySem.Spec PyProof.Rows L2 Lk Ev
-- MACRO
local macro_rules
  | `(tactic| simp! only [$a,*]) => `(tactic| simp (config := { implicitDefEqProofs := false }) only [c_li, fl_nx, fl_ct, fl_bk, fl_rt, fl_rf, fl_no, rs_nx, rs_bk, rs_rt, rs_rf, rs_no, vp_rt, vp_nx, vo_rt, vo_nx, vf_rf, cast_lit, b_addb, b_subb, k_ord, or_s, it_s, ↓in_S, ↓in_2, ↓in_1, ↓in_b, cS_nx, cS_rt, cS_rf, cS_bk, cS_ct, cS_no, c2_mk, c2_no, c1_mk, c1_no, t_call_, t_sub_, t_name_, Bool.true_or, Bool.or_true, s_asg_Dict, s_asg_Attr, s_asg_LC, s_asg_LC2, pairsE_nil, pairsE_cons, dOk_nil, dOk_cons, List.isEmpty_cons, ofO_some, ofO_none, blkN, List.reduceReplicate, p64, p64n, natAbs_lit, Nat.reduceLeDiff, Nat.reduceLT, Nat.reduceEqDiff, Nat.reduceBEq, Int.reduceLT, Int.reduceLE, Int.reduceEq, Int.reduceNeg, List.mem_cons, List.not_mem_nil, or_self, f_call_, ro_Name, ro_Call, ro_Lc, ro_Sub, li_s, forL_nil, tgV_Name, tgV_Tup, Option.toList_some, lc2E, q_ii, q_ss, q_bb, q_nn, q_in, q_ni, in_s, nonS_n, dropR_nil, dropR_nil2, dropR_f, dropR_v, dropR_n, dropR_o, dropR_t, blank_nil, blank_cons, lcCond_, ifs_nil, ifs_one, Nat.reduceAdd, lcE, iterE, iterE.seqE, f_Bin, Option.isSome_none, Option.isSome_some, ownAt_Constant, ownAt_Call, ownAt_BinOp, ownAt_UnaryOp, ownAt_BoolOp, ownAt_Compare, ownAt_Tuple, ownAt_List, ownAt_ListComp, ownAt_Subscript, ownAt_Attribute, ownAt_IfExp, ownAt_Dict, ownD_Constant, ownD_Call, ownD_BinOp, ownD_UnaryOp, ownD_BoolOp, ownD_Compare, ownD_Tuple, ownD_List, ownD_ListComp, ownD_Subscript, ownD_Attribute, ownD_IfExp, ownD_Dict, ownAt_Name, ownD_Name, tk_i, tk_s, e_get, e_dict, fb_Dict, fb_LC, f_Lst, f_LC, f_LC2, f_Dict, tg_Name, tg_Tup, tgs_nil, tgs_cons, getE, or_true, true_or, and_true, true_and, and_false, false_and, or_false, false_or, not_true_eq_false, not_false_eq_true, fb_Name, fb_Const, fb_Bin, fb_Un, fb_Sub, fb_Tup, fb_Lst, fb_If, fb_Cmp, fb_Bool, ad_Name, ad_Const, ad_Call, ad_Sub, ad_Un, ad_Tup, ad_Lst, ad_If, ad_add, ad_sub, ad_mul, ad_mod, ad_div, eq_self, decide_eq_true_eq, kit_ii, kit_ib, kit_bb, kit_bi, kit_nb, kit_ni, kit_si, kit_sb, kit_tt, kit_lt, kit_it, kit_nt, atI_lit, ixN_lit, toNat_lit, Option.map_none, List.length_cons, List.length_nil, fr_E, fr_F, fr_T, fr_S, e_name, e_int, e_bool, e_str, e_non, e_bin, e_not, e_neg, e_boolop, e_if, e_cmp, e_tup, e_sub, e_lst, e_lc, e_call, e_callF, t_bool, t_cmp_, t_not_, s_if_, s_ret_, s_aug_, s_expr_, s_for_, s_asg_Name, s_asg_Const, s_asg_Call, s_asg_Bin, s_asg_Un, s_asg_Sub, s_asg_Tup, s_asg_Lst, s_asg_If, s_asg_Cmp, s_asg_Bool, ss_nil_, ss_cons_, args_nil_, args_cons_, e_meth, fb_meth, notStar_Name, notStar_Constant, notStar_Call, notStar_BinOp, notStar_UnaryOp, notStar_BoolOp, notStar_Compare, notStar_Tuple, notStar_List, notStar_ListComp, notStar_Subscript, notStar_Attribute, notStar_IfExp, notStar_Slice, notStar_Dict, notStar_GeneratorExp, notComp_Name, notComp_Constant, notComp_Call, notComp_BinOp, notComp_UnaryOp, notComp_BoolOp, notComp_Compare, notComp_Tuple, notComp_List, notComp_ListComp, notComp_Subscript, notComp_Attribute, notComp_IfExp, notComp_Slice, notComp_Dict, notComp_GeneratorExp, plainT_Name, plainT_Constant, plainT_Call, plainT_BinOp, plainT_UnaryOp, plainT_BoolOp, plainT_Compare, plainT_Tuple, plainT_List, plainT_ListComp, plainT_Subscript, plainT_Attribute, plainT_IfExp, plainT_Slice, plainT_Dict, plainT_GeneratorExp, notIx_Name, notIx_Constant, notIx_Call, notIx_BinOp, notIx_UnaryOp, notIx_BoolOp, notIx_Compare, notIx_Tuple, notIx_List, notIx_ListComp, notIx_Subscript, notIx_Attribute, notIx_IfExp, notIx_Slice, notIx_Dict, notIx_GeneratorExp, notSet_Name, notSet_Constant, notSet_Call, notSet_BinOp, notSet_UnaryOp, notSet_BoolOp, notSet_Compare, notSet_Tuple, notSet_List, notSet_ListComp, notSet_Subscript, notSet_Attribute, notSet_IfExp, notSet_Slice, notSet_Dict, notSet_GeneratorExp, notCall_Name, notCall_Constant, notCall_Call, notCall_BinOp, notCall_UnaryOp, notCall_BoolOp, notCall_Compare, notCall_Tuple, notCall_List, notCall_ListComp, notCall_Subscript, notCall_Attribute, notCall_IfExp, notCall_Slice, notCall_Dict, notCall_GeneratorExp, notTup_Name, notTup_Constant, notTup_Call, notTup_BinOp, notTup_UnaryOp, notTup_BoolOp, notTup_Compare, notTup_Tuple, notTup_List, notTup_ListComp, notTup_Subscript, notTup_Attribute, notTup_IfExp, notTup_Slice, notTup_Dict, notTup_GeneratorExp, isNone_Name, isNone_Call, isNone_BinOp, isNone_UnaryOp, isNone_BoolOp, isNone_Compare, isNone_Tuple, isNone_List, isNone_ListComp, isNone_Subscript, isNone_Attribute, isNone_IfExp, isNone_Slice, isNone_Dict, isNone_GeneratorExp, isNone_c, isNone_i, isNone_s, nameE, cmpE, boolE, boolT, subE, callE, bltE, methE, cmp1, retE, assignE, augE, exprE, forE_eq, lastMarks, partE, strsOf, intsOf, boolsOf, b_add, b_sub, b_addt, b_adds, b_mul, b_fdiv, b_mod, b_pow, b_shl, c_int, c_tup, c_str, c_ll, m_lt, m_le, m_gt, m_ge, m_eq, m_ne, m_eqs, m_nes, m_eqb, m_neb, m_eq_, m_ne_, m_in, m_nin, x_t, x_l, x_s, k_len, k_abs, k_max, k_min, k_sum, k_all, k_any, k_divmod, k_int, kt_int, k_tuple, kt_tuple, l_t, l_l, l_s, a_i, mx_2, mn_2, mx_l, mn_l, sm_l, al_l, an_l, dm_, it_i, it_b, tu_l, tu_t, li_l, li_t, tr_b, tr_i, tr_t, tr_l, tr_n, n_n, n_i, n_t, n_b, n_s, n_l, ty_i, ty_b, ty_s, ty_t, ty_l, ty_n, tyo_int, tyo_bool, tyo_str, tyo_tuple, tyo_list, fl_i, fl_b, fl_s, fl_n, au_a, au_s, sf_f, sj_l, sj_t, bm_, bm_c, bm_call, bm_b, bm_s, bm_t, bm_u, io_v, io_n, io_f, io_t, cst_i, List.getElem?_cons_zero, List.getElem?_cons_succ, List.set_cons_zero, List.set_cons_succ, List.all_cons, List.all_nil, List.map_cons, List.map_nil, Option.map_some, Bool.and_true, Bool.true_and, Bool.or_false, Bool.false_or, Bool.and_false, Bool.false_and, if_true, if_false, if_pos, Bool.not_true, Bool.not_false, reduceIte, reduceCtorEq, List.cons_append, List.nil_append, ite_true, ite_false, decide_true, decide_false, Bool.false_eq_true, $a,*])
-- END
theorem ev_law_is_int (n : Nat) (i : Int) : runP (csAt pg n) df_law_is_int [.int i] = some (.bool true) := by
  rw [st_law_is_int]
  simp! only [nm_law_is_int, nl_law_is_int, ok_isinstance, cd_isinstance, fb_isinstance, sq_isinstance_list, sq_isinstance_sorted, sq_isinstance_range, sq_isinstance_enumerate, sq_isinstance_zip, sq_isinstance_tuple, sq_isinstance_isinstance, sq_isinstance_int, sq_isinstance_set, sq_isinstance_dict, sq_isinstance_any, sq_isinstance_all, ok_int, cd_int, fb_int, sq_int_list, sq_int_sorted, sq_int_range, sq_int_enumerate, sq_int_zip, sq_int_tuple, sq_int_isinstance, sq_int_int, sq_int_set, sq_int_dict, sq_int_any, sq_int_all, ok_bool, cd_bool, fb_bool]
theorem ev_law_is_int_n (n : Nat) : runP (csAt pg n) df_law_is_int [.none] = some (.bool false) := by
  rw [st_law_is_int]
  simp! only [nm_law_is_int, nl_law_is_int, ok_isinstance, cd_isinstance, fb_isinstance, sq_isinstance_list, sq_isinstance_sorted, sq_isinstance_range, sq_isinstance_enumerate, sq_isinstance_zip, sq_isinstance_tuple, sq_isinstance_isinstance, sq_isinstance_int, sq_isinstance_set, sq_isinstance_dict, sq_isinstance_any, sq_isinstance_all, ok_int, cd_int, fb_int, sq_int_list, sq_int_sorted, sq_int_range, sq_int_enumerate, sq_int_zip, sq_int_tuple, sq_int_isinstance, sq_int_int, sq_int_set, sq_int_dict, sq_int_any, sq_int_all, ok_bool, cd_bool, fb_bool]
theorem ev_draw1 (n : Nat) (s : Dr) (many : Int) (hm : 0 < many ∧ many < 1073741824) (hh : 0 < s.hi) : runO (csAt pg n) df_law_draw (drC s) [.int many] = some (.int (s.hi % many), drC { s with hi := s.hi / many }) := by
  rw [st_law_draw]
  simp! only [nm_law_draw, nl_law_draw, ok_len, cd_len, fb_len, sq_len_list, sq_len_sorted, sq_len_range, sq_len_enumerate, sq_len_zip, sq_len_tuple, sq_len_isinstance, sq_len_int, sq_len_set, sq_len_dict, sq_len_any, sq_len_all, ok_int, cd_int, fb_int, sq_int_list, sq_int_sorted, sq_int_range, sq_int_enumerate, sq_int_zip, sq_int_tuple, sq_int_isinstance, sq_int_int, sq_int_set, sq_int_dict, sq_int_any, sq_int_all, ok_abs, cd_abs, fb_abs, sq_abs_list, sq_abs_sorted, sq_abs_range, sq_abs_enumerate, sq_abs_zip, sq_abs_tuple, sq_abs_isinstance, sq_abs_int, sq_abs_set, sq_abs_dict, sq_abs_any, sq_abs_all, drC, hm, hh]
theorem ev_draw2 (n : Nat) (s : Dr) (many : Int) (hm : 0 < many ∧ many < 1073741824) (hh : ¬ 0 < s.hi) (ha : ¬ s.at_ < (s.cells.length : Int)) : runO (csAt pg n) df_law_draw (drC s) [.int many] =
    some (.int ((s.seed * 48271 + 0 % 2147483629 * 16807 + (s.at_ + 1) * 69621 + 11) % 2147483647 / 16 % many), drC { s with at_ := s.at_ + 1, seed := (s.seed * 48271 + 0 % 2147483629 * 16807 + (s.at_ + 1) * 69621 + 11) % 2147483647 }) := by
  rw [st_law_draw]
  simp! only [nm_law_draw, nl_law_draw, ok_len, cd_len, fb_len, sq_len_list, sq_len_sorted, sq_len_range, sq_len_enumerate, sq_len_zip, sq_len_tuple, sq_len_isinstance, sq_len_int, sq_len_set, sq_len_dict, sq_len_any, sq_len_all, ok_int, cd_int, fb_int, sq_int_list, sq_int_sorted, sq_int_range, sq_int_enumerate, sq_int_zip, sq_int_tuple, sq_int_isinstance, sq_int_int, sq_int_set, sq_int_dict, sq_int_any, sq_int_all, ok_abs, cd_abs, fb_abs, sq_abs_list, sq_abs_sorted, sq_abs_range, sq_abs_enumerate, sq_abs_zip, sq_abs_tuple, sq_abs_isinstance, sq_abs_int, sq_abs_set, sq_abs_dict, sq_abs_any, sq_abs_all, drC, hm, hh, ha, List.length_map, p18]
theorem atI_m {cells : List Int} {i c : Int} (h : atI cells i = some c) : atI (cells.map PyData.int) i = some (.int c) := atI_map h
def sizeOf (c : Int) : Int := 2 * (if c < 0 then -c else c) + (if c < 0 then 1 else 0)
theorem ev_draw3 (n : Nat) (s : Dr) (many c : Int) (hm : 0 < many ∧ many < 1073741824) (hh : ¬ 0 < s.hi) (ha : s.at_ < (s.cells.length : Int)) (hc : atI (s.cells.map PyData.int) s.at_ = some (.int c))
    (hz : 2 * 10 ^ 18 ≤ 2 * (if c < 0 then -c else c) + (if c < 0 then 1 else 0)) : runO (csAt pg n) df_law_draw (drC s) [.int many] = some (.int (sizeOf c / 2 % (1 * 2 ^ 6000) % many), drC { s with at_ := s.at_ + 1, hi := sizeOf c / 2 % (1 * 2 ^ 6000) / many }) := by
  rw [st_law_draw]
  simp! only [nm_law_draw, nl_law_draw, ok_len, cd_len, fb_len, sq_len_list, sq_len_sorted, sq_len_range, sq_len_enumerate, sq_len_zip, sq_len_tuple, sq_len_isinstance, sq_len_int, sq_len_set, sq_len_dict, sq_len_any, sq_len_all, ok_int, cd_int, fb_int, sq_int_list, sq_int_sorted, sq_int_range, sq_int_enumerate, sq_int_zip, sq_int_tuple, sq_int_isinstance, sq_int_int, sq_int_set, sq_int_dict, sq_int_any, sq_int_all, ok_abs, cd_abs, fb_abs, sq_abs_list, sq_abs_sorted, sq_abs_range, sq_abs_enumerate, sq_abs_zip, sq_abs_tuple, sq_abs_isinstance, sq_abs_int, sq_abs_set, sq_abs_dict, sq_abs_any, sq_abs_all, drC, hm, hh, ha, hc, hz, List.length_map, sizeOf, p6000]
theorem ev_draw4 (n : Nat) (s : Dr) (many c : Int) (hm : 0 < many ∧ many < 1073741824) (hh : ¬ 0 < s.hi) (ha : s.at_ < (s.cells.length : Int)) (hc : atI (s.cells.map PyData.int) s.at_ = some (.int c))
    (hz : ¬ 2 * 10 ^ 18 ≤ 2 * (if c < 0 then -c else c) + (if c < 0 then 1 else 0)) : runO (csAt pg n) df_law_draw (drC s) [.int many] =
    some (.int ((s.seed * 48271 + sizeOf c % 2147483629 * 16807 + (s.at_ + 1) * 69621 + 11) % 2147483647 / 16 % many), drC { s with at_ := s.at_ + 1, seed := (s.seed * 48271 + sizeOf c % 2147483629 * 16807 + (s.at_ + 1) * 69621 + 11) % 2147483647 }) := by
  rw [st_law_draw]
  simp! only [nm_law_draw, nl_law_draw, ok_len, cd_len, fb_len, sq_len_list, sq_len_sorted, sq_len_range, sq_len_enumerate, sq_len_zip, sq_len_tuple, sq_len_isinstance, sq_len_int, sq_len_set, sq_len_dict, sq_len_any, sq_len_all, ok_int, cd_int, fb_int, sq_int_list, sq_int_sorted, sq_int_range, sq_int_enumerate, sq_int_zip, sq_int_tuple, sq_int_isinstance, sq_int_int, sq_int_set, sq_int_dict, sq_int_any, sq_int_all, ok_abs, cd_abs, fb_abs, sq_abs_list, sq_abs_sorted, sq_abs_range, sq_abs_enumerate, sq_abs_zip, sq_abs_tuple, sq_abs_isinstance, sq_abs_int, sq_abs_set, sq_abs_dict, sq_abs_any, sq_abs_all, drC, hm, hh, ha, hc, hz, List.length_map, sizeOf, p6000]
def Good (s : Dr) : Prop := 0 ≤ s.at_
theorem draw_ok (n : Nat) (s : Dr) (many : Int) (g : Good s) (hm : 0 < many ∧ many < 1073741824) : ∃ r s', 0 ≤ r ∧ r < many ∧ Good s' ∧ runO (csAt pg n) df_law_draw (drC s) [.int many] = some (.int r, drC s') := by
  have lo : ∀ x : Int, 0 ≤ x % many := fun x => Int.emod_nonneg _ (by omega)
  have up : ∀ x : Int, x % many < many := fun x => Int.emod_lt_of_pos _ hm.1
  by_cases hh : 0 < s.hi
  · refine ⟨_, _, lo _, up _, ?_, ev_draw1 n s many hm hh⟩; exact g
  by_cases ha : s.at_ < (s.cells.length : Int)
  · have g0 : 0 ≤ s.at_ := g
    have hc : ∃ c, atI (s.cells.map PyData.int) s.at_ = some (.int c) := by
      obtain ⟨k, hk⟩ := Int.eq_ofNat_of_zero_le g0
      rw [hk] at ha ⊢
      have hlt : k < s.cells.length := by omega
      exact ⟨s.cells[k], by rw [Ev.atI_nat, List.getElem?_map, List.getElem?_eq_getElem hlt]; rfl⟩
    obtain ⟨c, hc⟩ := hc
    have g2 : 0 ≤ s.at_ + 1 := by omega
    by_cases hz : 2 * 10 ^ 18 ≤ 2 * (if c < 0 then -c else c) + (if c < 0 then 1 else 0)
    · refine ⟨_, _, lo _, up _, ?_, ev_draw3 n s many c hm hh ha hc hz⟩; exact g2
    · refine ⟨_, _, lo _, up _, ?_, ev_draw4 n s many c hm hh ha hc hz⟩; exact g2
  · refine ⟨_, _, lo _, up _, ?_, ev_draw2 n s many hm hh ha⟩; have g0 : 0 ≤ s.at_ := g; show 0 ≤ s.at_ + 1; omega
theorem ev_begin (n : Nat) (ns : List Int) : runF (csAt pg n) df_law_begin [.list (ns.map .int)] = some (drC ⟨ns, 0, 0, 7⟩) := by
  rw [st_law_begin]
  simp! only [nm_law_begin, nl_law_begin, nc_law_begin_0, ok_int, cd_int, fb_int, sq_int_list, sq_int_sorted, sq_int_range, sq_int_enumerate, sq_int_zip, sq_int_tuple, sq_int_isinstance, sq_int_int, sq_int_set, sq_int_dict, sq_int_any, sq_int_all, lcE, iterE, iterE.seqE]
  rw [lcL_map (α := Int) (β := Int) PyData.int PyData.int (fun x _ => by
    unfold lcTurn
    simp! only [nm_law_begin, nl_law_begin, nc_law_begin_0, ok_int, cd_int, fb_int, sq_int_list, sq_int_sorted, sq_int_range, sq_int_enumerate, sq_int_zip, sq_int_tuple, sq_int_isinstance, sq_int_int, sq_int_set, sq_int_dict, sq_int_any, sq_int_all])]
  simp! only [nm_law_begin, nl_law_begin, nc_law_begin_0, ok_int, cd_int, fb_int, sq_int_list, sq_int_sorted, sq_int_range, sq_int_enumerate, sq_int_zip, sq_int_tuple, sq_int_isinstance, sq_int_int, sq_int_set, sq_int_dict, sq_int_any, sq_int_all, drC]
theorem ev_pick (n : Nat) (s : Dr) (g : Good s) (xs : List D) (h0 : 0 < xs.length) (h1 : (xs.length : Int) < 1073741824) : ∃ r s' x, 0 ≤ r ∧ atI xs r = some x ∧ x ∈ xs ∧ Good s' ∧ runO (csAt pg (n + 1)) df_law_pick (drC s) [.list xs] = some (x, drC s') := by
  obtain ⟨r, s', h2, h3, g', hd⟩ := draw_ok n s xs.length g ⟨by omega, h1⟩
  obtain ⟨k, hk⟩ := Int.eq_ofNat_of_zero_le h2
  have hlt : k < xs.length := by omega
  have ha : atI xs r = some xs[k] := by rw [hk, Ev.atI_nat, List.getElem?_eq_getElem hlt]
  refine ⟨r, s', xs[k], h2, ha, List.getElem_mem hlt, g', ?_⟩
  rw [st_law_pick]
  simp! only [nm_law_pick, nl_law_pick, ok_law_draw, cd_law_draw, fb_law_draw, sq_law_draw_list, sq_law_draw_sorted, sq_law_draw_range, sq_law_draw_enumerate, sq_law_draw_zip, sq_law_draw_tuple, sq_law_draw_isinstance, sq_law_draw_int, sq_law_draw_set, sq_law_draw_dict, sq_law_draw_any, sq_law_draw_all, ok_len, cd_len, fb_len, sq_len_list, sq_len_sorted, sq_len_range, sq_len_enumerate, sq_len_zip, sq_len_tuple, sq_len_isinstance, sq_len_int, sq_len_set, sq_len_dict, sq_len_any, sq_len_all, hd, ha]
theorem ev_door_of (n : Nat) (z : Str) : runP (csAt pg n) df_door_of [.str z] = some (.int ((if Txt.find "ABCDEF" z > Txt.find "123456" z then Txt.find "ABCDEF" z else Txt.find "123456" z) + 1)) := by
  rw [st_door_of]
  simp! only [nm_door_of, nl_door_of, ok_max, cd_max, fb_max, sq_max_list, sq_max_sorted, sq_max_range, sq_max_enumerate, sq_max_zip, sq_max_tuple, sq_max_isinstance, sq_max_int, sq_max_set, sq_max_dict, sq_max_any, sq_max_all, ok_GATES, cg_GATES, ok_LIDS, cg_LIDS, sq_find_append, sq_find_find, sq_find_get, sq_find_join, sq_find_list, sq_find_pop, sq_find_sorted, sq_find_split]
theorem ev_sign_at (n : Nat) (ls : List Str) (c : Int) (l0 l : Str) (ch : Nat) (h0 : ls[0]? = some l0) (hw : 0 < (l0.length : Int) ∧ (l0.length : Int) < 1073741824) (hl : atI ls (c / (l0.length : Int)) = some l) (hz0 : l0.length ≤ 16777216) (hz : l.length ≤ 16777216)
    (hc : atI l.cps.toList (c % (l0.length : Int)) = some ch) : runP (csAt pg n) df_sign_at [.tuple (ls.map .str), .int c] = some (.str ⟨#[ch]⟩) := by
  have hl2 : atI (ls.map PyData.str) (c / (l0.length : Int)) = some (.str l) := atI_map hl
  rw [st_sign_at]
  simp! only [nm_sign_at, nl_sign_at, ok_divmod, cd_divmod, fb_divmod, sq_divmod_list, sq_divmod_sorted, sq_divmod_range, sq_divmod_enumerate, sq_divmod_zip, sq_divmod_tuple, sq_divmod_isinstance, sq_divmod_int, sq_divmod_set, sq_divmod_dict, sq_divmod_any, sq_divmod_all, ok_len, cd_len, fb_len, sq_len_list, sq_len_sorted, sq_len_range, sq_len_enumerate, sq_len_zip, sq_len_tuple, sq_len_isinstance, sq_len_int, sq_len_set, sq_len_dict, sq_len_any, sq_len_all, List.getElem?_map, h0, hw, hl2, hz0, hz, hc]
theorem ev_cell_kind0 (n : Nat) (ls : List Str) (c : Int) (z : Str) (st : List D) (h : runP (csAt pg n) df_sign_at [.tuple (ls.map .str), .int c] = some (.str z)) (k : Int) (hk : runP (csAt pg n) df_door_of [.str z] = some (.int k)) (h0 : k = 0) :
    runP (csAt pg (n + 1)) df_cell_kind [.tuple (ls.map .str), .tuple st, .int c] = some ((valD [(.inr "#", .str "wall"), (.inr "*", .str "glass"), (.inr "!", .str "hole")] (.inr z)).getD (.str "free")) := by
  subst h0
  rw [st_cell_kind]
  simp! only [nm_cell_kind, nl_cell_kind, ok_sign_at, cd_sign_at, fb_sign_at, sq_sign_at_list, sq_sign_at_sorted, sq_sign_at_range, sq_sign_at_enumerate, sq_sign_at_zip, sq_sign_at_tuple, sq_sign_at_isinstance, sq_sign_at_int, sq_sign_at_set, sq_sign_at_dict, sq_sign_at_any, sq_sign_at_all, ok_door_of, cd_door_of, fb_door_of, sq_door_of_list, sq_door_of_sorted, sq_door_of_range, sq_door_of_enumerate, sq_door_of_zip, sq_door_of_tuple, sq_door_of_isinstance, sq_door_of_int, sq_door_of_set, sq_door_of_dict, sq_door_of_any, sq_door_of_all, ok_GATES, cg_GATES, ok_FIXED_KINDS, cg_FIXED_KINDS, sq_get_append, sq_get_find, sq_get_get, sq_get_join, sq_get_list, sq_get_pop, sq_get_sorted, sq_get_split, h, hk]
theorem ev_cell_kind1 (n : Nat) (ls : List Str) (c : Int) (ch : Nat) (st : List D) (h : runP (csAt pg n) df_sign_at [.tuple (ls.map .str), .int c] = some (.str ⟨#[ch]⟩)) (k b : Int) (hk : runP (csAt pg n) df_door_of [.str ⟨#[ch]⟩] = some (.int k)) (h0 : ¬ k = 0) (hb : atI st (k - 1) = some (.int b)) :
    runP (csAt pg (n + 1)) df_cell_kind [.tuple (ls.map .str), .tuple st, .int c] = some (.str (if b = 1 then (if ch ∈ ("123456" : Str).cps.toList then "free" else "hole") else if ch ∈ ("123456" : Str).cps.toList then "wall" else "free")) := by
  rw [st_cell_kind]
  by_cases hb1 : b = 1
  · by_cases hg : ch ∈ ("123456" : Str).cps.toList
    · simp! only [nm_cell_kind, nl_cell_kind, ok_sign_at, cd_sign_at, fb_sign_at, sq_sign_at_list, sq_sign_at_sorted, sq_sign_at_range, sq_sign_at_enumerate, sq_sign_at_zip, sq_sign_at_tuple, sq_sign_at_isinstance, sq_sign_at_int, sq_sign_at_set, sq_sign_at_dict, sq_sign_at_any, sq_sign_at_all, ok_door_of, cd_door_of, fb_door_of, sq_door_of_list, sq_door_of_sorted, sq_door_of_range, sq_door_of_enumerate, sq_door_of_zip, sq_door_of_tuple, sq_door_of_isinstance, sq_door_of_int, sq_door_of_set, sq_door_of_dict, sq_door_of_any, sq_door_of_all, ok_GATES, cg_GATES, ok_FIXED_KINDS, cg_FIXED_KINDS, sq_get_append, sq_get_find, sq_get_get, sq_get_join, sq_get_list, sq_get_pop, sq_get_sorted, sq_get_split, h, hk, h0, hb, hb1, hg]
    · simp! only [nm_cell_kind, nl_cell_kind, ok_sign_at, cd_sign_at, fb_sign_at, sq_sign_at_list, sq_sign_at_sorted, sq_sign_at_range, sq_sign_at_enumerate, sq_sign_at_zip, sq_sign_at_tuple, sq_sign_at_isinstance, sq_sign_at_int, sq_sign_at_set, sq_sign_at_dict, sq_sign_at_any, sq_sign_at_all, ok_door_of, cd_door_of, fb_door_of, sq_door_of_list, sq_door_of_sorted, sq_door_of_range, sq_door_of_enumerate, sq_door_of_zip, sq_door_of_tuple, sq_door_of_isinstance, sq_door_of_int, sq_door_of_set, sq_door_of_dict, sq_door_of_any, sq_door_of_all, ok_GATES, cg_GATES, ok_FIXED_KINDS, cg_FIXED_KINDS, sq_get_append, sq_get_find, sq_get_get, sq_get_join, sq_get_list, sq_get_pop, sq_get_sorted, sq_get_split, h, hk, h0, hb, hb1, hg]
  · by_cases hg : ch ∈ ("123456" : Str).cps.toList
    · simp! only [nm_cell_kind, nl_cell_kind, ok_sign_at, cd_sign_at, fb_sign_at, sq_sign_at_list, sq_sign_at_sorted, sq_sign_at_range, sq_sign_at_enumerate, sq_sign_at_zip, sq_sign_at_tuple, sq_sign_at_isinstance, sq_sign_at_int, sq_sign_at_set, sq_sign_at_dict, sq_sign_at_any, sq_sign_at_all, ok_door_of, cd_door_of, fb_door_of, sq_door_of_list, sq_door_of_sorted, sq_door_of_range, sq_door_of_enumerate, sq_door_of_zip, sq_door_of_tuple, sq_door_of_isinstance, sq_door_of_int, sq_door_of_set, sq_door_of_dict, sq_door_of_any, sq_door_of_all, ok_GATES, cg_GATES, ok_FIXED_KINDS, cg_FIXED_KINDS, sq_get_append, sq_get_find, sq_get_get, sq_get_join, sq_get_list, sq_get_pop, sq_get_sorted, sq_get_split, h, hk, h0, hb, hb1, hg]
    · simp! only [nm_cell_kind, nl_cell_kind, ok_sign_at, cd_sign_at, fb_sign_at, sq_sign_at_list, sq_sign_at_sorted, sq_sign_at_range, sq_sign_at_enumerate, sq_sign_at_zip, sq_sign_at_tuple, sq_sign_at_isinstance, sq_sign_at_int, sq_sign_at_set, sq_sign_at_dict, sq_sign_at_any, sq_sign_at_all, ok_door_of, cd_door_of, fb_door_of, sq_door_of_list, sq_door_of_sorted, sq_door_of_range, sq_door_of_enumerate, sq_door_of_zip, sq_door_of_tuple, sq_door_of_isinstance, sq_door_of_int, sq_door_of_set, sq_door_of_dict, sq_door_of_any, sq_door_of_all, ok_GATES, cg_GATES, ok_FIXED_KINDS, cg_FIXED_KINDS, sq_get_append, sq_get_find, sq_get_get, sq_get_join, sq_get_list, sq_get_pop, sq_get_sorted, sq_get_split, h, hk, h0, hb, hb1, hg]
theorem ev_next_cell (n : Nat) (ls : List Str) (c k dy dx : Int) (l0 : Str) (h0 : ls[0]? = some l0) (hz0 : l0.length ≤ 16777216) (hw : 0 < (l0.length : Int) ∧ (l0.length : Int) < 1073741824)
    (hm : atI ([.tuple [.int (-1), .int 0], .tuple [.int 0, .int 1], .tuple [.int 1, .int 0], .tuple [.int 0, .int (-1)]] : List D) k = some (.tuple [.int dy, .int dx])) (hl : ls.length < 1000)
    : runP (csAt pg n) df_next_cell [.tuple (ls.map .str), .int c, .int k] = some (if 0 ≤ c / (l0.length : Int) + dy ∧ c / (l0.length : Int) + dy < ls.length ∧ 0 ≤ c % (l0.length : Int) + dx ∧ c % (l0.length : Int) + dx < l0.length then .int ((c / (l0.length : Int) + dy) * l0.length + (c % (l0.length : Int) + dx)) else .none) := by
  have hb : -18446744073709551616 < (l0.length : Int) ∧ (l0.length : Int) < 18446744073709551616 := by omega
  rw [st_next_cell]
  by_cases h1 : 0 ≤ c / (l0.length : Int) + dy
  · by_cases h2 : c / (l0.length : Int) + dy < ls.length
    · by_cases h3 : 0 ≤ c % (l0.length : Int) + dx
      · by_cases h4 : c % (l0.length : Int) + dx < l0.length
        · simp! only [nm_next_cell, nl_next_cell, ok_len, cd_len, fb_len, sq_len_list, sq_len_sorted, sq_len_range, sq_len_enumerate, sq_len_zip, sq_len_tuple, sq_len_isinstance, sq_len_int, sq_len_set, sq_len_dict, sq_len_any, sq_len_all, ok_MOVES, cg_MOVES, List.getElem?_map, List.length_map, h0, hw, hz0, hm, h1, h2, h3, h4, hb]
        · simp! only [nm_next_cell, nl_next_cell, ok_len, cd_len, fb_len, sq_len_list, sq_len_sorted, sq_len_range, sq_len_enumerate, sq_len_zip, sq_len_tuple, sq_len_isinstance, sq_len_int, sq_len_set, sq_len_dict, sq_len_any, sq_len_all, ok_MOVES, cg_MOVES, List.getElem?_map, List.length_map, h0, hw, hz0, hm, h1, h2, h3, h4, hb]
      · simp! only [nm_next_cell, nl_next_cell, ok_len, cd_len, fb_len, sq_len_list, sq_len_sorted, sq_len_range, sq_len_enumerate, sq_len_zip, sq_len_tuple, sq_len_isinstance, sq_len_int, sq_len_set, sq_len_dict, sq_len_any, sq_len_all, ok_MOVES, cg_MOVES, List.getElem?_map, List.length_map, h0, hw, hz0, hm, h1, h2, h3, hb]
    · simp! only [nm_next_cell, nl_next_cell, ok_len, cd_len, fb_len, sq_len_list, sq_len_sorted, sq_len_range, sq_len_enumerate, sq_len_zip, sq_len_tuple, sq_len_isinstance, sq_len_int, sq_len_set, sq_len_dict, sq_len_any, sq_len_all, ok_MOVES, cg_MOVES, List.getElem?_map, List.length_map, h0, hw, hz0, hm, h1, h2, hb]
  · simp! only [nm_next_cell, nl_next_cell, ok_len, cd_len, fb_len, sq_len_list, sq_len_sorted, sq_len_range, sq_len_enumerate, sq_len_zip, sq_len_tuple, sq_len_isinstance, sq_len_int, sq_len_set, sq_len_dict, sq_len_any, sq_len_all, ok_MOVES, cg_MOVES, List.getElem?_map, List.length_map, h0, hw, hz0, hm, h1, hb]
def doorOf (z : Str) : Int := (if Txt.find "ABCDEF" z > Txt.find "123456" z then Txt.find "ABCDEF" z else Txt.find "123456" z) + 1


set_option Elab.async false
set_option linter.all false
set_option maxRecDepth 100000
set_option maxHeartbeats 1000000
open PySem PySem.Spec PyProof.Rows L2 Lk Ev
/-! ### plans -/
def SIGNS : List Nat := [46, 44, 43, 97, 98, 99, 100, 101, 102, 103, 104, 35, 42, 33, 49, 50, 51, 52, 53, 54, 65, 66, 67, 68, 69, 70]
structure PlanOk (ls : List Str) (w : Nat) : Prop where
  h1 : 1 ≤ ls.length
  h8 : ls.length ≤ 8
  w1 : 1 ≤ w
  w8 : w ≤ 8
  len : ∀ l ∈ ls, l.cps.toList.length = w
  sg : ∀ l ∈ ls, ∀ c ∈ l.cps.toList, c ∈ SIGNS
theorem PlanOk.slen {ls : List Str} {w : Nat} (p : PlanOk ls w) {l : Str} (hl : l ∈ ls) : l.length = w := by
  have := p.len l hl
  rw [Array.length_toList] at this
  exact this
/-- the door of a sign, 0 for none -/
def doorN (c : Nat) : Nat := if 49 ≤ c ∧ c ≤ 54 then c - 48 else if 65 ≤ c ∧ c ≤ 70 then c - 64 else 0
def doorsN (ls : List Str) : Nat := ls.foldl (fun m l => l.cps.toList.foldl (fun m c => max m (doorN c)) m) 0
def fixOf (c : Nat) : Option Str := if c = 35 then some "wall" else if c = 42 then some "glass" else if c = 33 then some "hole" else none
/-- the kind of a cell with that sign -/
def kindC (c : Nat) (st : List Int) : Str := match fixOf c with
  | some z => z
  | none => if 49 ≤ c ∧ c ≤ 54 ∧ st[c - 49]? = some 0 then "wall" else if 65 ≤ c ∧ c ≤ 70 ∧ st[c - 65]? = some 1 then "hole" else "free"
def Bits (st : List Int) : Prop := ∀ b ∈ st, b = 0 ∨ b = 1
/-! ### the doors, by the law -/
theorem int_tab : ∀ c ∈ [49, 50, 51, 52, 53, 54], PySem.intText? ⟨#[c]⟩ = some (((c - 48 : Nat) : Int)) := by decide +kernel
theorem g6 : (Str.ofString "123456").cps.toList = [49, 50, 51, 52, 53, 54] ∧ (Str.ofString "ABCDEF").cps.toList = [65, 66, 67, 68, 69, 70] := by decide +kernel
theorem len1 {c : Nat} : (⟨#[c]⟩ : Str).length = 1 := rfl
theorem get1 {c : Nat} : (#[c] : Array Nat).getD 0 0 = c := rfl
theorem in_g {c : Nat} : (c ∈ (Str.ofString "123456").cps.toList) = (49 ≤ c ∧ c ≤ 54) := by
  rw [g6.1]; simp only [List.mem_cons, List.not_mem_nil, or_false]; apply propext; omega
theorem in_l {c : Nat} : (c ∈ (Str.ofString "ABCDEF").cps.toList) = (65 ≤ c ∧ c ≤ 70) := by
  rw [g6.2]; simp only [List.mem_cons, List.not_mem_nil, or_false]; apply propext; omega
theorem turn_ch (n : Nat) (l : D) (c m : Nat) : turnE (FR df_law_doors n 58) (fmOf df_law_doors) FT_law_doors_69 FB_law_doors_69 (df_law_doors.drop 69) (.str ⟨#[c]⟩) [.non, .val (.int m), .non, .non] = some (.nx [.non, .val (.int (max m (doorN c) : Nat)), .non, .non]) := by
  rw [turnE_eq]
  unfold doorN
  by_cases a : 49 ≤ c ∧ c ≤ 54
  · have b : (65 ≤ c ∧ c ≤ 70) = False := eq_false (by omega)
    have hi := int_tab c (by simp only [List.mem_cons, List.not_mem_nil, or_false]; omega)
    have a := eq_true a
    by_cases q : (((c - 48 : Nat) : Int) > (m : Int))
    · have e : ((max m (c - 48) : Nat) : Int) = ((c - 48 : Nat) : Int) := by omega
      simp! only [nm_law_doors, nl_law_doors, dr_law_doors_68, dr_law_doors_69, ok_max, cd_max, fb_max, sq_max_list, sq_max_sorted, sq_max_range, sq_max_enumerate, sq_max_zip, sq_max_tuple, sq_max_isinstance, sq_max_int, sq_max_set, sq_max_dict, sq_max_any, sq_max_all, ok_int, cd_int, fb_int, sq_int_list, sq_int_sorted, sq_int_range, sq_int_enumerate, sq_int_zip, sq_int_tuple, sq_int_isinstance, sq_int_int, sq_int_set, sq_int_dict, sq_int_any, sq_int_all, ok_ord, cd_ord, fb_ord, sq_ord_list, sq_ord_sorted, sq_ord_range, sq_ord_enumerate, sq_ord_zip, sq_ord_tuple, sq_ord_isinstance, sq_ord_int, sq_ord_set, sq_ord_dict, sq_ord_any, sq_ord_all, in_g, in_l, a, b, hi, len1, q, e]
    · have e : ((max m (c - 48) : Nat) : Int) = (m : Int) := by omega
      simp! only [nm_law_doors, nl_law_doors, dr_law_doors_68, dr_law_doors_69, ok_max, cd_max, fb_max, sq_max_list, sq_max_sorted, sq_max_range, sq_max_enumerate, sq_max_zip, sq_max_tuple, sq_max_isinstance, sq_max_int, sq_max_set, sq_max_dict, sq_max_any, sq_max_all, ok_int, cd_int, fb_int, sq_int_list, sq_int_sorted, sq_int_range, sq_int_enumerate, sq_int_zip, sq_int_tuple, sq_int_isinstance, sq_int_int, sq_int_set, sq_int_dict, sq_int_any, sq_int_all, ok_ord, cd_ord, fb_ord, sq_ord_list, sq_ord_sorted, sq_ord_range, sq_ord_enumerate, sq_ord_zip, sq_ord_tuple, sq_ord_isinstance, sq_ord_int, sq_ord_set, sq_ord_dict, sq_ord_any, sq_ord_all, in_g, in_l, a, b, hi, len1, q, e]
  · have a := eq_false a
    by_cases b : 65 ≤ c ∧ c ≤ 70
    · by_cases q : ((c : Int) - 64 > (m : Int))
      · have e : ((max m (c - 64) : Nat) : Int) = (c : Int) - 64 := by omega
        have b := eq_true b
        simp! only [nm_law_doors, nl_law_doors, dr_law_doors_68, dr_law_doors_69, ok_max, cd_max, fb_max, sq_max_list, sq_max_sorted, sq_max_range, sq_max_enumerate, sq_max_zip, sq_max_tuple, sq_max_isinstance, sq_max_int, sq_max_set, sq_max_dict, sq_max_any, sq_max_all, ok_int, cd_int, fb_int, sq_int_list, sq_int_sorted, sq_int_range, sq_int_enumerate, sq_int_zip, sq_int_tuple, sq_int_isinstance, sq_int_int, sq_int_set, sq_int_dict, sq_int_any, sq_int_all, ok_ord, cd_ord, fb_ord, sq_ord_list, sq_ord_sorted, sq_ord_range, sq_ord_enumerate, sq_ord_zip, sq_ord_tuple, sq_ord_isinstance, sq_ord_int, sq_ord_set, sq_ord_dict, sq_ord_any, sq_ord_all, in_g, in_l, a, b, len1, get1, q, e]
      · have e : ((max m (c - 64) : Nat) : Int) = (m : Int) := by omega
        have b := eq_true b
        simp! only [nm_law_doors, nl_law_doors, dr_law_doors_68, dr_law_doors_69, ok_max, cd_max, fb_max, sq_max_list, sq_max_sorted, sq_max_range, sq_max_enumerate, sq_max_zip, sq_max_tuple, sq_max_isinstance, sq_max_int, sq_max_set, sq_max_dict, sq_max_any, sq_max_all, ok_int, cd_int, fb_int, sq_int_list, sq_int_sorted, sq_int_range, sq_int_enumerate, sq_int_zip, sq_int_tuple, sq_int_isinstance, sq_int_int, sq_int_set, sq_int_dict, sq_int_any, sq_int_all, ok_ord, cd_ord, fb_ord, sq_ord_list, sq_ord_sorted, sq_ord_range, sq_ord_enumerate, sq_ord_zip, sq_ord_tuple, sq_ord_isinstance, sq_ord_int, sq_ord_set, sq_ord_dict, sq_ord_any, sq_ord_all, in_g, in_l, a, b, len1, get1, q, e]
    · have e : ((max m 0 : Nat) : Int) = (m : Int) := by omega
      have b := eq_false b
      simp! only [nm_law_doors, nl_law_doors, dr_law_doors_68, dr_law_doors_69, ok_max, cd_max, fb_max, sq_max_list, sq_max_sorted, sq_max_range, sq_max_enumerate, sq_max_zip, sq_max_tuple, sq_max_isinstance, sq_max_int, sq_max_set, sq_max_dict, sq_max_any, sq_max_all, ok_int, cd_int, fb_int, sq_int_list, sq_int_sorted, sq_int_range, sq_int_enumerate, sq_int_zip, sq_int_tuple, sq_int_isinstance, sq_int_int, sq_int_set, sq_int_dict, sq_int_any, sq_int_all, ok_ord, cd_ord, fb_ord, sq_ord_list, sq_ord_sorted, sq_ord_range, sq_ord_enumerate, sq_ord_zip, sq_ord_tuple, sq_ord_isinstance, sq_ord_int, sq_ord_set, sq_ord_dict, sq_ord_any, sq_ord_all, in_g, in_l, a, b, e]
theorem turn_ln (n : Nat) (l : Str) (hz : l.length ≤ 16777216) (m : Nat) : turnE (FR df_law_doors n 59) (fmOf df_law_doors) FT_law_doors_68 FB_law_doors_68 (df_law_doors.drop 68) (.str l) [.non, .val (.int m), .non, .non] = some (.nx [.non, .val (.int (l.cps.toList.foldl (fun m c => max m (doorN c)) m : Nat)), .non, .non]) := by
  have h := forL_fold (R := Sum (D × Rho) (Ct × Rho)) (step := turnE (FR df_law_doors n 58) (fmOf df_law_doors) FT_law_doors_69 FB_law_doors_69 (df_law_doors.drop 69)) (fun m : Nat => [.non, .val (.int m), .non, .non]) (fun c : Nat => .str ⟨#[c]⟩) (fun m c => max m (doorN c)) (xs := l.cps.toList) (b := m) (fun c _ m => turn_ch n .none c m)
  rw [turnE_eq]
  simp! only [nm_law_doors, nl_law_doors, dr_law_doors_68, dr_law_doors_69, ok_max, cd_max, fb_max, sq_max_list, sq_max_sorted, sq_max_range, sq_max_enumerate, sq_max_zip, sq_max_tuple, sq_max_isinstance, sq_max_int, sq_max_set, sq_max_dict, sq_max_any, sq_max_all, ok_int, cd_int, fb_int, sq_int_list, sq_int_sorted, sq_int_range, sq_int_enumerate, sq_int_zip, sq_int_tuple, sq_int_isinstance, sq_int_int, sq_int_set, sq_int_dict, sq_int_any, sq_int_all, ok_ord, cd_ord, fb_ord, sq_ord_list, sq_ord_sorted, sq_ord_range, sq_ord_enumerate, sq_ord_zip, sq_ord_tuple, sq_ord_isinstance, sq_ord_int, sq_ord_set, sq_ord_dict, sq_ord_any, sq_ord_all, hz, signsD, h]
theorem ev_ldoors (n : Nat) {ls : List Str} {w : Nat} (p : PlanOk ls w) : runP (csAt pg n) df_law_doors [.tuple (ls.map .str)] = some (.int (doorsN ls)) := by
  have h := forL_fold (R := Sum (D × Rho) (Ct × Rho)) (step := turnE (FR df_law_doors n 59) (fmOf df_law_doors) FT_law_doors_68 FB_law_doors_68 (df_law_doors.drop 68)) (fun m : Nat => [.non, .val (.int m), .non, .non]) PyData.str (fun m (l : Str) => l.cps.toList.foldl (fun m c => max m (doorN c)) m) (xs := ls) (b := 0) (fun l hl m => turn_ln n l (by rw [p.slen hl]; have := p.w8; omega) m)
  have h2 : forL _ (ls.map PyData.str) [Sl.non, Sl.val (.int 0), .non, .non] = _ := h
  rw [st_law_doors]
  simp! only [nm_law_doors, nl_law_doors, dr_law_doors_68, dr_law_doors_69, ok_max, cd_max, fb_max, sq_max_list, sq_max_sorted, sq_max_range, sq_max_enumerate, sq_max_zip, sq_max_tuple, sq_max_isinstance, sq_max_int, sq_max_set, sq_max_dict, sq_max_any, sq_max_all, ok_int, cd_int, fb_int, sq_int_list, sq_int_sorted, sq_int_range, sq_int_enumerate, sq_int_zip, sq_int_tuple, sq_int_isinstance, sq_int_int, sq_int_set, sq_int_dict, sq_int_any, sq_int_all, ok_ord, cd_ord, fb_ord, sq_ord_list, sq_ord_sorted, sq_ord_range, sq_ord_enumerate, sq_ord_zip, sq_ord_tuple, sq_ord_isinstance, sq_ord_int, sq_ord_set, sq_ord_dict, sq_ord_any, sq_ord_all, h2, doorsN]
theorem fold_max (f : Nat → Nat) : ∀ (cs : List Nat) (m : Nat), m ≤ cs.foldl (fun m c => max m (f c)) m ∧ ∀ c ∈ cs, f c ≤ cs.foldl (fun m c => max m (f c)) m
  | [], m => ⟨Nat.le_refl _, fun c h => (by cases h)⟩
  | c :: cs, m => by
    obtain ⟨h1, h2⟩ := fold_max f cs (max m (f c))
    rw [List.foldl_cons]
    refine ⟨by omega, fun x hx => ?_⟩
    rcases List.mem_cons.mp hx with rfl | hx
    · omega
    · exact h2 x hx
theorem fold_mono (f : Nat → Nat) : ∀ (cs : List Nat) (m k : Nat), m ≤ k → cs.foldl (fun m c => max m (f c)) m ≤ cs.foldl (fun m c => max m (f c)) k
  | [], m, k, h => h
  | c :: cs, m, k, h => by
    rw [List.foldl_cons, List.foldl_cons]
    exact fold_mono f cs _ _ (by omega)
theorem fold_le (f : Nat → Nat) (b : Nat) : ∀ (cs : List Nat) (m : Nat), m ≤ b → (∀ c ∈ cs, f c ≤ b) → cs.foldl (fun m c => max m (f c)) m ≤ b
  | [], m, h, _ => h
  | c :: cs, m, h, hc => by
    rw [List.foldl_cons]
    exact fold_le f b cs _ (Nat.max_le.mpr ⟨h, hc c (List.mem_cons_self ..)⟩) fun x hx => hc x (List.mem_cons_of_mem _ hx)
theorem doors_fold : ∀ (ls : List Str) (m : Nat), ls.foldl (fun m l => l.cps.toList.foldl (fun m c => max m (doorN c)) m) m = (ls.map fun l => l.cps.toList).flatten.foldl (fun m c => max m (doorN c)) m
  | [], m => rfl
  | l :: ls, m => by rw [List.foldl_cons, doors_fold ls, List.map_cons, List.flatten_cons, List.foldl_append]
theorem doors_ge {ls : List Str} {l : Str} (hl : l ∈ ls) {c : Nat} (hc : c ∈ l.cps.toList) : doorN c ≤ doorsN ls := by
  unfold doorsN
  rw [doors_fold]
  exact (fold_max doorN _ 0).2 c (List.mem_flatten.mpr ⟨_, List.mem_map.mpr ⟨l, hl, rfl⟩, hc⟩)
theorem doorN_le (c : Nat) : doorN c ≤ 6 := by
  unfold doorN
  split
  · omega
  · split <;> omega
theorem doors_le (ls : List Str) : doorsN ls ≤ 6 := by
  unfold doorsN
  rw [doors_fold]
  exact fold_le doorN 6 _ 0 (by omega) fun c _ => doorN_le c
/-! ### cells -/
def InCell (ls : List Str) (w : Nat) (c : Int) : Prop := 0 ≤ c ∧ c < (ls.length : Int) * w
def signI (ls : List Str) (w : Nat) (c : Int) : Nat := ((atI ls (c / w)).bind fun l => atI l.cps.toList (c % w)).getD 46
theorem div_cell {h w : Nat} (w1 : 1 ≤ w) {c : Int} (h0 : 0 ≤ c) (h1 : c < (h : Int) * w) : 0 ≤ c / (w : Int) ∧ c / (w : Int) < h ∧ 0 ≤ c % (w : Int) ∧ c % (w : Int) < w := by
  have hw : (0 : Int) < w := by omega
  exact ⟨Int.ediv_nonneg h0 (by omega), Int.ediv_lt_of_lt_mul hw h1, Int.emod_nonneg _ (by omega), Int.emod_lt_of_pos _ hw⟩
theorem sign_ex {ls : List Str} {w : Nat} (p : PlanOk ls w) {c : Int} (hc : InCell ls w c) : ∃ l, l ∈ ls ∧ atI ls (c / (w : Int)) = some l ∧ atI l.cps.toList (c % (w : Int)) = some (signI ls w c) ∧ signI ls w c ∈ SIGNS ∧ signI ls w c ∈ l.cps.toList := by
  obtain ⟨a, b, d, e⟩ := div_cell p.w1 hc.1 hc.2
  obtain ⟨i, hi⟩ := Int.eq_ofNat_of_zero_le a
  obtain ⟨j, hj⟩ := Int.eq_ofNat_of_zero_le d
  rw [hi] at b; rw [hj] at e
  have hil : i < ls.length := by omega
  have hl : ls[i] ∈ ls := List.getElem_mem hil
  have hjl : j < ls[i].cps.toList.length := by rw [p.len _ hl]; omega
  have e1 : atI ls (c / (w : Int)) = some ls[i] := by rw [hi, Ev.atI_nat]; exact List.getElem?_eq_getElem hil
  have e2 : atI ls[i].cps.toList (c % (w : Int)) = some ls[i].cps.toList[j] := by rw [hj, Ev.atI_nat]; exact List.getElem?_eq_getElem hjl
  have e3 : signI ls w c = ls[i].cps.toList[j] := by
    unfold signI
    rw [e1, Option.bind_some, e2]; rfl
  have hm : ls[i].cps.toList[j] ∈ ls[i].cps.toList := List.getElem_mem hjl
  exact ⟨ls[i], hl, e1, e3 ▸ e2, e3 ▸ p.sg _ hl _ hm, e3 ▸ hm⟩
theorem head_ex {ls : List Str} {w : Nat} (p : PlanOk ls w) : ∃ l0, ls[0]? = some l0 ∧ l0.length = w := by
  have h1 := p.h1
  have h0 : 0 < ls.length := by omega
  exact ⟨ls[0], List.getElem?_eq_getElem h0, p.slen (List.getElem_mem h0)⟩
def kindI (ls : List Str) (w : Nat) (st : List Int) (c : Int) : Str := kindC (signI ls w c) st
theorem ev_sgn (n : Nat) {ls : List Str} {w : Nat} (p : PlanOk ls w) {c : Int} (hc : InCell ls w c) : runP (csAt pg n) df_sign_at [.tuple (ls.map .str), .int c] = some (.str ⟨#[signI ls w c]⟩) := by
  obtain ⟨l, hl, e1, e2, _, _⟩ := sign_ex p hc
  obtain ⟨l0, h0, hw⟩ := head_ex p
  have w8 := p.w8
  have w1 := p.w1
  refine ev_sign_at n ls c l0 l _ h0 ?_ ?_ ?_ ?_ ?_
  · rw [hw]; omega
  · rw [hw]; exact e1
  · rw [hw]; omega
  · rw [p.slen hl]; omega
  · rw [hw]; exact e2
theorem door_tab : ∀ c ∈ SIGNS, doorOf ⟨#[c]⟩ = (doorN c : Nat) := by decide +kernel
abbrev FIX : List (Key × D) := [(.inr "#", .str "wall"), (.inr "*", .str "glass"), (.inr "!", .str "hole")]
theorem str_eq1 {a : Nat} {x : Str} {c : Nat} (h : x = ⟨#[a]⟩) : ((.inr x : Key) = .inr ⟨#[c]⟩) = (c = a) := by
  subst h
  apply propext
  constructor
  · intro e
    have := Sum.inr.inj e
    have := congrArg Str.cps this
    simpa using this.symm
  · rintro rfl; rfl
theorem val_fix (c : Nat) : valD FIX (.inr ⟨#[c]⟩) = (fixOf c).map .str := by
  have h1 : Str.ofString "#" = ⟨#[35]⟩ := by decide +kernel
  have h2 : Str.ofString "*" = ⟨#[42]⟩ := by decide +kernel
  have h3 : Str.ofString "!" = ⟨#[33]⟩ := by decide +kernel
  unfold valD FIX fixOf
  simp only [List.find?_cons, str_eq1 h1, str_eq1 h2, str_eq1 h3, List.find?_nil]
  by_cases a : c = 35
  · simp [a]
  · by_cases b : c = 42
    · simp [b]
    · by_cases d : c = 33
      · simp [d]
      · simp [a, b, d]
theorem fix_none {c : Nat} (h : 48 < c) : fixOf c = none := by
  unfold fixOf
  rw [if_neg (by omega), if_neg (by omega), if_neg (by omega)]
/-- the program's kind of a cell -/
theorem ev_kind (n : Nat) {ls : List Str} {w : Nat} (p : PlanOk ls w) {cell : Int} (hc : InCell ls w cell) {st : List Int} (hd : doorN (signI ls w cell) ≤ st.length) (hb : Bits st) :
    runP (csAt pg (n + 1)) df_cell_kind [.tuple (ls.map .str), .tuple (st.map .int), .int cell] = some (.str (kindI ls w st cell)) := by
  have hs := ev_sgn n p hc
  obtain ⟨_, _, _, _, hsg, _⟩ := sign_ex p hc
  unfold kindI
  generalize signI ls w cell = c at hs hsg hd ⊢
  have hdo : runP (csAt pg n) df_door_of [.str ⟨#[c]⟩] = some (.int (doorOf ⟨#[c]⟩)) := ev_door_of n _
  rw [door_tab c hsg] at hdo
  have mem1 : ("123456" : Str).cps.toList = [49, 50, 51, 52, 53, 54] := g6.1
  by_cases g : 49 ≤ c ∧ c ≤ 54
  · have dn : doorN c = c - 48 := if_pos g
    rw [dn] at hd hdo
    obtain ⟨j, rfl⟩ : ∃ j, c = 49 + j := ⟨c - 49, by omega⟩
    have hj : j < st.length := by omega
    have hat : atI (st.map PyData.int) (((49 + j - 48 : Nat) : Int) - 1) = some (.int st[j]) := by
      rw [show (((49 + j - 48 : Nat) : Int) - 1) = ((j : Nat) : Int) by omega, Ev.atI_nat, List.getElem?_map, List.getElem?_eq_getElem hj]; rfl
    rw [ev_cell_kind1 n ls cell (49 + j) (st.map .int) hs _ st[j] hdo (by omega) hat]
    unfold kindC
    rw [fix_none (by omega), mem1]
    have hm : 49 + j ∈ [49, 50, 51, 52, 53, 54] := by simp only [List.mem_cons, List.not_mem_nil, or_false]; omega
    have hs2 : st[49 + j - 49]? = some st[j] := by rw [show 49 + j - 49 = j by omega]; exact List.getElem?_eq_getElem hj
    have hn : ¬ (65 ≤ 49 + j ∧ 49 + j ≤ 70 ∧ st[49 + j - 65]? = some 1) := by omega
    simp only [hs2]
    rcases hb st[j] (List.getElem_mem hj) with h | h
    · rw [h]; simp [hm, g]
    · rw [h, if_neg hn]; simp [hm]
  · by_cases l : 65 ≤ c ∧ c ≤ 70
    · have dn : doorN c = c - 64 := by unfold doorN; rw [if_neg g, if_pos l]
      rw [dn] at hd hdo
      obtain ⟨j, rfl⟩ : ∃ j, c = 65 + j := ⟨c - 65, by omega⟩
      have hj : j < st.length := by omega
      have hat : atI (st.map PyData.int) (((65 + j - 64 : Nat) : Int) - 1) = some (.int st[j]) := by
        rw [show (((65 + j - 64 : Nat) : Int) - 1) = ((j : Nat) : Int) by omega, Ev.atI_nat, List.getElem?_map, List.getElem?_eq_getElem hj]; rfl
      rw [ev_cell_kind1 n ls cell (65 + j) (st.map .int) hs _ st[j] hdo (by omega) hat]
      unfold kindC
      rw [fix_none (by omega), mem1]
      have hm : ¬ 65 + j ∈ [49, 50, 51, 52, 53, 54] := by simp only [List.mem_cons, List.not_mem_nil, or_false]; omega
      have hs2 : st[65 + j - 65]? = some st[j] := by rw [show 65 + j - 65 = j by omega]; exact List.getElem?_eq_getElem hj
      have hn : ¬ (49 ≤ 65 + j ∧ 65 + j ≤ 54 ∧ st[65 + j - 49]? = some 0) := by omega
      simp only [hs2, if_neg hn]
      rcases hb st[j] (List.getElem_mem hj) with h | h
      · rw [h]; simp [hm]
      · rw [h]; simp [hm, l]
    · have dn : doorN c = 0 := by unfold doorN; rw [if_neg g, if_neg l]
      rw [dn] at hdo
      rw [ev_cell_kind0 n ls cell _ (st.map .int) hs _ hdo rfl, val_fix]
      unfold kindC
      cases hf : fixOf c with
      | some z => rfl
      | none =>
        have n1 : ¬ (49 ≤ c ∧ c ≤ 54 ∧ st[c - 49]? = some 0) := fun h => g ⟨h.1, h.2.1⟩
        have n2 : ¬ (65 ≤ c ∧ c ≤ 70 ∧ st[c - 65]? = some 1) := fun h => l ⟨h.1, h.2.1⟩
        simp only [if_neg n1, if_neg n2]
        rfl


set_option Elab.async false
set_option linter.all false
set_option maxRecDepth 100000
set_option maxHeartbeats 1000000
open PySem PySem.Spec PyProof.Rows L2 Lk Ev
/-! ### the law's kind and next cell -/
theorem sg1 {a : Nat} {x : Str} {c : Nat} (h : x = ⟨#[a]⟩) : ((⟨#[c]⟩ : Str) = x) = (c = a) := by
  subst h; simp
theorem e35 (c : Nat) : ((⟨#[c]⟩ : Str) = Str.ofString "#") = (c = 35) := sg1 (by decide +kernel)
theorem e42 (c : Nat) : ((⟨#[c]⟩ : Str) = Str.ofString "*") = (c = 42) := sg1 (by decide +kernel)
theorem e33 (c : Nat) : ((⟨#[c]⟩ : Str) = Str.ofString "!") = (c = 33) := sg1 (by decide +kernel)
theorem ev_lkind (n : Nat) {ls : List Str} {w : Nat} (p : PlanOk ls w) {cell : Int} (hc : InCell ls w cell) {st : List Int} (hd : doorN (signI ls w cell) ≤ st.length) :
    runP (csAt pg n) df_law_kind [.tuple (ls.map .str), .tuple (st.map .int), .int cell] = some (.str (kindI ls w st cell)) := by
  obtain ⟨l, hl, e1, e2, hsg, _⟩ := sign_ex p hc
  obtain ⟨l0, h0, hw⟩ := head_ex p
  have w8 := p.w8
  have w1 := p.w1
  have hz := p.slen hl
  have hwi : (l0.length : Int) = w := by omega
  have hz0 : l0.length ≤ 16777216 := by omega
  have hzl : l.length ≤ 16777216 := by omega
  have hb : 0 < (w : Int) ∧ (w : Int) < 1073741824 := by omega
  have e1 : atI (ls.map PyData.str) (cell / (w : Int)) = some (.str l) := atI_map e1
  unfold kindI
  generalize signI ls w cell = c at e2 hsg hd ⊢
  rw [st_law_kind]
  unfold kindC fixOf
  by_cases a : c = 35
  · have a := eq_true a
    simp! only [nm_law_kind, nl_law_kind, ok_len, cd_len, fb_len, sq_len_list, sq_len_sorted, sq_len_range, sq_len_enumerate, sq_len_zip, sq_len_tuple, sq_len_isinstance, sq_len_int, sq_len_set, sq_len_dict, sq_len_any, sq_len_all, ok_int, cd_int, fb_int, sq_int_list, sq_int_sorted, sq_int_range, sq_int_enumerate, sq_int_zip, sq_int_tuple, sq_int_isinstance, sq_int_int, sq_int_set, sq_int_dict, sq_int_any, sq_int_all, ok_ord, cd_ord, fb_ord, sq_ord_list, sq_ord_sorted, sq_ord_range, sq_ord_enumerate, sq_ord_zip, sq_ord_tuple, sq_ord_isinstance, sq_ord_int, sq_ord_set, sq_ord_dict, sq_ord_any, sq_ord_all, List.getElem?_map, h0, hz0, hwi, hzl, hb, e1, e2, e35, a]
  · have a := eq_false a
    by_cases b : c = 42
    · have b := eq_true b
      simp! only [nm_law_kind, nl_law_kind, ok_len, cd_len, fb_len, sq_len_list, sq_len_sorted, sq_len_range, sq_len_enumerate, sq_len_zip, sq_len_tuple, sq_len_isinstance, sq_len_int, sq_len_set, sq_len_dict, sq_len_any, sq_len_all, ok_int, cd_int, fb_int, sq_int_list, sq_int_sorted, sq_int_range, sq_int_enumerate, sq_int_zip, sq_int_tuple, sq_int_isinstance, sq_int_int, sq_int_set, sq_int_dict, sq_int_any, sq_int_all, ok_ord, cd_ord, fb_ord, sq_ord_list, sq_ord_sorted, sq_ord_range, sq_ord_enumerate, sq_ord_zip, sq_ord_tuple, sq_ord_isinstance, sq_ord_int, sq_ord_set, sq_ord_dict, sq_ord_any, sq_ord_all, List.getElem?_map, h0, hz0, hwi, hzl, hb, e1, e2, e35, e42, a, b]
    · have b := eq_false b
      by_cases d : c = 33
      · have d := eq_true d
        simp! only [nm_law_kind, nl_law_kind, ok_len, cd_len, fb_len, sq_len_list, sq_len_sorted, sq_len_range, sq_len_enumerate, sq_len_zip, sq_len_tuple, sq_len_isinstance, sq_len_int, sq_len_set, sq_len_dict, sq_len_any, sq_len_all, ok_int, cd_int, fb_int, sq_int_list, sq_int_sorted, sq_int_range, sq_int_enumerate, sq_int_zip, sq_int_tuple, sq_int_isinstance, sq_int_int, sq_int_set, sq_int_dict, sq_int_any, sq_int_all, ok_ord, cd_ord, fb_ord, sq_ord_list, sq_ord_sorted, sq_ord_range, sq_ord_enumerate, sq_ord_zip, sq_ord_tuple, sq_ord_isinstance, sq_ord_int, sq_ord_set, sq_ord_dict, sq_ord_any, sq_ord_all, List.getElem?_map, h0, hz0, hwi, hzl, hb, e1, e2, e35, e42, e33, a, b, d]
      · have d := eq_false d
        by_cases g : 49 ≤ c ∧ c ≤ 54
        · have hi := int_tab c (by simp only [List.mem_cons, List.not_mem_nil, or_false]; omega)
          have hdn : doorN c = c - 48 := if_pos g
          have hj : c - 49 < st.length := by omega
          have hat : atI (st.map PyData.int) (((c - 48 : Nat) : Int) - 1) = some (.int st[c - 49]) := by
            rw [show (((c - 48 : Nat) : Int) - 1) = ((c - 49 : Nat) : Int) by omega, Ev.atI_nat, List.getElem?_map, List.getElem?_eq_getElem hj]; rfl
          have hs2 : st[c - 49]? = some st[c - 49] := List.getElem?_eq_getElem hj
          have hl2 : (65 ≤ c ∧ c ≤ 70) = False := eq_false (by omega)
          have hl3 : (65 ≤ c ∧ c ≤ 70 ∧ st[c - 65]? = some 1) = False := eq_false (by omega)
          by_cases v : st[c - 49] = 0
          · have hl1 : (49 ≤ c ∧ c ≤ 54 ∧ st[c - 49]? = some 0) = True := eq_true ⟨g.1, g.2, by rw [hs2, v]⟩
            have g := eq_true g
            simp! only [nm_law_kind, nl_law_kind, ok_len, cd_len, fb_len, sq_len_list, sq_len_sorted, sq_len_range, sq_len_enumerate, sq_len_zip, sq_len_tuple, sq_len_isinstance, sq_len_int, sq_len_set, sq_len_dict, sq_len_any, sq_len_all, ok_int, cd_int, fb_int, sq_int_list, sq_int_sorted, sq_int_range, sq_int_enumerate, sq_int_zip, sq_int_tuple, sq_int_isinstance, sq_int_int, sq_int_set, sq_int_dict, sq_int_any, sq_int_all, ok_ord, cd_ord, fb_ord, sq_ord_list, sq_ord_sorted, sq_ord_range, sq_ord_enumerate, sq_ord_zip, sq_ord_tuple, sq_ord_isinstance, sq_ord_int, sq_ord_set, sq_ord_dict, sq_ord_any, sq_ord_all, List.getElem?_map, h0, hz0, hwi, hzl, hb, e1, e2, e35, e42, e33, a, b, d, in_g, in_l, g, hi, len1, hat, v, hl1]
          · have hl1 : (49 ≤ c ∧ c ≤ 54 ∧ st[c - 49]? = some 0) = False := eq_false (fun z => v (by rw [hs2] at z; exact Option.some.inj z.2.2))
            have g := eq_true g
            simp! only [nm_law_kind, nl_law_kind, ok_len, cd_len, fb_len, sq_len_list, sq_len_sorted, sq_len_range, sq_len_enumerate, sq_len_zip, sq_len_tuple, sq_len_isinstance, sq_len_int, sq_len_set, sq_len_dict, sq_len_any, sq_len_all, ok_int, cd_int, fb_int, sq_int_list, sq_int_sorted, sq_int_range, sq_int_enumerate, sq_int_zip, sq_int_tuple, sq_int_isinstance, sq_int_int, sq_int_set, sq_int_dict, sq_int_any, sq_int_all, ok_ord, cd_ord, fb_ord, sq_ord_list, sq_ord_sorted, sq_ord_range, sq_ord_enumerate, sq_ord_zip, sq_ord_tuple, sq_ord_isinstance, sq_ord_int, sq_ord_set, sq_ord_dict, sq_ord_any, sq_ord_all, List.getElem?_map, h0, hz0, hwi, hzl, hb, e1, e2, e35, e42, e33, a, b, d, in_g, in_l, g, hi, len1, hat, v, hl1, hl2, hl3]
        · have hl1 : (49 ≤ c ∧ c ≤ 54 ∧ st[c - 49]? = some 0) = False := eq_false (fun z => g ⟨z.1, z.2.1⟩)
          by_cases q : 65 ≤ c ∧ c ≤ 70
          · have hdn : doorN c = c - 64 := by unfold doorN; rw [if_neg g, if_pos q]
            have hj : c - 65 < st.length := by omega
            have hat : atI (st.map PyData.int) ((c : Int) - 65) = some (.int st[c - 65]) := by
              rw [show ((c : Int) - 65) = ((c - 65 : Nat) : Int) by omega, Ev.atI_nat, List.getElem?_map, List.getElem?_eq_getElem hj]; rfl
            have hs2 : st[c - 65]? = some st[c - 65] := List.getElem?_eq_getElem hj
            have g := eq_false g
            by_cases v : st[c - 65] = 1
            · have hl3 : (65 ≤ c ∧ c ≤ 70 ∧ st[c - 65]? = some 1) = True := eq_true ⟨q.1, q.2, by rw [hs2, v]⟩
              have q := eq_true q
              simp! only [nm_law_kind, nl_law_kind, ok_len, cd_len, fb_len, sq_len_list, sq_len_sorted, sq_len_range, sq_len_enumerate, sq_len_zip, sq_len_tuple, sq_len_isinstance, sq_len_int, sq_len_set, sq_len_dict, sq_len_any, sq_len_all, ok_int, cd_int, fb_int, sq_int_list, sq_int_sorted, sq_int_range, sq_int_enumerate, sq_int_zip, sq_int_tuple, sq_int_isinstance, sq_int_int, sq_int_set, sq_int_dict, sq_int_any, sq_int_all, ok_ord, cd_ord, fb_ord, sq_ord_list, sq_ord_sorted, sq_ord_range, sq_ord_enumerate, sq_ord_zip, sq_ord_tuple, sq_ord_isinstance, sq_ord_int, sq_ord_set, sq_ord_dict, sq_ord_any, sq_ord_all, List.getElem?_map, h0, hz0, hwi, hzl, hb, e1, e2, e35, e42, e33, a, b, d, in_g, in_l, g, q, get1, len1, hat, v, hl1, hl3]
            · have hl3 : (65 ≤ c ∧ c ≤ 70 ∧ st[c - 65]? = some 1) = False := eq_false (fun z => v (by rw [hs2] at z; exact Option.some.inj z.2.2))
              have q := eq_true q
              simp! only [nm_law_kind, nl_law_kind, ok_len, cd_len, fb_len, sq_len_list, sq_len_sorted, sq_len_range, sq_len_enumerate, sq_len_zip, sq_len_tuple, sq_len_isinstance, sq_len_int, sq_len_set, sq_len_dict, sq_len_any, sq_len_all, ok_int, cd_int, fb_int, sq_int_list, sq_int_sorted, sq_int_range, sq_int_enumerate, sq_int_zip, sq_int_tuple, sq_int_isinstance, sq_int_int, sq_int_set, sq_int_dict, sq_int_any, sq_int_all, ok_ord, cd_ord, fb_ord, sq_ord_list, sq_ord_sorted, sq_ord_range, sq_ord_enumerate, sq_ord_zip, sq_ord_tuple, sq_ord_isinstance, sq_ord_int, sq_ord_set, sq_ord_dict, sq_ord_any, sq_ord_all, List.getElem?_map, h0, hz0, hwi, hzl, hb, e1, e2, e35, e42, e33, a, b, d, in_g, in_l, g, q, get1, len1, hat, v, hl1, hl3]
          · have hl3 : (65 ≤ c ∧ c ≤ 70 ∧ st[c - 65]? = some 1) = False := eq_false (fun z => q ⟨z.1, z.2.1⟩)
            have g := eq_false g
            have q := eq_false q
            simp! only [nm_law_kind, nl_law_kind, ok_len, cd_len, fb_len, sq_len_list, sq_len_sorted, sq_len_range, sq_len_enumerate, sq_len_zip, sq_len_tuple, sq_len_isinstance, sq_len_int, sq_len_set, sq_len_dict, sq_len_any, sq_len_all, ok_int, cd_int, fb_int, sq_int_list, sq_int_sorted, sq_int_range, sq_int_enumerate, sq_int_zip, sq_int_tuple, sq_int_isinstance, sq_int_int, sq_int_set, sq_int_dict, sq_int_any, sq_int_all, ok_ord, cd_ord, fb_ord, sq_ord_list, sq_ord_sorted, sq_ord_range, sq_ord_enumerate, sq_ord_zip, sq_ord_tuple, sq_ord_isinstance, sq_ord_int, sq_ord_set, sq_ord_dict, sq_ord_any, sq_ord_all, List.getElem?_map, h0, hz0, hwi, hzl, hb, e1, e2, e35, e42, e33, a, b, d, in_g, in_l, g, q, hl1, hl3]
/-! ### next cells -/
def dyOf (d : Int) : Int := (if d = 2 then 1 else 0) - if d = 0 then 1 else 0
def dxOf (d : Int) : Int := (if d = 1 then 1 else 0) - if d = 3 then 1 else 0
def nextI (h w : Nat) (c d : Int) : Option Int := if 0 ≤ c / (w : Int) + dyOf d ∧ c / (w : Int) + dyOf d < h ∧ 0 ≤ c % (w : Int) + dxOf d ∧ c % (w : Int) + dxOf d < w then some ((c / (w : Int) + dyOf d) * w + (c % (w : Int) + dxOf d)) else none
def optD : Option Int → D
  | some i => .int i
  | none => .none
def Dir (d : Int) : Prop := 0 ≤ d ∧ d < 4
theorem dir_cases {d : Int} (h : Dir d) : d = 0 ∨ d = 1 ∨ d = 2 ∨ d = 3 := by unfold Dir at h; omega
theorem next_in {ls : List Str} {w : Nat} {c d x : Int} (h : nextI ls.length w c d = some x) : InCell ls w x := by
  unfold nextI at h
  split at h
  · rename_i q
    cases h
    obtain ⟨a, b, e, f⟩ := q
    refine ⟨?_, ?_⟩
    · exact Int.add_nonneg (Int.mul_nonneg a (by omega)) e
    · have : (c / (w : Int) + dyOf d + 1) * (w : Int) ≤ (ls.length : Int) * w := Int.mul_le_mul_of_nonneg_right (by omega) (by omega)
      rw [Int.add_mul] at this
      omega
  · cases h
theorem ev_next (n : Nat) {ls : List Str} {w : Nat} (p : PlanOk ls w) (c d : Int) (hd : Dir d) : runP (csAt pg n) df_next_cell [.tuple (ls.map .str), .int c, .int d] = some (optD (nextI ls.length w c d)) := by
  obtain ⟨l0, h0, hw⟩ := head_ex p
  have w8 := p.w8
  have w1 := p.w1
  have h8 := p.h8
  have hm : atI ([.tuple [.int (-1), .int 0], .tuple [.int 0, .int 1], .tuple [.int 1, .int 0], .tuple [.int 0, .int (-1)]] : List D) d = some (.tuple [.int (dyOf d), .int (dxOf d)]) := by
    rcases dir_cases hd with rfl | rfl | rfl | rfl <;> rfl
  rw [ev_next_cell n ls c d _ _ l0 h0 (by omega) (by omega) hm (by omega), hw]
  unfold nextI
  split <;> rfl
theorem ev_lnext (n : Nat) {ls : List Str} {w : Nat} (p : PlanOk ls w) (c d : Int) (hd : Dir d) : runP (csAt pg n) df_law_next [.tuple (ls.map .str), .int c, .int d] = some (optD (nextI ls.length w c d)) := by
  obtain ⟨l0, h0, hw⟩ := head_ex p
  have w8 := p.w8
  have w1 := p.w1
  have h8 := p.h8
  have hwi : (l0.length : Int) = w := by omega
  have hz0 : l0.length ≤ 16777216 := by omega
  have hb : 0 < (w : Int) ∧ (w : Int) < 1073741824 := by omega
  have hb2 : -18446744073709551616 < (w : Int) ∧ (w : Int) < 18446744073709551616 := by omega
  have y1 : c / (w : Int) + (if d = 2 then 1 else 0) - (if d = 0 then 1 else 0) = c / (w : Int) + dyOf d := by unfold dyOf; omega
  have y2 : c % (w : Int) + (if d = 1 then 1 else 0) - (if d = 3 then 1 else 0) = c % (w : Int) + dxOf d := by unfold dxOf; omega
  rw [st_law_next]
  unfold nextI
  by_cases h1 : 0 ≤ c / (w : Int) + dyOf d
  · by_cases h2 : c / (w : Int) + dyOf d < ls.length
    · by_cases h3 : 0 ≤ c % (w : Int) + dxOf d
      · by_cases h4 : c % (w : Int) + dxOf d < w
        · simp! only [nm_law_next, nl_law_next, ok_len, cd_len, fb_len, sq_len_list, sq_len_sorted, sq_len_range, sq_len_enumerate, sq_len_zip, sq_len_tuple, sq_len_isinstance, sq_len_int, sq_len_set, sq_len_dict, sq_len_any, sq_len_all, ok_int, cd_int, fb_int, sq_int_list, sq_int_sorted, sq_int_range, sq_int_enumerate, sq_int_zip, sq_int_tuple, sq_int_isinstance, sq_int_int, sq_int_set, sq_int_dict, sq_int_any, sq_int_all, List.getElem?_map, List.length_map, h0, hz0, hwi, hb, hb2, y1, y2, h1, h2, h3, h4, optD]
        · simp! only [nm_law_next, nl_law_next, ok_len, cd_len, fb_len, sq_len_list, sq_len_sorted, sq_len_range, sq_len_enumerate, sq_len_zip, sq_len_tuple, sq_len_isinstance, sq_len_int, sq_len_set, sq_len_dict, sq_len_any, sq_len_all, ok_int, cd_int, fb_int, sq_int_list, sq_int_sorted, sq_int_range, sq_int_enumerate, sq_int_zip, sq_int_tuple, sq_int_isinstance, sq_int_int, sq_int_set, sq_int_dict, sq_int_any, sq_int_all, List.getElem?_map, List.length_map, h0, hz0, hwi, hb, hb2, y1, y2, h1, h2, h3, h4, optD]
      · simp! only [nm_law_next, nl_law_next, ok_len, cd_len, fb_len, sq_len_list, sq_len_sorted, sq_len_range, sq_len_enumerate, sq_len_zip, sq_len_tuple, sq_len_isinstance, sq_len_int, sq_len_set, sq_len_dict, sq_len_any, sq_len_all, ok_int, cd_int, fb_int, sq_int_list, sq_int_sorted, sq_int_range, sq_int_enumerate, sq_int_zip, sq_int_tuple, sq_int_isinstance, sq_int_int, sq_int_set, sq_int_dict, sq_int_any, sq_int_all, List.getElem?_map, List.length_map, h0, hz0, hwi, hb, hb2, y1, y2, h1, h2, h3, optD]
    · simp! only [nm_law_next, nl_law_next, ok_len, cd_len, fb_len, sq_len_list, sq_len_sorted, sq_len_range, sq_len_enumerate, sq_len_zip, sq_len_tuple, sq_len_isinstance, sq_len_int, sq_len_set, sq_len_dict, sq_len_any, sq_len_all, ok_int, cd_int, fb_int, sq_int_list, sq_int_sorted, sq_int_range, sq_int_enumerate, sq_int_zip, sq_int_tuple, sq_int_isinstance, sq_int_int, sq_int_set, sq_int_dict, sq_int_any, sq_int_all, List.getElem?_map, List.length_map, h0, hz0, hwi, hb, hb2, y1, y2, h1, h2, optD]
  · simp! only [nm_law_next, nl_law_next, ok_len, cd_len, fb_len, sq_len_list, sq_len_sorted, sq_len_range, sq_len_enumerate, sq_len_zip, sq_len_tuple, sq_len_isinstance, sq_len_int, sq_len_set, sq_len_dict, sq_len_any, sq_len_all, ok_int, cd_int, fb_int, sq_int_list, sq_int_sorted, sq_int_range, sq_int_enumerate, sq_int_zip, sq_int_tuple, sq_int_isinstance, sq_int_int, sq_int_set, sq_int_dict, sq_int_any, sq_int_all, List.getElem?_map, List.length_map, h0, hz0, hwi, hb, hb2, y1, y2, h1, optD]


set_option Elab.async false
set_option linter.all false
set_option maxRecDepth 100000
set_option maxHeartbeats 1000000
open PySem PySem.Spec PyProof.Rows L2 Lk Ev
def walkP (ls : List Str) (w : Nat) (st : List Int) (dir : Int) : List Int → List Int → Int → Bool × List Int × Int
  | [], pre, cur => (false, pre ++ [cur], 0)
  | t :: ts, pre, cur => match nextI ls.length w cur ((dir + t) % 4) with
    | none => (false, pre ++ [cur], 1)
    | some x => if kindI ls w st x = "wall" then (false, pre ++ [cur], 1) else if kindI ls w st x = "free" then walkP ls w st dir ts (pre ++ [cur]) x else (true, pre ++ [cur] ++ [x], 0)
def encL (r : Bool × List Int × Int) : D := .tuple [.bool r.1, .tuple (r.2.1.map .int), .int r.2.2]
def encW (r : Bool × List Int × Int) : D := if r.1 = true then .tuple [.str "touch", .tuple (r.2.1.map .int)] else .tuple [.str "end", .tuple (r.2.1.map .int), .int r.2.2]
theorem at_last {α : Type} {xs : List α} {x : α} : atI (xs ++ [x]) (-1) = some x := by
  unfold atI ixN
  rw [if_neg (by decide), List.length_append]
  show (if -((xs.length + 1 : Nat) : Int) ≤ -1 then _ else _ : Option Nat).bind _ = _
  rw [if_pos (by omega)]
  rw [show ((-1 : Int) + ((xs.length + [x].length : Nat) : Int)).toNat = xs.length by show ((-1 : Int) + ((xs.length + 1 : Nat) : Int)).toNat = _; omega]
  show (xs ++ [x])[xs.length]? = _
  simp
theorem dir_mod (a : Int) : Dir (a % 4) := by unfold Dir; omega
/-- every sign's door has a place in the setting -/
def Fit (ls : List Str) (w : Nat) (st : List Int) : Prop := ∀ c, InCell ls w c → doorN (signI ls w c) ≤ st.length
theorem fit_of {ls : List Str} {w : Nat} (p : PlanOk ls w) {st : List Int} (h : doorsN ls ≤ st.length) : Fit ls w st := fun c hc => by
  obtain ⟨l, hl, _, _, _, hm⟩ := sign_ex p hc
  exact Nat.le_trans (doors_ge hl hm) h
abbrev SL (ls : List Str) (st : List Int) (dir : Int) (way : List Int) : Rho := [.val (.tuple (ls.map .str)), .val (.tuple (st.map .int)), .non, .val (.int dir), .non, .val (.tuple (way.map .int)), .non, .non, .non]
abbrev S_law_walk (ls : List Str) (st : List Int) (dir : Int) (way : List Int) (a b c : Sl) : Rho := [.val (.tuple (ls.map .str)), .val (.tuple (st.map .int)), .non, .val (.int dir), .non, .val (.tuple (way.map .int)), a, b, c]
theorem t0_law_walk (n : Nat) {ls : List Str} {w : Nat} (p : PlanOk ls w) {st : List Int} (hf : Fit ls w st) (hb : Bits st) (dir t : Int) {pre : List Int} {cur : Int} (hl : pre.length ≤ 1000) (hx : nextI ls.length w cur ((dir + t) % 4) = none) : turnE (FR df_law_walk (n + 2) 59) (fmOf df_law_walk) FT_law_walk_106 FB_law_walk_106 (df_law_walk.drop 106) (.int t) (S_law_walk ls st dir (pre ++ [cur]) .non .non .non) = some (.rt (.inl (encL (false, pre ++ [cur], 1), S_law_walk ls st dir (pre ++ [cur]) (.val (.int t)) (.val .none) (.val (.str "wall"))))) := by
  have hlast : atI ((pre ++ [cur]).map PyData.int) (-1) = some (.int cur) := atI_map at_last
  have hll : ((pre ++ [cur]).length ≤ 16777215) = True := eq_true (by rw [List.length_append]; show pre.length + 1 ≤ _; omega)
  have hn := ev_lnext (n + 1) p cur ((dir + t) % 4) (dir_mod _)
  rw [hx] at hn
  rw [turnE_eq]
  unfold encL
  simp! only [nm_law_walk, nl_law_walk, dr_law_walk_106, ok_law_next, cd_law_next, fb_law_next, sq_law_next_list, sq_law_next_sorted, sq_law_next_range, sq_law_next_enumerate, sq_law_next_zip, sq_law_next_tuple, sq_law_next_isinstance, sq_law_next_int, sq_law_next_set, sq_law_next_dict, sq_law_next_any, sq_law_next_all, ok_law_kind, cd_law_kind, fb_law_kind, sq_law_kind_list, sq_law_kind_sorted, sq_law_kind_range, sq_law_kind_enumerate, sq_law_kind_zip, sq_law_kind_tuple, sq_law_kind_isinstance, sq_law_kind_int, sq_law_kind_set, sq_law_kind_dict, sq_law_kind_any, sq_law_kind_all, ok_int, cd_int, fb_int, sq_int_list, sq_int_sorted, sq_int_range, sq_int_enumerate, sq_int_zip, sq_int_tuple, sq_int_isinstance, sq_int_int, sq_int_set, sq_int_dict, sq_int_any, sq_int_all, hn, hlast, optD]
theorem t1_law_walk (n : Nat) {ls : List Str} {w : Nat} (p : PlanOk ls w) {st : List Int} (hf : Fit ls w st) (hb : Bits st) (dir t : Int) {pre : List Int} {cur : Int} (hl : pre.length ≤ 1000) {x : Int} (hx : nextI ls.length w cur ((dir + t) % 4) = some x) (h1 : kindI ls w st x = "wall") : turnE (FR df_law_walk (n + 2) 59) (fmOf df_law_walk) FT_law_walk_106 FB_law_walk_106 (df_law_walk.drop 106) (.int t) (S_law_walk ls st dir (pre ++ [cur]) .non .non .non) = some (.rt (.inl (encL (false, pre ++ [cur], 1), S_law_walk ls st dir (pre ++ [cur]) (.val (.int t)) (.val (.int x)) (.val (.str (kindI ls w st x)))))) := by
  have hlast : atI ((pre ++ [cur]).map PyData.int) (-1) = some (.int cur) := atI_map at_last
  have hll : ((pre ++ [cur]).length ≤ 16777215) = True := eq_true (by rw [List.length_append]; show pre.length + 1 ≤ _; omega)
  have hn := ev_lnext (n + 1) p cur ((dir + t) % 4) (dir_mod _)
  have hi := next_in hx
  have hk := ev_lkind (n + 1) p hi (hf _ hi)
  rw [hx] at hn
  have h1 := eq_true h1
  rw [turnE_eq]
  unfold encL
  simp! only [nm_law_walk, nl_law_walk, dr_law_walk_106, ok_law_next, cd_law_next, fb_law_next, sq_law_next_list, sq_law_next_sorted, sq_law_next_range, sq_law_next_enumerate, sq_law_next_zip, sq_law_next_tuple, sq_law_next_isinstance, sq_law_next_int, sq_law_next_set, sq_law_next_dict, sq_law_next_any, sq_law_next_all, ok_law_kind, cd_law_kind, fb_law_kind, sq_law_kind_list, sq_law_kind_sorted, sq_law_kind_range, sq_law_kind_enumerate, sq_law_kind_zip, sq_law_kind_tuple, sq_law_kind_isinstance, sq_law_kind_int, sq_law_kind_set, sq_law_kind_dict, sq_law_kind_any, sq_law_kind_all, ok_int, cd_int, fb_int, sq_int_list, sq_int_sorted, sq_int_range, sq_int_enumerate, sq_int_zip, sq_int_tuple, sq_int_isinstance, sq_int_int, sq_int_set, sq_int_dict, sq_int_any, sq_int_all, hn, hlast, optD, hk, h1]
theorem t2_law_walk (n : Nat) {ls : List Str} {w : Nat} (p : PlanOk ls w) {st : List Int} (hf : Fit ls w st) (hb : Bits st) (dir t : Int) {pre : List Int} {cur : Int} (hl : pre.length ≤ 1000) {x : Int} (hx : nextI ls.length w cur ((dir + t) % 4) = some x) (h1 : ¬ kindI ls w st x = "wall") (h2 : kindI ls w st x = "free") : turnE (FR df_law_walk (n + 2) 59) (fmOf df_law_walk) FT_law_walk_106 FB_law_walk_106 (df_law_walk.drop 106) (.int t) (S_law_walk ls st dir (pre ++ [cur]) .non .non .non) = some (.nx (S_law_walk ls st dir (pre ++ [cur] ++ [x]) .non .non .non)) := by
  have hlast : atI ((pre ++ [cur]).map PyData.int) (-1) = some (.int cur) := atI_map at_last
  have hll : ((pre ++ [cur]).length ≤ 16777215) = True := eq_true (by rw [List.length_append]; show pre.length + 1 ≤ _; omega)
  have hn := ev_lnext (n + 1) p cur ((dir + t) % 4) (dir_mod _)
  have hi := next_in hx
  have hk := ev_lkind (n + 1) p hi (hf _ hi)
  rw [hx] at hn
  have h1 := eq_false h1
  have h2 := eq_true h2
  have hm : (pre ++ [cur] ++ [x]).map PyData.int = (pre ++ [cur]).map PyData.int ++ [.int x] := List.map_append ..
  rw [turnE_eq]
  simp! only [nm_law_walk, nl_law_walk, dr_law_walk_106, ok_law_next, cd_law_next, fb_law_next, sq_law_next_list, sq_law_next_sorted, sq_law_next_range, sq_law_next_enumerate, sq_law_next_zip, sq_law_next_tuple, sq_law_next_isinstance, sq_law_next_int, sq_law_next_set, sq_law_next_dict, sq_law_next_any, sq_law_next_all, ok_law_kind, cd_law_kind, fb_law_kind, sq_law_kind_list, sq_law_kind_sorted, sq_law_kind_range, sq_law_kind_enumerate, sq_law_kind_zip, sq_law_kind_tuple, sq_law_kind_isinstance, sq_law_kind_int, sq_law_kind_set, sq_law_kind_dict, sq_law_kind_any, sq_law_kind_all, ok_int, cd_int, fb_int, sq_int_list, sq_int_sorted, sq_int_range, sq_int_enumerate, sq_int_zip, sq_int_tuple, sq_int_isinstance, sq_int_int, sq_int_set, sq_int_dict, sq_int_any, sq_int_all, hn, hlast, optD, hk, h1, h2, List.length_map, hll, S_law_walk, hm]
theorem t3_law_walk (n : Nat) {ls : List Str} {w : Nat} (p : PlanOk ls w) {st : List Int} (hf : Fit ls w st) (hb : Bits st) (dir t : Int) {pre : List Int} {cur : Int} (hl : pre.length ≤ 1000) {x : Int} (hx : nextI ls.length w cur ((dir + t) % 4) = some x) (h1 : ¬ kindI ls w st x = "wall") (h2 : ¬ kindI ls w st x = "free") : turnE (FR df_law_walk (n + 2) 59) (fmOf df_law_walk) FT_law_walk_106 FB_law_walk_106 (df_law_walk.drop 106) (.int t) (S_law_walk ls st dir (pre ++ [cur]) .non .non .non) = some (.rt (.inl (encL (true, pre ++ [cur] ++ [x], 0), S_law_walk ls st dir (pre ++ [cur] ++ [x]) (.val (.int t)) (.val (.int x)) (.val (.str (kindI ls w st x)))))) := by
  have hlast : atI ((pre ++ [cur]).map PyData.int) (-1) = some (.int cur) := atI_map at_last
  have hll : ((pre ++ [cur]).length ≤ 16777215) = True := eq_true (by rw [List.length_append]; show pre.length + 1 ≤ _; omega)
  have hn := ev_lnext (n + 1) p cur ((dir + t) % 4) (dir_mod _)
  have hi := next_in hx
  have hk := ev_lkind (n + 1) p hi (hf _ hi)
  rw [hx] at hn
  have h1 := eq_false h1
  have h2 := eq_false h2
  rw [turnE_eq]
  unfold encL
  have hm : (pre ++ [cur] ++ [x]).map PyData.int = (pre ++ [cur]).map PyData.int ++ [.int x] := List.map_append ..
  simp! only [nm_law_walk, nl_law_walk, dr_law_walk_106, ok_law_next, cd_law_next, fb_law_next, sq_law_next_list, sq_law_next_sorted, sq_law_next_range, sq_law_next_enumerate, sq_law_next_zip, sq_law_next_tuple, sq_law_next_isinstance, sq_law_next_int, sq_law_next_set, sq_law_next_dict, sq_law_next_any, sq_law_next_all, ok_law_kind, cd_law_kind, fb_law_kind, sq_law_kind_list, sq_law_kind_sorted, sq_law_kind_range, sq_law_kind_enumerate, sq_law_kind_zip, sq_law_kind_tuple, sq_law_kind_isinstance, sq_law_kind_int, sq_law_kind_set, sq_law_kind_dict, sq_law_kind_any, sq_law_kind_all, ok_int, cd_int, fb_int, sq_int_list, sq_int_sorted, sq_int_range, sq_int_enumerate, sq_int_zip, sq_int_tuple, sq_int_isinstance, sq_int_int, sq_int_set, sq_int_dict, sq_int_any, sq_int_all, hn, hlast, optD, hk, h1, h2, List.length_map, hll, S_law_walk, hm]
theorem loop_law_walk (n : Nat) {ls : List Str} {w : Nat} (p : PlanOk ls w) {st : List Int} (hf : Fit ls w st) (hb : Bits st) (dir : Int) : ∀ (ts pre : List Int) (cur : Int), pre.length + ts.length ≤ 1000 →
    ∃ fl, forL (turnE (FR df_law_walk (n + 2) 59) (fmOf df_law_walk) FT_law_walk_106 FB_law_walk_106 (df_law_walk.drop 106)) (ts.map .int) (S_law_walk ls st dir (pre ++ [cur]) .non .non .non) = some fl ∧
      ((∃ way, fl = .nx (S_law_walk ls st dir way .non .non .non) ∧ walkP ls w st dir ts pre cur = (false, way, 0)) ∨ ∃ ρ, fl = .rt (.inl (encL (walkP ls w st dir ts pre cur), ρ)))
  | [], pre, cur, _ => ⟨_, rfl, .inl ⟨_, rfl, rfl⟩⟩
  | t :: ts, pre, cur, hl => by
    rw [List.length_cons] at hl
    rw [List.map_cons, forL_cons]
    unfold walkP
    cases hx : nextI ls.length w cur ((dir + t) % 4) with
    | none =>
      rw [t0_law_walk n p hf hb dir t (by omega) hx]
      exact ⟨_, rfl, .inr ⟨_, rfl⟩⟩
    | some x =>
      simp only
      by_cases h1 : kindI ls w st x = "wall"
      · rw [t1_law_walk n p hf hb dir t (by omega) hx h1, if_pos h1]
        exact ⟨_, rfl, .inr ⟨_, rfl⟩⟩
      · rw [if_neg h1]
        by_cases h2 : kindI ls w st x = "free"
        · rw [t2_law_walk n p hf hb dir t (by omega) hx h1 h2, if_pos h2]
          exact loop_law_walk n p hf hb dir ts (pre ++ [cur]) x (by rw [List.length_append]; show pre.length + 1 + _ ≤ _; omega)
        · rw [t3_law_walk n p hf hb dir t (by omega) hx h1 h2, if_neg h2]
          exact ⟨_, rfl, .inr ⟨_, rfl⟩⟩
abbrev S_walked (ls : List Str) (st : List Int) (dir : Int) (way : List Int) (a b c : Sl) : Rho := [.val (.tuple (ls.map .str)), .val (.tuple (st.map .int)), .non, .val (.int dir), .non, .val (.tuple (way.map .int)), a, b, c]
theorem t0_walked (n : Nat) {ls : List Str} {w : Nat} (p : PlanOk ls w) {st : List Int} (hf : Fit ls w st) (hb : Bits st) (dir t : Int) {pre : List Int} {cur : Int} (hl : pre.length ≤ 1000) (hx : nextI ls.length w cur ((dir + t) % 4) = none) : turnE (FR df_walked (n + 2) 59) (fmOf df_walked) FT_walked_30 FB_walked_30 (df_walked.drop 30) (.int t) (S_walked ls st dir (pre ++ [cur]) .non .non .non) = some (.rt (.inl (encW (false, pre ++ [cur], 1), S_walked ls st dir (pre ++ [cur]) (.val (.int t)) (.val .none) (.val (.str "wall"))))) := by
  have hlast : atI ((pre ++ [cur]).map PyData.int) (-1) = some (.int cur) := atI_map at_last
  have hll : ((pre ++ [cur]).length ≤ 16777215) = True := eq_true (by rw [List.length_append]; show pre.length + 1 ≤ _; omega)
  have hn := ev_next (n + 1) p cur ((dir + t) % 4) (dir_mod _)
  rw [hx] at hn
  rw [turnE_eq]
  unfold encW
  simp! only [nm_walked, nl_walked, dr_walked_30, ok_next_cell, cd_next_cell, fb_next_cell, sq_next_cell_list, sq_next_cell_sorted, sq_next_cell_range, sq_next_cell_enumerate, sq_next_cell_zip, sq_next_cell_tuple, sq_next_cell_isinstance, sq_next_cell_int, sq_next_cell_set, sq_next_cell_dict, sq_next_cell_any, sq_next_cell_all, ok_cell_kind, cd_cell_kind, fb_cell_kind, sq_cell_kind_list, sq_cell_kind_sorted, sq_cell_kind_range, sq_cell_kind_enumerate, sq_cell_kind_zip, sq_cell_kind_tuple, sq_cell_kind_isinstance, sq_cell_kind_int, sq_cell_kind_set, sq_cell_kind_dict, sq_cell_kind_any, sq_cell_kind_all, hn, hlast, optD]
theorem t1_walked (n : Nat) {ls : List Str} {w : Nat} (p : PlanOk ls w) {st : List Int} (hf : Fit ls w st) (hb : Bits st) (dir t : Int) {pre : List Int} {cur : Int} (hl : pre.length ≤ 1000) {x : Int} (hx : nextI ls.length w cur ((dir + t) % 4) = some x) (h1 : kindI ls w st x = "wall") : turnE (FR df_walked (n + 2) 59) (fmOf df_walked) FT_walked_30 FB_walked_30 (df_walked.drop 30) (.int t) (S_walked ls st dir (pre ++ [cur]) .non .non .non) = some (.rt (.inl (encW (false, pre ++ [cur], 1), S_walked ls st dir (pre ++ [cur]) (.val (.int t)) (.val (.int x)) (.val (.str (kindI ls w st x)))))) := by
  have hlast : atI ((pre ++ [cur]).map PyData.int) (-1) = some (.int cur) := atI_map at_last
  have hll : ((pre ++ [cur]).length ≤ 16777215) = True := eq_true (by rw [List.length_append]; show pre.length + 1 ≤ _; omega)
  have hn := ev_next (n + 1) p cur ((dir + t) % 4) (dir_mod _)
  have hi := next_in hx
  have hk := ev_kind n p hi (hf _ hi) hb
  rw [hx] at hn
  have h1 := eq_true h1
  rw [turnE_eq]
  unfold encW
  simp! only [nm_walked, nl_walked, dr_walked_30, ok_next_cell, cd_next_cell, fb_next_cell, sq_next_cell_list, sq_next_cell_sorted, sq_next_cell_range, sq_next_cell_enumerate, sq_next_cell_zip, sq_next_cell_tuple, sq_next_cell_isinstance, sq_next_cell_int, sq_next_cell_set, sq_next_cell_dict, sq_next_cell_any, sq_next_cell_all, ok_cell_kind, cd_cell_kind, fb_cell_kind, sq_cell_kind_list, sq_cell_kind_sorted, sq_cell_kind_range, sq_cell_kind_enumerate, sq_cell_kind_zip, sq_cell_kind_tuple, sq_cell_kind_isinstance, sq_cell_kind_int, sq_cell_kind_set, sq_cell_kind_dict, sq_cell_kind_any, sq_cell_kind_all, hn, hlast, optD, hk, h1]
theorem t2_walked (n : Nat) {ls : List Str} {w : Nat} (p : PlanOk ls w) {st : List Int} (hf : Fit ls w st) (hb : Bits st) (dir t : Int) {pre : List Int} {cur : Int} (hl : pre.length ≤ 1000) {x : Int} (hx : nextI ls.length w cur ((dir + t) % 4) = some x) (h1 : ¬ kindI ls w st x = "wall") (h2 : kindI ls w st x = "free") : turnE (FR df_walked (n + 2) 59) (fmOf df_walked) FT_walked_30 FB_walked_30 (df_walked.drop 30) (.int t) (S_walked ls st dir (pre ++ [cur]) .non .non .non) = some (.nx (S_walked ls st dir (pre ++ [cur] ++ [x]) .non .non .non)) := by
  have hlast : atI ((pre ++ [cur]).map PyData.int) (-1) = some (.int cur) := atI_map at_last
  have hll : ((pre ++ [cur]).length ≤ 16777215) = True := eq_true (by rw [List.length_append]; show pre.length + 1 ≤ _; omega)
  have hn := ev_next (n + 1) p cur ((dir + t) % 4) (dir_mod _)
  have hi := next_in hx
  have hk := ev_kind n p hi (hf _ hi) hb
  rw [hx] at hn
  have h1 := eq_false h1
  have h2 := eq_true h2
  have hm : (pre ++ [cur] ++ [x]).map PyData.int = (pre ++ [cur]).map PyData.int ++ [.int x] := List.map_append ..
  rw [turnE_eq]
  simp! only [nm_walked, nl_walked, dr_walked_30, ok_next_cell, cd_next_cell, fb_next_cell, sq_next_cell_list, sq_next_cell_sorted, sq_next_cell_range, sq_next_cell_enumerate, sq_next_cell_zip, sq_next_cell_tuple, sq_next_cell_isinstance, sq_next_cell_int, sq_next_cell_set, sq_next_cell_dict, sq_next_cell_any, sq_next_cell_all, ok_cell_kind, cd_cell_kind, fb_cell_kind, sq_cell_kind_list, sq_cell_kind_sorted, sq_cell_kind_range, sq_cell_kind_enumerate, sq_cell_kind_zip, sq_cell_kind_tuple, sq_cell_kind_isinstance, sq_cell_kind_int, sq_cell_kind_set, sq_cell_kind_dict, sq_cell_kind_any, sq_cell_kind_all, hn, hlast, optD, hk, h1, h2, List.length_map, hll, S_walked, hm]
theorem t3_walked (n : Nat) {ls : List Str} {w : Nat} (p : PlanOk ls w) {st : List Int} (hf : Fit ls w st) (hb : Bits st) (dir t : Int) {pre : List Int} {cur : Int} (hl : pre.length ≤ 1000) {x : Int} (hx : nextI ls.length w cur ((dir + t) % 4) = some x) (h1 : ¬ kindI ls w st x = "wall") (h2 : ¬ kindI ls w st x = "free") : turnE (FR df_walked (n + 2) 59) (fmOf df_walked) FT_walked_30 FB_walked_30 (df_walked.drop 30) (.int t) (S_walked ls st dir (pre ++ [cur]) .non .non .non) = some (.rt (.inl (encW (true, pre ++ [cur] ++ [x], 0), S_walked ls st dir (pre ++ [cur] ++ [x]) (.val (.int t)) (.val (.int x)) (.val (.str (kindI ls w st x)))))) := by
  have hlast : atI ((pre ++ [cur]).map PyData.int) (-1) = some (.int cur) := atI_map at_last
  have hll : ((pre ++ [cur]).length ≤ 16777215) = True := eq_true (by rw [List.length_append]; show pre.length + 1 ≤ _; omega)
  have hn := ev_next (n + 1) p cur ((dir + t) % 4) (dir_mod _)
  have hi := next_in hx
  have hk := ev_kind n p hi (hf _ hi) hb
  rw [hx] at hn
  have h1 := eq_false h1
  have h2 := eq_false h2
  rw [turnE_eq]
  unfold encW
  have hm : (pre ++ [cur] ++ [x]).map PyData.int = (pre ++ [cur]).map PyData.int ++ [.int x] := List.map_append ..
  simp! only [nm_walked, nl_walked, dr_walked_30, ok_next_cell, cd_next_cell, fb_next_cell, sq_next_cell_list, sq_next_cell_sorted, sq_next_cell_range, sq_next_cell_enumerate, sq_next_cell_zip, sq_next_cell_tuple, sq_next_cell_isinstance, sq_next_cell_int, sq_next_cell_set, sq_next_cell_dict, sq_next_cell_any, sq_next_cell_all, ok_cell_kind, cd_cell_kind, fb_cell_kind, sq_cell_kind_list, sq_cell_kind_sorted, sq_cell_kind_range, sq_cell_kind_enumerate, sq_cell_kind_zip, sq_cell_kind_tuple, sq_cell_kind_isinstance, sq_cell_kind_int, sq_cell_kind_set, sq_cell_kind_dict, sq_cell_kind_any, sq_cell_kind_all, hn, hlast, optD, hk, h1, h2, List.length_map, hll, S_walked, hm]
theorem loop_walked (n : Nat) {ls : List Str} {w : Nat} (p : PlanOk ls w) {st : List Int} (hf : Fit ls w st) (hb : Bits st) (dir : Int) : ∀ (ts pre : List Int) (cur : Int), pre.length + ts.length ≤ 1000 →
    ∃ fl, forL (turnE (FR df_walked (n + 2) 59) (fmOf df_walked) FT_walked_30 FB_walked_30 (df_walked.drop 30)) (ts.map .int) (S_walked ls st dir (pre ++ [cur]) .non .non .non) = some fl ∧
      ((∃ way, fl = .nx (S_walked ls st dir way .non .non .non) ∧ walkP ls w st dir ts pre cur = (false, way, 0)) ∨ ∃ ρ, fl = .rt (.inl (encW (walkP ls w st dir ts pre cur), ρ)))
  | [], pre, cur, _ => ⟨_, rfl, .inl ⟨_, rfl, rfl⟩⟩
  | t :: ts, pre, cur, hl => by
    rw [List.length_cons] at hl
    rw [List.map_cons, forL_cons]
    unfold walkP
    cases hx : nextI ls.length w cur ((dir + t) % 4) with
    | none =>
      rw [t0_walked n p hf hb dir t (by omega) hx]
      exact ⟨_, rfl, .inr ⟨_, rfl⟩⟩
    | some x =>
      simp only
      by_cases h1 : kindI ls w st x = "wall"
      · rw [t1_walked n p hf hb dir t (by omega) hx h1, if_pos h1]
        exact ⟨_, rfl, .inr ⟨_, rfl⟩⟩
      · rw [if_neg h1]
        by_cases h2 : kindI ls w st x = "free"
        · rw [t2_walked n p hf hb dir t (by omega) hx h1 h2, if_pos h2]
          exact loop_walked n p hf hb dir ts (pre ++ [cur]) x (by rw [List.length_append]; show pre.length + 1 + _ ≤ _; omega)
        · rw [t3_walked n p hf hb dir t (by omega) hx h1 h2, if_neg h2]
          exact ⟨_, rfl, .inr ⟨_, rfl⟩⟩
theorem ev_lwalk (n : Nat) {ls : List Str} {w : Nat} (p : PlanOk ls w) {st : List Int} (hf : Fit ls w st) (hb : Bits st) (dir : Int) (ts : List Int) (cur : Int) (hl : ts.length ≤ 1000) : runP (csAt pg (n + 2)) df_law_walk [.tuple (ls.map .str), .tuple (st.map .int), .int cur, .int dir, .tuple (ts.map .int)] = some (encL (walkP ls w st dir ts [] cur)) := by
  obtain ⟨fl, h, q⟩ := loop_law_walk n p hf hb dir ts [] cur (by simpa using hl)
  have h2 : forL _ (ts.map PyData.int) ([.val (.tuple (ls.map .str)), .val (.tuple (st.map .int)), .non, .val (.int dir), .non, .val (.tuple [.int cur]), .non, .non, .non] : Rho) = _ := h
  rw [st_law_walk]
  rcases q with ⟨way, rfl, q⟩ | ⟨ρ, rfl⟩
  · rw [q]
    simp! only [nm_law_walk, nl_law_walk, dr_law_walk_106, ok_law_next, cd_law_next, fb_law_next, sq_law_next_list, sq_law_next_sorted, sq_law_next_range, sq_law_next_enumerate, sq_law_next_zip, sq_law_next_tuple, sq_law_next_isinstance, sq_law_next_int, sq_law_next_set, sq_law_next_dict, sq_law_next_any, sq_law_next_all, ok_law_kind, cd_law_kind, fb_law_kind, sq_law_kind_list, sq_law_kind_sorted, sq_law_kind_range, sq_law_kind_enumerate, sq_law_kind_zip, sq_law_kind_tuple, sq_law_kind_isinstance, sq_law_kind_int, sq_law_kind_set, sq_law_kind_dict, sq_law_kind_any, sq_law_kind_all, ok_int, cd_int, fb_int, sq_int_list, sq_int_sorted, sq_int_range, sq_int_enumerate, sq_int_zip, sq_int_tuple, sq_int_isinstance, sq_int_int, sq_int_set, sq_int_dict, sq_int_any, sq_int_all, h2, encL]
  · simp! only [nm_law_walk, nl_law_walk, dr_law_walk_106, ok_law_next, cd_law_next, fb_law_next, sq_law_next_list, sq_law_next_sorted, sq_law_next_range, sq_law_next_enumerate, sq_law_next_zip, sq_law_next_tuple, sq_law_next_isinstance, sq_law_next_int, sq_law_next_set, sq_law_next_dict, sq_law_next_any, sq_law_next_all, ok_law_kind, cd_law_kind, fb_law_kind, sq_law_kind_list, sq_law_kind_sorted, sq_law_kind_range, sq_law_kind_enumerate, sq_law_kind_zip, sq_law_kind_tuple, sq_law_kind_isinstance, sq_law_kind_int, sq_law_kind_set, sq_law_kind_dict, sq_law_kind_any, sq_law_kind_all, ok_int, cd_int, fb_int, sq_int_list, sq_int_sorted, sq_int_range, sq_int_enumerate, sq_int_zip, sq_int_tuple, sq_int_isinstance, sq_int_int, sq_int_set, sq_int_dict, sq_int_any, sq_int_all, h2]
theorem ev_walked (n : Nat) {ls : List Str} {w : Nat} (p : PlanOk ls w) {st : List Int} (hf : Fit ls w st) (hb : Bits st) (dir : Int) (ts : List Int) (cur : Int) (hl : ts.length ≤ 1000) : runP (csAt pg (n + 2)) df_walked [.tuple (ls.map .str), .tuple (st.map .int), .int cur, .int dir, .tuple (ts.map .int)] = some (encW (walkP ls w st dir ts [] cur)) := by
  obtain ⟨fl, h, q⟩ := loop_walked n p hf hb dir ts [] cur (by simpa using hl)
  have h2 : forL _ (ts.map PyData.int) ([.val (.tuple (ls.map .str)), .val (.tuple (st.map .int)), .non, .val (.int dir), .non, .val (.tuple [.int cur]), .non, .non, .non] : Rho) = _ := h
  rw [st_walked]
  rcases q with ⟨way, rfl, q⟩ | ⟨ρ, rfl⟩
  · rw [q]
    simp! only [nm_walked, nl_walked, dr_walked_30, ok_next_cell, cd_next_cell, fb_next_cell, sq_next_cell_list, sq_next_cell_sorted, sq_next_cell_range, sq_next_cell_enumerate, sq_next_cell_zip, sq_next_cell_tuple, sq_next_cell_isinstance, sq_next_cell_int, sq_next_cell_set, sq_next_cell_dict, sq_next_cell_any, sq_next_cell_all, ok_cell_kind, cd_cell_kind, fb_cell_kind, sq_cell_kind_list, sq_cell_kind_sorted, sq_cell_kind_range, sq_cell_kind_enumerate, sq_cell_kind_zip, sq_cell_kind_tuple, sq_cell_kind_isinstance, sq_cell_kind_int, sq_cell_kind_set, sq_cell_kind_dict, sq_cell_kind_any, sq_cell_kind_all, h2, encW]
  · simp! only [nm_walked, nl_walked, dr_walked_30, ok_next_cell, cd_next_cell, fb_next_cell, sq_next_cell_list, sq_next_cell_sorted, sq_next_cell_range, sq_next_cell_enumerate, sq_next_cell_zip, sq_next_cell_tuple, sq_next_cell_isinstance, sq_next_cell_int, sq_next_cell_set, sq_next_cell_dict, sq_next_cell_any, sq_next_cell_all, ok_cell_kind, cd_cell_kind, fb_cell_kind, sq_cell_kind_list, sq_cell_kind_sorted, sq_cell_kind_range, sq_cell_kind_enumerate, sq_cell_kind_zip, sq_cell_kind_tuple, sq_cell_kind_isinstance, sq_cell_kind_int, sq_cell_kind_set, sq_cell_kind_dict, sq_cell_kind_any, sq_cell_kind_all, h2]


set_option Elab.async false
set_option linter.all false
set_option maxRecDepth 100000
set_option maxHeartbeats 1000000
open PySem PySem.Spec PyProof.Rows L2 Lk Ev
/-! ### what is told against what is due -/
theorem lay_ints : ∀ xs : List Int, PyData.canLayAll0 (xs.map .int) = true ∧ PyData.depthAll (xs.map .int) = 0
  | [] => ⟨rfl, rfl⟩
  | x :: xs => by
    obtain ⟨a, b⟩ := lay_ints xs
    constructor
    · simp [PyData.canLayAll0, PyData.canLay0, a]
    · simp [PyData.depthAll, PyData.depth, b]
theorem enc_shaped (r : Bool × List Int × Int) : SeqAt.shaped (encW r) = true := by
  obtain ⟨a, b⟩ := lay_ints r.2.1
  have s1 : PyData.strOk (Str.ofString "touch") = true := by decide +kernel
  have s2 : PyData.strOk (Str.ofString "end") = true := by decide +kernel
  unfold encW SeqAt.shaped
  split
  · simp [PyData.canLay0, PyData.canLayAll0, PyData.depth, PyData.depthAll, a, b, s1]
  · simp [PyData.canLay0, PyData.canLayAll0, PyData.depth, PyData.depthAll, a, b, s2]
theorem enc_eq (r : Bool × List Int × Int) : eqD (encW r) (encW r) = some true := by
  have h := enc_shaped r
  have hc : (encW r).canLay0 = true := by
    unfold SeqAt.shaped at h
    rw [Bool.and_eq_true] at h
    exact h.1
  have e : eqD (encW r) (encW r) = if (SeqAt.shaped (encW r) && SeqAt.shaped (encW r)) = true then some (PyData.eqv (encW r) (encW r)) else none := by
    unfold encW
    split <;> rfl
  rw [e, h, SeqAt.eqv_refl _ hc]
  rfl
theorem ev_is_ints (n : Nat) (xs : List Int) : runP (csAt pg (n + 1)) df_law_is_ints [.tuple (xs.map .int)] = some (.bool true) := by
  have h := lcL_map (β := Int) (step := lcTurn (FR df_law_is_ints (n + 1) 55) (blkFm (fmOf df_law_is_ints) SC_law_is_ints_0) EL_law_is_ints_0 TG_law_is_ints_0 [] [1] 2) (s := [.val (.tuple (xs.map .int)), .non]) PyData.int (fun _ => .bool true) (xs := xs) (fun x _ => by
    have e := ev_law_is_int n x
    unfold lcTurn
    simp! only [nm_law_is_ints, nl_law_is_ints, nc_law_is_ints_0, ok_isinstance, cd_isinstance, fb_isinstance, sq_isinstance_list, sq_isinstance_sorted, sq_isinstance_range, sq_isinstance_enumerate, sq_isinstance_zip, sq_isinstance_tuple, sq_isinstance_isinstance, sq_isinstance_int, sq_isinstance_set, sq_isinstance_dict, sq_isinstance_any, sq_isinstance_all, ok_tuple, cd_tuple, fb_tuple, sq_tuple_list, sq_tuple_sorted, sq_tuple_range, sq_tuple_enumerate, sq_tuple_zip, sq_tuple_tuple, sq_tuple_isinstance, sq_tuple_int, sq_tuple_set, sq_tuple_dict, sq_tuple_any, sq_tuple_all, ok_all, cd_all, fb_all, sq_all_list, sq_all_sorted, sq_all_range, sq_all_enumerate, sq_all_zip, sq_all_tuple, sq_all_isinstance, sq_all_int, sq_all_set, sq_all_dict, sq_all_any, sq_all_all, ok_law_is_int, cd_law_is_int, fb_law_is_int, sq_law_is_int_list, sq_law_is_int_sorted, sq_law_is_int_range, sq_law_is_int_enumerate, sq_law_is_int_zip, sq_law_is_int_tuple, sq_law_is_int_isinstance, sq_law_is_int_int, sq_law_is_int_set, sq_law_is_int_dict, sq_law_is_int_any, sq_law_is_int_all, e])
  have hb : boolsOf (xs.map fun _ => PyData.bool true) = some (xs.map fun _ => true) := by
    have := boolsOf_map (xs.map fun _ => true)
    rw [List.map_map] at this
    exact this
  have ha : (xs.map fun _ => true).all id = true := by simp
  rw [st_law_is_ints]
  simp! only [nm_law_is_ints, nl_law_is_ints, nc_law_is_ints_0, ok_isinstance, cd_isinstance, fb_isinstance, sq_isinstance_list, sq_isinstance_sorted, sq_isinstance_range, sq_isinstance_enumerate, sq_isinstance_zip, sq_isinstance_tuple, sq_isinstance_isinstance, sq_isinstance_int, sq_isinstance_set, sq_isinstance_dict, sq_isinstance_any, sq_isinstance_all, ok_tuple, cd_tuple, fb_tuple, sq_tuple_list, sq_tuple_sorted, sq_tuple_range, sq_tuple_enumerate, sq_tuple_zip, sq_tuple_tuple, sq_tuple_isinstance, sq_tuple_int, sq_tuple_set, sq_tuple_dict, sq_tuple_any, sq_tuple_all, ok_all, cd_all, fb_all, sq_all_list, sq_all_sorted, sq_all_range, sq_all_enumerate, sq_all_zip, sq_all_tuple, sq_all_isinstance, sq_all_int, sq_all_set, sq_all_dict, sq_all_any, sq_all_all, ok_law_is_int, cd_law_is_int, fb_law_is_int, sq_law_is_int_list, sq_law_is_int_sorted, sq_law_is_int_range, sq_law_is_int_enumerate, sq_law_is_int_zip, sq_law_is_int_tuple, sq_law_is_int_isinstance, sq_law_is_int_int, sq_law_is_int_set, sq_law_is_int_dict, sq_law_is_int_any, sq_law_is_int_all, h, hb, ha]
theorem ev_due (n : Nat) {ls : List Str} {w : Nat} (p : PlanOk ls w) {st : List Int} (hf : Fit ls w st) (hb : Bits st) (dir : Int) (ts : List Int) (cur : Int) (hl : ts.length ≤ 1000) : runP (csAt pg (n + 3)) df_law_due_walk [.tuple (ls.map .str), .tuple (st.map .int), .int cur, .int dir, .tuple (ts.map .int)] = some (encW (walkP ls w st dir ts [] cur)) := by
  have h := ev_lwalk n p hf hb dir ts cur hl
  generalize walkP ls w st dir ts [] cur = r at h ⊢
  obtain ⟨t, way, b⟩ := r
  rw [st_law_due_walk]
  cases t with
  | true => simp! only [nm_law_due_walk, nl_law_due_walk, ok_law_walk, cd_law_walk, fb_law_walk, sq_law_walk_list, sq_law_walk_sorted, sq_law_walk_range, sq_law_walk_enumerate, sq_law_walk_zip, sq_law_walk_tuple, sq_law_walk_isinstance, sq_law_walk_int, sq_law_walk_set, sq_law_walk_dict, sq_law_walk_any, sq_law_walk_all, h, encL, encW]
  | false => simp! only [nm_law_due_walk, nl_law_due_walk, ok_law_walk, cd_law_walk, fb_law_walk, sq_law_walk_list, sq_law_walk_sorted, sq_law_walk_range, sq_law_walk_enumerate, sq_law_walk_zip, sq_law_walk_tuple, sq_law_walk_isinstance, sq_law_walk_int, sq_law_walk_set, sq_law_walk_dict, sq_law_walk_any, sq_law_walk_all, h, encL, encW]
theorem ev_right (n : Nat) (r : Bool × List Int × Int) : runP (csAt pg (n + 2)) df_law_right_walk [encW r, encW r] = some (.bool true) := by
  have h := enc_eq r
  obtain ⟨t, way, b⟩ := r
  have e := ev_is_ints n way
  have e2 := ev_law_is_int (n + 1) b
  rw [st_law_right_walk]
  cases t with
  | true =>
    have h : eqD (.tuple [.str "touch", .tuple (way.map .int)]) (.tuple [.str "touch", .tuple (way.map .int)]) = some true := h
    simp! only [nm_law_right_walk, nl_law_right_walk, ok_law_is_int, cd_law_is_int, fb_law_is_int, sq_law_is_int_list, sq_law_is_int_sorted, sq_law_is_int_range, sq_law_is_int_enumerate, sq_law_is_int_zip, sq_law_is_int_tuple, sq_law_is_int_isinstance, sq_law_is_int_int, sq_law_is_int_set, sq_law_is_int_dict, sq_law_is_int_any, sq_law_is_int_all, ok_isinstance, cd_isinstance, fb_isinstance, sq_isinstance_list, sq_isinstance_sorted, sq_isinstance_range, sq_isinstance_enumerate, sq_isinstance_zip, sq_isinstance_tuple, sq_isinstance_isinstance, sq_isinstance_int, sq_isinstance_set, sq_isinstance_dict, sq_isinstance_any, sq_isinstance_all, ok_tuple, cd_tuple, fb_tuple, sq_tuple_list, sq_tuple_sorted, sq_tuple_range, sq_tuple_enumerate, sq_tuple_zip, sq_tuple_tuple, sq_tuple_isinstance, sq_tuple_int, sq_tuple_set, sq_tuple_dict, sq_tuple_any, sq_tuple_all, ok_law_is_ints, cd_law_is_ints, fb_law_is_ints, sq_law_is_ints_list, sq_law_is_ints_sorted, sq_law_is_ints_range, sq_law_is_ints_enumerate, sq_law_is_ints_zip, sq_law_is_ints_tuple, sq_law_is_ints_isinstance, sq_law_is_ints_int, sq_law_is_ints_set, sq_law_is_ints_dict, sq_law_is_ints_any, sq_law_is_ints_all, ok_len, cd_len, fb_len, sq_len_list, sq_len_sorted, sq_len_range, sq_len_enumerate, sq_len_zip, sq_len_tuple, sq_len_isinstance, sq_len_int, sq_len_set, sq_len_dict, sq_len_any, sq_len_all, h, e, encW]
  | false =>
    have h : eqD (.tuple [.str "end", .tuple (way.map .int), .int b]) (.tuple [.str "end", .tuple (way.map .int), .int b]) = some true := h
    simp! only [nm_law_right_walk, nl_law_right_walk, ok_law_is_int, cd_law_is_int, fb_law_is_int, sq_law_is_int_list, sq_law_is_int_sorted, sq_law_is_int_range, sq_law_is_int_enumerate, sq_law_is_int_zip, sq_law_is_int_tuple, sq_law_is_int_isinstance, sq_law_is_int_int, sq_law_is_int_set, sq_law_is_int_dict, sq_law_is_int_any, sq_law_is_int_all, ok_isinstance, cd_isinstance, fb_isinstance, sq_isinstance_list, sq_isinstance_sorted, sq_isinstance_range, sq_isinstance_enumerate, sq_isinstance_zip, sq_isinstance_tuple, sq_isinstance_isinstance, sq_isinstance_int, sq_isinstance_set, sq_isinstance_dict, sq_isinstance_any, sq_isinstance_all, ok_tuple, cd_tuple, fb_tuple, sq_tuple_list, sq_tuple_sorted, sq_tuple_range, sq_tuple_enumerate, sq_tuple_zip, sq_tuple_tuple, sq_tuple_isinstance, sq_tuple_int, sq_tuple_set, sq_tuple_dict, sq_tuple_any, sq_tuple_all, ok_law_is_ints, cd_law_is_ints, fb_law_is_ints, sq_law_is_ints_list, sq_law_is_ints_sorted, sq_law_is_ints_range, sq_law_is_ints_enumerate, sq_law_is_ints_zip, sq_law_is_ints_tuple, sq_law_is_ints_isinstance, sq_law_is_ints_int, sq_law_is_ints_set, sq_law_is_ints_dict, sq_law_is_ints_any, sq_law_is_ints_all, ok_len, cd_len, fb_len, sq_len_list, sq_len_sorted, sq_len_range, sq_len_enumerate, sq_len_zip, sq_len_tuple, sq_len_isinstance, sq_len_int, sq_len_set, sq_len_dict, sq_len_any, sq_len_all, h, e, e2, encW]
theorem ev_rare (n : Nat) (s : Dr) (g : Good s) (m : Int) (hm : 0 < m ∧ m < 1073741824) : ∃ b s', runO (csAt pg (n + 1)) df_law_rare (drC s) [.int m] = some (.bool b, drC s') ∧ Good s' := by
  obtain ⟨r, s', _, _, g', e⟩ := draw_ok n s m g hm
  refine ⟨decide (r = m / 2), s', ?_, g'⟩
  rw [st_law_rare]
  simp! only [nm_law_rare, nl_law_rare, ok_law_draw, cd_law_draw, fb_law_draw, sq_law_draw_list, sq_law_draw_sorted, sq_law_draw_range, sq_law_draw_enumerate, sq_law_draw_zip, sq_law_draw_tuple, sq_law_draw_isinstance, sq_law_draw_int, sq_law_draw_set, sq_law_draw_dict, sq_law_draw_any, sq_law_draw_all, e]
/-- row[_law_draw(d, len(row))], row a tuple; a text -/
theorem ev_pick_t (n : Nat) (s : Dr) (g : Good s) (xs : List D) (h0 : 0 < xs.length) (h1 : (xs.length : Int) < 1073741824) : ∃ s' x, x ∈ xs ∧ Good s' ∧ runO (csAt pg (n + 1)) df_law_pick (drC s) [.tuple xs] = some (x, drC s') := by
  obtain ⟨r, s', h2, h3, g', hd⟩ := draw_ok n s xs.length g ⟨by omega, h1⟩
  obtain ⟨k, hk⟩ := Int.eq_ofNat_of_zero_le h2
  have hlt : k < xs.length := by omega
  have ha : atI xs r = some xs[k] := by rw [hk, Ev.atI_nat, List.getElem?_eq_getElem hlt]
  refine ⟨s', xs[k], List.getElem_mem hlt, g', ?_⟩
  rw [st_law_pick]
  simp! only [nm_law_pick, nl_law_pick, ok_law_draw, cd_law_draw, fb_law_draw, sq_law_draw_list, sq_law_draw_sorted, sq_law_draw_range, sq_law_draw_enumerate, sq_law_draw_zip, sq_law_draw_tuple, sq_law_draw_isinstance, sq_law_draw_int, sq_law_draw_set, sq_law_draw_dict, sq_law_draw_any, sq_law_draw_all, ok_len, cd_len, fb_len, sq_len_list, sq_len_sorted, sq_len_range, sq_len_enumerate, sq_len_zip, sq_len_tuple, sq_len_isinstance, sq_len_int, sq_len_set, sq_len_dict, sq_len_any, sq_len_all, hd, ha]
theorem ev_pick_s (n : Nat) (s : Dr) (g : Good s) (z : Str) (h0 : 0 < z.length) (h1 : z.length ≤ 16777216) : ∃ s' c, c ∈ z.cps.toList ∧ Good s' ∧ runO (csAt pg (n + 1)) df_law_pick (drC s) [.str z] = some (.str ⟨#[c]⟩, drC s') := by
  obtain ⟨r, s', h2, h3, g', hd⟩ := draw_ok n s z.length g ⟨by omega, by omega⟩
  obtain ⟨k, hk⟩ := Int.eq_ofNat_of_zero_le h2
  have hlt : k < z.cps.toList.length := by rw [Array.length_toList]; show k < z.length; omega
  have ha : atI z.cps.toList r = some z.cps.toList[k] := by rw [hk, Ev.atI_nat, List.getElem?_eq_getElem hlt]
  refine ⟨s', z.cps.toList[k], List.getElem_mem hlt, g', ?_⟩
  rw [st_law_pick]
  simp! only [nm_law_pick, nl_law_pick, ok_law_draw, cd_law_draw, fb_law_draw, sq_law_draw_list, sq_law_draw_sorted, sq_law_draw_range, sq_law_draw_enumerate, sq_law_draw_zip, sq_law_draw_tuple, sq_law_draw_isinstance, sq_law_draw_int, sq_law_draw_set, sq_law_draw_dict, sq_law_draw_any, sq_law_draw_all, ok_len, cd_len, fb_len, sq_len_list, sq_len_sorted, sq_len_range, sq_len_enumerate, sq_len_zip, sq_len_tuple, sq_len_isinstance, sq_len_int, sq_len_set, sq_len_dict, sq_len_any, sq_len_all, h1, hd, ha]


set_option Elab.async false
set_option linter.all false
set_option maxRecDepth 100000
set_option maxHeartbeats 1000000
open PySem PySem.Spec PyProof.Rows L2 Lk Ev
theorem rng_ok {n : Nat} (h : n ≤ 1000000) : rngOk 0 (n : Int) = true := by unfold rngOk; simp; omega
theorem rng_map (n : Nat) : (rngL 0 (n : Int)).map PyData.int = (List.range n).map fun k : Nat => PyData.int k := by
  unfold rngL
  rw [List.map_map]
  simp
theorem rng_get {n i : Nat} {x : D} (h : ((rngL 0 (n : Int)).map PyData.int)[i]? = some x) : x = .int i ∧ i < n := by
  rw [rng_map, List.getElem?_map] at h
  obtain ⟨k, h1, rfl⟩ := Option.map_eq_some_iff.mp h
  obtain ⟨h2, h3⟩ := List.getElem?_eq_some_iff.mp h1
  rw [List.length_range] at h2
  rw [List.getElem_range] at h3
  exact ⟨by rw [h3], h2⟩
theorem rng_len (n : Nat) : ((rngL 0 (n : Int)).map PyData.int).length = n := by rw [rng_map, List.length_map, List.length_range]
theorem ints_list {P : Int → Prop} : ∀ {ys : List D}, (∀ y ∈ ys, ∃ b : Int, y = .int b ∧ P b) → ∃ xs : List Int, ys = xs.map .int ∧ ∀ b ∈ xs, P b
  | [], _ => ⟨[], rfl, fun b h => (by cases h)⟩
  | y :: ys, h => by
    obtain ⟨b, rfl, hb⟩ := h y (List.mem_cons_self ..)
    obtain ⟨xs, rfl, hx⟩ := ints_list fun z hz => h z (List.mem_cons_of_mem _ hz)
    exact ⟨b :: xs, rfl, fun z hz => (List.mem_cons.mp hz).elim (fun e => e ▸ hb) (hx z)⟩
theorem ev_trail (n : Nat) (s : Dr) (g : Good s) : ∃ (ts : List Int) (s' : Dr), runO (csAt pg (n + 1)) df_law_trail (drC s) [] = some (.tuple (ts.map .int), drC s') ∧ Good s' ∧ ts.length ≤ 3 := by
  obtain ⟨r, s1, h0, h1, g1, e1⟩ := draw_ok n s 8 g (by decide)
  have hk : ∃ k : Nat, atI ([.int 1, .int 2, .int 3, .int 3, .int 0, .int 1, .int 2, .int 3] : List D) r = some (.int (k : Nat)) ∧ k ≤ 3 := by
    obtain ⟨j, rfl⟩ := Int.eq_ofNat_of_zero_le h0
    rw [Ev.atI_nat]
    have hj : j < 8 := by omega
    have : j = 0 ∨ j = 1 ∨ j = 2 ∨ j = 3 ∨ j = 4 ∨ j = 5 ∨ j = 6 ∨ j = 7 := by omega
    rcases this with rfl | rfl | rfl | rfl | rfl | rfl | rfl | rfl
    · exact ⟨1, rfl, by decide⟩
    · exact ⟨2, rfl, by decide⟩
    · exact ⟨3, rfl, by decide⟩
    · exact ⟨3, rfl, by decide⟩
    · exact ⟨0, rfl, by decide⟩
    · exact ⟨1, rfl, by decide⟩
    · exact ⟨2, rfl, by decide⟩
    · exact ⟨3, rfl, by decide⟩
  obtain ⟨k, hk, hk3⟩ := hk
  let I1 : Rho → Prop := fun ρ => ∃ s, Good s ∧ ρ = [Sl.own true (drC s), .non]
  obtain ⟨ys, ρ', a, b, c, s', g', rfl⟩ := lcL_ex (I := I1) (Py := fun y => ∃ b : Int, y = .int b ∧ 0 ≤ b) (step := lcTurn (FR df_law_trail (n + 1) 56) (blkFm (fmOf df_law_trail) SC_law_trail_0) EL_law_trail_0 TG_law_trail_0 [] [1] 2) (xs := (rngL 0 (k : Int)).map PyData.int) (fun x hx ρ hI => by
    obtain ⟨s, g, rfl⟩ := hI
    obtain ⟨i, hi, rfl⟩ := List.mem_map.mp hx
    obtain ⟨r, s', h0, h1, g', e⟩ := draw_ok n s 4 g (by decide)
    unfold lcTurn
    simp! only [nm_law_trail, nl_law_trail, nc_law_trail_0, ok_tuple, cd_tuple, fb_tuple, sq_tuple_list, sq_tuple_sorted, sq_tuple_range, sq_tuple_enumerate, sq_tuple_zip, sq_tuple_tuple, sq_tuple_isinstance, sq_tuple_int, sq_tuple_set, sq_tuple_dict, sq_tuple_any, sq_tuple_all, ok_law_draw, cd_law_draw, fb_law_draw, sq_law_draw_list, sq_law_draw_sorted, sq_law_draw_range, sq_law_draw_enumerate, sq_law_draw_zip, sq_law_draw_tuple, sq_law_draw_isinstance, sq_law_draw_int, sq_law_draw_set, sq_law_draw_dict, sq_law_draw_any, sq_law_draw_all, ok_range, cd_range, fb_range, sq_range_list, sq_range_sorted, sq_range_range, sq_range_enumerate, sq_range_zip, sq_range_tuple, sq_range_isinstance, sq_range_int, sq_range_set, sq_range_dict, sq_range_any, sq_range_all, e]
    exact ⟨_, _, rfl, ⟨r, rfl, h0⟩, s', g', rfl⟩) [Sl.own true (drC s1), .non] ⟨s1, g1, rfl⟩
  obtain ⟨ts, rfl, _⟩ := ints_list c
  rw [rng_len, List.length_map] at b
  have hr := rng_ok (n := k) (by omega)
  rw [st_law_trail]
  simp! only [nm_law_trail, nl_law_trail, nc_law_trail_0, ok_tuple, cd_tuple, fb_tuple, sq_tuple_list, sq_tuple_sorted, sq_tuple_range, sq_tuple_enumerate, sq_tuple_zip, sq_tuple_tuple, sq_tuple_isinstance, sq_tuple_int, sq_tuple_set, sq_tuple_dict, sq_tuple_any, sq_tuple_all, ok_law_draw, cd_law_draw, fb_law_draw, sq_law_draw_list, sq_law_draw_sorted, sq_law_draw_range, sq_law_draw_enumerate, sq_law_draw_zip, sq_law_draw_tuple, sq_law_draw_isinstance, sq_law_draw_int, sq_law_draw_set, sq_law_draw_dict, sq_law_draw_any, sq_law_draw_all, ok_range, cd_range, fb_range, sq_range_list, sq_range_sorted, sq_range_range, sq_range_enumerate, sq_range_zip, sq_range_tuple, sq_range_isinstance, sq_range_int, sq_range_set, sq_range_dict, sq_range_any, sq_range_all, e1, hk, hr, a]
  exact ⟨ts, s', rfl, g', by omega⟩
/-! ### free cells -/
def FreeL (ls : List Str) (w : Nat) (st : List Int) (F : List Int) : Prop := (∀ c ∈ F, InCell ls w c ∧ kindI ls w st c = "free") ∧ ∀ c, InCell ls w c → kindI ls w st c = "free" → c ∈ F
theorem ev_free (n : Nat) {ls : List Str} {w : Nat} (p : PlanOk ls w) {st : List Int} (hf : Fit ls w st) : ∃ F : List Int, runP (csAt pg (n + 1)) df_law_free_cells [.tuple (ls.map .str), .tuple [.tuple (st.map .int)]] = some (.tuple (F.map .int)) ∧ FreeL ls w st F ∧ F.length ≤ 64 := by
  obtain ⟨l0, h0, hw⟩ := head_ex p
  have w8 := p.w8
  have w1 := p.w1
  have h8 := p.h8
  have hz0 : l0.length ≤ 16777216 := by omega
  have hle : ls.length * w ≤ 64 := Nat.mul_le_mul h8 w8
  have hmul : (ls.length : Int) * (l0.length : Int) = ((ls.length * w : Nat) : Int) := by rw [hw]; exact (Int.natCast_mul _ _).symm
  have hb2 : -18446744073709551616 < (l0.length : Int) ∧ (l0.length : Int) < 18446744073709551616 := by omega
  have hr := rng_ok (n := ls.length * w) (by omega)
  let S : List Int → Rho := fun F => [.val (.tuple (ls.map .str)), .val (.tuple [.tuple (st.map .int)]), .own false (.lst (F.map .int)), .non, .non]
  let J : Nat → Rho → Prop := fun k ρ => ∃ F : List Int, ρ = S F ∧ F.length ≤ k ∧ (∀ c ∈ F, InCell ls w c ∧ kindI ls w st c = "free") ∧ ∀ c : Int, 0 ≤ c → c < k → InCell ls w c → kindI ls w st c = "free" → c ∈ F
  obtain ⟨ρ', a, F, rfl, hl, h1, h2⟩ := forL_inv (R := Sum (D × Rho) (Ct × Rho)) (step := turnE (FR df_law_free_cells (n + 1) 59) (fmOf df_law_free_cells) FT_law_free_cells_119 FB_law_free_cells_119 (df_law_free_cells.drop 119)) J (xs := (rngL 0 ((ls.length * w : Nat) : Int)).map PyData.int) (k := 0) (fun i x ρ hx hJ => by
    obtain ⟨rfl, hi⟩ := rng_get hx
    obtain ⟨F, rfl, hl, h1, h2⟩ := hJ
    have hin : InCell ls w (i : Int) := ⟨by omega, by rw [← Int.natCast_mul]; omega⟩
    have e := ev_lkind n p hin (hf _ hin)
    have B := lcL_map (β := Int) (s := [.val (.tuple (ls.map .str)), .val (.tuple [.tuple (st.map .int)]), .own false (.lst (F.map .int)), .val (.int (i : Nat)), .non]) (step := lcTurn (FR df_law_free_cells (n + 1) 54) (blkFm (fmOf df_law_free_cells) SC_law_free_cells_0) EL_law_free_cells_0 TG_law_free_cells_0 [] [4] 5) (fun st : List Int => PyData.tuple (st.map .int)) (fun st' => .bool (decide (kindI ls w st (i : Int) = "free"))) (xs := [st]) (fun st' hst => by
      rw [List.mem_singleton] at hst
      subst hst
      unfold lcTurn
      simp! only [nm_law_free_cells, nl_law_free_cells, dr_law_free_cells_119, nc_law_free_cells_0, ok_range, cd_range, fb_range, sq_range_list, sq_range_sorted, sq_range_range, sq_range_enumerate, sq_range_zip, sq_range_tuple, sq_range_isinstance, sq_range_int, sq_range_set, sq_range_dict, sq_range_any, sq_range_all, ok_tuple, cd_tuple, fb_tuple, sq_tuple_list, sq_tuple_sorted, sq_tuple_range, sq_tuple_enumerate, sq_tuple_zip, sq_tuple_tuple, sq_tuple_isinstance, sq_tuple_int, sq_tuple_set, sq_tuple_dict, sq_tuple_any, sq_tuple_all, ok_any, cd_any, fb_any, sq_any_list, sq_any_sorted, sq_any_range, sq_any_enumerate, sq_any_zip, sq_any_tuple, sq_any_isinstance, sq_any_int, sq_any_set, sq_any_dict, sq_any_any, sq_any_all, ok_len, cd_len, fb_len, sq_len_list, sq_len_sorted, sq_len_range, sq_len_enumerate, sq_len_zip, sq_len_tuple, sq_len_isinstance, sq_len_int, sq_len_set, sq_len_dict, sq_len_any, sq_len_all, ok_law_kind, cd_law_kind, fb_law_kind, sq_law_kind_list, sq_law_kind_sorted, sq_law_kind_range, sq_law_kind_enumerate, sq_law_kind_zip, sq_law_kind_tuple, sq_law_kind_isinstance, sq_law_kind_int, sq_law_kind_set, sq_law_kind_dict, sq_law_kind_any, sq_law_kind_all, sq_append_append, sq_append_find, sq_append_get, sq_append_join, sq_append_list, sq_append_pop, sq_append_sorted, sq_append_split, e])
    rw [List.map_cons, List.map_nil, List.map_cons, List.map_nil] at B
    have hlen : (F.length < 16777216) = True := eq_true (by omega)
    rw [turnE_eq]
    by_cases hk : kindI ls w st (i : Int) = "free"
    · have hd := decide_eq_true hk
      simp! only [nm_law_free_cells, nl_law_free_cells, dr_law_free_cells_119, nc_law_free_cells_0, ok_range, cd_range, fb_range, sq_range_list, sq_range_sorted, sq_range_range, sq_range_enumerate, sq_range_zip, sq_range_tuple, sq_range_isinstance, sq_range_int, sq_range_set, sq_range_dict, sq_range_any, sq_range_all, ok_tuple, cd_tuple, fb_tuple, sq_tuple_list, sq_tuple_sorted, sq_tuple_range, sq_tuple_enumerate, sq_tuple_zip, sq_tuple_tuple, sq_tuple_isinstance, sq_tuple_int, sq_tuple_set, sq_tuple_dict, sq_tuple_any, sq_tuple_all, ok_any, cd_any, fb_any, sq_any_list, sq_any_sorted, sq_any_range, sq_any_enumerate, sq_any_zip, sq_any_tuple, sq_any_isinstance, sq_any_int, sq_any_set, sq_any_dict, sq_any_any, sq_any_all, ok_len, cd_len, fb_len, sq_len_list, sq_len_sorted, sq_len_range, sq_len_enumerate, sq_len_zip, sq_len_tuple, sq_len_isinstance, sq_len_int, sq_len_set, sq_len_dict, sq_len_any, sq_len_all, ok_law_kind, cd_law_kind, fb_law_kind, sq_law_kind_list, sq_law_kind_sorted, sq_law_kind_range, sq_law_kind_enumerate, sq_law_kind_zip, sq_law_kind_tuple, sq_law_kind_isinstance, sq_law_kind_int, sq_law_kind_set, sq_law_kind_dict, sq_law_kind_any, sq_law_kind_all, sq_append_append, sq_append_find, sq_append_get, sq_append_join, sq_append_list, sq_append_pop, sq_append_sorted, sq_append_split, S, B, hd, List.any_cons, List.any_nil, id, List.length_map, hlen]
      refine ⟨_, rfl, F ++ [(i : Int)], ?_, ?_, ?_, ?_⟩
      · show _ = S _
        simp only [S, List.map_append, List.map_cons, List.map_nil]
      · rw [List.length_append]; show F.length + 1 ≤ _; omega
      · intro c hc
        rcases List.mem_append.mp hc with hc | hc
        · exact h1 c hc
        · rw [List.mem_singleton] at hc; subst hc; exact ⟨hin, hk⟩
      · intro c c0 c1 c2 c3
        by_cases hci : c = (i : Int)
        · subst hci; exact List.mem_append_right _ (List.mem_singleton.mpr rfl)
        · exact List.mem_append_left _ (h2 c c0 (by omega) c2 c3)
    · have hd := decide_eq_false hk
      simp! only [nm_law_free_cells, nl_law_free_cells, dr_law_free_cells_119, nc_law_free_cells_0, ok_range, cd_range, fb_range, sq_range_list, sq_range_sorted, sq_range_range, sq_range_enumerate, sq_range_zip, sq_range_tuple, sq_range_isinstance, sq_range_int, sq_range_set, sq_range_dict, sq_range_any, sq_range_all, ok_tuple, cd_tuple, fb_tuple, sq_tuple_list, sq_tuple_sorted, sq_tuple_range, sq_tuple_enumerate, sq_tuple_zip, sq_tuple_tuple, sq_tuple_isinstance, sq_tuple_int, sq_tuple_set, sq_tuple_dict, sq_tuple_any, sq_tuple_all, ok_any, cd_any, fb_any, sq_any_list, sq_any_sorted, sq_any_range, sq_any_enumerate, sq_any_zip, sq_any_tuple, sq_any_isinstance, sq_any_int, sq_any_set, sq_any_dict, sq_any_any, sq_any_all, ok_len, cd_len, fb_len, sq_len_list, sq_len_sorted, sq_len_range, sq_len_enumerate, sq_len_zip, sq_len_tuple, sq_len_isinstance, sq_len_int, sq_len_set, sq_len_dict, sq_len_any, sq_len_all, ok_law_kind, cd_law_kind, fb_law_kind, sq_law_kind_list, sq_law_kind_sorted, sq_law_kind_range, sq_law_kind_enumerate, sq_law_kind_zip, sq_law_kind_tuple, sq_law_kind_isinstance, sq_law_kind_int, sq_law_kind_set, sq_law_kind_dict, sq_law_kind_any, sq_law_kind_all, sq_append_append, sq_append_find, sq_append_get, sq_append_join, sq_append_list, sq_append_pop, sq_append_sorted, sq_append_split, S, B, hd, List.any_cons, List.any_nil, id]
      refine ⟨_, rfl, F, rfl, by omega, h1, ?_⟩
      intro c c0 c1 c2 c3
      by_cases hci : c = (i : Int)
      · subst hci; exact absurd c3 hk
      · exact h2 c c0 (by omega) c2 c3) (S []) ⟨[], rfl, Nat.le_refl _, fun c hc => (by cases hc), fun c c0 c1 _ _ => by omega⟩
  rw [rng_len] at hl h2
  have a : forL _ _ ([.val (.tuple (ls.map .str)), .val (.tuple [.tuple (st.map .int)]), .own false (.lst []), .non, .non] : Rho) = some (.nx [.val (.tuple (ls.map .str)), .val (.tuple [.tuple (st.map .int)]), .own false (.lst (F.map .int)), .non, .non]) := a
  refine ⟨F, ?_, ⟨h1, fun c hc hk => h2 c hc.1 (by have := hc.2; rw [← Int.natCast_mul] at this; omega) hc hk⟩, by omega⟩
  rw [st_law_free_cells]
  simp! only [nm_law_free_cells, nl_law_free_cells, dr_law_free_cells_119, nc_law_free_cells_0, ok_range, cd_range, fb_range, sq_range_list, sq_range_sorted, sq_range_range, sq_range_enumerate, sq_range_zip, sq_range_tuple, sq_range_isinstance, sq_range_int, sq_range_set, sq_range_dict, sq_range_any, sq_range_all, ok_tuple, cd_tuple, fb_tuple, sq_tuple_list, sq_tuple_sorted, sq_tuple_range, sq_tuple_enumerate, sq_tuple_zip, sq_tuple_tuple, sq_tuple_isinstance, sq_tuple_int, sq_tuple_set, sq_tuple_dict, sq_tuple_any, sq_tuple_all, ok_any, cd_any, fb_any, sq_any_list, sq_any_sorted, sq_any_range, sq_any_enumerate, sq_any_zip, sq_any_tuple, sq_any_isinstance, sq_any_int, sq_any_set, sq_any_dict, sq_any_any, sq_any_all, ok_len, cd_len, fb_len, sq_len_list, sq_len_sorted, sq_len_range, sq_len_enumerate, sq_len_zip, sq_len_tuple, sq_len_isinstance, sq_len_int, sq_len_set, sq_len_dict, sq_len_any, sq_len_all, ok_law_kind, cd_law_kind, fb_law_kind, sq_law_kind_list, sq_law_kind_sorted, sq_law_kind_range, sq_law_kind_enumerate, sq_law_kind_zip, sq_law_kind_tuple, sq_law_kind_isinstance, sq_law_kind_int, sq_law_kind_set, sq_law_kind_dict, sq_law_kind_any, sq_law_kind_all, sq_append_append, sq_append_find, sq_append_get, sq_append_join, sq_append_list, sq_append_pop, sq_append_sorted, sq_append_split, List.getElem?_map, h0, hz0, List.length_map, hb2, hmul, hr, a]


set_option Elab.async false
set_option linter.all false
set_option maxRecDepth 100000
set_option maxHeartbeats 1000000
open PySem PySem.Spec PyProof.Rows L2 Lk Ev
/-! ### the floor -/
@[irreducible] def M1 : Str := "......,,+ab1A#*!"
@[irreducible] def M2 : Str := "....,+abcdefgh123456ABCDEF#*!"
@[irreducible] def M3 : Str := "..,,1122AABB##**!!"
@[irreducible] def M4 : Str := "...........,,,,6F#"
def MenuOk (z : Str) : Prop := 0 < z.length ∧ z.length ≤ 100 ∧ ∀ c ∈ z.cps.toList, c ∈ SIGNS
theorem menu_ok : ∀ z ∈ [Str.ofString "......,,+ab1A#*!", Str.ofString "....,+abcdefgh123456ABCDEF#*!", Str.ofString "..,,1122AABB##**!!", Str.ofString "...........,,,,6F#"], 0 < z.length ∧ z.length ≤ 100 ∧ ∀ c ∈ z.cps.toList, c ∈ SIGNS := by decide +kernel
theorem strs_list {P : Str → Prop} : ∀ {ys : List D}, (∀ y ∈ ys, ∃ b : Str, y = .str b ∧ P b) → ∃ xs : List Str, ys = xs.map .str ∧ ∀ b ∈ xs, P b
  | [], _ => ⟨[], rfl, fun b h => (by cases h)⟩
  | y :: ys, h => by
    obtain ⟨b, rfl, hb⟩ := h y (List.mem_cons_self ..)
    obtain ⟨xs, rfl, hx⟩ := strs_list fun z hz => h z (List.mem_cons_of_mem _ hz)
    exact ⟨b :: xs, rfl, fun z hz => (List.mem_cons.mp hz).elim (fun e => e ▸ hb) (hx z)⟩
theorem join_ok {cs : List Nat} (h : cs.length ≤ 1000) : strM "join" "" (.list ((cs.map fun c => (⟨#[c]⟩ : Str)).map .str)) = some (.str (Txt.join "" (cs.map fun c => ⟨#[c]⟩))) := by
  rw [sj_l, strsOf_map, Option.bind_some, if_pos]
  have e : (Str.ofString "").length = 0 := by decide +kernel
  rw [e, Nat.mul_zero, Nat.add_zero, List.map_map]
  have : ((fun x : Str => x.length) ∘ fun c => (⟨#[c]⟩ : Str)) = fun _ : Nat => 1 := rfl
  rw [this]
  simp only [List.map_const', List.sum_replicate_nat, Nat.mul_one]
  omega
theorem floor_turn (n : Nat) (z : Str) (hz : MenuOk z) (b : Nat) (hb : b ≤ 8) (s : Dr) (g : Good s) (ls : List Str) (hl : ls.length ≤ 8) (i : Int) : ∃ (l : Str) (s' : Dr), Good s' ∧ l.cps.toList.length = b ∧ (∀ c ∈ l.cps.toList, c ∈ SIGNS) ∧
    turnE (FR df_law_floor (n + 2) 59) (fmOf df_law_floor) FT_law_floor_131 FB_law_floor_131 (df_law_floor.drop 131) (.int i) [Sl.own true (drC s), .non, .val (.int (b : Nat)), .val (.str z), .own false (.lst (ls.map .str)), .non, .non] =
      some (.nx [Sl.own true (drC s'), .non, .val (.int (b : Nat)), .val (.str z), .own false (.lst (ls.map .str ++ [.str l])), .non, .non]) := by
  have hr := rng_ok (n := b) (by omega)
  let I1 : Rho → Prop := fun ρ => ∃ s, Good s ∧ ρ = [Sl.own true (drC s), .non, .val (.int (b : Nat)), .val (.str z), .own false (.lst (ls.map .str)), .val (.int i), .non]
  obtain ⟨ys, ρ', a1, b1, c1, s', g', rfl⟩ := lcL_ex (I := I1) (Py := fun y => ∃ t : Str, y = .str t ∧ ∃ c ∈ SIGNS, t = ⟨#[c]⟩) (step := lcTurn (FR df_law_floor (n + 2) 55) (blkFm (fmOf df_law_floor) SC_law_floor_0) EL_law_floor_0 TG_law_floor_0 [] [6] 7) (xs := (rngL 0 (b : Int)).map PyData.int) (fun x hx ρ hI => by
    obtain ⟨s, g, rfl⟩ := hI
    obtain ⟨j, hj, rfl⟩ := List.mem_map.mp hx
    obtain ⟨s', c, hc, g', e⟩ := ev_pick_s n s g z hz.1 (by have := hz.2.1; omega)
    unfold lcTurn
    simp! only [nm_law_floor, nl_law_floor, dr_law_floor_131, nc_law_floor_0, ok_law_rare, cd_law_rare, fb_law_rare, sq_law_rare_list, sq_law_rare_sorted, sq_law_rare_range, sq_law_rare_enumerate, sq_law_rare_zip, sq_law_rare_tuple, sq_law_rare_isinstance, sq_law_rare_int, sq_law_rare_set, sq_law_rare_dict, sq_law_rare_any, sq_law_rare_all, ok_law_pick, cd_law_pick, fb_law_pick, sq_law_pick_list, sq_law_pick_sorted, sq_law_pick_range, sq_law_pick_enumerate, sq_law_pick_zip, sq_law_pick_tuple, sq_law_pick_isinstance, sq_law_pick_int, sq_law_pick_set, sq_law_pick_dict, sq_law_pick_any, sq_law_pick_all, ok_range, cd_range, fb_range, sq_range_list, sq_range_sorted, sq_range_range, sq_range_enumerate, sq_range_zip, sq_range_tuple, sq_range_isinstance, sq_range_int, sq_range_set, sq_range_dict, sq_range_any, sq_range_all, ok_tuple, cd_tuple, fb_tuple, sq_tuple_list, sq_tuple_sorted, sq_tuple_range, sq_tuple_enumerate, sq_tuple_zip, sq_tuple_tuple, sq_tuple_isinstance, sq_tuple_int, sq_tuple_set, sq_tuple_dict, sq_tuple_any, sq_tuple_all, ok_law_draw, cd_law_draw, fb_law_draw, sq_law_draw_list, sq_law_draw_sorted, sq_law_draw_range, sq_law_draw_enumerate, sq_law_draw_zip, sq_law_draw_tuple, sq_law_draw_isinstance, sq_law_draw_int, sq_law_draw_set, sq_law_draw_dict, sq_law_draw_any, sq_law_draw_all, sq_append_append, sq_append_find, sq_append_get, sq_append_join, sq_append_list, sq_append_pop, sq_append_sorted, sq_append_split, sq_join_append, sq_join_find, sq_join_get, sq_join_join, sq_join_list, sq_join_pop, sq_join_sorted, sq_join_split, e]
    exact ⟨_, _, rfl, ⟨_, rfl, c, hz.2.2 c hc, rfl⟩, s', g', rfl⟩) [Sl.own true (drC s), .non, .val (.int (b : Nat)), .val (.str z), .own false (.lst (ls.map .str)), .val (.int i), .non] ⟨s, g, rfl⟩
  obtain ⟨ts, rfl, hts⟩ := strs_list c1
  have hcs : ∃ cs : List Nat, ts = cs.map (fun c => (⟨#[c]⟩ : Str)) ∧ ∀ c ∈ cs, c ∈ SIGNS := by
    clear a1 b1 c1
    induction ts with
    | nil => exact ⟨[], rfl, fun c h => (by cases h)⟩
    | cons t ts ih =>
      obtain ⟨c, hc, rfl⟩ := hts t (List.mem_cons_self ..)
      obtain ⟨cs, rfl, h⟩ := ih fun y hy => hts y (List.mem_cons_of_mem _ hy)
      exact ⟨c :: cs, rfl, fun x hx => (List.mem_cons.mp hx).elim (fun e => e ▸ hc) (h x)⟩
  obtain ⟨cs, rfl, hcs⟩ := hcs
  rw [rng_len, List.length_map, List.length_map] at b1
  have hj := join_ok (cs := cs) (by omega)
  have hll : (ls.length < 16777216) = True := eq_true (by omega)
  refine ⟨Txt.join "" (cs.map fun c => ⟨#[c]⟩), s', g', by rw [join_signs]; exact b1, by rw [join_signs]; exact hcs, ?_⟩
  rw [turnE_eq]
  simp! only [nm_law_floor, nl_law_floor, dr_law_floor_131, nc_law_floor_0, ok_law_rare, cd_law_rare, fb_law_rare, sq_law_rare_list, sq_law_rare_sorted, sq_law_rare_range, sq_law_rare_enumerate, sq_law_rare_zip, sq_law_rare_tuple, sq_law_rare_isinstance, sq_law_rare_int, sq_law_rare_set, sq_law_rare_dict, sq_law_rare_any, sq_law_rare_all, ok_law_pick, cd_law_pick, fb_law_pick, sq_law_pick_list, sq_law_pick_sorted, sq_law_pick_range, sq_law_pick_enumerate, sq_law_pick_zip, sq_law_pick_tuple, sq_law_pick_isinstance, sq_law_pick_int, sq_law_pick_set, sq_law_pick_dict, sq_law_pick_any, sq_law_pick_all, ok_range, cd_range, fb_range, sq_range_list, sq_range_sorted, sq_range_range, sq_range_enumerate, sq_range_zip, sq_range_tuple, sq_range_isinstance, sq_range_int, sq_range_set, sq_range_dict, sq_range_any, sq_range_all, ok_tuple, cd_tuple, fb_tuple, sq_tuple_list, sq_tuple_sorted, sq_tuple_range, sq_tuple_enumerate, sq_tuple_zip, sq_tuple_tuple, sq_tuple_isinstance, sq_tuple_int, sq_tuple_set, sq_tuple_dict, sq_tuple_any, sq_tuple_all, ok_law_draw, cd_law_draw, fb_law_draw, sq_law_draw_list, sq_law_draw_sorted, sq_law_draw_range, sq_law_draw_enumerate, sq_law_draw_zip, sq_law_draw_tuple, sq_law_draw_isinstance, sq_law_draw_int, sq_law_draw_set, sq_law_draw_dict, sq_law_draw_any, sq_law_draw_all, sq_append_append, sq_append_find, sq_append_get, sq_append_join, sq_append_list, sq_append_pop, sq_append_sorted, sq_append_split, sq_join_append, sq_join_find, sq_join_get, sq_join_join, sq_join_list, sq_join_pop, sq_join_sorted, sq_join_split, hr, a1, hj, List.length_map, hll]
theorem ev_floor_loop (n : Nat) (z : Str) (hz : MenuOk z) (a b : Nat) (ha : a ≤ 8) (hb : b ≤ 8) (s : Dr) (g : Good s) : ∃ (ls : List Str) (s' : Dr), forL (turnE (FR df_law_floor (n + 2) 59) (fmOf df_law_floor) FT_law_floor_131 FB_law_floor_131 (df_law_floor.drop 131)) ((rngL 0 (a : Int)).map .int) [Sl.own true (drC s), .non, .val (.int (b : Nat)), .val (.str z), .own false (.lst []), .non, .non] =
      some (.nx [Sl.own true (drC s'), .non, .val (.int (b : Nat)), .val (.str z), .own false (.lst (ls.map .str)), .non, .non]) ∧ Good s' ∧ ls.length = a ∧ ∀ l ∈ ls, l.cps.toList.length = b ∧ ∀ c ∈ l.cps.toList, c ∈ SIGNS := by
  let J : Nat → Rho → Prop := fun k ρ => ∃ (s : Dr) (ls : List Str), Good s ∧ ρ = [Sl.own true (drC s), .non, .val (.int (b : Nat)), .val (.str z), .own false (.lst (ls.map .str)), .non, .non] ∧ ls.length = k ∧ ∀ l ∈ ls, l.cps.toList.length = b ∧ ∀ c ∈ l.cps.toList, c ∈ SIGNS
  obtain ⟨ρ', e, s', ls, g', rfl, hl, hs⟩ := forL_inv (R := Sum (D × Rho) (Ct × Rho)) (step := turnE (FR df_law_floor (n + 2) 59) (fmOf df_law_floor) FT_law_floor_131 FB_law_floor_131 (df_law_floor.drop 131)) J (xs := (rngL 0 (a : Int)).map PyData.int) (k := 0) (fun i x ρ hx hJ => by
    obtain ⟨rfl, hi⟩ := rng_get hx
    obtain ⟨s, ls, g, rfl, hl, hs⟩ := hJ
    obtain ⟨l, s', g', l1, l2, e⟩ := floor_turn n z hz b hb s g ls (by omega) i
    refine ⟨_, e, s', ls ++ [l], g', ?_, ?_, ?_⟩
    · rw [List.map_append]; rfl
    · rw [List.length_append]; show ls.length + 1 = _; omega
    · intro x hx
      rcases List.mem_append.mp hx with h | h
      · exact hs x h
      · rw [List.mem_singleton] at h; subst h
        exact ⟨l1, l2⟩) [Sl.own true (drC s), .non, .val (.int (b : Nat)), .val (.str z), .own false (.lst []), .non, .non] ⟨s, [], g, rfl, rfl, fun l hl => (by cases hl)⟩
  rw [rng_len] at hl
  exact ⟨ls, s', e, g', by omega, hs⟩
theorem nat_of {r : Int} {m : Nat} (h0 : 0 ≤ r) (h1 : r < m) : ∃ k : Nat, r = k ∧ k < m := ⟨r.toNat, by omega, by omega⟩
theorem ev_floor (n : Nat) (s : Dr) (g : Good s) : ∃ (ls : List Str) (w : Nat) (s' : Dr), runO (csAt pg (n + 2)) df_law_floor (drC s) [] = some (.tuple (ls.map .str), drC s') ∧ PlanOk ls w ∧ Good s' := by
  obtain ⟨r1, s1, a0, a1, g1, e1⟩ := draw_ok (n + 1) s 3 g (by decide)
  obtain ⟨r2, s2, b0, b1, g2, e2⟩ := draw_ok (n + 1) s1 4 g1 (by decide)
  obtain ⟨b, s3, e3, g3⟩ := ev_rare n s2 g2 8 (by decide)
  have menu : ∀ s, Good s → ∃ s' z, MenuOk z ∧ Good s' ∧ runO (csAt pg (n + 1)) df_law_pick (drC s) [.list [.str "......,,+ab1A#*!", .str "....,+abcdefgh123456ABCDEF#*!", .str "..,,1122AABB##**!!", .str "...........,,,,6F#"]] = some (.str z, drC s') := by
    intro s g
    obtain ⟨r, s', x, _, _, hm, g', e⟩ := ev_pick n s g [.str "......,,+ab1A#*!", .str "....,+abcdefgh123456ABCDEF#*!", .str "..,,1122AABB##**!!", .str "...........,,,,6F#"] (by simp) (by simp)
    simp only [List.mem_cons, List.not_mem_nil, or_false] at hm
    rcases hm with rfl | rfl | rfl | rfl
    · exact ⟨s', _, menu_ok _ (by simp), g', e⟩
    · exact ⟨s', _, menu_ok _ (by simp), g', e⟩
    · exact ⟨s', _, menu_ok _ (by simp), g', e⟩
    · exact ⟨s', _, menu_ok _ (by simp), g', e⟩
  cases b with
  | true =>
    obtain ⟨r4, s4, c0, c1, g4, e4⟩ := draw_ok (n + 1) s3 8 g3 (by decide)
    obtain ⟨r5, s5, d0, d1, g5, e5⟩ := draw_ok (n + 1) s4 8 g4 (by decide)
    obtain ⟨s6, z, hz, g6, e6⟩ := menu s5 g5
    obtain ⟨x, rfl, hx⟩ := nat_of (m := 8) c0 c1
    obtain ⟨y, rfl, hy⟩ := nat_of (m := 8) d0 d1
    have cx : (1 : Int) + (x : Int) = ((1 + x : Nat) : Int) := by omega
    have cy : (1 : Int) + (y : Int) = ((1 + y : Nat) : Int) := by omega
    obtain ⟨ls, s7, e7, g7, hl, hs⟩ := ev_floor_loop n z hz (1 + x) (1 + y) (by omega) (by omega) s6 g6
    have hr := rng_ok (n := 1 + x) (by omega)
    rw [st_law_floor]
    simp! only [nm_law_floor, nl_law_floor, dr_law_floor_131, nc_law_floor_0, ok_law_rare, cd_law_rare, fb_law_rare, sq_law_rare_list, sq_law_rare_sorted, sq_law_rare_range, sq_law_rare_enumerate, sq_law_rare_zip, sq_law_rare_tuple, sq_law_rare_isinstance, sq_law_rare_int, sq_law_rare_set, sq_law_rare_dict, sq_law_rare_any, sq_law_rare_all, ok_law_pick, cd_law_pick, fb_law_pick, sq_law_pick_list, sq_law_pick_sorted, sq_law_pick_range, sq_law_pick_enumerate, sq_law_pick_zip, sq_law_pick_tuple, sq_law_pick_isinstance, sq_law_pick_int, sq_law_pick_set, sq_law_pick_dict, sq_law_pick_any, sq_law_pick_all, ok_range, cd_range, fb_range, sq_range_list, sq_range_sorted, sq_range_range, sq_range_enumerate, sq_range_zip, sq_range_tuple, sq_range_isinstance, sq_range_int, sq_range_set, sq_range_dict, sq_range_any, sq_range_all, ok_tuple, cd_tuple, fb_tuple, sq_tuple_list, sq_tuple_sorted, sq_tuple_range, sq_tuple_enumerate, sq_tuple_zip, sq_tuple_tuple, sq_tuple_isinstance, sq_tuple_int, sq_tuple_set, sq_tuple_dict, sq_tuple_any, sq_tuple_all, ok_law_draw, cd_law_draw, fb_law_draw, sq_law_draw_list, sq_law_draw_sorted, sq_law_draw_range, sq_law_draw_enumerate, sq_law_draw_zip, sq_law_draw_tuple, sq_law_draw_isinstance, sq_law_draw_int, sq_law_draw_set, sq_law_draw_dict, sq_law_draw_any, sq_law_draw_all, sq_append_append, sq_append_find, sq_append_get, sq_append_join, sq_append_list, sq_append_pop, sq_append_sorted, sq_append_split, sq_join_append, sq_join_find, sq_join_get, sq_join_join, sq_join_list, sq_join_pop, sq_join_sorted, sq_join_split, e1, e2, e3, e4, e5, cx, cy, e6, hr, e7]
    exact ⟨ls, 1 + y, s7, rfl, ⟨by omega, by omega, by omega, by omega, fun l h => (hs l h).1, fun l h => (hs l h).2⟩, g7⟩
  | false =>
    obtain ⟨s6, z, hz, g6, e6⟩ := menu s3 g3
    obtain ⟨x, rfl, hx⟩ := nat_of (m := 3) a0 a1
    obtain ⟨y, rfl, hy⟩ := nat_of (m := 4) b0 b1
    have cx : (1 : Int) + (x : Int) = ((1 + x : Nat) : Int) := by omega
    have cy : (1 : Int) + (y : Int) = ((1 + y : Nat) : Int) := by omega
    obtain ⟨ls, s7, e7, g7, hl, hs⟩ := ev_floor_loop n z hz (1 + x) (1 + y) (by omega) (by omega) s6 g6
    have hr := rng_ok (n := 1 + x) (by omega)
    rw [st_law_floor]
    simp! only [nm_law_floor, nl_law_floor, dr_law_floor_131, nc_law_floor_0, ok_law_rare, cd_law_rare, fb_law_rare, sq_law_rare_list, sq_law_rare_sorted, sq_law_rare_range, sq_law_rare_enumerate, sq_law_rare_zip, sq_law_rare_tuple, sq_law_rare_isinstance, sq_law_rare_int, sq_law_rare_set, sq_law_rare_dict, sq_law_rare_any, sq_law_rare_all, ok_law_pick, cd_law_pick, fb_law_pick, sq_law_pick_list, sq_law_pick_sorted, sq_law_pick_range, sq_law_pick_enumerate, sq_law_pick_zip, sq_law_pick_tuple, sq_law_pick_isinstance, sq_law_pick_int, sq_law_pick_set, sq_law_pick_dict, sq_law_pick_any, sq_law_pick_all, ok_range, cd_range, fb_range, sq_range_list, sq_range_sorted, sq_range_range, sq_range_enumerate, sq_range_zip, sq_range_tuple, sq_range_isinstance, sq_range_int, sq_range_set, sq_range_dict, sq_range_any, sq_range_all, ok_tuple, cd_tuple, fb_tuple, sq_tuple_list, sq_tuple_sorted, sq_tuple_range, sq_tuple_enumerate, sq_tuple_zip, sq_tuple_tuple, sq_tuple_isinstance, sq_tuple_int, sq_tuple_set, sq_tuple_dict, sq_tuple_any, sq_tuple_all, ok_law_draw, cd_law_draw, fb_law_draw, sq_law_draw_list, sq_law_draw_sorted, sq_law_draw_range, sq_law_draw_enumerate, sq_law_draw_zip, sq_law_draw_tuple, sq_law_draw_isinstance, sq_law_draw_int, sq_law_draw_set, sq_law_draw_dict, sq_law_draw_any, sq_law_draw_all, sq_append_append, sq_append_find, sq_append_get, sq_append_join, sq_append_list, sq_append_pop, sq_append_sorted, sq_append_split, sq_join_append, sq_join_find, sq_join_get, sq_join_join, sq_join_list, sq_join_pop, sq_join_sorted, sq_join_split, e1, e2, e3, cx, cy, e6, hr, e7]
    exact ⟨ls, 1 + y, s7, rfl, ⟨by omega, by omega, by omega, by omega, fun l h => (hs l h).1, fun l h => (hs l h).2⟩, g7⟩


set_option Elab.async false
set_option linter.all false
set_option maxRecDepth 100000
set_option maxHeartbeats 1000000
open PySem PySem.Spec PyProof.Rows L2 Lk Ev
/-! ### the ground -/
theorem bits_of {ys : List D} (h : ∀ y ∈ ys, ∃ b : Int, y = .int b ∧ (b = 0 ∨ b = 1)) : ∃ st : List Int, ys = st.map .int ∧ Bits st := ints_list h
theorem ev_bits (n : Nat) (k : Nat) (hk : k ≤ 6) (P : D) (s : Dr) (g : Good s) : ∃ (st : List Int) (s' : Dr), lcL (lcTurn (FR df_law_ground (n + 1) 56) (blkFm (fmOf df_law_ground) SC_law_ground_0) EL_law_ground_0 TG_law_ground_0 [] [4] 5) ((rngL 0 (k : Int)).map PyData.int) [Sl.own true (drC s), .val P, .non, .non, .non] = some (st.map .int, [Sl.own true (drC s'), .val P, .non, .non, .non]) ∧ Good s' ∧ Bits st ∧ st.length = k := by
  let I1 : Rho → Prop := fun ρ => ∃ s, Good s ∧ ρ = [Sl.own true (drC s), .val P, .non, .non, .non]
  obtain ⟨ys, ρ', a, b, c, s', g', rfl⟩ := lcL_ex (I := I1) (Py := fun y => ∃ b : Int, y = .int b ∧ (b = 0 ∨ b = 1)) (step := lcTurn (FR df_law_ground (n + 1) 56) (blkFm (fmOf df_law_ground) SC_law_ground_0) EL_law_ground_0 TG_law_ground_0 [] [4] 5) (xs := (rngL 0 (k : Int)).map PyData.int) (fun x hx ρ hI => by
    obtain ⟨s, g, rfl⟩ := hI
    obtain ⟨i, hi, rfl⟩ := List.mem_map.mp hx
    obtain ⟨r, s', h0, h1, g', e⟩ := draw_ok n s 2 g (by decide)
    unfold lcTurn
    simp! only [nm_law_ground, nl_law_ground, nc_law_ground_0, ok_law_floor, cd_law_floor, fb_law_floor, sq_law_floor_list, sq_law_floor_sorted, sq_law_floor_range, sq_law_floor_enumerate, sq_law_floor_zip, sq_law_floor_tuple, sq_law_floor_isinstance, sq_law_floor_int, sq_law_floor_set, sq_law_floor_dict, sq_law_floor_any, sq_law_floor_all, ok_tuple, cd_tuple, fb_tuple, sq_tuple_list, sq_tuple_sorted, sq_tuple_range, sq_tuple_enumerate, sq_tuple_zip, sq_tuple_tuple, sq_tuple_isinstance, sq_tuple_int, sq_tuple_set, sq_tuple_dict, sq_tuple_any, sq_tuple_all, ok_law_free_cells, cd_law_free_cells, fb_law_free_cells, sq_law_free_cells_list, sq_law_free_cells_sorted, sq_law_free_cells_range, sq_law_free_cells_enumerate, sq_law_free_cells_zip, sq_law_free_cells_tuple, sq_law_free_cells_isinstance, sq_law_free_cells_int, sq_law_free_cells_set, sq_law_free_cells_dict, sq_law_free_cells_any, sq_law_free_cells_all, ok_len, cd_len, fb_len, sq_len_list, sq_len_sorted, sq_len_range, sq_len_enumerate, sq_len_zip, sq_len_tuple, sq_len_isinstance, sq_len_int, sq_len_set, sq_len_dict, sq_len_any, sq_len_all, ok_law_draw, cd_law_draw, fb_law_draw, sq_law_draw_list, sq_law_draw_sorted, sq_law_draw_range, sq_law_draw_enumerate, sq_law_draw_zip, sq_law_draw_tuple, sq_law_draw_isinstance, sq_law_draw_int, sq_law_draw_set, sq_law_draw_dict, sq_law_draw_any, sq_law_draw_all, ok_range, cd_range, fb_range, sq_range_list, sq_range_sorted, sq_range_range, sq_range_enumerate, sq_range_zip, sq_range_tuple, sq_range_isinstance, sq_range_int, sq_range_set, sq_range_dict, sq_range_any, sq_range_all, ok_law_doors, cd_law_doors, fb_law_doors, sq_law_doors_list, sq_law_doors_sorted, sq_law_doors_range, sq_law_doors_enumerate, sq_law_doors_zip, sq_law_doors_tuple, sq_law_doors_isinstance, sq_law_doors_int, sq_law_doors_set, sq_law_doors_dict, sq_law_doors_any, sq_law_doors_all, e]
    exact ⟨_, _, rfl, ⟨r, rfl, by omega⟩, s', g', rfl⟩) [Sl.own true (drC s), .val P, .non, .non, .non] ⟨s, g, rfl⟩
  obtain ⟨st, rfl, hb⟩ := bits_of c
  rw [rng_len, List.length_map] at b
  exact ⟨st, s', a, g', hb, b⟩
def newLs (ls : List Str) (l0 : Str) : List Str := (Str.ofString "." ++ ⟨(l0.cps.toList.drop 1).toArray⟩) :: ls.drop 1
theorem dot_cps : (Str.ofString ".").cps.toList = [46] := by decide +kernel
theorem new_cps (l0 : Str) : (Str.ofString "." ++ (⟨(l0.cps.toList.drop 1).toArray⟩ : Str)).cps.toList = 46 :: l0.cps.toList.drop 1 := by
  rw [cps_app, dot_cps]
  rfl
theorem new_ok {ls : List Str} {w : Nat} (p : PlanOk ls w) {l0 : Str} (h0 : ls[0]? = some l0) : PlanOk (newLs ls l0) w ∧ doorsN (newLs ls l0) ≤ doorsN ls := by
  have hm : l0 ∈ ls := List.mem_of_getElem? h0
  have h1 := p.h1
  have w1 := p.w1
  have hl := p.len l0 hm
  have hsg := p.sg l0 hm
  have hd : ∀ l ∈ ls.drop 1, l ∈ ls := fun l h => List.mem_of_mem_drop h
  have key : ∀ l ∈ newLs ls l0, ∀ c ∈ l.cps.toList, c = 46 ∨ ∃ l' ∈ ls, c ∈ l'.cps.toList := by
    intro l hl c hc
    rcases List.mem_cons.mp hl with rfl | hl
    · rw [new_cps] at hc
      rcases List.mem_cons.mp hc with rfl | hc
      · exact .inl rfl
      · exact .inr ⟨l0, hm, List.mem_of_mem_drop hc⟩
    · exact .inr ⟨l, hd l hl, hc⟩
  refine ⟨⟨?_, ?_, w1, p.w8, ?_, ?_⟩, ?_⟩
  · show 1 ≤ (ls.drop 1).length + 1; omega
  · show (ls.drop 1).length + 1 ≤ 8; rw [List.length_drop]; have := p.h8; omega
  · intro l h
    rcases List.mem_cons.mp h with rfl | h
    · rw [new_cps, List.length_cons, List.length_drop]; omega
    · exact p.len l (hd l h)
  · intro l h c hc
    rcases key l h c hc with rfl | ⟨l', hl', hc'⟩
    · decide
    · exact p.sg l' hl' c hc'
  · show (newLs ls l0).foldl _ 0 ≤ _
    rw [doors_fold]
    refine fold_le doorN _ _ 0 (Nat.zero_le _) fun c hc => ?_
    obtain ⟨y, hy, hx⟩ := List.mem_flatten.mp hc
    obtain ⟨l, hl2, rfl⟩ := List.mem_map.mp hy
    rcases key l hl2 c hx with rfl | ⟨l', hl', hc'⟩
    · exact Nat.zero_le _
    · exact doors_ge hl' hc'
theorem new_free {ls : List Str} {w : Nat} (p : PlanOk ls w) {l0 : Str} (st : List Int) : InCell (newLs ls l0) w 0 ∧ kindI (newLs ls l0) w st 0 = "free" := by
  have w1 := p.w1
  have hs : signI (newLs ls l0) w 0 = 46 := by
    unfold signI
    have e1 : atI (newLs ls l0) ((0 : Int) / (w : Int)) = some (Str.ofString "." ++ ⟨(l0.cps.toList.drop 1).toArray⟩) := by
      rw [Int.zero_ediv]
      exact Ev.atI_nat (n := 0)
    rw [e1, Option.bind_some, new_cps, Int.zero_emod, show atI (46 :: l0.cps.toList.drop 1) (0 : Int) = (46 :: l0.cps.toList.drop 1)[0]? from Ev.atI_nat (n := 0)]
    rfl
  refine ⟨⟨Int.le_refl _, ?_⟩, ?_⟩
  · show (0 : Int) < (((ls.drop 1).length + 1 : Nat) : Int) * w
    exact Int.mul_pos (by omega) (by omega)
  · unfold kindI
    rw [hs]
    have : fixOf 46 = none := by decide
    unfold kindC
    rw [this]
    simp
theorem ev_ground (n : Nat) (s : Dr) (g : Good s) : ∃ (ls : List Str) (w : Nat) (st F : List Int) (s' : Dr), runO (csAt pg (n + 3)) df_law_ground (drC s) [] = some (.tuple [.tuple (ls.map .str), .tuple (st.map .int), .tuple (F.map .int)], drC s') ∧ PlanOk ls w ∧ Good s' ∧ Fit ls w st ∧ Bits st ∧ F ≠ [] ∧ F.length ≤ 64 ∧ (∀ c ∈ F, InCell ls w c) ∧ st.length ≤ 6 := by
  obtain ⟨ls, w, s1, e1, p, g1⟩ := ev_floor n s g
  have e2 := ev_ldoors (n + 2) p
  have hd6 := doors_le ls
  obtain ⟨st, s2, e3, g2, hb, hl⟩ := ev_bits (n + 2) (doorsN ls) hd6 (.tuple (ls.map .str)) s1 g1
  have hf := fit_of p (st := st) (by omega)
  obtain ⟨F, e4, hF, hF6⟩ := ev_free (n + 1) p hf
  have hr := rng_ok (n := doorsN ls) (by omega)
  rw [st_law_ground]
  by_cases hn : F = []
  · subst hn
    obtain ⟨l0, h0, hw⟩ := head_ex p
    obtain ⟨p2, hd2⟩ := new_ok p h0
    have e5 := ev_ldoors (n + 2) p2
    have hl2 : (st.take (doorsN (newLs ls l0))).length = doorsN (newLs ls l0) := by rw [List.length_take]; omega
    have hf2 := fit_of p2 (st := st.take (doorsN (newLs ls l0))) (by omega)
    obtain ⟨F2, e6, hF2, hF62⟩ := ev_free (n + 1) p2 hf2
    have w8 := p.w8
    have h8 := p.h8
    have c1 : cutA l0.cps.toList (some 1) none = l0.cps.toList.drop 1 := cutA_from (j := 1) (by have := p.len l0 (List.mem_of_getElem? h0); have := p.w1; omega)
    have c2 : cutA (ls.map PyData.str) (some 1) none = (ls.drop 1).map .str := by rw [cutA_map]; exact congrArg _ (cutA_from (j := 1) (by have := p.h1; omega))
    have c3 : cutA (st.map PyData.int) none (some ((doorsN (newLs ls l0) : Nat) : Int)) = (st.take (doorsN (newLs ls l0))).map .int := by rw [cutA_map, cutA_to (by omega)]
    have z1 : (l0.length ≤ 16777216) = True := eq_true (by omega)
    have z2 : ((Str.ofString ".").length + (⟨(l0.cps.toList.drop 1).toArray⟩ : Str).length ≤ 16777216) = True := eq_true (by
      have a : (Str.ofString ".").length = 1 := by decide +kernel
      have b : (⟨(l0.cps.toList.drop 1).toArray⟩ : Str).length = l0.cps.toList.length - 1 := by
        show ((l0.cps.toList.drop 1).toArray).size = _
        rw [List.size_toArray, List.length_drop]
      have := p.len l0 (List.mem_of_getElem? h0)
      omega)
    have z3 : (0 + 1 + (ls.drop 1).length ≤ 16777216) = True := eq_true (by rw [List.length_drop]; omega)
    have hm : PyData.str (Str.ofString "." ++ ⟨(l0.cps.toList.drop 1).toArray⟩) :: (ls.drop 1).map .str = (newLs ls l0).map .str := rfl
    simp! only [nm_law_ground, nl_law_ground, nc_law_ground_0, ok_law_floor, cd_law_floor, fb_law_floor, sq_law_floor_list, sq_law_floor_sorted, sq_law_floor_range, sq_law_floor_enumerate, sq_law_floor_zip, sq_law_floor_tuple, sq_law_floor_isinstance, sq_law_floor_int, sq_law_floor_set, sq_law_floor_dict, sq_law_floor_any, sq_law_floor_all, ok_tuple, cd_tuple, fb_tuple, sq_tuple_list, sq_tuple_sorted, sq_tuple_range, sq_tuple_enumerate, sq_tuple_zip, sq_tuple_tuple, sq_tuple_isinstance, sq_tuple_int, sq_tuple_set, sq_tuple_dict, sq_tuple_any, sq_tuple_all, ok_law_free_cells, cd_law_free_cells, fb_law_free_cells, sq_law_free_cells_list, sq_law_free_cells_sorted, sq_law_free_cells_range, sq_law_free_cells_enumerate, sq_law_free_cells_zip, sq_law_free_cells_tuple, sq_law_free_cells_isinstance, sq_law_free_cells_int, sq_law_free_cells_set, sq_law_free_cells_dict, sq_law_free_cells_any, sq_law_free_cells_all, ok_len, cd_len, fb_len, sq_len_list, sq_len_sorted, sq_len_range, sq_len_enumerate, sq_len_zip, sq_len_tuple, sq_len_isinstance, sq_len_int, sq_len_set, sq_len_dict, sq_len_any, sq_len_all, ok_law_draw, cd_law_draw, fb_law_draw, sq_law_draw_list, sq_law_draw_sorted, sq_law_draw_range, sq_law_draw_enumerate, sq_law_draw_zip, sq_law_draw_tuple, sq_law_draw_isinstance, sq_law_draw_int, sq_law_draw_set, sq_law_draw_dict, sq_law_draw_any, sq_law_draw_all, ok_range, cd_range, fb_range, sq_range_list, sq_range_sorted, sq_range_range, sq_range_enumerate, sq_range_zip, sq_range_tuple, sq_range_isinstance, sq_range_int, sq_range_set, sq_range_dict, sq_range_any, sq_range_all, ok_law_doors, cd_law_doors, fb_law_doors, sq_law_doors_list, sq_law_doors_sorted, sq_law_doors_range, sq_law_doors_enumerate, sq_law_doors_zip, sq_law_doors_tuple, sq_law_doors_isinstance, sq_law_doors_int, sq_law_doors_set, sq_law_doors_dict, sq_law_doors_any, sq_law_doors_all, e1, e2, hr, e3, e4, List.getElem?_map, h0, z1, c1, z2, c2, List.length_map, z3, hm, e5, c3, e6]
    obtain ⟨q1, q2⟩ := new_free p (l0 := l0) (st.take (doorsN (newLs ls l0)))
    exact ⟨newLs ls l0, w, st.take (doorsN (newLs ls l0)), F2, s2, rfl, p2, g2, hf2, fun b hb2 => hb b (List.mem_of_mem_take hb2), fun e => (by have := hF2.2 0 q1 q2; rw [e] at this; cases this), hF62, fun c hc => (hF2.1 c hc).1, by omega⟩
  · have hn2 : ((F.length : Int) = 0) = False := eq_false (fun h => hn (List.length_eq_zero_iff.mp (by omega)))
    simp! only [nm_law_ground, nl_law_ground, nc_law_ground_0, ok_law_floor, cd_law_floor, fb_law_floor, sq_law_floor_list, sq_law_floor_sorted, sq_law_floor_range, sq_law_floor_enumerate, sq_law_floor_zip, sq_law_floor_tuple, sq_law_floor_isinstance, sq_law_floor_int, sq_law_floor_set, sq_law_floor_dict, sq_law_floor_any, sq_law_floor_all, ok_tuple, cd_tuple, fb_tuple, sq_tuple_list, sq_tuple_sorted, sq_tuple_range, sq_tuple_enumerate, sq_tuple_zip, sq_tuple_tuple, sq_tuple_isinstance, sq_tuple_int, sq_tuple_set, sq_tuple_dict, sq_tuple_any, sq_tuple_all, ok_law_free_cells, cd_law_free_cells, fb_law_free_cells, sq_law_free_cells_list, sq_law_free_cells_sorted, sq_law_free_cells_range, sq_law_free_cells_enumerate, sq_law_free_cells_zip, sq_law_free_cells_tuple, sq_law_free_cells_isinstance, sq_law_free_cells_int, sq_law_free_cells_set, sq_law_free_cells_dict, sq_law_free_cells_any, sq_law_free_cells_all, ok_len, cd_len, fb_len, sq_len_list, sq_len_sorted, sq_len_range, sq_len_enumerate, sq_len_zip, sq_len_tuple, sq_len_isinstance, sq_len_int, sq_len_set, sq_len_dict, sq_len_any, sq_len_all, ok_law_draw, cd_law_draw, fb_law_draw, sq_law_draw_list, sq_law_draw_sorted, sq_law_draw_range, sq_law_draw_enumerate, sq_law_draw_zip, sq_law_draw_tuple, sq_law_draw_isinstance, sq_law_draw_int, sq_law_draw_set, sq_law_draw_dict, sq_law_draw_any, sq_law_draw_all, ok_range, cd_range, fb_range, sq_range_list, sq_range_sorted, sq_range_range, sq_range_enumerate, sq_range_zip, sq_range_tuple, sq_range_isinstance, sq_range_int, sq_range_set, sq_range_dict, sq_range_any, sq_range_all, ok_law_doors, cd_law_doors, fb_law_doors, sq_law_doors_list, sq_law_doors_sorted, sq_law_doors_range, sq_law_doors_enumerate, sq_law_doors_zip, sq_law_doors_tuple, sq_law_doors_isinstance, sq_law_doors_int, sq_law_doors_set, sq_law_doors_dict, sq_law_doors_any, sq_law_doors_all, e1, e2, hr, e3, e4, List.length_map, hn2]
    exact ⟨ls, w, st, F, s2, rfl, p, g2, hf, hb, hn, hF6, fun c hc => (hF.1 c hc).1, by omega⟩


set_option Elab.async false
set_option linter.all false
set_option maxRecDepth 100000
set_option maxHeartbeats 1000000
open PySem PySem.Spec PyProof.Rows L2 Lk Ev
/-! ### all trails -/
def encT (ts : List Int) : D := .tuple (ts.map .int)
abbrev ROW : D := .tuple [.int 0, .int 1, .int 2, .int 3]
theorem turn_one (n : Nat) (N : List (List Int)) (hN : N.length ≤ 1000) (ts : List Int) (ht : ts.length ≤ 3) : turnE (FR df_law_product n 58) (fmOf df_law_product) FT_law_product_100 FB_law_product_100 (df_law_product.drop 100) (encT ts) [.non, .non, .val ROW, .own false (.lst (N.map encT)), .non, .non] =
    some (.nx [.non, .non, .val ROW, .own false (.lst ((N ++ [0, 1, 2, 3].map fun k => ts ++ [k]).map encT)), .non, .non]) := by
  have hl : (ts.length ≤ 16777215) = True := eq_true (by omega)
  have B := lcL_map (β := Int) (s := [.non, .non, .val ROW, .val (.list (N.map encT)), .val (encT ts), .non]) (step := lcTurn (FR df_law_product n 54) (blkFm (fmOf df_law_product) SC_law_product_0) EL_law_product_0 TG_law_product_0 [] [5] 6) PyData.int (fun k => .tuple (ts.map .int ++ [.int k])) (xs := [0, 1, 2, 3]) (fun k _ => by
    unfold lcTurn encT
    simp! only [nm_law_product, nl_law_product, dr_law_product_98, dr_law_product_100, nc_law_product_0, List.length_map, hl])
  have B : lcL _ [PyData.int 0, PyData.int 1, PyData.int 2, PyData.int 3] _ = _ := B
  have hl2 : (N.length + 4 ≤ 16777216) = True := eq_true (by omega)
  rw [turnE_eq]
  simp! only [nm_law_product, nl_law_product, dr_law_product_98, dr_law_product_100, nc_law_product_0, B, List.length_map, hl2]
  simp only [List.map_append, List.map_cons, List.map_nil, encT]
theorem ev_product (n m : Nat) (hm : m ≤ 3) : ∃ L : List (List Int), runP (csAt pg n) df_law_product [.list (List.replicate m ROW)] = some (.list (L.map encT)) ∧ L.length ≤ 64 ∧ ∀ t ∈ L, t.length ≤ 3 := by
  let J : Nat → Rho → Prop := fun k ρ => ∃ (L : List (List Int)) (sl : Sl), (sl = .own false (.lst (L.map encT)) ∨ sl = .val (.list (L.map encT))) ∧ ρ = [.non, sl, .non, .non, .non, .non] ∧ L.length ≤ 4 ^ k ∧ ∀ t ∈ L, t.length ≤ k
  have p4 : ∀ k, k ≤ 3 → 4 ^ k ≤ 64 := fun k hk => Nat.pow_le_pow_right (n := 4) (by decide) hk
  obtain ⟨ρ', a, L, sl, hsl, rfl, hl, hs⟩ := forL_inv (R := Sum (D × Rho) (Ct × Rho)) (step := turnE (FR df_law_product n 59) (fmOf df_law_product) FT_law_product_98 FB_law_product_98 (df_law_product.drop 98)) J (xs := List.replicate m ROW) (k := 0) (fun i x ρ hx hJ => by
    obtain ⟨hi, rfl⟩ : i < m ∧ ROW = x := by
      rw [List.getElem?_replicate] at hx
      split at hx <;> simp_all
    obtain ⟨L, sl, hsl, rfl, hl, hs⟩ := hJ
    have hi3 := p4 (0 + i) (by omega)
    let I : Nat → Rho → Prop := fun k ρ => ∃ N : List (List Int), ρ = [.non, .non, .val ROW, .own false (.lst (N.map encT)), .non, .non] ∧ N.length ≤ 4 * k ∧ ∀ t ∈ N, t.length ≤ 0 + i + 1
    obtain ⟨ρ', e, N, rfl, hnl, hns⟩ := forL_inv (R := Sum (D × Rho) (Ct × Rho)) (step := turnE (FR df_law_product n 58) (fmOf df_law_product) FT_law_product_100 FB_law_product_100 (df_law_product.drop 100)) I (xs := L.map encT) (k := 0) (fun j x ρ hx hI => by
      rw [List.getElem?_map] at hx
      obtain ⟨ts, h1, rfl⟩ := Option.map_eq_some_iff.mp hx
      have hj : j < L.length := (List.getElem?_eq_some_iff.mp h1).1
      have hts := hs ts (List.mem_of_getElem? h1)
      obtain ⟨N, rfl, hnl, hns⟩ := hI
      refine ⟨_, turn_one n N (by omega) ts (by omega), N ++ [0, 1, 2, 3].map fun k => ts ++ [k], rfl, ?_, ?_⟩
      · rw [List.length_append]; show N.length + 4 ≤ _; omega
      · intro t ht
        rcases List.mem_append.mp ht with h | h
        · exact hns t h
        · obtain ⟨k, _, rfl⟩ := List.mem_map.mp h
          rw [List.length_append]; show ts.length + 1 ≤ _; omega) [.non, .non, .val ROW, .own false (.lst []), .non, .non] ⟨[], rfl, by simp, fun t ht => (by cases ht)⟩
    rw [List.length_map] at hnl
    have hfin : J (0 + i + 1) [.non, .val (.list (N.map encT)), .non, .non, .non, .non] := ⟨N, _, .inr rfl, rfl, by rw [Nat.pow_succ]; omega, hns⟩
    refine ⟨_, ?_, hfin⟩
    rcases hsl with rfl | rfl
    · unfold turnE
      simp! only [nm_law_product, nl_law_product, dr_law_product_98, dr_law_product_100, nc_law_product_0, e]
    · unfold turnE
      simp! only [nm_law_product, nl_law_product, dr_law_product_98, dr_law_product_100, nc_law_product_0, e]) [.non, .own false (.lst [encT []]), .non, .non, .non, .non] ⟨[[]], _, .inl rfl, rfl, by simp, fun t ht => by rw [List.mem_singleton] at ht; subst ht; exact Nat.zero_le _⟩
  rw [List.length_replicate, Nat.zero_add] at hl hs
  have a : forL _ _ ([.non, .own false (.lst [.tuple []]), .non, .non, .non, .non] : Rho) = _ := a
  refine ⟨L, ?_, Nat.le_trans hl (p4 m hm), fun t ht => Nat.le_trans (hs t ht) hm⟩
  rw [st_law_product]
  rcases hsl with rfl | rfl
  · simp! only [nm_law_product, nl_law_product, dr_law_product_98, dr_law_product_100, nc_law_product_0, a]
  · simp! only [nm_law_product, nl_law_product, dr_law_product_98, dr_law_product_100, nc_law_product_0, a]


set_option Elab.async false
set_option linter.all false
set_option maxRecDepth 100000
set_option maxHeartbeats 1000000
open PySem PySem.Spec PyProof.Rows L2 Lk Ev
/-! ### what is asked -/
def RowD (F : List Int) (x : D) : Prop := ∃ (c dir : Int) (ts : List Int), x = .tuple [.int c, .int dir, encT ts] ∧ c ∈ F ∧ ts.length ≤ 3
def RowsD (F : List Int) (m : Nat) (ds : List D) : Prop := ds.length ≤ m ∧ ∀ x ∈ ds, RowD F x
theorem rows_add {F : List Int} {m : Nat} {ds : List D} (h : RowsD F m ds) {c dir : Int} {ts : List Int} (hc : c ∈ F) (ht : ts.length ≤ 3) : RowsD F (m + 1) (ds ++ [.tuple [.int c, .int dir, encT ts]]) := by
  refine ⟨by rw [List.length_append]; have := h.1; show ds.length + 1 ≤ _; omega, fun x hx => ?_⟩
  rcases List.mem_append.mp hx with hx | hx
  · exact h.2 x hx
  · rw [List.mem_singleton] at hx; subst hx
    exact ⟨c, dir, ts, rfl, hc, ht⟩
theorem loop_trails (n : Nat) (dr : Ct) (F : List Int) (c dir : Int) (hc : c ∈ F) (L : List (List Int)) (hL : L.length ≤ 64) (h3 : ∀ t ∈ L, t.length ≤ 3) (m : Nat) (hm : m ≤ 1000) (ds : List D) (h : RowsD F m ds) : ∃ ds', RowsD F (m + L.length) ds' ∧
    forL (turnE (FR df_law_asked_walks n 57) (fmOf df_law_asked_walks) FT_law_asked_walks_151 FB_law_asked_walks_151 (df_law_asked_walks.drop 151)) (L.map encT) [.own true dr, .val (.tuple (F.map .int)), .own false (.lst ds), .val (.int c), .non, .non, .val (.int dir), .non, .non, .non] =
      some (.nx [.own true dr, .val (.tuple (F.map .int)), .own false (.lst ds'), .val (.int c), .non, .non, .val (.int dir), .non, .non, .non]) := by
  let J : Nat → Rho → Prop := fun k ρ => ∃ ds, ρ = [.own true dr, .val (.tuple (F.map .int)), .own false (.lst ds), .val (.int c), .non, .non, .val (.int dir), .non, .non, .non] ∧ RowsD F (m + k) ds
  obtain ⟨ρ', e, ds', rfl, h'⟩ := forL_inv (R := Sum (D × Rho) (Ct × Rho)) (step := turnE (FR df_law_asked_walks n 57) (fmOf df_law_asked_walks) FT_law_asked_walks_151 FB_law_asked_walks_151 (df_law_asked_walks.drop 151)) J (xs := L.map encT) (k := 0) (fun j x ρ hx hJ => by
    rw [List.getElem?_map] at hx
    obtain ⟨ts, h1, rfl⟩ := Option.map_eq_some_iff.mp hx
    have hj : j < L.length := (List.getElem?_eq_some_iff.mp h1).1
    obtain ⟨ds, rfl, hd⟩ := hJ
    have hl : (ds.length < 16777216) = True := eq_true (by have := hd.1; omega)
    refine ⟨_, ?_, ds ++ [.tuple [.int c, .int dir, encT ts]], rfl, ?_⟩
    · unfold turnE
      simp! only [nm_law_asked_walks, nl_law_asked_walks, dr_law_asked_walks_150, dr_law_asked_walks_151, dr_law_asked_walks_154, dr_law_asked_walks_157, dr_law_asked_walks_158, ok_law_pick, cd_law_pick, fb_law_pick, sq_law_pick_list, sq_law_pick_sorted, sq_law_pick_range, sq_law_pick_enumerate, sq_law_pick_zip, sq_law_pick_tuple, sq_law_pick_isinstance, sq_law_pick_int, sq_law_pick_set, sq_law_pick_dict, sq_law_pick_any, sq_law_pick_all, ok_law_trail, cd_law_trail, fb_law_trail, sq_law_trail_list, sq_law_trail_sorted, sq_law_trail_range, sq_law_trail_enumerate, sq_law_trail_zip, sq_law_trail_tuple, sq_law_trail_isinstance, sq_law_trail_int, sq_law_trail_set, sq_law_trail_dict, sq_law_trail_any, sq_law_trail_all, ok_law_draw, cd_law_draw, fb_law_draw, sq_law_draw_list, sq_law_draw_sorted, sq_law_draw_range, sq_law_draw_enumerate, sq_law_draw_zip, sq_law_draw_tuple, sq_law_draw_isinstance, sq_law_draw_int, sq_law_draw_set, sq_law_draw_dict, sq_law_draw_any, sq_law_draw_all, ok_range, cd_range, fb_range, sq_range_list, sq_range_sorted, sq_range_range, sq_range_enumerate, sq_range_zip, sq_range_tuple, sq_range_isinstance, sq_range_int, sq_range_set, sq_range_dict, sq_range_any, sq_range_all, ok_law_product, cd_law_product, fb_law_product, sq_law_product_list, sq_law_product_sorted, sq_law_product_range, sq_law_product_enumerate, sq_law_product_zip, sq_law_product_tuple, sq_law_product_isinstance, sq_law_product_int, sq_law_product_set, sq_law_product_dict, sq_law_product_any, sq_law_product_all, sq_append_append, sq_append_find, sq_append_get, sq_append_join, sq_append_list, sq_append_pop, sq_append_sorted, sq_append_split, hl]
    · have := rows_add (dir := dir) hd hc (h3 ts (List.mem_of_getElem? h1))
      rw [show m + (0 + j + 1) = m + (0 + j) + 1 by omega]
      exact this) [.own true dr, .val (.tuple (F.map .int)), .own false (.lst ds), .val (.int c), .non, .non, .val (.int dir), .non, .non, .non] ⟨ds, rfl, h⟩
  rw [List.length_map, Nat.zero_add] at h'
  exact ⟨ds', h', e⟩
theorem loop_sizes (n : Nat) (dr : Ct) (F : List Int) (c dir : Int) (hc : c ∈ F) : ∃ ds', RowsD F 256 ds' ∧
    forL (turnE (FR df_law_asked_walks (n + 1) 58) (fmOf df_law_asked_walks) FT_law_asked_walks_150 FB_law_asked_walks_150 (df_law_asked_walks.drop 150)) ((rngL 0 ((4 : Nat) : Int)).map .int) [.own true dr, .val (.tuple (F.map .int)), .own false (.lst []), .val (.int c), .non, .non, .val (.int dir), .non, .non, .non] =
      some (.nx [.own true dr, .val (.tuple (F.map .int)), .own false (.lst ds'), .val (.int c), .non, .non, .val (.int dir), .non, .non, .non]) := by
  let J : Nat → Rho → Prop := fun k ρ => ∃ ds, ρ = [.own true dr, .val (.tuple (F.map .int)), .own false (.lst ds), .val (.int c), .non, .non, .val (.int dir), .non, .non, .non] ∧ RowsD F (64 * k) ds
  obtain ⟨ρ', e, ds', rfl, h'⟩ := forL_inv (R := Sum (D × Rho) (Ct × Rho)) (step := turnE (FR df_law_asked_walks (n + 1) 58) (fmOf df_law_asked_walks) FT_law_asked_walks_150 FB_law_asked_walks_150 (df_law_asked_walks.drop 150)) J (xs := (rngL 0 ((4 : Nat) : Int)).map .int) (k := 0) (fun i x ρ hx hJ => by
    obtain ⟨rfl, hi⟩ := rng_get hx
    obtain ⟨ds, rfl, hd⟩ := hJ
    obtain ⟨L, e1, hL, h3⟩ := ev_product n i (by omega)
    obtain ⟨ds', hd', e2⟩ := loop_trails (n + 1) dr F c dir hc L hL h3 (64 * (0 + i)) (by omega) ds hd
    have q1 : (-(2 ^ 63 : Int) ≤ (i : Int)) = True := eq_true (by omega)
    have q2 : ((i : Int) < (2 ^ 63 : Int)) = True := eq_true (by omega)
    have q3 : (i ≤ 16777216) = True := eq_true (by omega)
    have q4 : (List.replicate i [ROW]).flatten = List.replicate i ROW := by simp
    refine ⟨_, ?_, ds', rfl, Nat.le_trans hd'.1 (by omega), hd'.2⟩
    rw [turnE_eq]
    simp! only [nm_law_asked_walks, nl_law_asked_walks, dr_law_asked_walks_150, dr_law_asked_walks_151, dr_law_asked_walks_154, dr_law_asked_walks_157, dr_law_asked_walks_158, ok_law_pick, cd_law_pick, fb_law_pick, sq_law_pick_list, sq_law_pick_sorted, sq_law_pick_range, sq_law_pick_enumerate, sq_law_pick_zip, sq_law_pick_tuple, sq_law_pick_isinstance, sq_law_pick_int, sq_law_pick_set, sq_law_pick_dict, sq_law_pick_any, sq_law_pick_all, ok_law_trail, cd_law_trail, fb_law_trail, sq_law_trail_list, sq_law_trail_sorted, sq_law_trail_range, sq_law_trail_enumerate, sq_law_trail_zip, sq_law_trail_tuple, sq_law_trail_isinstance, sq_law_trail_int, sq_law_trail_set, sq_law_trail_dict, sq_law_trail_any, sq_law_trail_all, ok_law_draw, cd_law_draw, fb_law_draw, sq_law_draw_list, sq_law_draw_sorted, sq_law_draw_range, sq_law_draw_enumerate, sq_law_draw_zip, sq_law_draw_tuple, sq_law_draw_isinstance, sq_law_draw_int, sq_law_draw_set, sq_law_draw_dict, sq_law_draw_any, sq_law_draw_all, ok_range, cd_range, fb_range, sq_range_list, sq_range_sorted, sq_range_range, sq_range_enumerate, sq_range_zip, sq_range_tuple, sq_range_isinstance, sq_range_int, sq_range_set, sq_range_dict, sq_range_any, sq_range_all, ok_law_product, cd_law_product, fb_law_product, sq_law_product_list, sq_law_product_sorted, sq_law_product_range, sq_law_product_enumerate, sq_law_product_zip, sq_law_product_tuple, sq_law_product_isinstance, sq_law_product_int, sq_law_product_set, sq_law_product_dict, sq_law_product_any, sq_law_product_all, sq_append_append, sq_append_find, sq_append_get, sq_append_join, sq_append_list, sq_append_pop, sq_append_sorted, sq_append_split, q1, q2, q3, Int.toNat_natCast, Nat.one_mul, q4, e1, e2]) [.own true dr, .val (.tuple (F.map .int)), .own false (.lst []), .val (.int c), .non, .non, .val (.int dir), .non, .non, .non] ⟨[], rfl, Nat.zero_le _, fun x hx => (by cases hx)⟩
  rw [rng_len] at h'
  exact ⟨ds', h', e⟩
theorem loop_twelve (n : Nat) (F : List Int) (c : Int) (hc : c ∈ F) (s : Dr) (g : Good s) : ∃ (ds' : List D) (s' : Dr), Good s' ∧ RowsD F 256 ds' ∧
    forL (turnE (FR df_law_asked_walks (n + 2) 58) (fmOf df_law_asked_walks) FT_law_asked_walks_154 FB_law_asked_walks_154 (df_law_asked_walks.drop 154)) ((rngL 0 ((12 : Nat) : Int)).map .int) [.own true (drC s), .val (.tuple (F.map .int)), .own false (.lst []), .val (.int c), .non, .non, .non, .non, .non, .non] =
      some (.nx [.own true (drC s'), .val (.tuple (F.map .int)), .own false (.lst ds'), .val (.int c), .non, .non, .non, .non, .non, .non]) := by
  let J : Nat → Rho → Prop := fun k ρ => ∃ (s : Dr) (ds : List D), Good s ∧ ρ = [.own true (drC s), .val (.tuple (F.map .int)), .own false (.lst ds), .val (.int c), .non, .non, .non, .non, .non, .non] ∧ RowsD F k ds
  obtain ⟨ρ', e, s', ds', g', rfl, h'⟩ := forL_inv (R := Sum (D × Rho) (Ct × Rho)) (step := turnE (FR df_law_asked_walks (n + 2) 58) (fmOf df_law_asked_walks) FT_law_asked_walks_154 FB_law_asked_walks_154 (df_law_asked_walks.drop 154)) J (xs := (rngL 0 ((12 : Nat) : Int)).map .int) (k := 0) (fun i x ρ hx hJ => by
    obtain ⟨rfl, hi⟩ := rng_get hx
    obtain ⟨s, ds, g, rfl, hd⟩ := hJ
    obtain ⟨r, s1, _, _, g1, e1⟩ := draw_ok (n + 1) s 4 g (by decide)
    obtain ⟨ts, s2, e2, g2, ht⟩ := ev_trail n s1 g1
    have hl : (ds.length < 16777216) = True := eq_true (by have := hd.1; omega)
    refine ⟨_, ?_, s2, ds ++ [.tuple [.int c, .int r, encT ts]], g2, rfl, ?_⟩
    · unfold turnE
      simp! only [nm_law_asked_walks, nl_law_asked_walks, dr_law_asked_walks_150, dr_law_asked_walks_151, dr_law_asked_walks_154, dr_law_asked_walks_157, dr_law_asked_walks_158, ok_law_pick, cd_law_pick, fb_law_pick, sq_law_pick_list, sq_law_pick_sorted, sq_law_pick_range, sq_law_pick_enumerate, sq_law_pick_zip, sq_law_pick_tuple, sq_law_pick_isinstance, sq_law_pick_int, sq_law_pick_set, sq_law_pick_dict, sq_law_pick_any, sq_law_pick_all, ok_law_trail, cd_law_trail, fb_law_trail, sq_law_trail_list, sq_law_trail_sorted, sq_law_trail_range, sq_law_trail_enumerate, sq_law_trail_zip, sq_law_trail_tuple, sq_law_trail_isinstance, sq_law_trail_int, sq_law_trail_set, sq_law_trail_dict, sq_law_trail_any, sq_law_trail_all, ok_law_draw, cd_law_draw, fb_law_draw, sq_law_draw_list, sq_law_draw_sorted, sq_law_draw_range, sq_law_draw_enumerate, sq_law_draw_zip, sq_law_draw_tuple, sq_law_draw_isinstance, sq_law_draw_int, sq_law_draw_set, sq_law_draw_dict, sq_law_draw_any, sq_law_draw_all, ok_range, cd_range, fb_range, sq_range_list, sq_range_sorted, sq_range_range, sq_range_enumerate, sq_range_zip, sq_range_tuple, sq_range_isinstance, sq_range_int, sq_range_set, sq_range_dict, sq_range_any, sq_range_all, ok_law_product, cd_law_product, fb_law_product, sq_law_product_list, sq_law_product_sorted, sq_law_product_range, sq_law_product_enumerate, sq_law_product_zip, sq_law_product_tuple, sq_law_product_isinstance, sq_law_product_int, sq_law_product_set, sq_law_product_dict, sq_law_product_any, sq_law_product_all, sq_append_append, sq_append_find, sq_append_get, sq_append_join, sq_append_list, sq_append_pop, sq_append_sorted, sq_append_split, e1, e2, hl, encT]
    · exact rows_add hd hc ht) [.own true (drC s), .val (.tuple (F.map .int)), .own false (.lst []), .val (.int c), .non, .non, .non, .non, .non, .non] ⟨s, [], g, rfl, Nat.le_refl _, fun x hx => (by cases hx)⟩
  rw [rng_len] at h'
  exact ⟨ds', s', g', ⟨Nat.le_trans h'.1 (by omega), h'.2⟩, e⟩
abbrev SQ (dr : Ct) (ds : List D) (ts : List Int) (a b : Sl) : Rho := [.own true dr, .non, .own false (.lst ds), .non, .val (.tuple (ts.map .int)), a, b, .non, .non, .non]
theorem loop_dirs (n : Nat) (dr : Ct) (F : List Int) (ts : List Int) (ht : ts.length ≤ 3) (c : Int) (hc : c ∈ F) (m : Nat) (hm : m ≤ 1000) (ds : List D) (h : RowsD F m ds) : ∃ ds', RowsD F (m + 4) ds' ∧
    forL (turnE (FR df_law_asked_walks n 58) (fmOf df_law_asked_walks) FT_law_asked_walks_158 FB_law_asked_walks_158 (df_law_asked_walks.drop 158)) ((rngL 0 ((4 : Nat) : Int)).map .int) (SQ dr ds ts (.val (.int c)) .non) = some (.nx (SQ dr ds' ts (.val (.int c)) .non)) := by
  let J : Nat → Rho → Prop := fun k ρ => ∃ ds, ρ = SQ dr ds ts (.val (.int c)) .non ∧ RowsD F (m + k) ds
  obtain ⟨ρ', e, ds', rfl, h'⟩ := forL_inv (R := Sum (D × Rho) (Ct × Rho)) (step := turnE (FR df_law_asked_walks n 58) (fmOf df_law_asked_walks) FT_law_asked_walks_158 FB_law_asked_walks_158 (df_law_asked_walks.drop 158)) J (xs := (rngL 0 ((4 : Nat) : Int)).map .int) (k := 0) (fun i x ρ hx hJ => by
    obtain ⟨rfl, hi⟩ := rng_get hx
    obtain ⟨ds, rfl, hd⟩ := hJ
    have hl : (ds.length < 16777216) = True := eq_true (by have := hd.1; omega)
    refine ⟨_, ?_, ds ++ [.tuple [.int c, .int (i : Nat), encT ts]], rfl, ?_⟩
    · unfold turnE
      simp! only [nm_law_asked_walks, nl_law_asked_walks, dr_law_asked_walks_150, dr_law_asked_walks_151, dr_law_asked_walks_154, dr_law_asked_walks_157, dr_law_asked_walks_158, ok_law_pick, cd_law_pick, fb_law_pick, sq_law_pick_list, sq_law_pick_sorted, sq_law_pick_range, sq_law_pick_enumerate, sq_law_pick_zip, sq_law_pick_tuple, sq_law_pick_isinstance, sq_law_pick_int, sq_law_pick_set, sq_law_pick_dict, sq_law_pick_any, sq_law_pick_all, ok_law_trail, cd_law_trail, fb_law_trail, sq_law_trail_list, sq_law_trail_sorted, sq_law_trail_range, sq_law_trail_enumerate, sq_law_trail_zip, sq_law_trail_tuple, sq_law_trail_isinstance, sq_law_trail_int, sq_law_trail_set, sq_law_trail_dict, sq_law_trail_any, sq_law_trail_all, ok_law_draw, cd_law_draw, fb_law_draw, sq_law_draw_list, sq_law_draw_sorted, sq_law_draw_range, sq_law_draw_enumerate, sq_law_draw_zip, sq_law_draw_tuple, sq_law_draw_isinstance, sq_law_draw_int, sq_law_draw_set, sq_law_draw_dict, sq_law_draw_any, sq_law_draw_all, ok_range, cd_range, fb_range, sq_range_list, sq_range_sorted, sq_range_range, sq_range_enumerate, sq_range_zip, sq_range_tuple, sq_range_isinstance, sq_range_int, sq_range_set, sq_range_dict, sq_range_any, sq_range_all, ok_law_product, cd_law_product, fb_law_product, sq_law_product_list, sq_law_product_sorted, sq_law_product_range, sq_law_product_enumerate, sq_law_product_zip, sq_law_product_tuple, sq_law_product_isinstance, sq_law_product_int, sq_law_product_set, sq_law_product_dict, sq_law_product_any, sq_law_product_all, sq_append_append, sq_append_find, sq_append_get, sq_append_join, sq_append_list, sq_append_pop, sq_append_sorted, sq_append_split, hl, encT]
    · have := rows_add (dir := (i : Nat)) hd hc ht
      rw [show m + (0 + i + 1) = m + (0 + i) + 1 by omega]
      exact this) (SQ dr ds ts (.val (.int c)) .non) ⟨ds, rfl, h⟩
  rw [rng_len] at h'
  exact ⟨ds', h', e⟩
theorem loop_cells (n : Nat) (dr : Ct) (F : List Int) (hF : F.length ≤ 64) (ts : List Int) (ht : ts.length ≤ 3) (ds : List D) (h : RowsD F 256 ds) : ∃ ds', RowsD F 512 ds' ∧
    forL (turnE (FR df_law_asked_walks n 59) (fmOf df_law_asked_walks) FT_law_asked_walks_157 FB_law_asked_walks_157 (df_law_asked_walks.drop 157)) (F.map .int) (SQ dr ds ts .non .non) = some (.nx (SQ dr ds' ts .non .non)) := by
  let J : Nat → Rho → Prop := fun k ρ => ∃ ds, ρ = SQ dr ds ts .non .non ∧ RowsD F (256 + 4 * k) ds
  obtain ⟨ρ', e, ds', rfl, h'⟩ := forL_inv (R := Sum (D × Rho) (Ct × Rho)) (step := turnE (FR df_law_asked_walks n 59) (fmOf df_law_asked_walks) FT_law_asked_walks_157 FB_law_asked_walks_157 (df_law_asked_walks.drop 157)) J (xs := F.map .int) (k := 0) (fun i x ρ hx hJ => by
    rw [List.getElem?_map] at hx
    obtain ⟨c, h1, rfl⟩ := Option.map_eq_some_iff.mp hx
    have hi : i < F.length := (List.getElem?_eq_some_iff.mp h1).1
    obtain ⟨ds, rfl, hd⟩ := hJ
    obtain ⟨ds', hd', e⟩ := loop_dirs n dr F ts ht c (List.mem_of_getElem? h1) (256 + 4 * (0 + i)) (by omega) ds hd
    have hr : rngOk 0 4 = true := by decide
    have e : forL _ ((rngL 0 4).map PyData.int) ([.own true dr, .non, .own false (.lst ds), .non, .val (.tuple (ts.map .int)), .val (.int c), .non, .non, .non, .non] : Rho) = some (.nx [.own true dr, .non, .own false (.lst ds'), .non, .val (.tuple (ts.map .int)), .val (.int c), .non, .non, .non, .non]) := e
    refine ⟨_, ?_, ds', rfl, ?_⟩
    · unfold turnE
      simp! only [nm_law_asked_walks, nl_law_asked_walks, dr_law_asked_walks_150, dr_law_asked_walks_151, dr_law_asked_walks_154, dr_law_asked_walks_157, dr_law_asked_walks_158, ok_law_pick, cd_law_pick, fb_law_pick, sq_law_pick_list, sq_law_pick_sorted, sq_law_pick_range, sq_law_pick_enumerate, sq_law_pick_zip, sq_law_pick_tuple, sq_law_pick_isinstance, sq_law_pick_int, sq_law_pick_set, sq_law_pick_dict, sq_law_pick_any, sq_law_pick_all, ok_law_trail, cd_law_trail, fb_law_trail, sq_law_trail_list, sq_law_trail_sorted, sq_law_trail_range, sq_law_trail_enumerate, sq_law_trail_zip, sq_law_trail_tuple, sq_law_trail_isinstance, sq_law_trail_int, sq_law_trail_set, sq_law_trail_dict, sq_law_trail_any, sq_law_trail_all, ok_law_draw, cd_law_draw, fb_law_draw, sq_law_draw_list, sq_law_draw_sorted, sq_law_draw_range, sq_law_draw_enumerate, sq_law_draw_zip, sq_law_draw_tuple, sq_law_draw_isinstance, sq_law_draw_int, sq_law_draw_set, sq_law_draw_dict, sq_law_draw_any, sq_law_draw_all, ok_range, cd_range, fb_range, sq_range_list, sq_range_sorted, sq_range_range, sq_range_enumerate, sq_range_zip, sq_range_tuple, sq_range_isinstance, sq_range_int, sq_range_set, sq_range_dict, sq_range_any, sq_range_all, ok_law_product, cd_law_product, fb_law_product, sq_law_product_list, sq_law_product_sorted, sq_law_product_range, sq_law_product_enumerate, sq_law_product_zip, sq_law_product_tuple, sq_law_product_isinstance, sq_law_product_int, sq_law_product_set, sq_law_product_dict, sq_law_product_any, sq_law_product_all, sq_append_append, sq_append_find, sq_append_get, sq_append_join, sq_append_list, sq_append_pop, sq_append_sorted, sq_append_split, hr, e]
    · exact ⟨Nat.le_trans hd'.1 (by omega), hd'.2⟩) (SQ dr ds ts .non .non) ⟨ds, rfl, h⟩
  rw [List.length_map] at h'
  exact ⟨ds', ⟨Nat.le_trans h'.1 (by omega), h'.2⟩, e⟩
theorem ev_asked (n : Nat) (F : List Int) (h0 : F ≠ []) (hF : F.length ≤ 64) (s : Dr) (g : Good s) : ∃ (ds : List D) (s' : Dr), Good s' ∧ RowsD F 512 ds ∧ runO (csAt pg (n + 2)) df_law_asked_walks (drC s) [.tuple (F.map .int)] = some (.list ds, drC s') := by
  have h1 : 0 < F.length := List.length_pos_iff.mpr h0
  obtain ⟨s1, x, hx, g1, e1⟩ := ev_pick_t n s g (F.map .int) (by rw [List.length_map]; exact h1) (by rw [List.length_map]; omega)
  obtain ⟨c, hc, rfl⟩ := List.mem_map.mp hx
  obtain ⟨r, s2, r0, r4, g2, e2⟩ := draw_ok (n + 1) s1 4 g1 (by decide)
  have hr4 : rngOk 0 4 = true := by decide
  have hr12 : rngOk 0 12 = true := by decide
  by_cases hr : r = 1
  · obtain ⟨dir, s3, _, _, g3, e3⟩ := draw_ok (n + 1) s2 4 g2 (by decide)
    obtain ⟨ds1, hd1, e4⟩ := loop_sizes (n + 1) (drC s3) F c dir hc
    obtain ⟨ts, s5, e5, g5, ht⟩ := ev_trail n s3 g3
    obtain ⟨ds2, hd2, e6⟩ := loop_cells (n + 2) (drC s5) F hF ts ht ds1 hd1
    have e4 : forL _ ((rngL 0 4).map PyData.int) ([.own true (drC s3), .val (.tuple (F.map .int)), .own false (.lst []), .val (.int c), .non, .non, .val (.int dir), .non, .non, .non] : Rho) = _ := e4
    refine ⟨ds2, s5, g5, hd2, ?_⟩
    rw [st_law_asked_walks]
    simp! only [nm_law_asked_walks, nl_law_asked_walks, dr_law_asked_walks_150, dr_law_asked_walks_151, dr_law_asked_walks_154, dr_law_asked_walks_157, dr_law_asked_walks_158, ok_law_pick, cd_law_pick, fb_law_pick, sq_law_pick_list, sq_law_pick_sorted, sq_law_pick_range, sq_law_pick_enumerate, sq_law_pick_zip, sq_law_pick_tuple, sq_law_pick_isinstance, sq_law_pick_int, sq_law_pick_set, sq_law_pick_dict, sq_law_pick_any, sq_law_pick_all, ok_law_trail, cd_law_trail, fb_law_trail, sq_law_trail_list, sq_law_trail_sorted, sq_law_trail_range, sq_law_trail_enumerate, sq_law_trail_zip, sq_law_trail_tuple, sq_law_trail_isinstance, sq_law_trail_int, sq_law_trail_set, sq_law_trail_dict, sq_law_trail_any, sq_law_trail_all, ok_law_draw, cd_law_draw, fb_law_draw, sq_law_draw_list, sq_law_draw_sorted, sq_law_draw_range, sq_law_draw_enumerate, sq_law_draw_zip, sq_law_draw_tuple, sq_law_draw_isinstance, sq_law_draw_int, sq_law_draw_set, sq_law_draw_dict, sq_law_draw_any, sq_law_draw_all, ok_range, cd_range, fb_range, sq_range_list, sq_range_sorted, sq_range_range, sq_range_enumerate, sq_range_zip, sq_range_tuple, sq_range_isinstance, sq_range_int, sq_range_set, sq_range_dict, sq_range_any, sq_range_all, ok_law_product, cd_law_product, fb_law_product, sq_law_product_list, sq_law_product_sorted, sq_law_product_range, sq_law_product_enumerate, sq_law_product_zip, sq_law_product_tuple, sq_law_product_isinstance, sq_law_product_int, sq_law_product_set, sq_law_product_dict, sq_law_product_any, sq_law_product_all, sq_append_append, sq_append_find, sq_append_get, sq_append_join, sq_append_list, sq_append_pop, sq_append_sorted, sq_append_split, e1, e2, hr, e3, hr4, e4, e5, e6]
  · obtain ⟨ds1, s3, g3, hd1, e4⟩ := loop_twelve n F c hc s2 g2
    obtain ⟨ts, s5, e5, g5, ht⟩ := ev_trail n s3 g3
    obtain ⟨ds2, hd2, e6⟩ := loop_cells (n + 2) (drC s5) F hF ts ht ds1 hd1
    have e4 : forL _ ((rngL 0 12).map PyData.int) ([.own true (drC s2), .val (.tuple (F.map .int)), .own false (.lst []), .val (.int c), .non, .non, .non, .non, .non, .non] : Rho) = _ := e4
    refine ⟨ds2, s5, g5, hd2, ?_⟩
    rw [st_law_asked_walks]
    simp! only [nm_law_asked_walks, nl_law_asked_walks, dr_law_asked_walks_150, dr_law_asked_walks_151, dr_law_asked_walks_154, dr_law_asked_walks_157, dr_law_asked_walks_158, ok_law_pick, cd_law_pick, fb_law_pick, sq_law_pick_list, sq_law_pick_sorted, sq_law_pick_range, sq_law_pick_enumerate, sq_law_pick_zip, sq_law_pick_tuple, sq_law_pick_isinstance, sq_law_pick_int, sq_law_pick_set, sq_law_pick_dict, sq_law_pick_any, sq_law_pick_all, ok_law_trail, cd_law_trail, fb_law_trail, sq_law_trail_list, sq_law_trail_sorted, sq_law_trail_range, sq_law_trail_enumerate, sq_law_trail_zip, sq_law_trail_tuple, sq_law_trail_isinstance, sq_law_trail_int, sq_law_trail_set, sq_law_trail_dict, sq_law_trail_any, sq_law_trail_all, ok_law_draw, cd_law_draw, fb_law_draw, sq_law_draw_list, sq_law_draw_sorted, sq_law_draw_range, sq_law_draw_enumerate, sq_law_draw_zip, sq_law_draw_tuple, sq_law_draw_isinstance, sq_law_draw_int, sq_law_draw_set, sq_law_draw_dict, sq_law_draw_any, sq_law_draw_all, ok_range, cd_range, fb_range, sq_range_list, sq_range_sorted, sq_range_range, sq_range_enumerate, sq_range_zip, sq_range_tuple, sq_range_isinstance, sq_range_int, sq_range_set, sq_range_dict, sq_range_any, sq_range_all, ok_law_product, cd_law_product, fb_law_product, sq_law_product_list, sq_law_product_sorted, sq_law_product_range, sq_law_product_enumerate, sq_law_product_zip, sq_law_product_tuple, sq_law_product_isinstance, sq_law_product_int, sq_law_product_set, sq_law_product_dict, sq_law_product_any, sq_law_product_all, sq_append_append, sq_append_find, sq_append_get, sq_append_join, sq_append_list, sq_append_pop, sq_append_sorted, sq_append_split, e1, e2, hr, hr12, e4, e5, e6]


set_option Elab.async false
set_option linter.all false
set_option maxRecDepth 100000
set_option maxHeartbeats 1000000
open PySem PySem.Spec PyProof.Rows L2 Lk Ev
structure StOk (ls : List Str) (w : Nat) (st : List Int) : Prop where
  fit : Fit ls w st
  bits : Bits st
def RowR (ls : List Str) (w : Nat) (x : D) : Prop := ∃ (st : List Int) (c dir : Int) (ts : List Int), x = .tuple [.tuple (st.map .int), .int c, .int dir, encT ts, encW (walkP ls w st dir ts [] c)] ∧ StOk ls w st ∧ ts.length ≤ 3
abbrev SA (ls : List Str) (st o : List Int) (rs : List D) (c d t : Sl) : Rho := [.non, .non, .val (.tuple (o.map .int)), .own false (.lst rs), .val (.tuple (ls.map .str)), .val (.tuple (st.map .int)), .non, c, d, t, .non, .non, .non]
theorem turn_states {ls : List Str} {w : Nat} (p : PlanOk ls w) (st o : List Int) (c dir : Int) (ts : List Int) (hin : InCell ls w c) (ht : ts.length ≤ 3) (q : List Int) (hq : StOk ls w q) (m : Nat) (hm : m ≤ 100000) (rs : List D) (h1 : rs.length ≤ m) (h2 : ∀ x ∈ rs, RowR ls w x) : ∃ rs', rs'.length ≤ m + 1 ∧ (∀ x ∈ rs', RowR ls w x) ∧
    turnE (FR df_law 20 58) (fmOf df_law) FT_law_176 FB_law_176 (df_law.drop 176) (.tuple (q.map .int)) (SA ls st o rs (.val (.int c)) (.val (.int dir)) (.val (encT ts))) = some (.nx (SA ls st o rs' (.val (.int c)) (.val (.int dir)) (.val (encT ts)))) := by
  have e1 := ev_lkind 19 p hin (hq.fit c hin)
  have e2 := ev_due 16 p hq.fit hq.bits dir ts c (by omega)
  have hl : (rs.length < 16777216) = True := eq_true (by omega)
  by_cases hk : kindI ls w q c = "free"
  · have hk := eq_true hk
    refine ⟨rs ++ [.tuple [.tuple (q.map .int), .int c, .int dir, encT ts, encW (walkP ls w q dir ts [] c)]], ?_, ?_, ?_⟩
    · rw [List.length_append]; show rs.length + 1 ≤ _; omega
    · intro x hx
      rcases List.mem_append.mp hx with hx | hx
      · exact h2 x hx
      · rw [List.mem_singleton] at hx; subst hx
        exact ⟨q, c, dir, ts, rfl, hq, ht⟩
    · unfold turnE encT
      simp! only [nm_law, nl_law, dr_law_175, dr_law_176, dr_law_180, nc_law_0, ok_law_begin, cd_law_begin, fb_law_begin, sq_law_begin_list, sq_law_begin_sorted, sq_law_begin_range, sq_law_begin_enumerate, sq_law_begin_zip, sq_law_begin_tuple, sq_law_begin_isinstance, sq_law_begin_int, sq_law_begin_set, sq_law_begin_dict, sq_law_begin_any, sq_law_begin_all, ok_law_ground, cd_law_ground, fb_law_ground, sq_law_ground_list, sq_law_ground_sorted, sq_law_ground_range, sq_law_ground_enumerate, sq_law_ground_zip, sq_law_ground_tuple, sq_law_ground_isinstance, sq_law_ground_int, sq_law_ground_set, sq_law_ground_dict, sq_law_ground_any, sq_law_ground_all, ok_tuple, cd_tuple, fb_tuple, sq_tuple_list, sq_tuple_sorted, sq_tuple_range, sq_tuple_enumerate, sq_tuple_zip, sq_tuple_tuple, sq_tuple_isinstance, sq_tuple_int, sq_tuple_set, sq_tuple_dict, sq_tuple_any, sq_tuple_all, ok_law_asked_walks, cd_law_asked_walks, fb_law_asked_walks, sq_law_asked_walks_list, sq_law_asked_walks_sorted, sq_law_asked_walks_range, sq_law_asked_walks_enumerate, sq_law_asked_walks_zip, sq_law_asked_walks_tuple, sq_law_asked_walks_isinstance, sq_law_asked_walks_int, sq_law_asked_walks_set, sq_law_asked_walks_dict, sq_law_asked_walks_any, sq_law_asked_walks_all, ok_law_draw, cd_law_draw, fb_law_draw, sq_law_draw_list, sq_law_draw_sorted, sq_law_draw_range, sq_law_draw_enumerate, sq_law_draw_zip, sq_law_draw_tuple, sq_law_draw_isinstance, sq_law_draw_int, sq_law_draw_set, sq_law_draw_dict, sq_law_draw_any, sq_law_draw_all, ok_law_right_walk, cd_law_right_walk, fb_law_right_walk, sq_law_right_walk_list, sq_law_right_walk_sorted, sq_law_right_walk_range, sq_law_right_walk_enumerate, sq_law_right_walk_zip, sq_law_right_walk_tuple, sq_law_right_walk_isinstance, sq_law_right_walk_int, sq_law_right_walk_set, sq_law_right_walk_dict, sq_law_right_walk_any, sq_law_right_walk_all, ok_law_kind, cd_law_kind, fb_law_kind, sq_law_kind_list, sq_law_kind_sorted, sq_law_kind_range, sq_law_kind_enumerate, sq_law_kind_zip, sq_law_kind_tuple, sq_law_kind_isinstance, sq_law_kind_int, sq_law_kind_set, sq_law_kind_dict, sq_law_kind_any, sq_law_kind_all, ok_law_due_walk, cd_law_due_walk, fb_law_due_walk, sq_law_due_walk_list, sq_law_due_walk_sorted, sq_law_due_walk_range, sq_law_due_walk_enumerate, sq_law_due_walk_zip, sq_law_due_walk_tuple, sq_law_due_walk_isinstance, sq_law_due_walk_int, sq_law_due_walk_set, sq_law_due_walk_dict, sq_law_due_walk_any, sq_law_due_walk_all, ok_walked, cd_walked, fb_walked, sq_walked_list, sq_walked_sorted, sq_walked_range, sq_walked_enumerate, sq_walked_zip, sq_walked_tuple, sq_walked_isinstance, sq_walked_int, sq_walked_set, sq_walked_dict, sq_walked_any, sq_walked_all, sq_append_append, sq_append_find, sq_append_get, sq_append_join, sq_append_list, sq_append_pop, sq_append_sorted, sq_append_split, e1, hk, e2, hl]
  · have hk := eq_false hk
    refine ⟨rs, by omega, h2, ?_⟩
    rw [turnE_eq]
    simp! only [nm_law, nl_law, dr_law_175, dr_law_176, dr_law_180, nc_law_0, ok_law_begin, cd_law_begin, fb_law_begin, sq_law_begin_list, sq_law_begin_sorted, sq_law_begin_range, sq_law_begin_enumerate, sq_law_begin_zip, sq_law_begin_tuple, sq_law_begin_isinstance, sq_law_begin_int, sq_law_begin_set, sq_law_begin_dict, sq_law_begin_any, sq_law_begin_all, ok_law_ground, cd_law_ground, fb_law_ground, sq_law_ground_list, sq_law_ground_sorted, sq_law_ground_range, sq_law_ground_enumerate, sq_law_ground_zip, sq_law_ground_tuple, sq_law_ground_isinstance, sq_law_ground_int, sq_law_ground_set, sq_law_ground_dict, sq_law_ground_any, sq_law_ground_all, ok_tuple, cd_tuple, fb_tuple, sq_tuple_list, sq_tuple_sorted, sq_tuple_range, sq_tuple_enumerate, sq_tuple_zip, sq_tuple_tuple, sq_tuple_isinstance, sq_tuple_int, sq_tuple_set, sq_tuple_dict, sq_tuple_any, sq_tuple_all, ok_law_asked_walks, cd_law_asked_walks, fb_law_asked_walks, sq_law_asked_walks_list, sq_law_asked_walks_sorted, sq_law_asked_walks_range, sq_law_asked_walks_enumerate, sq_law_asked_walks_zip, sq_law_asked_walks_tuple, sq_law_asked_walks_isinstance, sq_law_asked_walks_int, sq_law_asked_walks_set, sq_law_asked_walks_dict, sq_law_asked_walks_any, sq_law_asked_walks_all, ok_law_draw, cd_law_draw, fb_law_draw, sq_law_draw_list, sq_law_draw_sorted, sq_law_draw_range, sq_law_draw_enumerate, sq_law_draw_zip, sq_law_draw_tuple, sq_law_draw_isinstance, sq_law_draw_int, sq_law_draw_set, sq_law_draw_dict, sq_law_draw_any, sq_law_draw_all, ok_law_right_walk, cd_law_right_walk, fb_law_right_walk, sq_law_right_walk_list, sq_law_right_walk_sorted, sq_law_right_walk_range, sq_law_right_walk_enumerate, sq_law_right_walk_zip, sq_law_right_walk_tuple, sq_law_right_walk_isinstance, sq_law_right_walk_int, sq_law_right_walk_set, sq_law_right_walk_dict, sq_law_right_walk_any, sq_law_right_walk_all, ok_law_kind, cd_law_kind, fb_law_kind, sq_law_kind_list, sq_law_kind_sorted, sq_law_kind_range, sq_law_kind_enumerate, sq_law_kind_zip, sq_law_kind_tuple, sq_law_kind_isinstance, sq_law_kind_int, sq_law_kind_set, sq_law_kind_dict, sq_law_kind_any, sq_law_kind_all, ok_law_due_walk, cd_law_due_walk, fb_law_due_walk, sq_law_due_walk_list, sq_law_due_walk_sorted, sq_law_due_walk_range, sq_law_due_walk_enumerate, sq_law_due_walk_zip, sq_law_due_walk_tuple, sq_law_due_walk_isinstance, sq_law_due_walk_int, sq_law_due_walk_set, sq_law_due_walk_dict, sq_law_due_walk_any, sq_law_due_walk_all, ok_walked, cd_walked, fb_walked, sq_walked_list, sq_walked_sorted, sq_walked_range, sq_walked_enumerate, sq_walked_zip, sq_walked_tuple, sq_walked_isinstance, sq_walked_int, sq_walked_set, sq_walked_dict, sq_walked_any, sq_walked_all, sq_append_append, sq_append_find, sq_append_get, sq_append_join, sq_append_list, sq_append_pop, sq_append_sorted, sq_append_split, e1, hk]
theorem turn_row {ls : List Str} {w : Nat} (p : PlanOk ls w) (st o : List Int) (h1 : StOk ls w st) (h2 : StOk ls w o) {F : List Int} (hF : ∀ c ∈ F, InCell ls w c) (x : D) (hx : RowD F x) (m : Nat) (hm : m ≤ 10000) (rs : List D) (r1 : rs.length ≤ m) (r2 : ∀ x ∈ rs, RowR ls w x) : ∃ rs', rs'.length ≤ m + 2 ∧ (∀ x ∈ rs', RowR ls w x) ∧
    turnE (FR df_law 20 59) (fmOf df_law) FT_law_175 FB_law_175 (df_law.drop 175) x (SA ls st o rs .non .non .non) = some (.nx (SA ls st o rs' .non .non .non)) := by
  obtain ⟨c, dir, ts, rfl, hc, ht⟩ := hx
  obtain ⟨ra, a1, a2, e1⟩ := turn_states p st o c dir ts (hF c hc) ht st h1 m (by omega) rs r1 r2
  obtain ⟨rb, b1, b2, e2⟩ := turn_states p st o c dir ts (hF c hc) ht o h2 (m + 1) (by omega) ra a1 a2
  have e : forL (turnE (FR df_law 20 58) (fmOf df_law) FT_law_176 FB_law_176 (df_law.drop 176)) [.tuple (st.map .int), .tuple (o.map .int)] (SA ls st o rs (.val (.int c)) (.val (.int dir)) (.val (encT ts))) = some (.nx (SA ls st o rb (.val (.int c)) (.val (.int dir)) (.val (encT ts)))) := by
    rw [forL_cons, e1]
    simp only
    rw [forL_cons, e2]
    rfl
  refine ⟨rb, b1, b2, ?_⟩
  rw [turnE_eq]
  simp! only [nm_law, nl_law, dr_law_175, dr_law_176, dr_law_180, nc_law_0, ok_law_begin, cd_law_begin, fb_law_begin, sq_law_begin_list, sq_law_begin_sorted, sq_law_begin_range, sq_law_begin_enumerate, sq_law_begin_zip, sq_law_begin_tuple, sq_law_begin_isinstance, sq_law_begin_int, sq_law_begin_set, sq_law_begin_dict, sq_law_begin_any, sq_law_begin_all, ok_law_ground, cd_law_ground, fb_law_ground, sq_law_ground_list, sq_law_ground_sorted, sq_law_ground_range, sq_law_ground_enumerate, sq_law_ground_zip, sq_law_ground_tuple, sq_law_ground_isinstance, sq_law_ground_int, sq_law_ground_set, sq_law_ground_dict, sq_law_ground_any, sq_law_ground_all, ok_tuple, cd_tuple, fb_tuple, sq_tuple_list, sq_tuple_sorted, sq_tuple_range, sq_tuple_enumerate, sq_tuple_zip, sq_tuple_tuple, sq_tuple_isinstance, sq_tuple_int, sq_tuple_set, sq_tuple_dict, sq_tuple_any, sq_tuple_all, ok_law_asked_walks, cd_law_asked_walks, fb_law_asked_walks, sq_law_asked_walks_list, sq_law_asked_walks_sorted, sq_law_asked_walks_range, sq_law_asked_walks_enumerate, sq_law_asked_walks_zip, sq_law_asked_walks_tuple, sq_law_asked_walks_isinstance, sq_law_asked_walks_int, sq_law_asked_walks_set, sq_law_asked_walks_dict, sq_law_asked_walks_any, sq_law_asked_walks_all, ok_law_draw, cd_law_draw, fb_law_draw, sq_law_draw_list, sq_law_draw_sorted, sq_law_draw_range, sq_law_draw_enumerate, sq_law_draw_zip, sq_law_draw_tuple, sq_law_draw_isinstance, sq_law_draw_int, sq_law_draw_set, sq_law_draw_dict, sq_law_draw_any, sq_law_draw_all, ok_law_right_walk, cd_law_right_walk, fb_law_right_walk, sq_law_right_walk_list, sq_law_right_walk_sorted, sq_law_right_walk_range, sq_law_right_walk_enumerate, sq_law_right_walk_zip, sq_law_right_walk_tuple, sq_law_right_walk_isinstance, sq_law_right_walk_int, sq_law_right_walk_set, sq_law_right_walk_dict, sq_law_right_walk_any, sq_law_right_walk_all, ok_law_kind, cd_law_kind, fb_law_kind, sq_law_kind_list, sq_law_kind_sorted, sq_law_kind_range, sq_law_kind_enumerate, sq_law_kind_zip, sq_law_kind_tuple, sq_law_kind_isinstance, sq_law_kind_int, sq_law_kind_set, sq_law_kind_dict, sq_law_kind_any, sq_law_kind_all, ok_law_due_walk, cd_law_due_walk, fb_law_due_walk, sq_law_due_walk_list, sq_law_due_walk_sorted, sq_law_due_walk_range, sq_law_due_walk_enumerate, sq_law_due_walk_zip, sq_law_due_walk_tuple, sq_law_due_walk_isinstance, sq_law_due_walk_int, sq_law_due_walk_set, sq_law_due_walk_dict, sq_law_due_walk_any, sq_law_due_walk_all, ok_walked, cd_walked, fb_walked, sq_walked_list, sq_walked_sorted, sq_walked_range, sq_walked_enumerate, sq_walked_zip, sq_walked_tuple, sq_walked_isinstance, sq_walked_int, sq_walked_set, sq_walked_dict, sq_walked_any, sq_walked_all, sq_append_append, sq_append_find, sq_append_get, sq_append_join, sq_append_list, sq_append_pop, sq_append_sorted, sq_append_split, e]
theorem turn_last {ls : List Str} {w : Nat} (p : PlanOk ls w) (x : D) (hx : RowR ls w x) : turnE (FR df_law 20 59) (fmOf df_law) FT_law_180 FB_law_180 (df_law.drop 180) x [.non, .non, .non, .non, .val (.tuple (ls.map .str)), .non, .non, .non, .non, .non, .non, .non, .non] = some (.nx [.non, .non, .non, .non, .val (.tuple (ls.map .str)), .non, .non, .non, .non, .non, .non, .non, .non]) := by
  obtain ⟨st, c, dir, ts, rfl, hs, ht⟩ := hx
  have e1 := ev_walked 17 p hs.fit hs.bits dir ts c (by omega)
  have e2 := ev_right 17 (walkP ls w st dir ts [] c)
  rw [turnE_eq]
  unfold encT
  simp! only [nm_law, nl_law, dr_law_175, dr_law_176, dr_law_180, nc_law_0, ok_law_begin, cd_law_begin, fb_law_begin, sq_law_begin_list, sq_law_begin_sorted, sq_law_begin_range, sq_law_begin_enumerate, sq_law_begin_zip, sq_law_begin_tuple, sq_law_begin_isinstance, sq_law_begin_int, sq_law_begin_set, sq_law_begin_dict, sq_law_begin_any, sq_law_begin_all, ok_law_ground, cd_law_ground, fb_law_ground, sq_law_ground_list, sq_law_ground_sorted, sq_law_ground_range, sq_law_ground_enumerate, sq_law_ground_zip, sq_law_ground_tuple, sq_law_ground_isinstance, sq_law_ground_int, sq_law_ground_set, sq_law_ground_dict, sq_law_ground_any, sq_law_ground_all, ok_tuple, cd_tuple, fb_tuple, sq_tuple_list, sq_tuple_sorted, sq_tuple_range, sq_tuple_enumerate, sq_tuple_zip, sq_tuple_tuple, sq_tuple_isinstance, sq_tuple_int, sq_tuple_set, sq_tuple_dict, sq_tuple_any, sq_tuple_all, ok_law_asked_walks, cd_law_asked_walks, fb_law_asked_walks, sq_law_asked_walks_list, sq_law_asked_walks_sorted, sq_law_asked_walks_range, sq_law_asked_walks_enumerate, sq_law_asked_walks_zip, sq_law_asked_walks_tuple, sq_law_asked_walks_isinstance, sq_law_asked_walks_int, sq_law_asked_walks_set, sq_law_asked_walks_dict, sq_law_asked_walks_any, sq_law_asked_walks_all, ok_law_draw, cd_law_draw, fb_law_draw, sq_law_draw_list, sq_law_draw_sorted, sq_law_draw_range, sq_law_draw_enumerate, sq_law_draw_zip, sq_law_draw_tuple, sq_law_draw_isinstance, sq_law_draw_int, sq_law_draw_set, sq_law_draw_dict, sq_law_draw_any, sq_law_draw_all, ok_law_right_walk, cd_law_right_walk, fb_law_right_walk, sq_law_right_walk_list, sq_law_right_walk_sorted, sq_law_right_walk_range, sq_law_right_walk_enumerate, sq_law_right_walk_zip, sq_law_right_walk_tuple, sq_law_right_walk_isinstance, sq_law_right_walk_int, sq_law_right_walk_set, sq_law_right_walk_dict, sq_law_right_walk_any, sq_law_right_walk_all, ok_law_kind, cd_law_kind, fb_law_kind, sq_law_kind_list, sq_law_kind_sorted, sq_law_kind_range, sq_law_kind_enumerate, sq_law_kind_zip, sq_law_kind_tuple, sq_law_kind_isinstance, sq_law_kind_int, sq_law_kind_set, sq_law_kind_dict, sq_law_kind_any, sq_law_kind_all, ok_law_due_walk, cd_law_due_walk, fb_law_due_walk, sq_law_due_walk_list, sq_law_due_walk_sorted, sq_law_due_walk_range, sq_law_due_walk_enumerate, sq_law_due_walk_zip, sq_law_due_walk_tuple, sq_law_due_walk_isinstance, sq_law_due_walk_int, sq_law_due_walk_set, sq_law_due_walk_dict, sq_law_due_walk_any, sq_law_due_walk_all, ok_walked, cd_walked, fb_walked, sq_walked_list, sq_walked_sorted, sq_walked_range, sq_walked_enumerate, sq_walked_zip, sq_walked_tuple, sq_walked_isinstance, sq_walked_int, sq_walked_set, sq_walked_dict, sq_walked_any, sq_walked_all, sq_append_append, sq_append_find, sq_append_get, sq_append_join, sq_append_list, sq_append_pop, sq_append_sorted, sq_append_split, e1, e2]
theorem law_true (ns : List Int) (hn : ns.length ≤ 63) : runP (csAt pg 20) df_law [.list (ns.map .int)] = some (.bool true) := by
  have hb := ev_begin 19 ns
  obtain ⟨ls, w, st, F, s1, e1, p, g1, hf, hbits, hF0, hF6, hF, hst⟩ := ev_ground 16 ⟨ns, 0, 0, 7⟩ (by show (0 : Int) ≤ 0; omega)
  let I1 : Rho → Prop := fun ρ => ∃ s, Good s ∧ ρ = [.val (.list (ns.map .int)), Sl.own false (drC s), .non, .non, .val (.tuple (ls.map .str)), .val (.tuple (st.map .int)), .val (.tuple (F.map .int)), .non, .non, .non, .non, .non, .non]
  obtain ⟨ys, ρ', a, b, c, s2, g2, rfl⟩ := lcL_ex (I := I1) (Py := fun y => ∃ b : Int, y = .int b ∧ (b = 0 ∨ b = 1)) (step := lcTurn (FR df_law 20 56) (blkFm (fmOf df_law) SC_law_0) EL_law_0 TG_law_0 [] [12] 13) (xs := st.map .int) (fun x hx ρ hI => by
    obtain ⟨s, g, rfl⟩ := hI
    obtain ⟨i, hi, rfl⟩ := List.mem_map.mp hx
    obtain ⟨r, s', h0, h1, g', e⟩ := draw_ok 19 s 2 g (by decide)
    unfold lcTurn
    simp! only [nm_law, nl_law, dr_law_175, dr_law_176, dr_law_180, nc_law_0, ok_law_begin, cd_law_begin, fb_law_begin, sq_law_begin_list, sq_law_begin_sorted, sq_law_begin_range, sq_law_begin_enumerate, sq_law_begin_zip, sq_law_begin_tuple, sq_law_begin_isinstance, sq_law_begin_int, sq_law_begin_set, sq_law_begin_dict, sq_law_begin_any, sq_law_begin_all, ok_law_ground, cd_law_ground, fb_law_ground, sq_law_ground_list, sq_law_ground_sorted, sq_law_ground_range, sq_law_ground_enumerate, sq_law_ground_zip, sq_law_ground_tuple, sq_law_ground_isinstance, sq_law_ground_int, sq_law_ground_set, sq_law_ground_dict, sq_law_ground_any, sq_law_ground_all, ok_tuple, cd_tuple, fb_tuple, sq_tuple_list, sq_tuple_sorted, sq_tuple_range, sq_tuple_enumerate, sq_tuple_zip, sq_tuple_tuple, sq_tuple_isinstance, sq_tuple_int, sq_tuple_set, sq_tuple_dict, sq_tuple_any, sq_tuple_all, ok_law_asked_walks, cd_law_asked_walks, fb_law_asked_walks, sq_law_asked_walks_list, sq_law_asked_walks_sorted, sq_law_asked_walks_range, sq_law_asked_walks_enumerate, sq_law_asked_walks_zip, sq_law_asked_walks_tuple, sq_law_asked_walks_isinstance, sq_law_asked_walks_int, sq_law_asked_walks_set, sq_law_asked_walks_dict, sq_law_asked_walks_any, sq_law_asked_walks_all, ok_law_draw, cd_law_draw, fb_law_draw, sq_law_draw_list, sq_law_draw_sorted, sq_law_draw_range, sq_law_draw_enumerate, sq_law_draw_zip, sq_law_draw_tuple, sq_law_draw_isinstance, sq_law_draw_int, sq_law_draw_set, sq_law_draw_dict, sq_law_draw_any, sq_law_draw_all, ok_law_right_walk, cd_law_right_walk, fb_law_right_walk, sq_law_right_walk_list, sq_law_right_walk_sorted, sq_law_right_walk_range, sq_law_right_walk_enumerate, sq_law_right_walk_zip, sq_law_right_walk_tuple, sq_law_right_walk_isinstance, sq_law_right_walk_int, sq_law_right_walk_set, sq_law_right_walk_dict, sq_law_right_walk_any, sq_law_right_walk_all, ok_law_kind, cd_law_kind, fb_law_kind, sq_law_kind_list, sq_law_kind_sorted, sq_law_kind_range, sq_law_kind_enumerate, sq_law_kind_zip, sq_law_kind_tuple, sq_law_kind_isinstance, sq_law_kind_int, sq_law_kind_set, sq_law_kind_dict, sq_law_kind_any, sq_law_kind_all, ok_law_due_walk, cd_law_due_walk, fb_law_due_walk, sq_law_due_walk_list, sq_law_due_walk_sorted, sq_law_due_walk_range, sq_law_due_walk_enumerate, sq_law_due_walk_zip, sq_law_due_walk_tuple, sq_law_due_walk_isinstance, sq_law_due_walk_int, sq_law_due_walk_set, sq_law_due_walk_dict, sq_law_due_walk_any, sq_law_due_walk_all, ok_walked, cd_walked, fb_walked, sq_walked_list, sq_walked_sorted, sq_walked_range, sq_walked_enumerate, sq_walked_zip, sq_walked_tuple, sq_walked_isinstance, sq_walked_int, sq_walked_set, sq_walked_dict, sq_walked_any, sq_walked_all, sq_append_append, sq_append_find, sq_append_get, sq_append_join, sq_append_list, sq_append_pop, sq_append_sorted, sq_append_split, e]
    exact ⟨_, _, rfl, ⟨r, rfl, by omega⟩, s', g', rfl⟩) [.val (.list (ns.map .int)), Sl.own false (drC s1), .non, .non, .val (.tuple (ls.map .str)), .val (.tuple (st.map .int)), .val (.tuple (F.map .int)), .non, .non, .non, .non, .non, .non] ⟨s1, g1, rfl⟩
  obtain ⟨o, rfl, ho⟩ := bits_of c
  rw [List.length_map, List.length_map] at b
  have hso : StOk ls w o := ⟨fun c hc => by have := hf c hc; omega, ho⟩
  obtain ⟨ds, s3, g3, hds, e3⟩ := ev_asked 17 F hF0 hF6 s2 g2
  let J : Nat → Rho → Prop := fun k ρ => ∃ rs, ρ = SA ls st o rs .non .non .non ∧ rs.length ≤ 2 * k ∧ ∀ x ∈ rs, RowR ls w x
  obtain ⟨ρ', e4, rs, rfl, hr1, hr2⟩ := forL_inv (R := Sum (D × Rho) (Ct × Rho)) (step := turnE (FR df_law 20 59) (fmOf df_law) FT_law_175 FB_law_175 (df_law.drop 175)) J (xs := ds) (k := 0) (fun i x ρ hx hJ => by
    obtain ⟨rs, rfl, r1, r2⟩ := hJ
    have hi : i < ds.length := (List.getElem?_eq_some_iff.mp hx).1
    have h512 := hds.1
    obtain ⟨rs', q1, q2, e⟩ := turn_row p st o ⟨hf, hbits⟩ hso hF x (hds.2 x (List.mem_of_getElem? hx)) (2 * (0 + i)) (by omega) rs r1 r2
    exact ⟨_, e, rs', rfl, by omega, q2⟩) (SA ls st o [] .non .non .non) ⟨[], rfl, Nat.le_refl _, fun x hx => (by cases hx)⟩
  have h512 := hds.1
  have e5 := forL_same (step := turnE (FR df_law 20 59) (fmOf df_law) FT_law_180 FB_law_180 (df_law.drop 180)) (s := [.non, .non, .non, .non, .val (.tuple (ls.map .str)), .non, .non, .non, .non, .non, .non, .non, .non]) id (xs := rs ++ rs) (fun x hx => turn_last p x (by rcases List.mem_append.mp hx with h | h <;> exact hr2 x h))
  rw [List.map_id] at e5
  have hl : (rs.length + rs.length ≤ 16777216) = True := eq_true (by omega)
  rw [st_law]
  simp! only [nm_law, nl_law, dr_law_175, dr_law_176, dr_law_180, nc_law_0, ok_law_begin, cd_law_begin, fb_law_begin, sq_law_begin_list, sq_law_begin_sorted, sq_law_begin_range, sq_law_begin_enumerate, sq_law_begin_zip, sq_law_begin_tuple, sq_law_begin_isinstance, sq_law_begin_int, sq_law_begin_set, sq_law_begin_dict, sq_law_begin_any, sq_law_begin_all, ok_law_ground, cd_law_ground, fb_law_ground, sq_law_ground_list, sq_law_ground_sorted, sq_law_ground_range, sq_law_ground_enumerate, sq_law_ground_zip, sq_law_ground_tuple, sq_law_ground_isinstance, sq_law_ground_int, sq_law_ground_set, sq_law_ground_dict, sq_law_ground_any, sq_law_ground_all, ok_tuple, cd_tuple, fb_tuple, sq_tuple_list, sq_tuple_sorted, sq_tuple_range, sq_tuple_enumerate, sq_tuple_zip, sq_tuple_tuple, sq_tuple_isinstance, sq_tuple_int, sq_tuple_set, sq_tuple_dict, sq_tuple_any, sq_tuple_all, ok_law_asked_walks, cd_law_asked_walks, fb_law_asked_walks, sq_law_asked_walks_list, sq_law_asked_walks_sorted, sq_law_asked_walks_range, sq_law_asked_walks_enumerate, sq_law_asked_walks_zip, sq_law_asked_walks_tuple, sq_law_asked_walks_isinstance, sq_law_asked_walks_int, sq_law_asked_walks_set, sq_law_asked_walks_dict, sq_law_asked_walks_any, sq_law_asked_walks_all, ok_law_draw, cd_law_draw, fb_law_draw, sq_law_draw_list, sq_law_draw_sorted, sq_law_draw_range, sq_law_draw_enumerate, sq_law_draw_zip, sq_law_draw_tuple, sq_law_draw_isinstance, sq_law_draw_int, sq_law_draw_set, sq_law_draw_dict, sq_law_draw_any, sq_law_draw_all, ok_law_right_walk, cd_law_right_walk, fb_law_right_walk, sq_law_right_walk_list, sq_law_right_walk_sorted, sq_law_right_walk_range, sq_law_right_walk_enumerate, sq_law_right_walk_zip, sq_law_right_walk_tuple, sq_law_right_walk_isinstance, sq_law_right_walk_int, sq_law_right_walk_set, sq_law_right_walk_dict, sq_law_right_walk_any, sq_law_right_walk_all, ok_law_kind, cd_law_kind, fb_law_kind, sq_law_kind_list, sq_law_kind_sorted, sq_law_kind_range, sq_law_kind_enumerate, sq_law_kind_zip, sq_law_kind_tuple, sq_law_kind_isinstance, sq_law_kind_int, sq_law_kind_set, sq_law_kind_dict, sq_law_kind_any, sq_law_kind_all, ok_law_due_walk, cd_law_due_walk, fb_law_due_walk, sq_law_due_walk_list, sq_law_due_walk_sorted, sq_law_due_walk_range, sq_law_due_walk_enumerate, sq_law_due_walk_zip, sq_law_due_walk_tuple, sq_law_due_walk_isinstance, sq_law_due_walk_int, sq_law_due_walk_set, sq_law_due_walk_dict, sq_law_due_walk_any, sq_law_due_walk_all, ok_walked, cd_walked, fb_walked, sq_walked_list, sq_walked_sorted, sq_walked_range, sq_walked_enumerate, sq_walked_zip, sq_walked_tuple, sq_walked_isinstance, sq_walked_int, sq_walked_set, sq_walked_dict, sq_walked_any, sq_walked_all, sq_append_append, sq_append_find, sq_append_get, sq_append_join, sq_append_list, sq_append_pop, sq_append_sorted, sq_append_split, hb, e1, a, e3, e4, hl, e5]


set_option Elab.async false
set_option linter.all false
set_option maxRecDepth 100000
open PySem PySem.Spec PyProof.Rows L2 Lk Ev
theorem all_mk {l : PySem.W.OpenLaw} {w : World} {K : PySem.W.Frag} {h : Heap} {mg : Str → Option Value} {fa : Addr} (X : K.In h) (G : h.Ns mainGlobals mg) (hfa : mg "law" = some (.ref fa))
    {f0 : Addr} {od0 an0 : Option Addr} {sl0 : Array (Option Value)} {oc0 kV0 dc0 pm0 cd0 ct0 : Value} {f1 : Addr} {od1 an1 : Option Addr} {sl1 : Array (Option Value)} {oc1 kV1 dc1 pm1 cd1 ct1 : Value} {f2 : Addr} {od2 an2 : Option Addr} {sl2 : Array (Option Value)} {oc2 kV2 dc2 pm2 cd2 ct2 : Value} {f3 : Addr} {od3 an3 : Option Addr} {sl3 : Array (Option Value)} {oc3 kV3 dc3 pm3 cd3 ct3 : Value} {f4 : Addr} {od4 an4 : Option Addr} {sl4 : Array (Option Value)} {oc4 kV4 dc4 pm4 cd4 ct4 : Value} {f5 : Addr} {od5 an5 : Option Addr} {sl5 : Array (Option Value)} {oc5 kV5 dc5 pm5 cd5 ct5 : Value} {f6 : Addr} {od6 an6 : Option Addr} {sl6 : Array (Option Value)} {oc6 kV6 dc6 pm6 cd6 ct6 : Value} {f7 : Addr} {od7 an7 : Option Addr} {sl7 : Array (Option Value)} {oc7 kV7 dc7 pm7 cd7 ct7 : Value} {f8 : Addr} {od8 an8 : Option Addr} {sl8 : Array (Option Value)} {oc8 kV8 dc8 pm8 cd8 ct8 : Value} {f9 : Addr} {od9 an9 : Option Addr} {sl9 : Array (Option Value)} {oc9 kV9 dc9 pm9 cd9 ct9 : Value} {f10 : Addr} {od10 an10 : Option Addr} {sl10 : Array (Option Value)} {oc10 kV10 dc10 pm10 cd10 ct10 : Value} {f11 : Addr} {od11 an11 : Option Addr} {sl11 : Array (Option Value)} {oc11 kV11 dc11 pm11 cd11 ct11 : Value} {f12 : Addr} {od12 an12 : Option Addr} {sl12 : Array (Option Value)} {oc12 kV12 dc12 pm12 cd12 ct12 : Value} {f13 : Addr} {od13 an13 : Option Addr} {sl13 : Array (Option Value)} {oc13 kV13 dc13 pm13 cd13 ct13 : Value} {f14 : Addr} {od14 an14 : Option Addr} {sl14 : Array (Option Value)} {oc14 kV14 dc14 pm14 cd14 ct14 : Value} {f15 : Addr} {od15 an15 : Option Addr} {sl15 : Array (Option Value)} {oc15 kV15 dc15 pm15 cd15 ct15 : Value} {f16 : Addr} {od16 an16 : Option Addr} {sl16 : Array (Option Value)} {oc16 kV16 dc16 pm16 cd16 ct16 : Value} {f17 : Addr} {od17 an17 : Option Addr} {sl17 : Array (Option Value)} {oc17 kV17 dc17 pm17 cd17 ct17 : Value} {f18 : Addr} {od18 an18 : Option Addr} {sl18 : Array (Option Value)} {oc18 kV18 dc18 pm18 cd18 ct18 : Value} {f19 : Addr} {od19 an19 : Option Addr} {sl19 : Array (Option Value)} {oc19 kV19 dc19 pm19 cd19 ct19 : Value} {f20 : Addr} {od20 an20 : Option Addr} {sl20 : Array (Option Value)} {oc20 kV20 dc20 pm20 cd20 ct20 : Value} {f21 : Addr} {od21 an21 : Option Addr} {sl21 : Array (Option Value)} {oc21 kV21 dc21 pm21 cd21 ct21 : Value} {f22 : Addr} {od22 an22 : Option Addr} {sl22 : Array (Option Value)} {oc22 kV22 dc22 pm22 cd22 ct22 : Value} {f23 : Addr} {od23 an23 : Option Addr} {sl23 : Array (Option Value)} {oc23 kV23 dc23 pm23 cd23 ct23 : Value} {xt1 : Tok} {xt3 : Tok} {xb5 : Addr} {xe6 : Nat} {xt9 xt10 : Tok} {xt11 xt12 : Tok} {xt13 xt14 : Tok} {xb16 : Addr} {xo17 : Option Addr} {xn18 : Nat} {xs19 : Array (Option Value)} {xb21 : Addr} {xo22 : Option Addr} {xn23 : Nat} {xs24 : Array (Option Value)} {xt26 : Tok} {xt27 : Tok} {xb28 : Addr} {xo29 : Option Addr} {xn30 : Nat} {xs31 : Array (Option Value)} {xt33 : Tok} {xt34 : Tok} {xb35 : Addr} {xo36 : Option Addr} {xn37 : Nat} {xs38 : Array (Option Value)} {xt40 : Tok} {xt41 : Tok} {xb42 : Addr} {xo43 : Option Addr} {xn44 : Nat} {xs45 : Array (Option Value)} {xt47 : Tok} {xt48 : Tok}
    (a0 : PySem.W.nsIn K mainGlobals "_door_of" = some (some (.ref f0)))
    (l0 : K.lookup f0 = some ⟨oc0, od0, .func (PySem.W.fnOf "_door_of" "_door_of" (defArgs (topS 5)) (defBody (topS 5)) (defScope (topS 5)) .none kV0 dc0 pm0 an0 cd0 ct0), sl0⟩)
    (c0 : PySem.W.codeIn K cd0 "_door_of" = true) (k0 : PySem.W.keepIn K (.ref f0) = true)
    (a1 : PySem.W.nsIn K mainGlobals "sign_at" = some (some (.ref f1)))
    (l1 : K.lookup f1 = some ⟨oc1, od1, .func (PySem.W.fnOf "sign_at" "sign_at" (defArgs (topS 6)) (defBody (topS 6)) (defScope (topS 6)) .none kV1 dc1 pm1 an1 cd1 ct1), sl1⟩)
    (c1 : PySem.W.codeIn K cd1 "sign_at" = true) (k1 : PySem.W.keepIn K (.ref f1) = true)
    (a2 : PySem.W.nsIn K mainGlobals "cell_kind" = some (some (.ref f2)))
    (l2 : K.lookup f2 = some ⟨oc2, od2, .func (PySem.W.fnOf "cell_kind" "cell_kind" (defArgs (topS 7)) (defBody (topS 7)) (defScope (topS 7)) .none kV2 dc2 pm2 an2 cd2 ct2), sl2⟩)
    (c2 : PySem.W.codeIn K cd2 "cell_kind" = true) (k2 : PySem.W.keepIn K (.ref f2) = true)
    (a3 : PySem.W.nsIn K mainGlobals "next_cell" = some (some (.ref f3)))
    (l3 : K.lookup f3 = some ⟨oc3, od3, .func (PySem.W.fnOf "next_cell" "next_cell" (defArgs (topS 8)) (defBody (topS 8)) (defScope (topS 8)) .none kV3 dc3 pm3 an3 cd3 ct3), sl3⟩)
    (c3 : PySem.W.codeIn K cd3 "next_cell" = true) (k3 : PySem.W.keepIn K (.ref f3) = true)
    (a4 : PySem.W.nsIn K mainGlobals "walked" = some (some (.ref f4)))
    (l4 : K.lookup f4 = some ⟨oc4, od4, .func (PySem.W.fnOf "walked" "walked" (defArgs (topS 10)) (defBody (topS 10)) (defScope (topS 10)) .none kV4 dc4 pm4 an4 cd4 ct4), sl4⟩)
    (c4 : PySem.W.codeIn K cd4 "walked" = true) (k4 : PySem.W.keepIn K (.ref f4) = true)
    (a5 : PySem.W.nsIn K mainGlobals "_law_begin" = some (some (.ref f5)))
    (l5 : K.lookup f5 = some ⟨oc5, od5, .func (PySem.W.fnOf "_law_begin" "_law_begin" (defArgs (topS 12)) (defBody (topS 12)) (defScope (topS 12)) .none kV5 dc5 pm5 an5 cd5 ct5), sl5⟩)
    (c5 : PySem.W.codeIn K cd5 "_law_begin" = true) (k5 : PySem.W.keepIn K (.ref f5) = true)
    (a6 : PySem.W.nsIn K mainGlobals "_law_draw" = some (some (.ref f6)))
    (l6 : K.lookup f6 = some ⟨oc6, od6, .func (PySem.W.fnOf "_law_draw" "_law_draw" (defArgs (topS 13)) (defBody (topS 13)) (defScope (topS 13)) .none kV6 dc6 pm6 an6 cd6 ct6), sl6⟩)
    (c6 : PySem.W.codeIn K cd6 "_law_draw" = true) (k6 : PySem.W.keepIn K (.ref f6) = true)
    (a7 : PySem.W.nsIn K mainGlobals "_law_pick" = some (some (.ref f7)))
    (l7 : K.lookup f7 = some ⟨oc7, od7, .func (PySem.W.fnOf "_law_pick" "_law_pick" (defArgs (topS 14)) (defBody (topS 14)) (defScope (topS 14)) .none kV7 dc7 pm7 an7 cd7 ct7), sl7⟩)
    (c7 : PySem.W.codeIn K cd7 "_law_pick" = true) (k7 : PySem.W.keepIn K (.ref f7) = true)
    (a8 : PySem.W.nsIn K mainGlobals "_law_rare" = some (some (.ref f8)))
    (l8 : K.lookup f8 = some ⟨oc8, od8, .func (PySem.W.fnOf "_law_rare" "_law_rare" (defArgs (topS 15)) (defBody (topS 15)) (defScope (topS 15)) .none kV8 dc8 pm8 an8 cd8 ct8), sl8⟩)
    (c8 : PySem.W.codeIn K cd8 "_law_rare" = true) (k8 : PySem.W.keepIn K (.ref f8) = true)
    (a9 : PySem.W.nsIn K mainGlobals "_law_is_int" = some (some (.ref f9)))
    (l9 : K.lookup f9 = some ⟨oc9, od9, .func (PySem.W.fnOf "_law_is_int" "_law_is_int" (defArgs (topS 16)) (defBody (topS 16)) (defScope (topS 16)) .none kV9 dc9 pm9 an9 cd9 ct9), sl9⟩)
    (c9 : PySem.W.codeIn K cd9 "_law_is_int" = true) (k9 : PySem.W.keepIn K (.ref f9) = true)
    (a10 : PySem.W.nsIn K mainGlobals "_law_is_ints" = some (some (.ref f10)))
    (l10 : K.lookup f10 = some ⟨oc10, od10, .func (PySem.W.fnOf "_law_is_ints" "_law_is_ints" (defArgs (topS 17)) (defBody (topS 17)) (defScope (topS 17)) .none kV10 dc10 pm10 an10 cd10 ct10), sl10⟩)
    (c10 : PySem.W.codeIn K cd10 "_law_is_ints" = true) (k10 : PySem.W.keepIn K (.ref f10) = true)
    (a11 : PySem.W.nsIn K mainGlobals "_law_doors" = some (some (.ref f11)))
    (l11 : K.lookup f11 = some ⟨oc11, od11, .func (PySem.W.fnOf "_law_doors" "_law_doors" (defArgs (topS 18)) (defBody (topS 18)) (defScope (topS 18)) .none kV11 dc11 pm11 an11 cd11 ct11), sl11⟩)
    (c11 : PySem.W.codeIn K cd11 "_law_doors" = true) (k11 : PySem.W.keepIn K (.ref f11) = true)
    (a12 : PySem.W.nsIn K mainGlobals "_law_kind" = some (some (.ref f12)))
    (l12 : K.lookup f12 = some ⟨oc12, od12, .func (PySem.W.fnOf "_law_kind" "_law_kind" (defArgs (topS 19)) (defBody (topS 19)) (defScope (topS 19)) .none kV12 dc12 pm12 an12 cd12 ct12), sl12⟩)
    (c12 : PySem.W.codeIn K cd12 "_law_kind" = true) (k12 : PySem.W.keepIn K (.ref f12) = true)
    (a13 : PySem.W.nsIn K mainGlobals "_law_next" = some (some (.ref f13)))
    (l13 : K.lookup f13 = some ⟨oc13, od13, .func (PySem.W.fnOf "_law_next" "_law_next" (defArgs (topS 20)) (defBody (topS 20)) (defScope (topS 20)) .none kV13 dc13 pm13 an13 cd13 ct13), sl13⟩)
    (c13 : PySem.W.codeIn K cd13 "_law_next" = true) (k13 : PySem.W.keepIn K (.ref f13) = true)
    (a14 : PySem.W.nsIn K mainGlobals "_law_product" = some (some (.ref f14)))
    (l14 : K.lookup f14 = some ⟨oc14, od14, .func (PySem.W.fnOf "_law_product" "_law_product" (defArgs (topS 21)) (defBody (topS 21)) (defScope (topS 21)) .none kV14 dc14 pm14 an14 cd14 ct14), sl14⟩)
    (c14 : PySem.W.codeIn K cd14 "_law_product" = true) (k14 : PySem.W.keepIn K (.ref f14) = true)
    (a15 : PySem.W.nsIn K mainGlobals "_law_walk" = some (some (.ref f15)))
    (l15 : K.lookup f15 = some ⟨oc15, od15, .func (PySem.W.fnOf "_law_walk" "_law_walk" (defArgs (topS 22)) (defBody (topS 22)) (defScope (topS 22)) .none kV15 dc15 pm15 an15 cd15 ct15), sl15⟩)
    (c15 : PySem.W.codeIn K cd15 "_law_walk" = true) (k15 : PySem.W.keepIn K (.ref f15) = true)
    (a16 : PySem.W.nsIn K mainGlobals "_law_free_cells" = some (some (.ref f16)))
    (l16 : K.lookup f16 = some ⟨oc16, od16, .func (PySem.W.fnOf "_law_free_cells" "_law_free_cells" (defArgs (topS 23)) (defBody (topS 23)) (defScope (topS 23)) .none kV16 dc16 pm16 an16 cd16 ct16), sl16⟩)
    (c16 : PySem.W.codeIn K cd16 "_law_free_cells" = true) (k16 : PySem.W.keepIn K (.ref f16) = true)
    (a17 : PySem.W.nsIn K mainGlobals "_law_floor" = some (some (.ref f17)))
    (l17 : K.lookup f17 = some ⟨oc17, od17, .func (PySem.W.fnOf "_law_floor" "_law_floor" (defArgs (topS 24)) (defBody (topS 24)) (defScope (topS 24)) .none kV17 dc17 pm17 an17 cd17 ct17), sl17⟩)
    (c17 : PySem.W.codeIn K cd17 "_law_floor" = true) (k17 : PySem.W.keepIn K (.ref f17) = true)
    (a18 : PySem.W.nsIn K mainGlobals "_law_ground" = some (some (.ref f18)))
    (l18 : K.lookup f18 = some ⟨oc18, od18, .func (PySem.W.fnOf "_law_ground" "_law_ground" (defArgs (topS 25)) (defBody (topS 25)) (defScope (topS 25)) .none kV18 dc18 pm18 an18 cd18 ct18), sl18⟩)
    (c18 : PySem.W.codeIn K cd18 "_law_ground" = true) (k18 : PySem.W.keepIn K (.ref f18) = true)
    (a19 : PySem.W.nsIn K mainGlobals "_law_trail" = some (some (.ref f19)))
    (l19 : K.lookup f19 = some ⟨oc19, od19, .func (PySem.W.fnOf "_law_trail" "_law_trail" (defArgs (topS 26)) (defBody (topS 26)) (defScope (topS 26)) .none kV19 dc19 pm19 an19 cd19 ct19), sl19⟩)
    (c19 : PySem.W.codeIn K cd19 "_law_trail" = true) (k19 : PySem.W.keepIn K (.ref f19) = true)
    (a20 : PySem.W.nsIn K mainGlobals "_law_asked_walks" = some (some (.ref f20)))
    (l20 : K.lookup f20 = some ⟨oc20, od20, .func (PySem.W.fnOf "_law_asked_walks" "_law_asked_walks" (defArgs (topS 27)) (defBody (topS 27)) (defScope (topS 27)) .none kV20 dc20 pm20 an20 cd20 ct20), sl20⟩)
    (c20 : PySem.W.codeIn K cd20 "_law_asked_walks" = true) (k20 : PySem.W.keepIn K (.ref f20) = true)
    (a21 : PySem.W.nsIn K mainGlobals "_law_due_walk" = some (some (.ref f21)))
    (l21 : K.lookup f21 = some ⟨oc21, od21, .func (PySem.W.fnOf "_law_due_walk" "_law_due_walk" (defArgs (topS 28)) (defBody (topS 28)) (defScope (topS 28)) .none kV21 dc21 pm21 an21 cd21 ct21), sl21⟩)
    (c21 : PySem.W.codeIn K cd21 "_law_due_walk" = true) (k21 : PySem.W.keepIn K (.ref f21) = true)
    (a22 : PySem.W.nsIn K mainGlobals "_law_right_walk" = some (some (.ref f22)))
    (l22 : K.lookup f22 = some ⟨oc22, od22, .func (PySem.W.fnOf "_law_right_walk" "_law_right_walk" (defArgs (topS 29)) (defBody (topS 29)) (defScope (topS 29)) .none kV22 dc22 pm22 an22 cd22 ct22), sl22⟩)
    (c22 : PySem.W.codeIn K cd22 "_law_right_walk" = true) (k22 : PySem.W.keepIn K (.ref f22) = true)
    (a23 : PySem.W.nsIn K mainGlobals "law" = some (some (.ref f23)))
    (l23 : K.lookup f23 = some ⟨oc23, od23, .func (PySem.W.fnOf "law" "law" (defArgs (topS 30)) (defBody (topS 30)) (defScope (topS 30)) .none kV23 dc23 pm23 an23 cd23 ct23), sl23⟩)
    (c23 : PySem.W.codeIn K cd23 "law" = true) (k23 : PySem.W.keepIn K (.ref f23) = true)
    (xg2 : PySem.W.nsIn K mainGlobals "GATES" = some (some (.str "123456" xt1)))
    (xg4 : PySem.W.nsIn K mainGlobals "LIDS" = some (some (.str "ABCDEF" xt3)))
    (xg7 : PySem.W.nsIn K mainGlobals "FIXED_KINDS" = some (some (.ref xb5)))
    (xm8 : K.lookup xb5 = some ⟨.type "dict", none, .dict #[⟨PyData.keyHash w.params "#", .str "#" xt9, .str "wall" xt10⟩, ⟨PyData.keyHash w.params "*", .str "*" xt11, .str "glass" xt12⟩, ⟨PyData.keyHash w.params "!", .str "!" xt13, .str "hole" xt14⟩] xe6, #[]⟩)
    (xy15 : (xb5 == sysModules) = false)
    (xg49 : PySem.W.nsIn K mainGlobals "MOVES" = some (some (.ref xb16)))
    (xm20 : K.lookup xb16 = some ⟨.type "tuple", xo17, .seq #[.ref xb21, .ref xb28, .ref xb35, .ref xb42] xn18, xs19⟩)
    (xm25 : K.lookup xb21 = some ⟨.type "tuple", xo22, .seq #[.int (-1) xt26, .int 0 xt27] xn23, xs24⟩)
    (xm32 : K.lookup xb28 = some ⟨.type "tuple", xo29, .seq #[.int 0 xt33, .int 1 xt34] xn30, xs31⟩)
    (xm39 : K.lookup xb35 = some ⟨.type "tuple", xo36, .seq #[.int 1 xt40, .int 0 xt41] xn37, xs38⟩)
    (xm46 : K.lookup xb42 = some ⟨.type "tuple", xo43, .seq #[.int 0 xt47, .int (-1) xt48] xn44, xs45⟩)
    (z0 : PySem.W.nsIn K mainGlobals "abs" = some none)
    (z1 : PySem.W.nsIn K mainGlobals "all" = some none)
    (z2 : PySem.W.nsIn K mainGlobals "any" = some none)
    (z3 : PySem.W.nsIn K mainGlobals "bool" = some none)
    (z4 : PySem.W.nsIn K mainGlobals "divmod" = some none)
    (z5 : PySem.W.nsIn K mainGlobals "int" = some none)
    (z6 : PySem.W.nsIn K mainGlobals "isinstance" = some none)
    (z7 : PySem.W.nsIn K mainGlobals "len" = some none)
    (z8 : PySem.W.nsIn K mainGlobals "max" = some none)
    (z9 : PySem.W.nsIn K mainGlobals "ord" = some none)
    (z10 : PySem.W.nsIn K mainGlobals "range" = some none)
    (z11 : PySem.W.nsIn K mainGlobals "tuple" = some none) :
    ∃ fd : FuncData, (∀ (s : Shared) (v : Value), BindsTo s fd ⟨[v], []⟩ [("script", v)]) ∧ ∀ base : Heap, K.In base → base.Ns mainGlobals mg → FnOk l.prog w K mg base CX0 (20 + 1) fa fd ["script"] (SpP K fun ds d => runP (csAt pg 20) df_law ds = some d) := by
  have e := hfa.symm.trans (PySem.W.mg_of X G a23)
  cases e
  have F0 := fun_mk (st := topS 5) l0 c0 k0
  have b0 := F0.binds (ps := ["sign"]) fun _ _ _ _ _ _ us hl => match us, hl with | [_], _ => rfl
  have S0 : FnScope df_door_of.N df_door_of.ps (defScope df_door_of.st) := ⟨rfl, rfl, rfl, by decide +kernel, rfl, by decide +kernel, by decide +kernel⟩
  have F1 := fun_mk (st := topS 6) l1 c1 k1
  have b1 := F1.binds (ps := ["plan", "cell"]) fun _ _ _ _ _ _ us hl => match us, hl with | [_, _], _ => rfl
  have S1 : FnScope df_sign_at.N df_sign_at.ps (defScope df_sign_at.st) := ⟨rfl, rfl, rfl, by decide +kernel, rfl, by decide +kernel, by decide +kernel⟩
  have F2 := fun_mk (st := topS 7) l2 c2 k2
  have b2 := F2.binds (ps := ["plan", "setting", "cell"]) fun _ _ _ _ _ _ us hl => match us, hl with | [_, _, _], _ => rfl
  have S2 : FnScope df_cell_kind.N df_cell_kind.ps (defScope df_cell_kind.st) := ⟨rfl, rfl, rfl, by decide +kernel, rfl, by decide +kernel, by decide +kernel⟩
  have F3 := fun_mk (st := topS 8) l3 c3 k3
  have b3 := F3.binds (ps := ["plan", "cell", "direction"]) fun _ _ _ _ _ _ us hl => match us, hl with | [_, _, _], _ => rfl
  have S3 : FnScope df_next_cell.N df_next_cell.ps (defScope df_next_cell.st) := ⟨rfl, rfl, rfl, by decide +kernel, rfl, by decide +kernel, by decide +kernel⟩
  have F4 := fun_mk (st := topS 10) l4 c4 k4
  have b4 := F4.binds (ps := ["plan", "setting", "cell", "direction", "trail"]) fun _ _ _ _ _ _ us hl => match us, hl with | [_, _, _, _, _], _ => rfl
  have S4 : FnScope df_walked.N df_walked.ps (defScope df_walked.st) := ⟨rfl, rfl, rfl, by decide +kernel, rfl, by decide +kernel, by decide +kernel⟩
  have F5 := fun_mk (st := topS 12) l5 c5 k5
  have b5 := F5.binds (ps := ["script"]) fun _ _ _ _ _ _ us hl => match us, hl with | [_], _ => rfl
  have S5 : FnScope df_law_begin.N df_law_begin.ps (defScope df_law_begin.st) := ⟨rfl, rfl, rfl, by decide +kernel, rfl, by decide +kernel, by decide +kernel⟩
  have F6 := fun_mk (st := topS 13) l6 c6 k6
  have b6 := F6.binds (ps := ["d", "many"]) fun _ _ _ _ _ _ us hl => match us, hl with | [_, _], _ => rfl
  have S6 : FnScope df_law_draw.N df_law_draw.ps (defScope df_law_draw.st) := ⟨rfl, rfl, rfl, by decide +kernel, rfl, by decide +kernel, by decide +kernel⟩
  have F7 := fun_mk (st := topS 14) l7 c7 k7
  have b7 := F7.binds (ps := ["d", "row"]) fun _ _ _ _ _ _ us hl => match us, hl with | [_, _], _ => rfl
  have S7 : FnScope df_law_pick.N df_law_pick.ps (defScope df_law_pick.st) := ⟨rfl, rfl, rfl, by decide +kernel, rfl, by decide +kernel, by decide +kernel⟩
  have F8 := fun_mk (st := topS 15) l8 c8 k8
  have b8 := F8.binds (ps := ["d", "many"]) fun _ _ _ _ _ _ us hl => match us, hl with | [_, _], _ => rfl
  have S8 : FnScope df_law_rare.N df_law_rare.ps (defScope df_law_rare.st) := ⟨rfl, rfl, rfl, by decide +kernel, rfl, by decide +kernel, by decide +kernel⟩
  have F9 := fun_mk (st := topS 16) l9 c9 k9
  have b9 := F9.binds (ps := ["thing"]) fun _ _ _ _ _ _ us hl => match us, hl with | [_], _ => rfl
  have S9 : FnScope df_law_is_int.N df_law_is_int.ps (defScope df_law_is_int.st) := ⟨rfl, rfl, rfl, by decide +kernel, rfl, by decide +kernel, by decide +kernel⟩
  have F10 := fun_mk (st := topS 17) l10 c10 k10
  have b10 := F10.binds (ps := ["row"]) fun _ _ _ _ _ _ us hl => match us, hl with | [_], _ => rfl
  have S10 : FnScope df_law_is_ints.N df_law_is_ints.ps (defScope df_law_is_ints.st) := ⟨rfl, rfl, rfl, by decide +kernel, rfl, by decide +kernel, by decide +kernel⟩
  have F11 := fun_mk (st := topS 18) l11 c11 k11
  have b11 := F11.binds (ps := ["plan"]) fun _ _ _ _ _ _ us hl => match us, hl with | [_], _ => rfl
  have S11 : FnScope df_law_doors.N df_law_doors.ps (defScope df_law_doors.st) := ⟨rfl, rfl, rfl, by decide +kernel, rfl, by decide +kernel, by decide +kernel⟩
  have F12 := fun_mk (st := topS 19) l12 c12 k12
  have b12 := F12.binds (ps := ["plan", "setting", "cell"]) fun _ _ _ _ _ _ us hl => match us, hl with | [_, _, _], _ => rfl
  have S12 : FnScope df_law_kind.N df_law_kind.ps (defScope df_law_kind.st) := ⟨rfl, rfl, rfl, by decide +kernel, rfl, by decide +kernel, by decide +kernel⟩
  have F13 := fun_mk (st := topS 20) l13 c13 k13
  have b13 := F13.binds (ps := ["plan", "cell", "direction"]) fun _ _ _ _ _ _ us hl => match us, hl with | [_, _, _], _ => rfl
  have S13 : FnScope df_law_next.N df_law_next.ps (defScope df_law_next.st) := ⟨rfl, rfl, rfl, by decide +kernel, rfl, by decide +kernel, by decide +kernel⟩
  have F14 := fun_mk (st := topS 21) l14 c14 k14
  have b14 := F14.binds (ps := ["rows"]) fun _ _ _ _ _ _ us hl => match us, hl with | [_], _ => rfl
  have S14 : FnScope df_law_product.N df_law_product.ps (defScope df_law_product.st) := ⟨rfl, rfl, rfl, by decide +kernel, rfl, by decide +kernel, by decide +kernel⟩
  have F15 := fun_mk (st := topS 22) l15 c15 k15
  have b15 := F15.binds (ps := ["plan", "setting", "cell", "direction", "trail"]) fun _ _ _ _ _ _ us hl => match us, hl with | [_, _, _, _, _], _ => rfl
  have S15 : FnScope df_law_walk.N df_law_walk.ps (defScope df_law_walk.st) := ⟨rfl, rfl, rfl, by decide +kernel, rfl, by decide +kernel, by decide +kernel⟩
  have F16 := fun_mk (st := topS 23) l16 c16 k16
  have b16 := F16.binds (ps := ["plan", "settings"]) fun _ _ _ _ _ _ us hl => match us, hl with | [_, _], _ => rfl
  have S16 : FnScope df_law_free_cells.N df_law_free_cells.ps (defScope df_law_free_cells.st) := ⟨rfl, rfl, rfl, by decide +kernel, rfl, by decide +kernel, by decide +kernel⟩
  have F17 := fun_mk (st := topS 24) l17 c17 k17
  have b17 := F17.binds (ps := ["d"]) fun _ _ _ _ _ _ us hl => match us, hl with | [_], _ => rfl
  have S17 : FnScope df_law_floor.N df_law_floor.ps (defScope df_law_floor.st) := ⟨rfl, rfl, rfl, by decide +kernel, rfl, by decide +kernel, by decide +kernel⟩
  have F18 := fun_mk (st := topS 25) l18 c18 k18
  have b18 := F18.binds (ps := ["d"]) fun _ _ _ _ _ _ us hl => match us, hl with | [_], _ => rfl
  have S18 : FnScope df_law_ground.N df_law_ground.ps (defScope df_law_ground.st) := ⟨rfl, rfl, rfl, by decide +kernel, rfl, by decide +kernel, by decide +kernel⟩
  have F19 := fun_mk (st := topS 26) l19 c19 k19
  have b19 := F19.binds (ps := ["d"]) fun _ _ _ _ _ _ us hl => match us, hl with | [_], _ => rfl
  have S19 : FnScope df_law_trail.N df_law_trail.ps (defScope df_law_trail.st) := ⟨rfl, rfl, rfl, by decide +kernel, rfl, by decide +kernel, by decide +kernel⟩
  have F20 := fun_mk (st := topS 27) l20 c20 k20
  have b20 := F20.binds (ps := ["d", "free"]) fun _ _ _ _ _ _ us hl => match us, hl with | [_, _], _ => rfl
  have S20 : FnScope df_law_asked_walks.N df_law_asked_walks.ps (defScope df_law_asked_walks.st) := ⟨rfl, rfl, rfl, by decide +kernel, rfl, by decide +kernel, by decide +kernel⟩
  have F21 := fun_mk (st := topS 28) l21 c21 k21
  have b21 := F21.binds (ps := ["plan", "setting", "cell", "direction", "trail"]) fun _ _ _ _ _ _ us hl => match us, hl with | [_, _, _, _, _], _ => rfl
  have S21 : FnScope df_law_due_walk.N df_law_due_walk.ps (defScope df_law_due_walk.st) := ⟨rfl, rfl, rfl, by decide +kernel, rfl, by decide +kernel, by decide +kernel⟩
  have F22 := fun_mk (st := topS 29) l22 c22 k22
  have b22 := F22.binds (ps := ["told", "due"]) fun _ _ _ _ _ _ us hl => match us, hl with | [_, _], _ => rfl
  have S22 : FnScope df_law_right_walk.N df_law_right_walk.ps (defScope df_law_right_walk.st) := ⟨rfl, rfl, rfl, by decide +kernel, rfl, by decide +kernel, by decide +kernel⟩
  have F23 := fun_mk (st := topS 30) l23 c23 k23
  have b23 := F23.binds (ps := ["script"]) fun _ _ _ _ _ _ us hl => match us, hl with | [_], _ => rfl
  have S23 : FnScope df_law.N df_law.ps (defScope df_law.st) := ⟨rfl, rfl, rfl, by decide +kernel, rfl, by decide +kernel, by decide +kernel⟩
  refine ⟨PySem.W.fnOf "law" "law" (defArgs (topS 30)) (defBody (topS 30)) (defScope (topS 30)) .none kV23 dc23 pm23 an23 cd23 ct23, fun s v => .of_eq rfl, fun base _ _ => ?_⟩
  have L : Lnk pg l.prog w K mg base := by
    refine ⟨fun x kd df hx => ?_, fun x d hx => ?_, fun x kvs hx => ?_, fun x hx => ?_⟩
    · simp only [pg] at hx
      by_cases e0 : x = "_door_of"
      · subst e0
        cases hx
        exact ⟨_, _, F0, PySem.W.mg_of X G a0, b0, S0, by decide⟩
      rw [if_neg e0] at hx
      by_cases e1 : x = "sign_at"
      · subst e1
        cases hx
        exact ⟨_, _, F1, PySem.W.mg_of X G a1, b1, S1, by decide⟩
      rw [if_neg e1] at hx
      by_cases e2 : x = "cell_kind"
      · subst e2
        cases hx
        exact ⟨_, _, F2, PySem.W.mg_of X G a2, b2, S2, by decide⟩
      rw [if_neg e2] at hx
      by_cases e3 : x = "next_cell"
      · subst e3
        cases hx
        exact ⟨_, _, F3, PySem.W.mg_of X G a3, b3, S3, by decide⟩
      rw [if_neg e3] at hx
      by_cases e4 : x = "walked"
      · subst e4
        cases hx
        exact ⟨_, _, F4, PySem.W.mg_of X G a4, b4, S4, by decide⟩
      rw [if_neg e4] at hx
      by_cases e5 : x = "_law_begin"
      · subst e5
        cases hx
        exact ⟨_, _, F5, PySem.W.mg_of X G a5, b5, S5, by decide⟩
      rw [if_neg e5] at hx
      by_cases e6 : x = "_law_draw"
      · subst e6
        cases hx
        exact ⟨_, _, F6, PySem.W.mg_of X G a6, b6, S6, by decide⟩
      rw [if_neg e6] at hx
      by_cases e7 : x = "_law_pick"
      · subst e7
        cases hx
        exact ⟨_, _, F7, PySem.W.mg_of X G a7, b7, S7, by decide⟩
      rw [if_neg e7] at hx
      by_cases e8 : x = "_law_rare"
      · subst e8
        cases hx
        exact ⟨_, _, F8, PySem.W.mg_of X G a8, b8, S8, by decide⟩
      rw [if_neg e8] at hx
      by_cases e9 : x = "_law_is_int"
      · subst e9
        cases hx
        exact ⟨_, _, F9, PySem.W.mg_of X G a9, b9, S9, by decide⟩
      rw [if_neg e9] at hx
      by_cases e10 : x = "_law_is_ints"
      · subst e10
        cases hx
        exact ⟨_, _, F10, PySem.W.mg_of X G a10, b10, S10, by decide⟩
      rw [if_neg e10] at hx
      by_cases e11 : x = "_law_doors"
      · subst e11
        cases hx
        exact ⟨_, _, F11, PySem.W.mg_of X G a11, b11, S11, by decide⟩
      rw [if_neg e11] at hx
      by_cases e12 : x = "_law_kind"
      · subst e12
        cases hx
        exact ⟨_, _, F12, PySem.W.mg_of X G a12, b12, S12, by decide⟩
      rw [if_neg e12] at hx
      by_cases e13 : x = "_law_next"
      · subst e13
        cases hx
        exact ⟨_, _, F13, PySem.W.mg_of X G a13, b13, S13, by decide⟩
      rw [if_neg e13] at hx
      by_cases e14 : x = "_law_product"
      · subst e14
        cases hx
        exact ⟨_, _, F14, PySem.W.mg_of X G a14, b14, S14, by decide⟩
      rw [if_neg e14] at hx
      by_cases e15 : x = "_law_walk"
      · subst e15
        cases hx
        exact ⟨_, _, F15, PySem.W.mg_of X G a15, b15, S15, by decide⟩
      rw [if_neg e15] at hx
      by_cases e16 : x = "_law_free_cells"
      · subst e16
        cases hx
        exact ⟨_, _, F16, PySem.W.mg_of X G a16, b16, S16, by decide⟩
      rw [if_neg e16] at hx
      by_cases e17 : x = "_law_floor"
      · subst e17
        cases hx
        exact ⟨_, _, F17, PySem.W.mg_of X G a17, b17, S17, by decide⟩
      rw [if_neg e17] at hx
      by_cases e18 : x = "_law_ground"
      · subst e18
        cases hx
        exact ⟨_, _, F18, PySem.W.mg_of X G a18, b18, S18, by decide⟩
      rw [if_neg e18] at hx
      by_cases e19 : x = "_law_trail"
      · subst e19
        cases hx
        exact ⟨_, _, F19, PySem.W.mg_of X G a19, b19, S19, by decide⟩
      rw [if_neg e19] at hx
      by_cases e20 : x = "_law_asked_walks"
      · subst e20
        cases hx
        exact ⟨_, _, F20, PySem.W.mg_of X G a20, b20, S20, by decide⟩
      rw [if_neg e20] at hx
      by_cases e21 : x = "_law_due_walk"
      · subst e21
        cases hx
        exact ⟨_, _, F21, PySem.W.mg_of X G a21, b21, S21, by decide⟩
      rw [if_neg e21] at hx
      by_cases e22 : x = "_law_right_walk"
      · subst e22
        cases hx
        exact ⟨_, _, F22, PySem.W.mg_of X G a22, b22, S22, by decide⟩
      rw [if_neg e22] at hx
      by_cases e23 : x = "law"
      · subst e23
        cases hx
        exact ⟨_, _, F23, PySem.W.mg_of X G a23, b23, S23, by decide⟩
      rw [if_neg e23] at hx
      cases hx
    · simp only [pg] at hx
      by_cases e0 : x = "GATES"
      · subst e0
        cases hx
        exact ⟨_, .str "123456", PySem.W.mg_of X G xg2, ⟨_, rfl⟩, (fun _ => .str _)⟩
      rw [if_neg e0] at hx
      by_cases e1 : x = "LIDS"
      · subst e1
        cases hx
        exact ⟨_, .str "ABCDEF", PySem.W.mg_of X G xg4, ⟨_, rfl⟩, (fun _ => .str _)⟩
      rw [if_neg e1] at hx
      by_cases e2 : x = "MOVES"
      · subst e2
        cases hx
        exact ⟨_, .ref xb16, PySem.W.mg_of X G xg49, rfl, (tup_K (us := [.ref xb21, .ref xb28, .ref xb35, .ref xb42]) xm20 (show (4 : Nat) ≤ sizeLine from by decide) (.cons (rfl) (.cons (rfl) (.cons (rfl) (.cons (rfl) (.nil))))) fun H => .cons ((tup_K (us := [.int (-1), .int 0]) xm25 (show (2 : Nat) ≤ sizeLine from by decide) (.cons (⟨_, rfl⟩) (.cons (⟨_, rfl⟩) (.nil))) fun H => .cons ((fun _ => .int _) H) (.cons ((fun _ => .int _) H) (.nil))) H) (.cons ((tup_K (us := [.int 0, .int 1]) xm32 (show (2 : Nat) ≤ sizeLine from by decide) (.cons (⟨_, rfl⟩) (.cons (⟨_, rfl⟩) (.nil))) fun H => .cons ((fun _ => .int _) H) (.cons ((fun _ => .int _) H) (.nil))) H) (.cons ((tup_K (us := [.int 1, .int 0]) xm39 (show (2 : Nat) ≤ sizeLine from by decide) (.cons (⟨_, rfl⟩) (.cons (⟨_, rfl⟩) (.nil))) fun H => .cons ((fun _ => .int _) H) (.cons ((fun _ => .int _) H) (.nil))) H) (.cons ((tup_K (us := [.int 0, .int (-1)]) xm46 (show (2 : Nat) ≤ sizeLine from by decide) (.cons (⟨_, rfl⟩) (.cons (⟨_, rfl⟩) (.nil))) fun H => .cons ((fun _ => .int _) H) (.cons ((fun _ => .int _) H) (.nil))) H) (.nil)))))⟩
      rw [if_neg e2] at hx
      cases hx
    · simp only [pg] at hx
      by_cases e0 : x = "FIXED_KINDS"
      · subst e0
        cases hx
        exact ⟨_, PySem.W.mg_of X G xg7, gdk_txt [("#", xt9, "wall", xt10), ("*", xt11, "glass", xt12), ("!", xt13, "hole", xt14)] xm8 (show (["#", "*", "!"] : List Str).Nodup from by decide) xy15⟩
      rw [if_neg e0] at hx
      cases hx
    · have hx := of_decide_eq_true hx
      simp only [List.mem_cons, List.not_mem_nil, or_false] at hx
      rcases hx with rfl | rfl | rfl | rfl | rfl | rfl | rfl | rfl | rfl | rfl | rfl | rfl
      · exact PySem.W.mg_none_of X G z0
      · exact PySem.W.mg_none_of X G z1
      · exact PySem.W.mg_none_of X G z2
      · exact PySem.W.mg_none_of X G z3
      · exact PySem.W.mg_none_of X G z4
      · exact PySem.W.mg_none_of X G z5
      · exact PySem.W.mg_none_of X G z6
      · exact PySem.W.mg_none_of X G z7
      · exact PySem.W.mg_none_of X G z8
      · exact PySem.W.mg_none_of X G z9
      · exact PySem.W.mg_none_of X G z10
      · exact PySem.W.mg_none_of X G z11
  exact law_fn L 20 F23 S23 (by decide)
end T16
open PySem PySem.W PyProof.Rows
set_option maxHeartbeats 0 in
theorem PySem.Challenge.cw_doubtborne_k16_trails_walked_holds : PySem.Challenge.rw_doubtborne_k16_trails_walked.Holds := by
  w_on; o_law; k_head; (case hw => w_witness2)
  k_fill
  refine L2.walk_of (l := PySem.Challenge.rw_doubtborne_k16_trails_walked) (n := 63) (k := 20 + 1) (x := "script") (CX := fun _ => L2.CX0) (sp := fun w => Lk.SpP _ fun ds d => Ev.runP (Ev.csAt T16.pg 20) T16.df_law ds = some d) rfl (by decide) rfl ⟨rfl, by decide, by decide⟩ (fun w h Y => PySem.W.kIn_of Y) ?F (fun _ _ a ns hl _ hS => Ev.law_sp hS (T16.law_true ns hl)) (fun _ _ _ _ _ h => h)
  case F =>
    intro w mg fa h KX G hmg
    refine' T16.all_mk KX G hmg ?a0 ?l0 ?c0 ?k0 ?a1 ?l1 ?c1 ?k1 ?a2 ?l2 ?c2 ?k2 ?a3 ?l3 ?c3 ?k3 ?a4 ?l4 ?c4 ?k4 ?a5 ?l5 ?c5 ?k5 ?a6 ?l6 ?c6 ?k6 ?a7 ?l7 ?c7 ?k7 ?a8 ?l8 ?c8 ?k8 ?a9 ?l9 ?c9 ?k9 ?a10 ?l10 ?c10 ?k10 ?a11 ?l11 ?c11 ?k11 ?a12 ?l12 ?c12 ?k12 ?a13 ?l13 ?c13 ?k13 ?a14 ?l14 ?c14 ?k14 ?a15 ?l15 ?c15 ?k15 ?a16 ?l16 ?c16 ?k16 ?a17 ?l17 ?c17 ?k17 ?a18 ?l18 ?c18 ?k18 ?a19 ?l19 ?c19 ?k19 ?a20 ?l20 ?c20 ?k20 ?a21 ?l21 ?c21 ?k21 ?a22 ?l22 ?c22 ?k22 ?a23 ?l23 ?c23 ?k23 ?xg2 ?xg4 ?xg7 ?xm8 ?xy15 ?xg49 ?xm20 ?xm25 ?xm32 ?xm39 ?xm46 ?z0 ?z1 ?z2 ?z3 ?z4 ?z5 ?z6 ?z7 ?z8 ?z9 ?z10 ?z11
    (case a0 => k_is); (case l0 => k_is); (case c0 => k_is); (case k0 => k_is); (case a1 => k_is); (case l1 => k_is); (case c1 => k_is); (case k1 => k_is); (case a2 => k_is); (case l2 => k_is); (case c2 => k_is); (case k2 => k_is); (case a3 => k_is); (case l3 => k_is); (case c3 => k_is); (case k3 => k_is); (case a4 => k_is); (case l4 => k_is); (case c4 => k_is); (case k4 => k_is); (case a5 => k_is); (case l5 => k_is); (case c5 => k_is); (case k5 => k_is); (case a6 => k_is); (case l6 => k_is); (case c6 => k_is); (case k6 => k_is); (case a7 => k_is); (case l7 => k_is); (case c7 => k_is); (case k7 => k_is); (case a8 => k_is); (case l8 => k_is); (case c8 => k_is); (case k8 => k_is); (case a9 => k_is); (case l9 => k_is); (case c9 => k_is); (case k9 => k_is); (case a10 => k_is); (case l10 => k_is); (case c10 => k_is); (case k10 => k_is); (case a11 => k_is); (case l11 => k_is); (case c11 => k_is); (case k11 => k_is); (case a12 => k_is); (case l12 => k_is); (case c12 => k_is); (case k12 => k_is); (case a13 => k_is); (case l13 => k_is); (case c13 => k_is); (case k13 => k_is); (case a14 => k_is); (case l14 => k_is); (case c14 => k_is); (case k14 => k_is); (case a15 => k_is); (case l15 => k_is); (case c15 => k_is); (case k15 => k_is); (case a16 => k_is); (case l16 => k_is); (case c16 => k_is); (case k16 => k_is); (case a17 => k_is); (case l17 => k_is); (case c17 => k_is); (case k17 => k_is); (case a18 => k_is); (case l18 => k_is); (case c18 => k_is); (case k18 => k_is); (case a19 => k_is); (case l19 => k_is); (case c19 => k_is); (case k19 => k_is); (case a20 => k_is); (case l20 => k_is); (case c20 => k_is); (case k20 => k_is); (case a21 => k_is); (case l21 => k_is); (case c21 => k_is); (case k21 => k_is); (case a22 => k_is); (case l22 => k_is); (case c22 => k_is); (case k22 => k_is); (case a23 => k_is); (case l23 => k_is); (case c23 => k_is); (case k23 => k_is); (case xg2 => k_is); (case xg4 => k_is); (case xg7 => k_is); (case xm8 => k_is); (case xg49 => k_is); (case xm20 => k_is); (case xm25 => k_is); (case xm32 => k_is); (case xm39 => k_is); (case xm46 => k_is); (case z0 => k_is); (case z1 => k_is); (case z2 => k_is); (case z3 => k_is); (case z4 => k_is); (case z5 => k_is); (case z6 => k_is); (case z7 => k_is); (case z8 => k_is); (case z9 => k_is); (case z10 => k_is); (case z11 => k_is)
    (case xy15 => rfl)
