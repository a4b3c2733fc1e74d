import PyProof.Rows.All
import Wide.All
import OpenK.AllK
import Wide.FinOn
import HandS.ForMost
import HandS.ForExc
import HandS.Lambda
import HandS.WideBits
import HandS.Wide
import HandS.Style
import HandS.TupMul
import HandS.Flow
import PyProof.ReprRoads
import PyProof.RowDictHeap
import HandS.RaiseMore
import HandS.IsInst
import HandS.Small
import HandS.More
import HandS.Dict
import HandS.ExcInit
import HandS.ExcField
import HandS.ExcIs
import HandS.Words
import KE.KExcIs
import HandS.TupLe
import HandS.Star
import HandS.SortKw
import KE.KMinKey
import HandS.EndTab
import HandS.Strs
import HandS.SetBool
import HandS.SetFor
import PySem.Challenge.RW_heldranks_k11_values_levels_and_extremes
import PyProof.ReprLen
import PyProof.P3Eq
section
set_option Elab.async false
set_option linter.all false
set_option maxRecDepth 100000
/-! Data as a whole, mutable cells, and a functional reading of expressions and statements over them. -/
namespace Q
open PySem PySem.Spec L2

/-- what kind of object a node is; its children stand apart -/
inductive Tg where
  | lst | tup | frl | dic (ks : List Key) | dit (ks : List (List Key)) | obj (C : Str) (ks : List Str) | xdc (ks : List Str)
  deriving DecidableEq
/-- a datum -/
inductive D where
  | non | bl (b : Bool) | int (i : Int) | str (x : Str) | cell (i : Nat) | fn (f c : Addr) (q : Str) (xs : List V) (ds : List D) | nod (t : Tg) (ds : List D)
abbrev D.lst (ds : List D) : D := .nod .lst ds
abbrev D.tup (ds : List D) : D := .nod .tup ds
/-- tables of code objects -/
class Tb where
  l : List (Addr × Str)
variable [Tb]
abbrev Cl := Tg × List D
abbrev Cells := List Cl
structure Wd where
  K : PySem.W.Frag
  mg : Str → Option Value
structure Sta where
  H : Hp
  r : List Addr
  c : Cells
  x : List Addr

/-- an object that is not for good: no table, no code object -/
def Mu (a : Addr) : Option HO → Prop
  | some (.lst _) => True
  | some (.dK _) => True
  | some (.dT _) => True
  | some (.set _ _) => True
  | some (.ins _ _ _) => True
  | some (.xd _) => True
  | some (.ext φ) => ∃ (h : Heap) (o : Obj), φ h ∧ h.get? a = some o ∧ ∀ vs, o.data ≠ .fields vs
  | _ => False
def Hold (T : Wd) (H : Hp) (a : Addr) (xs : List V) : Tg → Prop
  | .lst => H a = some (.lst xs)
  | .tup => H a = some (.tup xs)
  | .frl => ∃ o, H a = some (.frz o (.lst xs))
  | .dic ks => ks.length = xs.length ∧ H a = some (.dK (ks.zip xs))
  | .dit ks => ks.length = xs.length ∧ H a = some (.dT (ks.zip xs))
  | .obj C ks => ks.length = xs.length ∧ ∃ Ca dx, T.mg C = some (.ref Ca) ∧ H a = some (.ins Ca dx (ks.zip xs))
  | .xdc ks => ks.length = xs.length ∧ H a = some (.xd (ks.zip xs))
def HoldK (T : Wd) (a : Addr) (xs : List V) : Tg → Prop
  | .tup => ∃ (o : Obj) (its : Array Value) (n : Nat), T.K.lookup a = some o ∧ o.cls = .type "tuple" ∧ o.data = .seq its n ∧ its.size ≤ sizeLine ∧ Vals xs its.toList
  | .frl => ∃ (o : Obj) (its : Array Value) (n : Nat), T.K.lookup a = some o ∧ o.cls = .type "list" ∧ o.dict = none ∧ o.data = .seq its n ∧ its.size ≤ sizeLine ∧ Vals xs its.toList
  | _ => False

mutual
def At (T : Wd) (S : Sta) : V → D → Prop
  | v, .non => v = .non
  | v, .bl b => v = .bl b
  | v, .int i => v = .int i
  | v, .str x => v = .str x
  | v, .cell i => ∃ a, v = .ref a ∧ S.r[i]? = some a
  | v, .fn f c q xs ds => v = .ref f ∧ (c ∉ S.r ∧ c ∉ S.x ∧ S.H c = some (LamX.CodeO c q)) ∧ AtL T S xs ds
  | v, .nod t ds => ∃ a xs, v = .ref a ∧ ((a ∉ S.r ∧ a ∉ S.x ∧ Hold T S.H a xs t) ∨ HoldK T a xs t) ∧ AtL T S xs ds
def AtL (T : Wd) (S : Sta) : List V → List D → Prop
  | [], [] => True
  | x :: xs, d :: ds => At T S x d ∧ AtL T S xs ds
  | _ :: _, [] => False
  | [], _ :: _ => False
end

/-- the cells stand in the heap -/
structure Good (T : Wd) (S : Sta) : Prop where
  len : S.r.length = S.c.length
  nd : S.r.Nodup
  hid : ∀ a ∈ S.x, a ∉ S.r ∧ ∃ o, S.H a = some o ∧ Mu a (some o)
  at' : ∀ (i : Nat) (a : Addr) (cl : Cl), S.r[i]? = some a → S.c[i]? = some cl → ∃ xs, Hold T S.H a xs cl.1 ∧ Mu a (S.H a) ∧ AtL T S xs cl.2
  tab : LamX.Tabs Tb.l S.H

/-- the later state: what was so is so -/
structure Ext (T : Wd) (S S' : Sta) : Prop where
  pre : S.r <+: S'.r
  keep : ∀ v d, At T S v d → At T S' v d
  hx : S'.x = S.x
  hh : ∀ a ∈ S.x, S'.H a = S.H a
theorem Ext.refl {T : Wd} {S : Sta} : Ext T S S := ⟨List.prefix_refl _, fun _ _ h => h, rfl, fun _ _ => rfl⟩
theorem Ext.trans {T : Wd} {S S1 S2 : Sta} (a : Ext T S S1) (b : Ext T S1 S2) : Ext T S S2 := ⟨a.pre.trans b.pre, fun v d h => b.keep v d (a.keep v d h), b.hx.trans a.hx, fun p hp => (b.hh p (by rw [a.hx]; exact hp)).trans (a.hh p hp)⟩
theorem atL_of {T : Wd} {S S' : Sta} (h : ∀ v d, At T S v d → At T S' v d) : ∀ {xs : List V} {ds : List D}, AtL T S xs ds → AtL T S' xs ds
  | [], [], _ => by simp [AtL]
  | x :: xs, d :: ds, q => by
    simp only [AtL] at q ⊢
    exact ⟨h _ _ q.1, atL_of h q.2⟩
  | _ :: _, [], q => by simp [AtL] at q
  | [], _ :: _, q => by simp [AtL] at q
theorem Ext.list {T : Wd} {S S' : Sta} (e : Ext T S S') {xs : List V} {ds : List D} (h : AtL T S xs ds) : AtL T S' xs ds := atL_of e.keep h
theorem AtL.len {T : Wd} {S : Sta} : ∀ {xs : List V} {ds : List D}, AtL T S xs ds → xs.length = ds.length
  | [], [], _ => rfl
  | x :: xs, d :: ds, q => by
    simp only [AtL] at q
    simp [AtL.len q.2]
  | _ :: _, [], q => by simp [AtL] at q
  | [], _ :: _, q => by simp [AtL] at q
theorem AtL.get {T : Wd} {S : Sta} : ∀ {xs : List V} {ds : List D} {i : Nat} {d : D}, AtL T S xs ds → ds[i]? = some d → ∃ x, xs[i]? = some x ∧ At T S x d
  | [], [], i, d, _, e => by simp at e
  | x :: xs, y :: ds, 0, d, q, e => by
    simp only [AtL] at q
    simp at e
    subst e
    exact ⟨x, rfl, q.1⟩
  | x :: xs, y :: ds, i + 1, d, q, e => by
    simp only [AtL] at q
    obtain ⟨z, h1, h2⟩ := AtL.get (i := i) (d := d) q.2 (by simpa using e)
    exact ⟨z, by simpa using h1, h2⟩
  | _ :: _, [], _, _, q, _ => by simp [AtL] at q
  | [], _ :: _, _, _, q, _ => by simp [AtL] at q
theorem AtL.append {T : Wd} {S : Sta} : ∀ {xs ys : List V} {ds es : List D}, AtL T S xs ds → AtL T S ys es → AtL T S (xs ++ ys) (ds ++ es)
  | [], _, [], _, _, h => h
  | x :: xs, _, d :: ds, _, q, h => by
    simp only [AtL, List.cons_append] at q ⊢
    exact ⟨q.1, AtL.append q.2 h⟩
  | _ :: _, _, [], _, q, _ => by simp [AtL] at q
  | [], _, _ :: _, _, q, _ => by simp [AtL] at q

/-! ### outcomes -/
/-- an exception: its class by name, its fields -/
structure Exn where
  cls : Str
  ks : List Str
  ds : List D
inductive R (a : Type) where
  | ok (x : a) (c : Cells)
  | err (x : Exn) (c : Cells)
  | stk
def R.bind {a b : Type} (r : R a) (k : a → Cells → R b) : R b := match r with
  | .ok x c => k x c
  | .err x c => .err x c
  | .stk => .stk
/-- an exception as it lies behind: its class at C, its dict -/
def ExAt (T : Wd) (S : Sta) (cls : Value) (dd : Option Addr) (x : Exn) : Prop :=
  ∃ C, T.mg x.cls = some (.ref C) ∧ cls = .ref C ∧ ((x.ks = [] ∧ x.ds = [] ∧ dd = none) ∨ ∃ d, dd = some d ∧ At T S (.ref d) (.nod (.xdc x.ks) x.ds))
/-- what an outcome wants of the end: rel tells how a value of the end is a datum -/
def PostG {a b : Type} (T : Wd) (S : Sta) (rel : Sta → b → a → Prop) (r : R a) (Qv : b → Hp → Prop) (E : XK) : Prop := match r with
  | .ok d c => ∀ S' v, Good T S' → S'.c = c → Ext T S S' → rel S' v d → Qv v S'.H
  | .err x c => ∀ S' cls dd, Good T S' → S'.c = c → Ext T S S' → ExAt T S' cls dd x → E cls dd S'.H
  | .stk => False
abbrev Post (T : Wd) (S : Sta) (r : R D) (Qv : VK) (E : XK) : Prop := PostG T S (At T) r Qv E
abbrev relE (b : Type) : Sta → b → b → Prop := fun _ v d => v = d
theorem PostG.ext {a b : Type} {T : Wd} {S S1 : Sta} {rel : Sta → b → a → Prop} {r : R a} {Qv : b → Hp → Prop} {E : XK} (e : Ext T S S1) (h : PostG T S rel r Qv E) : PostG T S1 rel r Qv E := by
  cases r with
  | ok d c =>
    have h : ∀ S' v, Good T S' → S'.c = c → Ext T S S' → rel S' v d → Qv v S'.H := h
    exact fun S' v g hc x a => h S' v g hc (e.trans x) a
  | err x c =>
    have h : ∀ S' cls dd, Good T S' → S'.c = c → Ext T S S' → ExAt T S' cls dd x → E cls dd S'.H := h
    exact fun S' cls dd g hc y a => h S' cls dd g hc (e.trans y) a
  | stk => exact h
theorem PostG.mono {a b : Type} {T : Wd} {S : Sta} {rel : Sta → b → a → Prop} {r : R a} {Qv Q2 : b → Hp → Prop} {E E2 : XK} (h : PostG T S rel r Qv E) (hq : ∀ v H, Qv v H → Q2 v H) (he : ∀ cl dd H, E cl dd H → E2 cl dd H) : PostG T S rel r Q2 E2 := by
  cases r with
  | ok d c =>
    have h : ∀ S' v, Good T S' → S'.c = c → Ext T S S' → rel S' v d → Qv v S'.H := h
    exact fun S' v g hc x a => hq _ _ (h S' v g hc x a)
  | err x c =>
    have h : ∀ S' cls dd, Good T S' → S'.c = c → Ext T S S' → ExAt T S' cls dd x → E cls dd S'.H := h
    exact fun S' cls dd g hc y a => he _ _ _ (h S' cls dd g hc y a)
  | stk => exact h
theorem post_bind {a b a2 b2 : Type} {T : Wd} {S : Sta} {rel : Sta → b → a → Prop} {rel2 : Sta → b2 → a2 → Prop} {r : R a} {k : a → Cells → R a2} {Qv : b2 → Hp → Prop} {Q2 : b → Hp → Prop} {E : XK} (h : PostG T S rel2 (r.bind k) Qv E)
    (h2 : ∀ d S1 v, r = .ok d S1.c → Good T S1 → Ext T S S1 → rel S1 v d → PostG T S1 rel2 (k d S1.c) Qv E → Q2 v S1.H) : PostG T S rel r Q2 E := by
  cases r with
  | ok d c =>
    have h : PostG T S rel2 (k d c) Qv E := h
    intro S1 v g hc x a
    subst hc
    exact h2 d S1 v rfl g x a (PostG.ext x h)
  | err x c =>
    have h : PostG T S rel2 (.err x c) Qv E := h
    exact h
  | stk =>
    have h : PostG T S rel2 .stk Qv E := h
    exact h
/-- without errors -/
abbrev O := Option (D × Cells)
def O.r (o : O) : R D := match o with
  | some (d, c) => .ok d c
  | none => .stk
def PostO (T : Wd) (S : Sta) (o : O) (Qv : VK) : Prop := match o with
  | some (d, c) => ∀ S' v, Good T S' → S'.c = c → Ext T S S' → At T S' v d → Qv v S'.H
  | none => False
theorem PostG.o {T : Wd} {S : Sta} {o : O} {Qv : VK} {E : XK} (h : Post T S o.r Qv E) : PostO T S o Qv := by
  cases o with
  | none => exact h
  | some p => exact h

/-! ### expressions, tests, arguments -/
abbrev Env := List (Option D)
structure EnvAt (T : Wd) (S : Sta) (sg : L2.St) (env : Env) : Prop where
  len : sg.length = env.length
  get : ∀ (i : Nat) (d : D), env[i]? = some (some d) → ∃ v, sg[i]? = some (some v) ∧ At T S v d
theorem EnvAt.ext {T : Wd} {S S' : Sta} {sg : L2.St} {env : Env} (h : EnvAt T S sg env) (e : Ext T S S') : EnvAt T S' sg env :=
  ⟨h.len, fun i d q => let ⟨v, a, b⟩ := h.get i d q; ⟨v, a, e.keep v d b⟩⟩
theorem EnvAt.set {T : Wd} {S : Sta} {sg : L2.St} {env : Env} (h : EnvAt T S sg env) (i : Nat) {v : V} {d : D} (a : At T S v d) : EnvAt T S (sg.set i (some v)) (env.set i (some d)) := by
  refine ⟨by rw [List.length_set, List.length_set, h.len], fun j e q => ?_⟩
  by_cases hj : i = j
  · subst hj
    have hl : i < env.length := by
      have z := (List.getElem?_eq_some_iff.mp q).1
      rwa [List.length_set] at z
    rw [List.getElem?_set_self hl] at q
    rw [List.getElem?_set_self (by rw [h.len]; exact hl)]
    cases q
    exact ⟨v, rfl, a⟩
  · rw [List.getElem?_set_ne hj] at q ⊢
    exact h.get j e q
abbrev wd (X : Cx) : Wd := ⟨X.K, X.mg⟩
abbrev ME := Env → Cells → R D
abbrev MB := Env → Cells → R Bool
abbrev ML := Env → Cells → R (List D)
abbrev WE (W : WX) (sg : L2.St) : XK := fun cl dd H => W cl dd sg H
/-- the functional reading of an expression -/
def SE (X : Cx) (W : WX) (e : Expr) (m : ME) : Prop :=
  ∃ t, PE X e t ∧ ∀ S sg env Qv, Good (wd X) S → EnvAt (wd X) S sg env → Post (wd X) S (m env S.c) Qv (WE W sg) → t sg S.H Qv
def ST (X : Cx) (W : WX) (e : Expr) (m : MB) : Prop :=
  ∃ t, PT X e t ∧ ∀ S sg env Qv, Good (wd X) S → EnvAt (wd X) S sg env → PostG (wd X) S (relE Bool) (m env S.c) Qv (WE W sg) → t sg S.H Qv
def SW (X : Cx) (W : WX) (e : Expr) (m : MB) : Prop :=
  ∃ t, PW X e t ∧ ∀ S sg env Qv, Good (wd X) S → EnvAt (wd X) S sg env → PostG (wd X) S (relE Bool) (m env S.c) Qv (WE W sg) → t sg S.H Qv
def SA (X : Cx) (W : WX) (es : List Expr) (m : ML) : Prop :=
  ∃ t, PA X es t ∧ ∀ S sg env Qv, Good (wd X) S → EnvAt (wd X) S sg env → PostG (wd X) S (AtL (wd X)) (m env S.c) Qv (WE W sg) → t sg S.H Qv
/-! ### keeping -/
mutual
theorem at_keep {T : Wd} {S S' : Sta} (hr : ∀ (i : Nat) (a : Addr), S.r[i]? = some a → S'.r[i]? = some a) (hn : ∀ a o, a ∉ S.r → a ∉ S.x → S.H a = some o → (∀ ps, o ≠ .tbl ps) → a ∉ S'.r ∧ a ∉ S'.x ∧ S'.H a = some o) : ∀ (v : V) (d : D), At T S v d → At T S' v d
  | v, .non, h => h
  | v, .bl b, h => h
  | v, .int i, h => h
  | v, .str x, h => h
  | v, .cell i, h => by
    obtain ⟨a, e, h⟩ : ∃ a, v = .ref a ∧ S.r[i]? = some a := h
    exact ⟨a, e, hr i a h⟩
  | v, .fn f c q xs ds, h => by
    obtain ⟨e, ⟨n, nx, h⟩, l⟩ : v = .ref f ∧ (c ∉ S.r ∧ c ∉ S.x ∧ S.H c = some (LamX.CodeO c q)) ∧ AtL T S xs ds := h
    exact ⟨e, hn c _ n nx h LamX.codeO_ne, atL_keep hr hn xs ds l⟩
  | v, .nod t ds, h => by
    obtain ⟨a, xs, e, q, l⟩ : ∃ a xs, v = .ref a ∧ ((a ∉ S.r ∧ a ∉ S.x ∧ Hold T S.H a xs t) ∨ HoldK T a xs t) ∧ AtL T S xs ds := h
    refine ⟨a, xs, e, ?_, atL_keep hr hn xs ds l⟩
    rcases q with ⟨n, nx, q⟩ | q
    · left
      cases t with
      | lst => exact hn a _ n nx q (by intro _ z; cases z)
      | tup => exact hn a _ n nx q (by intro _ z; cases z)
      | frl =>
        obtain ⟨o, q⟩ := q
        exact ⟨(hn a _ n nx q (by intro _ z; cases z)).1, (hn a _ n nx q (by intro _ z; cases z)).2.1, o, (hn a _ n nx q (by intro _ z; cases z)).2.2⟩
      | dic ks =>
        obtain ⟨z, q⟩ := q
        exact ⟨(hn a _ n nx q (by intro _ z; cases z)).1, (hn a _ n nx q (by intro _ z; cases z)).2.1, z, (hn a _ n nx q (by intro _ z; cases z)).2.2⟩
      | dit ks =>
        obtain ⟨z, q⟩ := q
        exact ⟨(hn a _ n nx q (by intro _ z; cases z)).1, (hn a _ n nx q (by intro _ z; cases z)).2.1, z, (hn a _ n nx q (by intro _ z; cases z)).2.2⟩
      | obj C ks =>
        obtain ⟨z, Ca, dx, g, q⟩ := q
        exact ⟨(hn a _ n nx q (by intro _ z; cases z)).1, (hn a _ n nx q (by intro _ z; cases z)).2.1, z, Ca, dx, g, (hn a _ n nx q (by intro _ z; cases z)).2.2⟩
      | xdc ks =>
        obtain ⟨z, q⟩ := q
        exact ⟨(hn a _ n nx q (by intro _ z; cases z)).1, (hn a _ n nx q (by intro _ z; cases z)).2.1, z, (hn a _ n nx q (by intro _ z; cases z)).2.2⟩
    · exact .inr q
theorem atL_keep {T : Wd} {S S' : Sta} (hr : ∀ (i : Nat) (a : Addr), S.r[i]? = some a → S'.r[i]? = some a) (hn : ∀ a o, a ∉ S.r → a ∉ S.x → S.H a = some o → (∀ ps, o ≠ .tbl ps) → a ∉ S'.r ∧ a ∉ S'.x ∧ S'.H a = some o) : ∀ (xs : List V) (ds : List D), AtL T S xs ds → AtL T S' xs ds
  | [], [], h => h
  | x :: xs, d :: ds, h => by
    obtain ⟨h1, h2⟩ : At T S x d ∧ AtL T S xs ds := h
    exact ⟨at_keep hr hn x d h1, atL_keep hr hn xs ds h2⟩
  | _ :: _, [], h => h
  | [], _ :: _, h => h
end
theorem ext_of {T : Wd} {S S' : Sta} (hp : S.r <+: S'.r) (hx : S'.x = S.x) (hh : ∀ a ∈ S.x, S'.H a = S.H a) (hn : ∀ a o, a ∉ S.r → a ∉ S.x → S.H a = some o → (∀ ps, o ≠ .tbl ps) → a ∉ S'.r ∧ a ∉ S'.x ∧ S'.H a = some o) : Ext T S S' :=
  ⟨hp, fun v d h => at_keep (fun i a e => by
    obtain ⟨t, ht⟩ := hp
    rw [← ht, List.getElem?_append_left (List.getElem?_eq_some_iff.mp e).1]
    exact e) hn v d h, hx, hh⟩
theorem mu_code {c : Addr} {q : Str} : ¬ Mu c (some (LamX.CodeO c q)) := fun ⟨h, o, ⟨oc, vs, t, h1, h2, _⟩, h3, h4⟩ => by
  rw [h1] at h3
  cases h3
  exact h4 vs h2
theorem tabs_upd {H : Hp} {p : Addr} {o : HO} {l : List (Addr × Str)} (h : LamX.Tabs l H) (m : H p = none ∨ Mu p (H p)) : LamX.Tabs l (upd H p o) := fun q hq => by
  obtain ⟨ps, h1, h2, h3⟩ := h q hq
  have k : ∀ b u, H b = some u → ((∃ ps, u = .tbl ps) ∨ ∃ r, u = LamX.CodeO b r) → b ≠ p := fun b u e z y => by
    subst y
    rcases m with m | m
    · rw [m] at e
      cases e
    · rw [e] at m
      rcases z with ⟨_, rfl⟩ | ⟨_, rfl⟩
      · exact m
      · obtain ⟨h, o, ⟨oc, vs, t, h1, h2, _⟩, h3, h4⟩ := m
        rw [h1] at h3
        cases h3
        exact h4 vs h2
  refine ⟨ps, (upd_ne (k _ _ h1 (.inl ⟨_, rfl⟩))).trans h1, h2, fun pos cv hc => ?_⟩
  obtain ⟨c, e1, e2⟩ := h3 pos cv hc
  exact ⟨c, e1, (upd_ne (k _ _ e2 (.inr ⟨_, rfl⟩))).trans e2⟩
theorem Good.there {T : Wd} {S : Sta} (g : Good T S) {a : Addr} (h : a ∈ S.r) : ∃ o, S.H a = some o ∧ Mu a (some o) := by
  obtain ⟨i, hi⟩ := List.getElem?_of_mem h
  have hl : i < S.c.length := by
    rw [← g.len]
    exact (List.getElem?_eq_some_iff.mp hi).1
  obtain ⟨xs, _, m, _⟩ := g.at' i a S.c[i] hi (List.getElem?_eq_getElem hl)
  cases e : S.H a with
  | none => rw [e] at m; exact m.elim
  | some o => exact ⟨o, rfl, by rw [e] at m; exact m⟩
theorem Good.fresh {T : Wd} {S : Sta} (g : Good T S) {p : Addr} (h : S.H p = none) : p ∉ S.r := fun hm => by
  obtain ⟨o, e, _⟩ := g.there hm
  rw [h] at e
  cases e
theorem Good.freshX {T : Wd} {S : Sta} (g : Good T S) {p : Addr} (h : S.H p = none) : p ∉ S.x := fun hm => by
  obtain ⟨_, o, e, mu⟩ := g.hid p hm
  rw [h] at e
  cases e
/-- a new object -/
def Sta.put (S : Sta) (p : Addr) (o : HO) : Sta := { S with H := upd S.H p o }
theorem Sta.ext_put {T : Wd} {S : Sta} {p : Addr} {o : HO} (g : Good T S) (h : S.H p = none) : Ext T S (S.put p o) :=
  ext_of (List.prefix_refl _) rfl (fun a ha => by
    obtain ⟨_, u, e, mu⟩ := g.hid a ha
    exact upd_ne (ne_of_none e h)) fun a u n nx e _ => ⟨n, nx, by
    show upd S.H p o a = some u
    rw [upd_ne (ne_of_none e h)]
    exact e⟩
theorem hold_ne {T : Wd} {H H' : Hp} {a : Addr} {xs : List V} {t : Tg} (h : Hold T H a xs t) (e : H' a = H a) : Hold T H' a xs t := by
  cases t with
  | lst => exact e.trans h
  | tup => exact e.trans h
  | frl => obtain ⟨o, h⟩ := h; exact ⟨o, e.trans h⟩
  | dic ks => obtain ⟨z, h⟩ := h; exact ⟨z, e.trans h⟩
  | dit ks => obtain ⟨z, h⟩ := h; exact ⟨z, e.trans h⟩
  | obj C ks => obtain ⟨z, Ca, dx, g, h⟩ := h; exact ⟨z, Ca, dx, g, e.trans h⟩
  | xdc ks => obtain ⟨z, h⟩ := h; exact ⟨z, e.trans h⟩
theorem Good.put {T : Wd} {S : Sta} {p : Addr} {o : HO} (g : Good T S) (h : S.H p = none) : Good T (S.put p o) := by
  refine ⟨g.len, g.nd, fun a ha => ?_, fun i a cl hr hc => ?_, tabs_upd g.tab (.inl h)⟩
  · obtain ⟨n, u, e, mu⟩ := g.hid a ha
    refine ⟨n, u, ?_, mu⟩
    show upd S.H p o a = some u
    rw [upd_ne (ne_of_none e h)]
    exact e
  · obtain ⟨xs, hh, m, l⟩ := g.at' i a cl hr hc
    obtain ⟨u, eu, _⟩ := g.there (List.mem_of_getElem? hr)
    have en : (S.put p o).H a = S.H a := upd_ne (ne_of_none eu h)
    exact ⟨xs, hold_ne hh en, by rw [en]; exact m, (Sta.ext_put g h).list l⟩
/-- a new mutable object -/
def Sta.add (S : Sta) (p : Addr) (o : HO) (cl : Cl) : Sta := ⟨upd S.H p o, S.r ++ [p], S.c ++ [cl], S.x⟩
theorem Sta.ext_add {T : Wd} {S : Sta} {p : Addr} {o : HO} {cl : Cl} (g : Good T S) (h : S.H p = none) : Ext T S (S.add p o cl) :=
  ext_of ⟨[p], rfl⟩ rfl (fun a ha => by
    obtain ⟨_, u, e, mu⟩ := g.hid a ha
    exact upd_ne (ne_of_none e h)) fun a u n nx e _ => by
    have ne : a ≠ p := ne_of_none e h
    refine ⟨fun hm => ?_, nx, ?_⟩
    · rcases List.mem_append.mp hm with z | z
      · exact n z
      · exact ne (by simpa using z)
    · show upd S.H p o a = some u
      rw [upd_ne ne]
      exact e
theorem Good.add {T : Wd} {S : Sta} {p : Addr} {o : HO} {cl : Cl} {xs : List V} (g : Good T S) (h : S.H p = none) (hh : Hold T (upd S.H p o) p xs cl.1) (m : Mu p (some o)) (l : AtL T S xs cl.2) : Good T (S.add p o cl) := by
  have fr := g.fresh h
  have frx := g.freshX h
  refine ⟨by show (S.r ++ [p]).length = (S.c ++ [cl]).length; simp [g.len], ?_, fun a ha => ?_, fun i a cl' hr hc => ?_, tabs_upd g.tab (.inl h)⟩
  · show (S.r ++ [p]).Nodup
    rw [List.nodup_append]
    refine ⟨g.nd, by simp, fun a ha b hb e => ?_⟩
    have eb : b = p := by simpa using hb
    rw [e, eb] at ha
    exact fr ha
  · obtain ⟨n, u, e, mu⟩ := g.hid a ha
    have ne : a ≠ p := ne_of_none e h
    refine ⟨fun hm => ?_, u, ?_, mu⟩
    · rcases List.mem_append.mp hm with z | z
      · exact n z
      · exact ne (by simpa using z)
    · show upd S.H p o a = some u
      rw [upd_ne ne]
      exact e
  · by_cases hi : i < S.r.length
    · have hr' : S.r[i]? = some a := by
        rw [← hr]
        exact (List.getElem?_append_left hi).symm
      have hc' : S.c[i]? = some cl' := by
        rw [← hc]
        exact (List.getElem?_append_left (by rw [← g.len]; exact hi)).symm
      obtain ⟨ys, hy, m', l'⟩ := g.at' i a cl' hr' hc'
      obtain ⟨u, eu, _⟩ := g.there (List.mem_of_getElem? hr')
      have en : (S.add p o cl).H a = S.H a := upd_ne (ne_of_none eu h)
      exact ⟨ys, hold_ne hy en, by rw [en]; exact m', (Sta.ext_add g h).list l'⟩
    · have hr2 : (S.r ++ [p])[i]? = some a := hr
      have hc2 : (S.c ++ [cl])[i]? = some cl' := hc
      rw [List.getElem?_append_right (by omega)] at hr2
      rw [List.getElem?_append_right (by rw [← g.len]; omega)] at hc2
      have e0 : i - S.r.length = 0 := by
        cases k : i - S.r.length with
        | zero => rfl
        | succ k' => rw [k] at hr2; simp at hr2
      have e1 : i - S.c.length = 0 := by rw [← g.len]; exact e0
      rw [e0] at hr2
      rw [e1] at hc2
      have ea : p = a := by simpa using hr2
      have ec : cl = cl' := by simpa using hc2
      subst ea ec
      refine ⟨xs, hh, ?_, (Sta.ext_add g h).list l⟩
      show Mu p (upd S.H p o p)
      rw [upd_same]
      exact m
/-- a mutable object changes -/
def Sta.set (S : Sta) (i : Nat) (p : Addr) (o : HO) (cl : Cl) : Sta := ⟨upd S.H p o, S.r, S.c.set i cl, S.x⟩
theorem Sta.ext_set {T : Wd} {S : Sta} {i : Nat} {p : Addr} {o : HO} {cl : Cl} (g : Good T S) (h : S.r[i]? = some p) : Ext T S (S.set i p o cl) :=
  ext_of (List.prefix_refl _) rfl (fun a ha => upd_ne (fun z => (g.hid a ha).1 (by rw [z]; exact List.mem_of_getElem? h))) fun a u n nx e _ => ⟨n, nx, by
    show upd S.H p o a = some u
    rw [upd_ne (fun z => n (by rw [z]; exact List.mem_of_getElem? h))]
    exact e⟩
theorem Good.set {T : Wd} {S : Sta} {i : Nat} {p : Addr} {o : HO} {cl : Cl} {xs : List V} (g : Good T S) (h : S.r[i]? = some p) (hh : Hold T (upd S.H p o) p xs cl.1) (m : Mu p (some o)) (l : AtL T S xs cl.2) : Good T (S.set i p o cl) := by
  have hp : p ∈ S.r := List.mem_of_getElem? h
  refine ⟨by show S.r.length = (S.c.set i cl).length; simp [g.len], g.nd, fun a ha => ?_, fun j a cl' hr hc => ?_, tabs_upd g.tab (.inr (by obtain ⟨o, e, m⟩ := g.there hp; rw [e]; exact m))⟩
  · obtain ⟨n, u, e, mu⟩ := g.hid a ha
    exact ⟨n, u, (upd_ne (fun z => n (by rw [z]; exact hp))).trans e, mu⟩
  have hil : i < S.c.length := by rw [← g.len]; exact (List.getElem?_eq_some_iff.mp h).1
  have hr2 : S.r[j]? = some a := hr
  by_cases e : j = i
  · subst e
    have ea : p = a := Option.some.inj (h.symm.trans hr2)
    subst ea
    have hc2 : (S.c.set j cl)[j]? = some cl' := hc
    rw [List.getElem?_set_self hil] at hc2
    cases hc2
    refine ⟨xs, hh, ?_, (Sta.ext_set g h).list l⟩
    show Mu p (upd S.H p o p)
    rw [upd_same]
    exact m
  · have hc2 : (S.c.set i cl)[j]? = some cl' := hc
    rw [List.getElem?_set_ne (Ne.symm e)] at hc2
    obtain ⟨ys, hy, m', l'⟩ := g.at' j a cl' hr2 hc2
    have ne : a ≠ p := fun z => by
      subst z
      obtain ⟨h1, e1⟩ := List.getElem?_eq_some_iff.mp h
      obtain ⟨h2, e2⟩ := List.getElem?_eq_some_iff.mp hr2
      exact e ((List.getElem_inj g.nd).mp (e2.trans e1.symm))
    have en : (S.set i p o cl).H a = S.H a := upd_ne ne
    exact ⟨ys, hold_ne hy en, by rw [en]; exact m', (Sta.ext_set g h).list l'⟩
/-- an object hidden: no datum has it -/
def Sta.hide (S : Sta) (p : Addr) (o : HO) : Sta := { S with H := upd S.H p o, x := p :: S.x }
theorem Good.hide {T : Wd} {S : Sta} {p : Addr} {o : HO} (g : Good T S) (h : S.H p = none) (m : Mu p (some o)) : Good T (S.hide p o) ∧ ∀ v d, At T S v d → At T (S.hide p o) v d := by
  have k : ∀ v d, At T S v d → At T (S.hide p o) v d := fun v d a => at_keep (S := S) (S' := S.hide p o) (fun _ _ e => e) (fun a u n nx e _ => ⟨n, fun hm => by
    rcases List.mem_cons.mp hm with z | z
    · rw [z, h] at e
      cases e
    · exact nx z, by
    show upd S.H p o a = some u
    rw [upd_ne (ne_of_none e h)]
    exact e⟩) v d a
  refine ⟨⟨g.len, g.nd, fun a ha => ?_, fun i a cl hr hc => ?_, tabs_upd g.tab (.inl h)⟩, k⟩
  · rcases List.mem_cons.mp (show a ∈ p :: S.x from ha) with z | z
    · subst z
      exact ⟨g.fresh h, o, upd_same, m⟩
    · obtain ⟨n, u, e, mu⟩ := g.hid a z
      exact ⟨n, u, (upd_ne (ne_of_none e h)).trans e, mu⟩
  · obtain ⟨xs, hh, m, l⟩ := g.at' i a cl hr hc
    obtain ⟨u, eu, _⟩ := g.there (List.mem_of_getElem? hr)
    have en : (S.hide p o).H a = S.H a := upd_ne (ne_of_none eu h)
    exact ⟨xs, hold_ne hh en, by rw [en]; exact m, atL_of k l⟩
/-- a hidden object changes -/
def Sta.seth (S : Sta) (p : Addr) (o : HO) : Sta := { S with H := upd S.H p o }
theorem Good.seth {T : Wd} {S : Sta} {p : Addr} {o : HO} (g : Good T S) (h : p ∈ S.x) (m : Mu p (some o)) : Good T (S.seth p o) ∧ ∀ v d, At T S v d → At T (S.seth p o) v d := by
  have k : ∀ v d, At T S v d → At T (S.seth p o) v d := fun v d a => at_keep (S := S) (S' := S.seth p o) (fun _ _ e => e) (fun a u n nx e _ => ⟨n, nx, by
    show upd S.H p o a = some u
    rw [upd_ne (fun z => nx (by rw [z]; exact h))]
    exact e⟩) v d a
  refine ⟨⟨g.len, g.nd, fun a ha => ?_, fun i a cl hr hc => ?_, tabs_upd g.tab (.inr (by obtain ⟨_, u, e, mu⟩ := g.hid p h; rw [e]; exact mu))⟩, k⟩
  · obtain ⟨n, u, e, mu⟩ := g.hid a ha
    by_cases z : a = p
    · subst z
      exact ⟨n, o, upd_same, m⟩
    · exact ⟨n, u, (upd_ne z).trans e, mu⟩
  · obtain ⟨xs, hh, m, l⟩ := g.at' i a cl hr hc
    have ne : a ≠ p := fun z => (g.hid p h).1 (by rw [← z]; exact List.mem_of_getElem? hr)
    have en : (S.seth p o).H a = S.H a := upd_ne ne
    exact ⟨xs, hold_ne hh en, by rw [en]; exact m, atL_of k l⟩
/-- a hidden object is told -/
def Sta.tell (S : Sta) (l : List Addr) : Sta := { S with x := l }
theorem at_tell {T : Wd} {S : Sta} {l : List Addr} (hs : ∀ a ∈ l, a ∈ S.x) : ∀ v d, At T S v d → At T (S.tell l) v d :=
  fun v d a => at_keep (S := S) (S' := S.tell l) (fun _ _ e => e) (fun a u n nx e _ => ⟨n, fun hm => nx (hs a hm), e⟩) v d a
theorem Good.tell {T : Wd} {S : Sta} {l : List Addr} (g : Good T S) (hs : ∀ a ∈ l, a ∈ S.x) : Good T (S.tell l) :=
  ⟨g.len, g.nd, fun a ha => g.hid a (hs a ha), fun i a cl hr hc => by
    obtain ⟨xs, hh, m, l'⟩ := g.at' i a cl hr hc
    exact ⟨xs, hh, m, atL_of (at_tell hs) l'⟩, g.tab⟩
/-! ### what a value is, seen through cells -/
def view (c : Cells) : D → Option Cl
  | .nod t ds => some (t, ds)
  | .cell i => c[i]?
  | _ => none
theorem view_at {T : Wd} {S : Sta} {v : V} {d : D} {t : Tg} {ds : List D} (g : Good T S) (h : At T S v d) (e : view S.c d = some (t, ds)) : ∃ a xs, v = .ref a ∧ (Hold T S.H a xs t ∨ HoldK T a xs t) ∧ AtL T S xs ds := by
  cases d with
  | nod t' ds' =>
    cases e
    obtain ⟨a, xs, e, q, l⟩ : ∃ a xs, v = .ref a ∧ ((a ∉ S.r ∧ a ∉ S.x ∧ Hold T S.H a xs t) ∨ HoldK T a xs t) ∧ AtL T S xs ds := h
    exact ⟨a, xs, e, q.imp (·.2.2) id, l⟩
  | cell i =>
    obtain ⟨a, e1, h⟩ : ∃ a, v = .ref a ∧ S.r[i]? = some a := h
    obtain ⟨xs, hh, _, l⟩ := g.at' i a (t, ds) h e
    exact ⟨a, xs, e1, .inl hh, l⟩
  | _ => exact nomatch e
theorem hold_L {T : Wd} {H : Hp} {a : Addr} {xs : List V} (h : Hold T H a xs .lst ∨ HoldK T a xs .lst) : H a = some (.lst xs) := h.elim id False.elim
theorem hold_F {T : Wd} {H : Hp} {a : Addr} {xs : List V} (h : Hold T H a xs .frl ∨ HoldK T a xs .frl) : SqL T.K H a xs := by
  rcases h with ⟨o, q⟩ | q
  · exact .inl (.inr ⟨o, q⟩)
  · exact .inr q
theorem hold_T {T : Wd} {H : Hp} {a : Addr} {xs : List V} (h : Hold T H a xs .tup ∨ HoldK T a xs .tup) : SqT T.K H a xs := h.imp (fun q => .inl q) id
end Q
end
section
set_option Elab.async false
set_option linter.all false
set_option maxRecDepth 100000
namespace Q
open PySem PySem.Spec L2
variable [Tb]
section
variable {X : Cx} {W : WX} {e a b c : Expr} {pos : Pos} {m ma mb mc : ME}
/-! ### names, constants -/
def mVar (i : Nat) : ME := fun env c => match env[i]? with
  | some (some d) => .ok d c
  | _ => .stk
theorem se_var {i : Nat} {x : Str} (h : PE X (.Name x pos) (tVar i)) : SE X W (.Name x pos) (mVar i) := by
  refine ⟨_, h, fun S sg env Qv g en p => ?_⟩
  unfold mVar at p
  split at p
  · rename_i d q
    obtain ⟨v, e, av⟩ := en.get i d q
    exact ⟨v, e, p S v g rfl .refl av⟩
  · exact p.elim
def mC (d : D) : ME := fun _ c => .ok d c
theorem se_int {i : Int} {j} : SE X W (.Constant (.int i) j pos) (mC (.int i)) := ⟨_, pe_int, fun S _ _ _ g _ p => p S (.int i) g rfl .refl rfl⟩
theorem se_bl {i : Bool} {j} : SE X W (.Constant (.bool i) j pos) (mC (.bl i)) := ⟨_, pe_bl, fun S _ _ _ g _ p => p S (.bl i) g rfl .refl rfl⟩
theorem se_non {j} : SE X W (.Constant .none j pos) (mC .non) := ⟨_, pe_non, fun S _ _ _ g _ p => p S .non g rfl .refl rfl⟩
theorem se_str {x : Str} {j} : SE X W (.Constant (.str x) j pos) (mC (.str x)) := ⟨_, pe_str, fun S _ _ _ g _ p => p S (.str x) g rfl .refl rfl⟩
/-- a module's constant that is an int or a text -/
theorem se_glob {x : Str} {d : D} {v : V} (h : PE X (.Name x pos) (tC v)) (hv : ∀ T S, At T S v d) : SE X W (.Name x pos) (mC d) := ⟨_, h, fun S _ _ _ g _ p => p S v g rfl .refl (hv _ _)⟩
/-- a module's constant that is a tuple of the written part -/
def KTup (T : Wd) (v : V) (d : D) : Prop := ∀ S, At T S v d
theorem se_globK {x : Str} {d : D} {v : V} (h : PE X (.Name x pos) (tC v)) (hv : KTup (wd X) v d) : SE X W (.Name x pos) (mC d) := ⟨_, h, fun S _ _ _ g _ p => p S v g rfl .refl (hv S)⟩

/-! ### operators -/
def OpS (T : Wd) (r : R2) (f : D → D → Cells → O) : Prop := ∀ S x y dx dy Qv, Good T S → At T S x dx → At T S y dy → PostO T S (f dx dy S.c) Qv → r x y S.H Qv
def UnS (T : Wd) (r : V → Hp → VK → Prop) (f : D → Cells → O) : Prop := ∀ S x dx Qv, Good T S → At T S x dx → PostO T S (f dx S.c) Qv → r x S.H Qv
def CaS (T : Wd) (r : List V → Hp → VK → Prop) (f : List D → Cells → O) : Prop := ∀ S xs ds Qv, Good T S → AtL T S xs ds → PostO T S (f ds S.c) Qv → r xs S.H Qv
def m2 (f : D → D → Cells → O) (ma mb : ME) : ME := fun env c => (ma env c).bind fun x c => (mb env c).bind fun y c => (f x y c).r
def m1 (f : D → Cells → O) (ma : ME) : ME := fun env c => (ma env c).bind fun x c => (f x c).r
theorem run2 {ta tb : TE} {r : R2} {f : D → D → Cells → O} (hs : OpS (wd X) r f) (qa : ∀ S sg env Qv, Good (wd X) S → EnvAt (wd X) S sg env → Post (wd X) S (ma env S.c) Qv (WE W sg) → ta sg S.H Qv)
    (qb : ∀ S sg env Qv, Good (wd X) S → EnvAt (wd X) S sg env → Post (wd X) S (mb env S.c) Qv (WE W sg) → tb sg S.H Qv) :
    ∀ S sg env Qv, Good (wd X) S → EnvAt (wd X) S sg env → Post (wd X) S (m2 f ma mb env S.c) Qv (WE W sg) → tOp r ta tb sg S.H Qv := by
  intro S sg env Qv g en p
  refine qa S sg env _ g en (post_bind p fun x S1 v e1 g1 x1 a1 p1 => ?_)
  refine qb S1 sg env _ g1 (en.ext x1) (post_bind p1 fun y S2 u e2 g2 x2 a2 p2 => ?_)
  exact hs S2 v u x y Qv g2 (x2.keep _ _ a1) a2 p2.o
/-- an operation of values that does what f says -/
def OpF (X : Cx) (fn : Value → Value → Sem Value) (f : D → D → Cells → O) : Prop := ∃ r, OpR X fn r ∧ OpS (wd X) r f
def UnF (X : Cx) (fn : Value → Sem Value) (f : D → Cells → O) : Prop := ∃ r, UnR X fn r ∧ UnS (wd X) r f
def CaF (X : Cx) (fn : Value) (f : List D → Cells → O) : Prop := ∃ r, CallR X fn r ∧ CaS (wd X) r f
theorem se_op {op : Operator} {f : D → D → Cells → O} (h : OpF X (binaryOp op) f) (ha : SE X W a ma) (hb : SE X W b mb) : SE X W (.BinOp a op b pos) (m2 f ma mb) := by
  obtain ⟨r, ho, hs⟩ := h
  obtain ⟨ta, pa, qa⟩ := ha
  obtain ⟨tb, pb, qb⟩ := hb
  exact ⟨_, pe_op ho pa pb, run2 hs qa qb⟩
theorem se_un {op : UnaryOp} {f : D → Cells → O} (h : UnF X (unaryOp op) f) (ha : SE X W a ma) : SE X W (.UnaryOp op a pos) (m1 f ma) := by
  obtain ⟨r, ho, hs⟩ := h
  obtain ⟨ta, pa, qa⟩ := ha
  refine ⟨_, pe_un ho pa, fun S sg env Qv g en p => ?_⟩
  refine qa S sg env _ g en (post_bind p fun x S1 v e1 g1 x1 a1 p1 => ?_)
  exact hs S1 v x Qv g1 a1 p1.o
def orO (f f' : D → D → Cells → O) : D → D → Cells → O := fun x y c => match f x y c with
  | some q => some q
  | none => f' x y c
theorem OpF.or {fn : Value → Value → Sem Value} {f f' : D → D → Cells → O} (h : OpF X fn f) (h' : OpF X fn f') : OpF X fn (orO f f') := by
  obtain ⟨r, h1, h2⟩ := h
  obtain ⟨r', h1', h2'⟩ := h'
  refine ⟨fun x y H Qv => r x y H Qv ∨ r' x y H Qv, fun pins s sg H x y v u Qv I rx ry q => ?_, fun S x y dx dy Qv g ax ay p => ?_⟩
  · rcases q with q | q
    · exact h1 pins s sg H x y v u Qv I rx ry q
    · exact h1' pins s sg H x y v u Qv I rx ry q
  · unfold orO at p
    split at p
    · rename_i q e
      refine .inl (h2 S x y dx dy Qv g ax ay ?_)
      rw [e]
      exact p
    · exact .inr (h2' S x y dx dy Qv g ax ay p)
def orC (f f' : List D → Cells → O) : List D → Cells → O := fun x c => match f x c with
  | some q => some q
  | none => f' x c
theorem CaF.or {fn : Value} {f f' : List D → Cells → O} (h : CaF X fn f) (h' : CaF X fn f') : CaF X fn (orC f f') := by
  obtain ⟨r, h1, h2⟩ := h
  obtain ⟨r', h1', h2'⟩ := h'
  refine ⟨fun xs H Qv => r xs H Qv ∨ r' xs H Qv, fun pins s sg H xs us Qv I rx q => ?_, fun S xs ds Qv g ax p => ?_⟩
  · rcases q with q | q
    · exact h1 pins s sg H xs us Qv I rx q
    · exact h1' pins s sg H xs us Qv I rx q
  · unfold orC at p
    split at p
    · rename_i q e
      refine .inl (h2 S xs ds Qv g ax ?_)
      rw [e]
      exact p
    · exact .inr (h2' S xs ds Qv g ax p)
theorem PostO.some {T : Wd} {S : Sta} {o : O} {Qv : VK} (h : PostO T S o Qv) : ∃ d c, o = some (d, c) ∧ ∀ S' v, Good T S' → S'.c = c → Ext T S S' → At T S' v d → Qv v S'.H := by
  cases o with
  | none => exact False.elim h
  | some p => exact ⟨p.1, p.2, rfl, h⟩
/-- two ints to a value -/
def fI (C : Int → Int → Bool) (k : Int → Int → D) : D → D → Cells → O
  | .int i, .int j, c => if C i j then some (k i j, c) else none
  | _, _, _ => none
theorem fI_inv {C : Int → Int → Bool} {k : Int → Int → D} {x y d : D} {c c' : Cells} (h : fI C k x y c = some (d, c')) : ∃ i j, x = .int i ∧ y = .int j ∧ C i j = true ∧ d = k i j ∧ c' = c := by
  unfold fI at h
  split at h
  · rename_i i j
    split at h
    · rename_i hc
      cases h
      exact ⟨i, j, rfl, rfl, hc, rfl, rfl⟩
    · cases h
  · cases h
theorem fI_ok {fn : Value → Value → Sem Value} {C : Int → Int → Prop} {Cb : Int → Int → Bool} {k : Int → Int → V} {kd : Int → Int → D} (ho : OpR X fn (rI C k)) (hC : ∀ i j, Cb i j = true → C i j) (hk : ∀ S i j, At (wd X) S (k i j) (kd i j)) : OpF X fn (fI Cb kd) := by
  refine ⟨_, ho, ?_⟩
  intro S x y dx dy Qv g ax ay p
  obtain ⟨d, c, e, q⟩ := p.some
  obtain ⟨i, j, rfl, rfl, hc, rfl, rfl⟩ := fI_inv e
  exact ⟨i, j, ax, ay, hC i j hc, q S (k i j) g rfl .refl (hk S i j)⟩
theorem fI_ok0 {fn : Value → Value → Sem Value} {k : Int → Int → V} {kd : Int → Int → D} (ho : OpR X fn (rI0 k)) (hk : ∀ S i j, At (wd X) S (k i j) (kd i j)) : OpF X fn (fI (fun _ _ => true) kd) := by
  refine ⟨_, ho, ?_⟩
  intro S x y dx dy Qv g ax ay p
  obtain ⟨d, c, e, q⟩ := p.some
  obtain ⟨i, j, rfl, rfl, hc, rfl, rfl⟩ := fI_inv e
  exact ⟨i, j, ax, ay, q S (k i j) g rfl .refl (hk S i j)⟩
/-- an object made: a tree -/
theorem made {T : Wd} {S : Sta} {p : Addr} {o : HO} {xs : List V} {ds : List D} {t : Tg} {Qv : VK} (g : Good T S) (hp : S.H p = none) (l : AtL T S xs ds) (hh : Hold T (upd S.H p o) p xs t)
    (q : ∀ S' v, Good T S' → S'.c = S.c → Ext T S S' → At T S' v (.nod t ds) → Qv v S'.H) : Qv (.ref p) (upd S.H p o) := by
  have x := Sta.ext_put (T := T) (o := o) g hp
  exact q (S.put p o) (.ref p) (g.put hp) rfl x ⟨p, xs, rfl, .inl ⟨g.fresh hp, g.freshX hp, hh⟩, x.list l⟩
/-- an object made: a cell -/
theorem madeC {T : Wd} {S : Sta} {p : Addr} {o : HO} {xs : List V} {ds : List D} {t : Tg} {Qv : VK} (g : Good T S) (hp : S.H p = none) (l : AtL T S xs ds) (hh : Hold T (upd S.H p o) p xs t) (m : Mu p (some o))
    (q : ∀ S' v, Good T S' → S'.c = S.c ++ [(t, ds)] → Ext T S S' → At T S' v (.cell S.c.length) → Qv v S'.H) : Qv (.ref p) (upd S.H p o) := by
  refine q (S.add p o (t, ds)) (.ref p) (g.add hp hh m l) rfl (Sta.ext_add g hp) ⟨p, rfl, ?_⟩
  show (S.r ++ [p])[S.c.length]? = some p
  rw [← g.len, List.getElem?_append_right (Nat.le_refl _), Nat.sub_self]
  rfl
/-- + -/
def fAddI : D → D → Cells → O := fI (fun _ _ => true) fun i j => .int (i + j)
def fAddS : D → D → Cells → O
  | .str x, .str y, c => if x.length + y.length ≤ sizeLine then some (.str (x ++ y), c) else none
  | _, _, _ => none
def fCatL (x y : D) (c : Cells) : O := match view c x, view c y with
  | some (.lst, xs), some (.lst, ys) => if xs.length + ys.length ≤ sizeLine then some (.lst (xs ++ ys), c) else none
  | _, _ => none
def fCatT (x y : D) (c : Cells) : O := match view c x, view c y with
  | some (.tup, xs), some (.tup, ys) => if xs.length + ys.length ≤ sizeLine ∧ xs ≠ [] ∧ ys ≠ [] then some (.tup (xs ++ ys), c) else none
  | _, _ => none
def fAdd : D → D → Cells → O := orO fAddI (orO fAddS (orO fCatL fCatT))
theorem fAddI_ok : OpF X (binaryOp .Add) fAddI := fI_ok0 op_add fun _ _ _ => rfl
theorem fAddS_ok : OpF X (binaryOp .Add) fAddS := by
  refine ⟨_, op_add_str, ?_⟩
  intro S x y dx dy Qv g ax ay p
  obtain ⟨d, c, e, q⟩ := p.some
  unfold fAddS at e
  split at e
  · split at e
    · rename_i hz
      cases e
      exact ⟨_, _, ax, ay, hz, q S _ g rfl .refl rfl⟩
    · cases e
  · cases e
theorem fCatL_ok : OpF X (binaryOp .Add) fCatL := by
  refine ⟨_, op_cat, ?_⟩
  intro S x y dx dy Qv g ax ay p
  obtain ⟨d, c, e, q⟩ := p.some
  unfold fCatL at e
  split at e
  · rename_i xs ys e1 e2
    split at e
    · rename_i hz
      cases e
      obtain ⟨a, us, rfl, h1, l1⟩ := view_at g ax e1
      obtain ⟨b, ws, rfl, h2, l2⟩ := view_at g ay e2
      refine ⟨a, b, us, ws, rfl, rfl, hold_L h1, hold_L h2, by rw [l1.len, l2.len]; exact hz, fun p hp => ?_⟩
      exact made (t := .lst) g hp (l1.append l2) upd_same q
    · cases e
  · cases e
theorem AtL.nil_iff {T : Wd} {S : Sta} {xs : List V} {ds : List D} (h : AtL T S xs ds) : xs = [] ↔ ds = [] := by
  have := h.len
  constructor
  · intro z
    rw [z] at this
    exact List.length_eq_zero_iff.mp this.symm
  · intro z
    rw [z] at this
    exact List.length_eq_zero_iff.mp this
theorem fCatT_ok : OpF X (binaryOp .Add) fCatT := by
  refine ⟨_, op_catT, ?_⟩
  intro S x y dx dy Qv g ax ay p
  obtain ⟨d, c, e, q⟩ := p.some
  unfold fCatT at e
  split at e
  · rename_i xs ys e1 e2
    split at e
    · rename_i hz
      cases e
      obtain ⟨a, us, rfl, h1, l1⟩ := view_at g ax e1
      obtain ⟨b, ws, rfl, h2, l2⟩ := view_at g ay e2
      exact ⟨a, b, us, ws, rfl, rfl, hold_T h1, hold_T h2, fun z => hz.2.1 (l1.nil_iff.mp z), by rw [l1.len, l2.len]; exact hz.1, fun z => absurd (l2.nil_iff.mp z) hz.2.2, fun _ p hp => made (t := .tup) g hp (l1.append l2) upd_same q⟩
    · cases e
  · cases e
theorem se_add (ha : SE X W a ma) (hb : SE X W b mb) : SE X W (.BinOp a .Add b pos) (m2 fAdd ma mb) := se_op (fAddI_ok.or (fAddS_ok.or (fCatL_ok.or fCatT_ok))) ha hb
def fSub : D → D → Cells → O := fI (fun _ _ => true) fun i j => .int (i - j)
theorem se_sub (ha : SE X W a ma) (hb : SE X W b mb) : SE X W (.BinOp a .Sub b pos) (m2 fSub ma mb) := se_op (fI_ok0 op_sub fun _ _ _ => rfl) ha hb
def fMod : D → D → Cells → O := fI (fun _ j => decide (0 < j)) fun i j => .int (i % j)
theorem se_mod (ha : SE X W a ma) (hb : SE X W b mb) : SE X W (.BinOp a .Mod b pos) (m2 fMod ma mb) := se_op (fI_ok op_mod (fun _ _ h => of_decide_eq_true h) fun _ _ _ => rfl) ha hb
def fFdiv : D → D → Cells → O := fI (fun _ j => decide (0 < j) && decide (j.natAbs.log2 < 9000)) fun i j => .int (i / j)
theorem se_fdiv (ha : SE X W a ma) (hb : SE X W b mb) : SE X W (.BinOp a .FloorDiv b pos) (m2 fFdiv ma mb) := se_op (fI_ok op_fdivW (fun _ _ h => by
  rw [Bool.and_eq_true] at h
  exact ⟨of_decide_eq_true h.1, of_decide_eq_true h.2⟩) fun _ _ _ => rfl) ha hb
def fPow : D → D → Cells → O := fI (fun i j => decide (0 ≤ j) && decide (j ≤ 1000000) && decide (i.natAbs < 2 ^ 64)) fun i j => .int (i ^ j.toNat)
theorem se_pow (ha : SE X W a ma) (hb : SE X W b mb) : SE X W (.BinOp a .Pow b pos) (m2 fPow ma mb) := se_op (fI_ok op_pow (fun _ _ h => by
  rw [Bool.and_eq_true, Bool.and_eq_true] at h
  exact ⟨of_decide_eq_true h.1.1, of_decide_eq_true h.1.2, of_decide_eq_true h.2⟩) fun _ _ _ => rfl) ha hb
def fMulI : D → D → Cells → O := fI (fun i j => decide ((Builtin.Int.intBits i : Int) + (Builtin.Int.intBits j : Int) ≤ 134217728)) fun i j => .int (i * j)
def fRepL (x y : D) (c : Cells) : O := match view c x, y with
  | some (.lst, xs), .int k => if -(2 ^ 63) ≤ k ∧ k < 2 ^ 63 ∧ xs.length * k.toNat ≤ sizeLine then some (.lst (List.replicate k.toNat xs).flatten, c) else none
  | _, _ => none
def fMul : D → D → Cells → O := orO fMulI fRepL
theorem AtL.rep {T : Wd} {S : Sta} {xs : List V} {ds : List D} (h : AtL T S xs ds) : ∀ k : Nat, AtL T S (List.replicate k xs).flatten (List.replicate k ds).flatten
  | 0 => trivial
  | k + 1 => by
    rw [List.replicate_succ, List.replicate_succ, List.flatten_cons, List.flatten_cons]
    exact h.append (AtL.rep h k)
theorem fRepL_ok : OpF X (binaryOp .Mult) fRepL := by
  refine ⟨_, op_rep, ?_⟩
  intro S x y dx dy Qv g ax ay p
  obtain ⟨d, c, e, q⟩ := p.some
  unfold fRepL at e
  split at e
  · rename_i xs k e1
    split at e
    · rename_i hz
      cases e
      obtain ⟨a, us, rfl, h1, l1⟩ := view_at g ax e1
      exact ⟨a, k, us, rfl, ay, hold_L h1, hz.1, hz.2.1, by rw [l1.len]; exact hz.2.2, fun p hp => made (t := .lst) g hp (l1.rep k.toNat) upd_same q⟩
    · cases e
  · cases e
theorem fMulI_ok : OpF X (binaryOp .Mult) fMulI := fI_ok op_mulX (fun i j h => by
  unfold CMulX
  exact of_decide_eq_true h) fun _ _ _ => rfl
theorem se_mul (ha : SE X W a ma) (hb : SE X W b mb) : SE X W (.BinOp a .Mult b pos) (m2 fMul ma mb) := se_op (fMulI_ok.or fRepL_ok) ha hb
def fNeg : D → Cells → O
  | .int i, c => some (.int (-i), c)
  | _, _ => none
theorem se_neg (ha : SE X W a ma) : SE X W (.UnaryOp .USub a pos) (m1 fNeg ma) := se_un (by
  refine ⟨_, un_neg, ?_⟩
  intro S x dx Qv g ax p
  obtain ⟨d, c, e, q⟩ := p.some
  unfold fNeg at e
  split at e
  · cases e
    exact ⟨_, ax, q S _ g rfl .refl rfl⟩
  · cases e) ha
end
end Q
end
section
set_option Elab.async false
set_option linter.all false
set_option maxRecDepth 100000
namespace Q
open PySem PySem.Spec L2
variable [Tb]
/-! ### data as PyData -/
mutual
def pydW (f : Nat → Option PyData) : D → Option PyData
  | .non => some .none
  | .bl b => some (.bool b)
  | .int i => some (.int i)
  | .str x => some (.str x)
  | .cell i => f i
  | .fn _ _ _ _ _ => none
  | .nod t ds => match t with
    | .lst => (pydL f ds).map .list
    | .tup => (pydL f ds).map .tuple
    | _ => none
def pydL (f : Nat → Option PyData) : List D → Option (List PyData)
  | [] => some []
  | d :: ds => match pydW f d, pydL f ds with
    | some p, some ps => some (p :: ps)
    | _, _ => none
end
def pydC (c : Cells) : Nat → Nat → Option PyData
  | 0, _ => none
  | k + 1, i => match c[i]? with
    | some (.lst, ds) => (pydL (pydC c k) ds).map .list
    | some (.tup, ds) => (pydL (pydC c k) ds).map .tuple
    | _ => none
def pyd (c : Cells) (d : D) : Option PyData := pydW (pydC c 6) d
section
variable {T : Wd} {S : Sta}
mutual
theorem pydW_at (g : Good T S) {f : Nat → Option PyData} (hf : ∀ i p v, f i = some p → At T S v (.cell i) → Dp T.K S.H v p) : ∀ (d : D) (p : PyData) (v : V), pydW f d = some p → At T S v d → Dp T.K S.H v p
  | .non, p, v, e, a => by
    cases e
    cases (show v = .non from a)
    exact .non
  | .bl b, p, v, e, a => by
    cases e
    cases (show v = .bl b from a)
    exact .bl b
  | .int i, p, v, e, a => by
    cases e
    cases (show v = .int i from a)
    exact .int i
  | .str x, p, v, e, a => by
    cases e
    cases (show v = .str x from a)
    exact .str x
  | .cell i, p, v, e, a => hf i p v e a
  | .fn _ _ _ _ _, p, v, e, a => by cases e
  | .nod t ds, p, v, e, a => by
    cases t with
    | lst =>
      obtain ⟨ps, e1, rfl⟩ := Option.map_eq_some_iff.mp (show (pydL f ds).map PyData.list = some p from e)
      obtain ⟨b, xs, rfl, h, l⟩ := view_at g a (show view S.c (.nod .lst ds) = some (.lst, ds) from rfl)
      exact .lst (.of (hold_L h)) (pydL_at g hf ds ps xs e1 l)
    | tup =>
      obtain ⟨ps, e1, rfl⟩ := Option.map_eq_some_iff.mp (show (pydL f ds).map PyData.tuple = some p from e)
      obtain ⟨b, xs, rfl, h, l⟩ := view_at g a (show view S.c (.nod .tup ds) = some (.tup, ds) from rfl)
      exact .tup (hold_T h) (pydL_at g hf ds ps xs e1 l)
    | frl => exact nomatch (show none = some p from e)
    | dic ks => exact nomatch (show none = some p from e)
    | dit ks => exact nomatch (show none = some p from e)
    | obj C ks => exact nomatch (show none = some p from e)
    | xdc ks => exact nomatch (show none = some p from e)
theorem pydL_at (g : Good T S) {f : Nat → Option PyData} (hf : ∀ i p v, f i = some p → At T S v (.cell i) → Dp T.K S.H v p) : ∀ (ds : List D) (ps : List PyData) (xs : List V), pydL f ds = some ps → AtL T S xs ds → DpAll T.K S.H xs ps
  | [], ps, [], e, _ => by
    cases e
    exact .nil
  | d :: ds, ps, x :: xs, e, a => by
    obtain ⟨a1, a2⟩ : At T S x d ∧ AtL T S xs ds := a
    unfold pydL at e
    split at e
    · rename_i p ps' e1 e2
      cases e
      exact .cons (pydW_at g hf d p x e1 a1) (pydL_at g hf ds ps' xs e2 a2)
    · cases e
  | [], _, _ :: _, _, a => a.elim
  | _ :: _, _, [], _, a => a.elim
end
theorem pydC_at (g : Good T S) : ∀ (k i : Nat) (p : PyData) (v : V), pydC S.c k i = some p → At T S v (.cell i) → Dp T.K S.H v p
  | 0, i, p, v, e, _ => by cases e
  | k + 1, i, p, v, e, a => by
    unfold pydC at e
    split at e
    · rename_i ds e0
      obtain ⟨ps, e1, rfl⟩ := Option.map_eq_some_iff.mp e
      obtain ⟨b, xs, rfl, h, l⟩ := view_at g a (show view S.c (.cell i) = some (.lst, ds) from e0)
      exact .lst (.of (hold_L h)) (pydL_at g (pydC_at g k) ds ps xs e1 l)
    · rename_i ds e0
      obtain ⟨ps, e1, rfl⟩ := Option.map_eq_some_iff.mp e
      obtain ⟨b, xs, rfl, h, l⟩ := view_at g a (show view S.c (.cell i) = some (.tup, ds) from e0)
      exact .tup (hold_T h) (pydL_at g (pydC_at g k) ds ps xs e1 l)
    · cases e
theorem pyd_at (g : Good T S) {d : D} {p : PyData} {v : V} (e : pyd S.c d = some p) (a : At T S v d) : Dp T.K S.H v p := pydW_at g (pydC_at g 6) d p v e a
end
section
variable {X : Cx} {W : WX} {e a b c : Expr} {pos : Pos} {m ma mb mc : ME}
/-! ### comparisons -/
theorem se_cmp {op : CmpOp} {f : D → D → Cells → O} (h : OpF X (compareOp op) f) (ha : SE X W a ma) (hb : SE X W b mb) (hm : behindInMarks op b = false) : SE X W (.Compare a [op] [b] pos) (m2 f ma mb) := by
  obtain ⟨r, ho, hs⟩ := h
  obtain ⟨ta, pa, qa⟩ := ha
  obtain ⟨tb, pb, qb⟩ := hb
  exact ⟨_, pe_cmpR ho pa pb hm, run2 hs qa qb⟩
/-- a bool out -/
def toB (r : R D) : R Bool := r.bind fun d c => match d with
  | .bl b => .ok b c
  | _ => .stk
def mT (m : ME) : MB := fun env c => toB (m env c)
theorem post_toB {T : Wd} {S : Sta} {r : R D} {Qv : Bool → Hp → Prop} {E : XK} (h : PostG T S (relE Bool) (toB r) Qv E) : Post T S r (fun x H => ∃ k, x = .bl k ∧ Qv k H) E := by
  refine post_bind h fun d S1 v e g x a p => ?_
  cases d with
  | bl b => exact ⟨b, a, p S1 b g rfl .refl rfl⟩
  | _ => exact p.elim
theorem st_cmp {op : CmpOp} {f : D → D → Cells → O} (h : OpF X (compareOp op) f) (ha : SE X W a ma) (hb : SE X W b mb) (hm : behindInMarks op b = false) : ST X W (.Compare a [op] [b] pos) (mT (m2 f ma mb)) := by
  obtain ⟨r, ho, hs⟩ := h
  obtain ⟨ta, pa, qa⟩ := ha
  obtain ⟨tb, pb, qb⟩ := hb
  exact ⟨_, pt_cmpR ho pa pb hm, fun S sg env Qv g en p => run2 hs qa qb S sg env _ g en (post_toB p)⟩
def fLt : D → D → Cells → O := fI (fun _ _ => true) fun i j => .bl (decide (i < j))
def fLe : D → D → Cells → O := fI (fun _ _ => true) fun i j => .bl (decide (i ≤ j))
def fGt : D → D → Cells → O := fI (fun _ _ => true) fun i j => .bl (decide (j < i))
def fGe : D → D → Cells → O := fI (fun _ _ => true) fun i j => .bl (decide (j ≤ i))
theorem fLt_ok : OpF X (compareOp .Lt) fLt := fI_ok0 op_lt fun _ _ _ => rfl
theorem fLe_ok : OpF X (compareOp .LtE) fLe := fI_ok0 op_le fun _ _ _ => rfl
theorem fGt_ok : OpF X (compareOp .Gt) fGt := fI_ok0 op_gt fun _ _ _ => rfl
theorem fGe_ok : OpF X (compareOp .GtE) fGe := fI_ok0 op_ge fun _ _ _ => rfl
/-- flat data -/
def flat : D → Option V
  | .non => some .non
  | .bl b => some (.bl b)
  | .int i => some (.int i)
  | .str x => some (.str x)
  | _ => none
theorem flat_at {T : Wd} {S : Sta} {d : D} {v w : V} (h : flat d = some w) (a : At T S v d) : v = w ∧ flatV w = true := by
  cases d <;> first
    | (cases h; exact ⟨a, rfl⟩)
    | cases h
def fEqS (neg : Bool) (x y : D) (c : Cells) : O := match flat x, flat y with
  | some u, some w => if scal u w then some (.bl (if neg then !decide (u = w) else decide (u = w)), c) else none
  | _, _ => none
def fEqP (neg : Bool) (x y : D) (c : Cells) : O := match pyd c x, pyd c y with
  | some p, some q => if SeqAt.shaped p && SeqAt.shaped q then some (.bl (if neg then !PyData.eqv p q else PyData.eqv p q), c) else none
  | _, _ => none
def fEq : D → D → Cells → O := orO (fEqS false) (fEqP false)
def fNe : D → D → Cells → O := orO (fEqS true) (fEqP true)
theorem fEqS_ok : OpF X (compareOp .Eq) (fEqS false) := by
  refine ⟨_, op_eq, fun S x y dx dy Qv g ax ay p => ?_⟩
  obtain ⟨d, c, e, q⟩ := p.some
  unfold fEqS at e
  split at e
  · rename_i u w e1 e2
    split at e
    · rename_i hz
      cases e
      obtain ⟨rfl, _⟩ := flat_at e1 ax
      obtain ⟨rfl, _⟩ := flat_at e2 ay
      exact ⟨hz, q S _ g rfl .refl rfl⟩
    · cases e
  · cases e
theorem fNeS_ok : OpF X (compareOp .NotEq) (fEqS true) := by
  refine ⟨_, op_ne, fun S x y dx dy Qv g ax ay p => ?_⟩
  obtain ⟨d, c, e, q⟩ := p.some
  unfold fEqS at e
  split at e
  · rename_i u w e1 e2
    split at e
    · rename_i hz
      cases e
      obtain ⟨rfl, _⟩ := flat_at e1 ax
      obtain ⟨rfl, _⟩ := flat_at e2 ay
      exact ⟨hz, q S _ g rfl .refl rfl⟩
    · cases e
  · cases e
theorem fEqP_ok (hu : X.A.units + 64 < cLine) : OpF X (compareOp .Eq) (fEqP false) := by
  refine ⟨_, op_eqD hu, fun S x y dx dy Qv g ax ay p => ?_⟩
  obtain ⟨d, c, e, q⟩ := p.some
  unfold fEqP at e
  split at e
  · rename_i u w e1 e2
    split at e
    · rename_i hz
      cases e
      rw [Bool.and_eq_true] at hz
      exact ⟨u, w, pyd_at g e1 ax, pyd_at g e2 ay, hz.1, hz.2, q S _ g rfl .refl rfl⟩
    · cases e
  · cases e
theorem fNeP_ok (hu : X.A.units + 64 < cLine) : OpF X (compareOp .NotEq) (fEqP true) := by
  refine ⟨_, op_neD hu, fun S x y dx dy Qv g ax ay p => ?_⟩
  obtain ⟨d, c, e, q⟩ := p.some
  unfold fEqP at e
  split at e
  · rename_i u w e1 e2
    split at e
    · rename_i hz
      cases e
      rw [Bool.and_eq_true] at hz
      exact ⟨u, w, pyd_at g e1 ax, pyd_at g e2 ay, hz.1, hz.2, q S _ g rfl .refl rfl⟩
    · cases e
  · cases e
theorem fEq_ok {k : Nat} (hr : Room k X.A) : OpF X (compareOp .Eq) fEq := fEqS_ok.or (fEqP_ok hr.units)
theorem fNe_ok {k : Nat} (hr : Room k X.A) : OpF X (compareOp .NotEq) fNe := fNeS_ok.or (fNeP_ok hr.units)
/-- in, not in: a list or a tuple of flat things -/
def flats : List D → Option (List V)
  | [] => some []
  | d :: ds => match flat d, flats ds with
    | some v, some vs => some (v :: vs)
    | _, _ => none
theorem flats_at {T : Wd} {S : Sta} : ∀ {ds : List D} {vs ws : List V}, flats ds = some ws → AtL T S vs ds → vs = ws ∧ ws.all flatV = true
  | [], [], ws, e, _ => by
    cases e
    exact ⟨rfl, rfl⟩
  | d :: ds, v :: vs, ws, e, a => by
    obtain ⟨a1, a2⟩ : At T S v d ∧ AtL T S vs ds := a
    unfold flats at e
    split at e
    · rename_i u us e1 e2
      cases e
      obtain ⟨rfl, h1⟩ := flat_at e1 a1
      obtain ⟨rfl, h2⟩ := flats_at e2 a2
      exact ⟨rfl, by rw [List.all_cons, h1, h2]; rfl⟩
    · cases e
  | [], _ :: _, _, _, a => a.elim
  | _ :: _, [], _, _, a => a.elim
def seqView (c : Cells) (d : D) : Option (List D) := match view c d with
  | some (.lst, ds) => some ds
  | some (.tup, ds) => some ds
  | some (.frl, ds) => some ds
  | _ => none
theorem seqView_at {T : Wd} {S : Sta} {v : V} {d : D} {ds : List D} (g : Good T S) (h : At T S v d) (e : seqView S.c d = some ds) : ∃ a xs, v = .ref a ∧ (SqL T.K S.H a xs ∨ SqT T.K S.H a xs) ∧ AtL T S xs ds := by
  unfold seqView at e
  split at e
  · rename_i ds' e0
    cases e
    obtain ⟨a, xs, rfl, q, l⟩ := view_at g h e0
    exact ⟨a, xs, rfl, .inl (.of (hold_L q)), l⟩
  · rename_i ds' e0
    cases e
    obtain ⟨a, xs, rfl, q, l⟩ := view_at g h e0
    exact ⟨a, xs, rfl, .inr (hold_T q), l⟩
  · rename_i ds' e0
    cases e
    obtain ⟨a, xs, rfl, q, l⟩ := view_at g h e0
    exact ⟨a, xs, rfl, .inl (hold_F q), l⟩
  · cases e
def fInF (neg : Bool) (x y : D) (c : Cells) : O := match flat x, (seqView c y).bind flats with
  | some u, some ws => some (.bl (if neg then !inV u ws else inV u ws), c)
  | _, _ => none
theorem fIn_spec {neg : Bool} : OpS (wd X) (rIn X.K neg) (fInF neg) := by
  intro S x y dx dy Qv g ax ay p
  obtain ⟨d, c, e, q⟩ := p.some
  unfold fInF at e
  split at e
  · rename_i u ws e1 e2
    cases e
    obtain ⟨ds, e3, e4⟩ := Option.bind_eq_some_iff.mp e2
    obtain ⟨rfl, f1⟩ := flat_at e1 ax
    obtain ⟨a, xs, rfl, h, l⟩ := seqView_at g ay e3
    obtain ⟨rfl, f2⟩ := flats_at e4 l
    exact ⟨a, xs, rfl, h, f1, f2, q S _ g rfl .refl rfl⟩
  · cases e
theorem fInF_ok : OpF X (compareOp .In) (fInF false) := ⟨_, op_in_seq, fIn_spec⟩
theorem fNotInF_ok : OpF X (compareOp .NotIn) (fInF true) := ⟨_, op_notIn_seq, fIn_spec⟩
def fInS (neg : Bool) : D → D → Cells → O
  | .str i, .str j, c => some (.bl (if neg then !(!(Builtin.Str.occurrences j i 0 j.length 1).isEmpty) else !(Builtin.Str.occurrences j i 0 j.length 1).isEmpty), c)
  | _, _, _ => none
theorem fInS_ok : OpF X (compareOp .In) (fInS false) := by
  refine ⟨_, op_in_str, fun S x y dx dy Qv g ax ay p => ?_⟩
  obtain ⟨d, c, e, q⟩ := p.some
  unfold fInS at e
  split at e
  · cases e
    exact ⟨_, _, ax, ay, q S _ g rfl .refl rfl⟩
  · cases e
theorem fNotInS_ok : OpF X (compareOp .NotIn) (fInS true) := by
  refine ⟨_, op_notIn_str, fun S x y dx dy Qv g ax ay p => ?_⟩
  obtain ⟨d, c, e, q⟩ := p.some
  unfold fInS at e
  split at e
  · cases e
    exact ⟨_, _, ax, ay, q S _ g rfl .refl rfl⟩
  · cases e
def fIn : D → D → Cells → O := orO (fInF false) (fInS false)
def fNotIn : D → D → Cells → O := orO (fInF true) (fInS true)
theorem fIn_ok : OpF X (compareOp .In) fIn := fInF_ok.or fInS_ok
theorem fNotIn_ok : OpF X (compareOp .NotIn) fNotIn := fNotInF_ok.or fNotInS_ok
/-- is None, is True -/
def isNon : D → Bool
  | .non => true
  | _ => false
theorem isNon_at {T : Wd} {S : Sta} {v : V} {d : D} (a : At T S v d) : decide (v = .non) = isNon d := by
  cases d with
  | non => cases (show v = .non from a); rfl
  | bl b => cases (show v = .bl b from a); rfl
  | int b => cases (show v = .int b from a); rfl
  | str b => cases (show v = .str b from a); rfl
  | fn f c q xs ds => cases (show v = .ref f from a.1); rfl
  | cell i =>
    obtain ⟨a, rfl, _⟩ : ∃ a, v = .ref a ∧ S.r[i]? = some a := a
    rfl
  | nod t ds =>
    obtain ⟨a, _, rfl, _⟩ : ∃ a xs, v = .ref a ∧ ((a ∉ S.r ∧ a ∉ S.x ∧ Hold T S.H a xs t) ∨ HoldK T a xs t) ∧ AtL T S xs ds := a
    rfl
def fIs : D → D → Cells → O
  | x, .non, c => some (.bl (isNon x), c)
  | .bl a, .bl b, c => some (.bl (decide (a = b)), c)
  | _, _, _ => none
def fIsNot : D → D → Cells → O
  | x, .non, c => some (.bl (!isNon x), c)
  | .bl a, .bl b, c => some (.bl (!decide (a = b)), c)
  | _, _, _ => none
theorem OpR.or {f : Value → Value → Sem Value} {r r' : R2} (h : OpR X f r) (h' : OpR X f r') : OpR X f (fun x y H Qv => r x y H Qv ∨ r' x y H Qv) := by
  intro pins s sg H x y v u Qv I rx ry q
  rcases q with q | q
  · exact h pins s sg H x y v u Qv I rx ry q
  · exact h' pins s sg H x y v u Qv I rx ry q
theorem fIs_ok : OpF X (compareOp .Is) fIs := by
  refine ⟨_, OpR.or op_isN op_isBl, fun S x y dx dy Qv g ax ay p => ?_⟩
  obtain ⟨d, c, e, q⟩ := p.some
  unfold fIs at e
  split at e
  · cases e
    exact .inl ⟨ay, by rw [isNon_at ax]; exact q S _ g rfl .refl rfl⟩
  · cases e
    exact .inr ⟨_, _, ax, ay, q S _ g rfl .refl rfl⟩
  · cases e
theorem fIsNot_ok : OpF X (compareOp .IsNot) fIsNot := by
  refine ⟨_, OpR.or op_notN op_notBl, fun S x y dx dy Qv g ax ay p => ?_⟩
  obtain ⟨d, c, e, q⟩ := p.some
  unfold fIsNot at e
  split at e
  · cases e
    exact .inl ⟨ay, by rw [isNon_at ax]; exact q S _ g rfl .refl rfl⟩
  · cases e
    exact .inr ⟨_, _, ax, ay, q S _ g rfl .refl rfl⟩
  · cases e
/-! ### truth, and, or, not -/
def truth (c : Cells) (d : D) : Option Bool := match d with
  | .non => some false
  | .bl b => some b
  | .int i => some (i != 0)
  | .str y => if y.length ≤ sizeLine then some ((y.length : Int) != 0) else none
  | _ => match view c d with
    | some (.lst, ds) => some (!ds.isEmpty)
    | some (.frl, ds) => some (!ds.isEmpty)
    | some (.tup, ds) => some (!ds.isEmpty)
    | some (.dic ks, ds) => some (!ds.isEmpty)
    | _ => none
theorem AtL.isEmpty {T : Wd} {S : Sta} {xs : List V} {ds : List D} (h : AtL T S xs ds) : xs.isEmpty = ds.isEmpty := by
  cases xs <;> cases ds <;> first | rfl | exact h.elim
theorem truth_at {T : Wd} {S : Sta} {v : V} {d : D} {k : Bool} (g : Good T S) (e : truth S.c d = some k) (a : At T S v d) : TruV T.K v S.H k := by
  have obj : ∀ {a' : V}, At T S a' d → (match view S.c d with
    | some (.lst, ds) => some (!ds.isEmpty)
    | some (.frl, ds) => some (!ds.isEmpty)
    | some (.tup, ds) => some (!ds.isEmpty)
    | some (.dic ks, ds) => some (!ds.isEmpty)
    | _ => none) = some k → TruV T.K a' S.H k := fun {a'} a e => by
    split at e
    · rename_i ds e0
      cases e
      obtain ⟨b, xs, rfl, h, l⟩ := view_at g a e0
      exact .inl ⟨xs, .of (hold_L h), by rw [l.isEmpty]⟩
    · rename_i ds e0
      cases e
      obtain ⟨b, xs, rfl, h, l⟩ := view_at g a e0
      exact .inl ⟨xs, hold_F h, by rw [l.isEmpty]⟩
    · rename_i ds e0
      cases e
      obtain ⟨b, xs, rfl, h, l⟩ := view_at g a e0
      exact .inr (.inl ⟨xs, hold_T h, by rw [l.isEmpty]⟩)
    · rename_i ks ds e0
      cases e
      obtain ⟨b, xs, rfl, h, l⟩ := view_at g a e0
      rcases h with ⟨z, h⟩ | h
      · refine .inr (.inr ⟨_, h, ?_⟩)
        have e1 := l.isEmpty
        have e2 : (ks.zip xs).isEmpty = xs.isEmpty := by
          cases ks <;> cases xs <;> first | rfl | (simp at z)
        rw [e2, e1]
      · exact h.elim
    · cases e
  cases d with
  | non => cases e; cases (show v = .non from a); exact rfl
  | bl b =>
    cases (show v = .bl b from a)
    exact (Option.some.inj e).symm
  | int i =>
    cases (show v = .int i from a)
    exact (Option.some.inj e).symm
  | str y =>
    cases (show v = .str y from a)
    have e' : (if y.length ≤ sizeLine then some ((y.length : Int) != 0) else none) = some k := e
    split at e'
    · rename_i h
      exact ⟨h, (Option.some.inj e').symm⟩
    · cases e'
  | cell i => exact obj a e
  | fn f c q xs ds => exact obj a e
  | nod t ds => exact obj a e
def mTru (m : ME) : MB := fun env c => (m env c).bind fun d c => match truth c d with
  | some b => .ok b c
  | none => .stk
theorem st_truth (ha : SE X W a ma) (he : ∀ whole, isTrue a X.env whole = (do let v ← whole; standAt a.pos; holding [v] (truthy v)) := by intro _; rfl) : ST X W a (mTru ma) := by
  obtain ⟨ta, pa, qa⟩ := ha
  refine ⟨_, pt_truth pa he, fun S sg env Qv g en p => ?_⟩
  refine qa S sg env _ g en (post_bind p fun d S1 v e g1 x a1 p1 => ?_)
  cases h : truth S1.c d with
  | some b =>
    simp only [h] at p1
    exact ⟨b, truth_at g1 h a1, p1 S1 b g1 rfl .refl rfl⟩
  | none =>
    simp only [h] at p1
    exact p1.elim
def mNot (m : MB) : MB := fun env c => (m env c).bind fun b c => .ok (!b) c
theorem st_not {ma : MB} (ha : ST X W a ma) : ST X W (.UnaryOp .Not a pos) (mNot ma) := by
  obtain ⟨ta, pa, qa⟩ := ha
  refine ⟨_, pt_not pa, fun S sg env Qv g en p => ?_⟩
  exact qa S sg env _ g en (post_bind p fun d S1 v e g1 x a1 p1 => by
    cases a1
    exact p1 S1 _ g1 rfl .refl rfl)
def mAndT (ma mb : MB) : MB := fun env c => (ma env c).bind fun b c => if b = true then mb env c else .ok false c
def mOrT (ma mb : MB) : MB := fun env c => (ma env c).bind fun b c => if b = true then .ok true c else mb env c
theorem sw_pt {m : MB} (h : SW X W e m) : ST X W e m := by
  obtain ⟨t, p, q⟩ := h
  exact ⟨t, p.pt, q⟩
theorem sw_and1 {ma : MB} (ha : ST X W a ma) : SW X W (.BoolOp .And [a] pos) ma := by
  obtain ⟨t, p, q⟩ := ha
  exact ⟨t, pw_and1 p, q⟩
theorem sw_or1 {ma : MB} (ha : ST X W a ma) : SW X W (.BoolOp .Or [a] pos) ma := by
  obtain ⟨t, p, q⟩ := ha
  exact ⟨t, pw_or1 p, q⟩
theorem sw_and {rest : List Expr} {ma mb : MB} (ha : ST X W a ma) (hb : SW X W (.BoolOp .And (b :: rest) pos) mb) : SW X W (.BoolOp .And (a :: b :: rest) pos) (mAndT ma mb) := by
  obtain ⟨ta, pa, qa⟩ := ha
  obtain ⟨tb, pb, qb⟩ := hb
  refine ⟨_, pw_and pa pb, fun S sg env Qv g en p => ?_⟩
  refine qa S sg env _ g en (post_bind p fun d S1 v e g1 x a1 p1 => ?_)
  cases a1
  cases d with
  | true => exact iteT (qb S1 sg env Qv g1 (en.ext x) p1)
  | false => exact iteF (p1 S1 _ g1 rfl .refl rfl)
theorem sw_or {rest : List Expr} {ma mb : MB} (ha : ST X W a ma) (hb : SW X W (.BoolOp .Or (b :: rest) pos) mb) : SW X W (.BoolOp .Or (a :: b :: rest) pos) (mOrT ma mb) := by
  obtain ⟨ta, pa, qa⟩ := ha
  obtain ⟨tb, pb, qb⟩ := hb
  refine ⟨_, pw_or pa pb, fun S sg env Qv g en p => ?_⟩
  refine qa S sg env _ g en (post_bind p fun d S1 v e g1 x a1 p1 => ?_)
  cases a1
  cases d with
  | true => exact iteT (p1 S1 _ g1 rfl .refl rfl)
  | false => exact iteF (qb S1 sg env Qv g1 (en.ext x) p1)
/-- as values: by truth -/
def mAndV (ma mb : ME) : ME := fun env c => (ma env c).bind fun d c => match truth c d with
  | some true => mb env c
  | some false => .ok d c
  | none => .stk
def mOrV (ma mb : ME) : ME := fun env c => (ma env c).bind fun d c => match truth c d with
  | some true => .ok d c
  | some false => mb env c
  | none => .stk
theorem se_one {op} (ha : SE X W a ma) : SE X W (.BoolOp op [a] pos) ma := by
  obtain ⟨t, p, q⟩ := ha
  exact ⟨t, pe_one p, q⟩
theorem se_and {rest : List Expr} (ha : SE X W a ma) (hb : SE X W (.BoolOp .And (b :: rest) pos) mb) : SE X W (.BoolOp .And (a :: b :: rest) pos) (mAndV ma mb) := by
  obtain ⟨ta, pa, qa⟩ := ha
  obtain ⟨tb, pb, qb⟩ := hb
  refine ⟨_, pe_andT pa pb, fun S sg env Qv g en p => ?_⟩
  refine qa S sg env _ g en (post_bind p fun d S1 v e g1 x a1 p1 => ?_)
  split at p1
  · rename_i h
    exact ⟨true, truth_at g1 h a1, iteT (qb S1 sg env Qv g1 (en.ext x) p1)⟩
  · rename_i h
    exact ⟨false, truth_at g1 h a1, iteF (p1 S1 v g1 rfl .refl a1)⟩
  · exact p1.elim
theorem se_or {rest : List Expr} (ha : SE X W a ma) (hb : SE X W (.BoolOp .Or (b :: rest) pos) mb) : SE X W (.BoolOp .Or (a :: b :: rest) pos) (mOrV ma mb) := by
  obtain ⟨ta, pa, qa⟩ := ha
  obtain ⟨tb, pb, qb⟩ := hb
  refine ⟨_, pe_orT pa pb, fun S sg env Qv g en p => ?_⟩
  refine qa S sg env _ g en (post_bind p fun d S1 v e g1 x a1 p1 => ?_)
  split at p1
  · rename_i h
    exact ⟨true, truth_at g1 h a1, iteT (p1 S1 v g1 rfl .refl a1)⟩
  · rename_i h
    exact ⟨false, truth_at g1 h a1, iteF (qb S1 sg env Qv g1 (en.ext x) p1)⟩
  · exact p1.elim
def mNotV (m : ME) : ME := fun env c => (m env c).bind fun d c => match truth c d with
  | some b => .ok (.bl (!b)) c
  | none => .stk
theorem se_not (ha : SE X W a ma) : SE X W (.UnaryOp .Not a pos) (mNotV ma) := by
  obtain ⟨ta, pa, qa⟩ := ha
  refine ⟨_, pe_notT pa, fun S sg env Qv g en p => ?_⟩
  refine qa S sg env _ g en (post_bind p fun d S1 v e g1 x a1 p1 => ?_)
  split at p1
  · rename_i b h
    exact ⟨b, truth_at g1 h a1, p1 S1 _ g1 rfl .refl rfl⟩
  · exact p1.elim
def mIf (mt : MB) (ma mb : ME) : ME := fun env c => (mt env c).bind fun b c => if b = true then ma env c else mb env c
theorem se_if {mt : MB} (hc : ST X W c mt) (ha : SE X W a ma) (hb : SE X W b mb) : SE X W (.IfExp c a b pos) (mIf mt ma mb) := by
  obtain ⟨tc, pc, qc⟩ := hc
  obtain ⟨ta, pa, qa⟩ := ha
  obtain ⟨tb, pb, qb⟩ := hb
  refine ⟨_, pe_ifExp pc pa pb, fun S sg env Qv g en p => ?_⟩
  refine qc S sg env _ g en (post_bind p fun d S1 v e g1 x a1 p1 => ?_)
  cases a1
  cases d with
  | true => exact iteT (qa S1 sg env Qv g1 (en.ext x) p1)
  | false => exact iteF (qb S1 sg env Qv g1 (en.ext x) p1)
/-! ### chains of two comparisons -/
def mChain (f f' : D → D → Cells → O) (ma mb mc : ME) : ME := fun env c => (ma env c).bind fun x c => (mb env c).bind fun y c => (f x y c).r.bind fun z c => match z with
  | .bl true => (mc env c).bind fun w c => (f' y w c).r
  | .bl false => .ok (.bl false) c
  | _ => .stk
theorem run3 {ta tb tc : TE} {r r' : R2} {f f' : D → D → Cells → O} (hs : OpS (wd X) r f) (hs' : OpS (wd X) r' f') (qa : ∀ S sg env Qv, Good (wd X) S → EnvAt (wd X) S sg env → Post (wd X) S (ma env S.c) Qv (WE W sg) → ta sg S.H Qv)
    (qb : ∀ S sg env Qv, Good (wd X) S → EnvAt (wd X) S sg env → Post (wd X) S (mb env S.c) Qv (WE W sg) → tb sg S.H Qv) (qc : ∀ S sg env Qv, Good (wd X) S → EnvAt (wd X) S sg env → Post (wd X) S (mc env S.c) Qv (WE W sg) → tc sg S.H Qv) :
    ∀ S sg env Qv, Good (wd X) S → EnvAt (wd X) S sg env → Post (wd X) S (mChain f f' ma mb mc env S.c) Qv (WE W sg) → tChain r r' ta tb tc sg S.H Qv := by
  intro S sg env Qv g en p
  refine qa S sg env _ g en (post_bind p fun x S1 v e1 g1 x1 a1 p1 => ?_)
  refine qb S1 sg env _ g1 (en.ext x1) (post_bind p1 fun y S2 u e2 g2 x2 a2 p2 => ?_)
  have a1' := x2.keep _ _ a1
  refine hs S2 v u x y _ g2 a1' a2 (PostG.o (E := WE W sg) (post_bind p2 fun z S3 w e3 g3 x3 a3 p3 => ?_))
  split at p3
  · refine ⟨true, a3, iteT (qc S3 sg env _ g3 (((en.ext x1).ext x2).ext x3) (post_bind p3 fun w' S4 v4 e4 g4 x4 a4 p4 => ?_))⟩
    exact hs' S4 u v4 y w' Qv g4 (x4.keep _ _ (x3.keep _ _ a2)) a4 p4.o
  · exact ⟨false, a3, iteF (p3 S3 _ g3 rfl .refl rfl)⟩
  · exact p3.elim
theorem se_chain {op op' : CmpOp} {f f' : D → D → Cells → O} (h : OpF X (compareOp op) f) (h' : OpF X (compareOp op') f') (ha : SE X W a ma) (hb : SE X W b mb) (hc : SE X W c mc) (hm : lastMarks [op, op'] [b, c] = false := by with_unfolding_all rfl) :
    SE X W (.Compare a [op, op'] [b, c] pos) (mChain f f' ma mb mc) := by
  obtain ⟨r, ho, hs⟩ := h
  obtain ⟨r', ho', hs'⟩ := h'
  obtain ⟨ta, pa, qa⟩ := ha
  obtain ⟨tb, pb, qb⟩ := hb
  obtain ⟨tc, pc, qc⟩ := hc
  exact ⟨_, pe_chain ho ho' pa pb pc hm, run3 hs hs' qa qb qc⟩
theorem st_chain {op op' : CmpOp} {f f' : D → D → Cells → O} (h : OpF X (compareOp op) f) (h' : OpF X (compareOp op') f') (ha : SE X W a ma) (hb : SE X W b mb) (hc : SE X W c mc) (hm : lastMarks [op, op'] [b, c] = false := by with_unfolding_all rfl) :
    ST X W (.Compare a [op, op'] [b, c] pos) (mT (mChain f f' ma mb mc)) := by
  obtain ⟨r, ho, hs⟩ := h
  obtain ⟨r', ho', hs'⟩ := h'
  obtain ⟨ta, pa, qa⟩ := ha
  obtain ⟨tb, pb, qb⟩ := hb
  obtain ⟨tc, pc, qc⟩ := hc
  exact ⟨_, pt_chain ho ho' pa pb pc hm, fun S sg env Qv g en p => run3 hs hs' qa qb qc S sg env _ g en (post_toB p)⟩
end
end Q
end
section
set_option Elab.async false
set_option linter.all false
set_option maxRecDepth 100000
namespace Q
open PySem PySem.Spec L2
variable [Tb]
section
variable {X : Cx} {W : WX} {e a b c : Expr} {es : List Expr} {pos : Pos} {m ma mb mc : ME} {ms : ML}
/-! ### arguments, displays -/
def mNil : ML := fun _ c => .ok [] c
def mCons (ma : ME) (ms : ML) : ML := fun env c => (ma env c).bind fun d c => (ms env c).bind fun ds c => .ok (d :: ds) c
theorem sa_nil : SA X W [] mNil := ⟨_, pa_nil, fun S sg env Qv g en p => p S [] g rfl .refl trivial⟩
theorem sa_cons (ha : SE X W e ma) (hr : SA X W es ms) (hs : starEach (e :: es) X.env = (false, eval e X.env) :: starEach es X.env := by rfl) : SA X W (e :: es) (mCons ma ms) := by
  obtain ⟨ta, pa, qa⟩ := ha
  obtain ⟨tb, pb, qb⟩ := hr
  refine ⟨_, pa_cons pa pb hs, fun S sg env Qv g en p => ?_⟩
  refine qa S sg env _ g en (post_bind p fun x S1 v e1 g1 x1 a1 p1 => ?_)
  refine qb S1 sg env _ g1 (en.ext x1) (post_bind p1 fun ys S2 vs e2 g2 x2 a2 p2 => ?_)
  exact p2 S2 (v :: vs) g2 rfl .refl ⟨x2.keep _ _ a1, a2⟩
/-- a tuple, a list; a list as a cell -/
def mTup (ms : ML) : ME := fun env c => (ms env c).bind fun ds c => if ds.length ≤ sizeLine then .ok (.tup ds) c else .stk
def mLst (ms : ML) : ME := fun env c => (ms env c).bind fun ds c => if ds.length ≤ sizeLine then .ok (.lst ds) c else .stk
def mLstC (ms : ML) : ME := fun env c => (ms env c).bind fun ds c => if ds.length ≤ sizeLine then .ok (.cell c.length) (c ++ [(.lst, ds)]) else .stk
theorem se_tup {k} (h : SA X W es ms) : SE X W (.Tuple es k pos) (mTup ms) := by
  obtain ⟨t, p, q⟩ := h
  refine ⟨_, pe_tup p, fun S sg env Qv g en p => ?_⟩
  refine q S sg env _ g en (post_bind p fun ds S1 vs e1 g1 x1 a1 p1 => ?_)
  split at p1
  · rename_i h
    exact ⟨by rw [a1.len]; exact h, fun p hp => made (t := .tup) g1 hp a1 upd_same p1⟩
  · exact p1.elim
theorem se_lst (h : SA X W es ms) : SE X W (.List es pos) (mLst ms) := by
  obtain ⟨t, p, q⟩ := h
  refine ⟨_, pe_lst p, fun S sg env Qv g en p => ?_⟩
  refine q S sg env _ g en (post_bind p fun ds S1 vs e1 g1 x1 a1 p1 => ?_)
  split at p1
  · rename_i h
    exact ⟨by rw [a1.len]; exact h, fun p hp => made (t := .lst) g1 hp a1 upd_same p1⟩
  · exact p1.elim
theorem se_lstC (h : SA X W es ms) : SE X W (.List es pos) (mLstC ms) := by
  obtain ⟨t, p, q⟩ := h
  refine ⟨_, pe_lst p, fun S sg env Qv g en p => ?_⟩
  refine q S sg env _ g en (post_bind p fun ds S1 vs e1 g1 x1 a1 p1 => ?_)
  split at p1
  · rename_i h
    exact ⟨by rw [a1.len]; exact h, fun p hp => madeC (t := .lst) g1 hp a1 upd_same trivial p1⟩
  · exact p1.elim
/-! ### subscripts, slices -/
def IxF (X : Cx) (f : D → D → Cells → O) : Prop := ∃ r, IxR X r ∧ OpS (wd X) r f
def fIx (x y : D) (c : Cells) : O := match x, y with
  | .str z, .int i => if z.length ≤ sizeLine then (atI z.cps.toList i).map fun k => (.str ⟨#[k]⟩, c) else none
  | _, .int i => (seqView c x).bind fun ds => (atI ds i).map fun d => (d, c)
  | _, _ => none
theorem AtL.atI {T : Wd} {S : Sta} {xs : List V} {ds : List D} {i : Int} {d : D} (h : AtL T S xs ds) (e : atI ds i = some d) : ∃ v, L2.atI xs i = some v ∧ At T S v d := by
  unfold L2.atI at e ⊢
  rw [h.len]
  cases q : ixN ds.length i with
  | none =>
    rw [q] at e
    cases e
  | some j =>
    rw [q] at e
    exact h.get (show ds[j]? = some d from e)
theorem fIx_ok : IxF X fIx := by
  refine ⟨_, ix_seq, fun S x y dx dy Qv g ax ay p => ?_⟩
  obtain ⟨d, c, e, q⟩ := p.some
  have seq : ∀ i, dy = .int i → ((seqView S.c dx).bind fun ds => (L2.atI ds i).map fun d => (d, S.c)) = some (d, c) → rIx X.K x y S.H Qv := fun i ey e5 => by
    subst ey
    obtain ⟨ds, e1, e2⟩ := Option.bind_eq_some_iff.mp e5
    obtain ⟨d', e3, e4⟩ := Option.map_eq_some_iff.mp e2
    cases e4
    obtain ⟨a, xs, rfl, h, l⟩ := seqView_at g ax e1
    obtain ⟨v, h2, h3⟩ := l.atI e3
    rcases h with h | h
    · exact .inl ⟨a, xs, i, v, rfl, ay, h, h2, q S v g rfl .refl h3⟩
    · exact .inr (.inl ⟨a, xs, i, v, rfl, ay, h, h2, q S v g rfl .refl h3⟩)
  unfold fIx at e
  split at e
  · rename_i z i
    split at e
    · rename_i hz
      obtain ⟨k, e1, e2⟩ := Option.map_eq_some_iff.mp e
      cases e2
      exact .inr (.inr ⟨z, i, k, ax, ay, hz, e1, q S _ g rfl .refl rfl⟩)
    · cases e
  · rename_i i _
    exact seq i rfl e
  · cases e
theorem se_ix (ha : SE X W a ma) (hb : SE X W b mb) (hs : PlainIx b := by exact fun _ _ => rfl) : SE X W (.Subscript a b pos) (m2 fIx ma mb) := by
  obtain ⟨ta, pa, qa⟩ := ha
  obtain ⟨tb, pb, qb⟩ := hb
  obtain ⟨r, h1, h2⟩ := fIx_ok (X := X)
  exact ⟨_, pe_ix h1 pa pb hs, run2 h2 qa qb⟩
abbrev MO := Env → Cells → R (Option Int)
def SO (X : Cx) (W : WX) (e : Option Expr) (m : MO) : Prop :=
  ∃ t, PO X e t ∧ ∀ S sg env Qv, Good (wd X) S → EnvAt (wd X) S sg env → PostG (wd X) S (relE (Option Int)) (m env S.c) Qv (WE W sg) → t sg S.H Qv
theorem so_none : SO X W none (fun _ c => .ok none c) := ⟨_, po_none, fun S sg env Qv g en p => p S none g rfl .refl rfl⟩
def mPart (m : ME) : MO := fun env c => (m env c).bind fun d c => match d with
  | .int i => .ok (some i) c
  | _ => .stk
theorem so_some (ha : SE X W a ma) : SO X W (some a) (mPart ma) := by
  obtain ⟨t, p, q⟩ := ha
  refine ⟨_, po_some p, fun S sg env Qv g en p => ?_⟩
  refine q S sg env _ g en (post_bind p fun d S1 v e1 g1 x1 a1 p1 => ?_)
  split at p1
  · exact ⟨_, a1, p1 S1 _ g1 rfl .refl rfl⟩
  · exact p1.elim
def cutD (xs : List D) (lo hi : Option Int) : List D := (xs.drop (HT.sIx xs.length 0 lo)).take (HT.sIx xs.length xs.length hi - HT.sIx xs.length 0 lo)
theorem AtL.cut {T : Wd} {S : Sta} : ∀ {xs : List V} {ds : List D} (n m : Nat), AtL T S xs ds → AtL T S ((xs.drop n).take m) ((ds.drop n).take m)
  | [], [], n, m, _ => by simp [AtL]
  | x :: xs, d :: ds, 0, 0, _ => trivial
  | x :: xs, d :: ds, 0, m + 1, h => by
    obtain ⟨h1, h2⟩ : At T S x d ∧ AtL T S xs ds := h
    exact ⟨h1, AtL.cut 0 m h2⟩
  | x :: xs, d :: ds, n + 1, m, h => by
    obtain ⟨h1, h2⟩ : At T S x d ∧ AtL T S xs ds := h
    exact AtL.cut n m h2
  | [], _ :: _, _, _, h => h.elim
  | _ :: _, [], _, _, h => h.elim
theorem AtL.cutV {T : Wd} {S : Sta} {xs : List V} {ds : List D} (h : AtL T S xs ds) (lo hi : Option Int) : AtL T S (L2.cutV xs lo hi) (cutD ds lo hi) := by
  unfold L2.cutV cutD
  rw [h.len]
  exact h.cut _ _
/-- a slice; C: the new list is a cell -/
def fSl (C : Bool) (x : D) (lo hi : Option Int) (c : Cells) : O := match view c x with
  | some (.lst, ds) => if C then some (.cell c.length, c ++ [(.lst, cutD ds lo hi)]) else some (.lst (cutD ds lo hi), c)
  | some (.tup, ds) => if HT.sIx ds.length 0 lo = 0 ∧ HT.sIx ds.length ds.length hi = ds.length then none else some (.tup (cutD ds lo hi), c)
  | _ => none
def mSl (C : Bool) (m : ME) (ml mh : MO) : ME := fun env c => (m env c).bind fun d c => (ml env c).bind fun lo c => (mh env c).bind fun hi c => (fSl C d lo hi c).r
theorem se_slice {C : Bool} {lo hi : Option Expr} {p2 : Pos} {ml mh : MO} (ha : SE X W a ma) (hl : SO X W lo ml) (hh : SO X W hi mh) : SE X W (.Subscript a (.Slice lo hi none p2) pos) (mSl C ma ml mh) := by
  obtain ⟨ta, pa, qa⟩ := ha
  obtain ⟨tl, pl, ql⟩ := hl
  obtain ⟨th, ph, qh⟩ := hh
  refine ⟨_, pe_slice (SlR.or sl_list sl_tup) pa pl ph, fun S sg env Qv g en p => ?_⟩
  refine qa S sg env _ g en (post_bind p fun d S1 v e1 g1 x1 a1 p1 => ?_)
  refine ql S1 sg env _ g1 (en.ext x1) (post_bind p1 fun i S2 i' e2 g2 x2 a2 p2 => ?_)
  refine qh S2 sg env _ g2 ((en.ext x1).ext x2) (post_bind p2 fun j S3 j' e3 g3 x3 a3 p3 => ?_)
  cases a2
  cases a3
  have a' := x3.keep _ _ (x2.keep _ _ a1)
  obtain ⟨d', c, e, q⟩ := p3.o.some
  unfold fSl at e
  split at e
  · rename_i ds e0
    obtain ⟨a, xs, rfl, h, l⟩ := view_at g3 a' e0
    refine .inl ⟨a, xs, rfl, .of (hold_L h), fun p hp => ?_⟩
    split at e
    · cases e
      exact madeC (t := .lst) g3 hp (l.cutV i j) upd_same trivial q
    · cases e
      exact made (t := .lst) g3 hp (l.cutV i j) upd_same q
  · rename_i ds e0
    obtain ⟨a, xs, rfl, h, l⟩ := view_at g3 a' e0
    split at e
    · cases e
    · rename_i hn
      cases e
      refine .inr ⟨a, xs, rfl, hold_T h, by rw [l.len]; exact hn, fun p hp => ?_⟩
      exact made (t := .tup) g3 hp (l.cutV i j) upd_same q
  · cases e
theorem AtL.rev {T : Wd} {S : Sta} : ∀ {xs : List V} {ds : List D}, AtL T S xs ds → AtL T S xs.reverse ds.reverse
  | [], [], _ => trivial
  | x :: xs, d :: ds, h => by
    obtain ⟨h1, h2⟩ : At T S x d ∧ AtL T S xs ds := h
    rw [List.reverse_cons, List.reverse_cons]
    exact (AtL.rev h2).append ⟨h1, trivial⟩
  | [], _ :: _, h => h.elim
  | _ :: _, [], h => h.elim
/-- xs[::-1] of a list -/
def fRev (x : D) (c : Cells) : O := match view c x with
  | some (.lst, ds) => some (.lst ds.reverse, c)
  | _ => none
theorem se_rev {k : Nat} {p1 p2 p3 : Pos} (ha : SE X W a ma) : SE X W (.Subscript a (.Slice none none (some (.UnaryOp .USub (.Constant (.int 1) k p1) p2)) p3) pos) (m1 fRev ma) := by
  obtain ⟨ta, pa, qa⟩ := ha
  refine ⟨_, pe_revL pa, fun S sg env Qv g en p => ?_⟩
  refine qa S sg env _ g en (post_bind p fun d S1 v e1 g1 x1 a1 p1 => ?_)
  obtain ⟨d', c, e, q⟩ := p1.o.some
  unfold fRev at e
  split at e
  · rename_i ds e0
    cases e
    obtain ⟨a, xs, rfl, h, l⟩ := view_at g1 a1 e0
    exact ⟨a, xs, rfl, .of (hold_L h), fun p hp => made (t := .lst) g1 hp l.rev upd_same q⟩
  · cases e
/-! ### built-ins -/
def mCall (f : List D → Cells → O) (ms : ML) : ME := fun env c => (ms env c).bind fun ds c => (f ds c).r
theorem runC {t : TA} {r : List V → Hp → VK → Prop} {f : List D → Cells → O} (hs : CaS (wd X) r f) (q : ∀ S sg env Qv, Good (wd X) S → EnvAt (wd X) S sg env → PostG (wd X) S (AtL (wd X)) (ms env S.c) Qv (WE W sg) → t sg S.H Qv) :
    ∀ S sg env Qv, Good (wd X) S → EnvAt (wd X) S sg env → Post (wd X) S (mCall f ms env S.c) Qv (WE W sg) → tCB r t sg S.H Qv := by
  intro S sg env Qv g en p
  refine q S sg env _ g en (post_bind p fun ds S1 vs e1 g1 x1 a1 p1 => ?_)
  exact hs S1 vs ds Qv g1 a1 p1.o
section
variable {x : Str} {p : Pos} {id T : String} {f : List D → Cells → O}
theorem se_callB (h : CaF X (.builtin id) f) (hm : X.mg x = none) (ha : SA X W (e :: es) ms) (hg : Gl X x := by rfl) (hv : bootBuiltins x = some (.builtin id) := by decide +kernel) (hn : x ≠ "__name__" := by decide) (hdb : (x == ("__debug__" : Str)) = false := by decide)
    (he : starEach (e :: es) X.env = (false, eval e X.env) :: starEach es X.env := by rfl) (hpl : (backTo pos (starEach es X.env)).any (·.1) = false := by rfl) : SE X W (.Call (.Name x p) (e :: es) [] pos) (mCall f ms) := by
  obtain ⟨r, h1, h2⟩ := h
  obtain ⟨t, pa, q⟩ := ha
  exact ⟨_, pe_callB h1 hg hm hv pa hn hdb he hpl, runC h2 q⟩
theorem se_callTy (h : CaF X (.type T) f) (hm : X.mg x = none) (ha : SA X W (e :: es) ms) (hg : Gl X x := by rfl) (hv : bootBuiltins x = some (.type T) := by decide +kernel) (hn : x ≠ "__name__" := by decide) (hdb : (x == ("__debug__" : Str)) = false := by decide)
    (he : starEach (e :: es) X.env = (false, eval e X.env) :: starEach es X.env := by rfl) (hpl : (backTo pos (starEach es X.env)).any (·.1) = false := by rfl) : SE X W (.Call (.Name x p) (e :: es) [] pos) (mCall f ms) := by
  obtain ⟨r, h1, h2⟩ := h
  obtain ⟨t, pa, q⟩ := ha
  exact ⟨_, pe_callTy h1 hg hm hv pa hn hdb he hpl, runC h2 q⟩
end
/-- one argument -/
theorem AtL.one {T : Wd} {S : Sta} {xs : List V} {d : D} (h : AtL T S xs [d]) : ∃ v, xs = [v] ∧ At T S v d := by
  match xs, h with
  | [v], h => exact ⟨v, rfl, h.1⟩
  | [], h => exact h.elim
  | _ :: _ :: _, h => exact h.2.elim
theorem AtL.two {T : Wd} {S : Sta} {xs : List V} {d d' : D} (h : AtL T S xs [d, d']) : ∃ v v', xs = [v, v'] ∧ At T S v d ∧ At T S v' d' := by
  match xs, h with
  | [v, v'], h => exact ⟨v, v', rfl, h.1, h.2.1⟩
  | [], h => exact h.elim
  | [_], h => exact h.2.elim
  | _ :: _ :: _ :: _, h => exact h.2.2.elim
def bLen : List D → Cells → O
  | [.str y], c => if y.length ≤ sizeLine then some (.int y.length, c) else none
  | [d], c => (seqView c d).map fun ds => (.int ds.length, c)
  | _, _ => none
theorem bLen_ok : CaF X (.builtin "len") bLen := by
  refine ⟨_, call_len, fun S xs ds Qv g ax p => ?_⟩
  obtain ⟨d, c, e, q⟩ := p.some
  unfold bLen at e
  split at e
  · obtain ⟨v, rfl, a⟩ := ax.one
    split at e
    · rename_i h
      cases e
      cases (show v = _ from a)
      exact ⟨_, _, rfl, ⟨h, rfl⟩, q S _ g rfl .refl rfl⟩
    · cases e
  · obtain ⟨v, rfl, a⟩ := ax.one
    obtain ⟨es, e1, e2⟩ := Option.map_eq_some_iff.mp e
    cases e2
    obtain ⟨b, xs, rfl, h, l⟩ := seqView_at g a e1
    rcases h with h | h
    · exact ⟨_, xs.length, rfl, .inl ⟨xs, h, rfl⟩, q S _ g rfl .refl (by rw [l.len]; rfl)⟩
    · exact ⟨_, xs.length, rfl, .inr ⟨xs, h, rfl⟩, q S _ g rfl .refl (by rw [l.len]; rfl)⟩
  · cases e
def bAbs : List D → Cells → O
  | [.int i], c => some (.int (if i < 0 then -i else i), c)
  | _, _ => none
theorem bAbs_ok : CaF X (.builtin "abs") bAbs := by
  refine ⟨_, call_abs, fun S xs ds Qv g ax p => ?_⟩
  obtain ⟨d, c, e, q⟩ := p.some
  unfold bAbs at e
  split at e
  · cases e
    obtain ⟨v, rfl, a⟩ := ax.one
    cases (show v = _ from a)
    exact ⟨_, rfl, q S _ g rfl .refl rfl⟩
  · cases e
def bMax2 : List D → Cells → O
  | [.int i, .int j], c => some (.int (if j > i then j else i), c)
  | _, _ => none
def bMin2 : List D → Cells → O
  | [.int i, .int j], c => some (.int (if j < i then j else i), c)
  | _, _ => none
theorem bMax2_ok (hc : X.calm = true) : CaF X (.builtin "max") bMax2 := by
  refine ⟨_, call_max2 hc, fun S xs ds Qv g ax p => ?_⟩
  obtain ⟨d, c, e, q⟩ := p.some
  unfold bMax2 at e
  split at e
  · cases e
    obtain ⟨v, w, rfl, a, b⟩ := ax.two
    cases (show v = _ from a)
    cases (show w = _ from b)
    exact ⟨_, _, rfl, q S _ g rfl .refl rfl⟩
  · cases e
theorem bMin2_ok (hc : X.calm = true) : CaF X (.builtin "min") bMin2 := by
  refine ⟨_, call_min2 hc, fun S xs ds Qv g ax p => ?_⟩
  obtain ⟨d, c, e, q⟩ := p.some
  unfold bMin2 at e
  split at e
  · cases e
    obtain ⟨v, w, rfl, a, b⟩ := ax.two
    cases (show v = _ from a)
    cases (show w = _ from b)
    exact ⟨_, _, rfl, q S _ g rfl .refl rfl⟩
  · cases e
def bInt : List D → Cells → O
  | [.int i], c => some (.int i, c)
  | [.bl k], c => some (.int (if k then 1 else 0), c)
  | _, _ => none
theorem bInt_ok : CaF X (.type "int") bInt := by
  refine ⟨_, call_int1, fun S xs ds Qv g ax p => ?_⟩
  obtain ⟨d, c, e, q⟩ := p.some
  unfold bInt at e
  split at e
  · cases e
    obtain ⟨v, rfl, a⟩ := ax.one
    cases (show v = _ from a)
    exact .inl ⟨_, rfl, q S _ g rfl .refl rfl⟩
  · cases e
    obtain ⟨v, rfl, a⟩ := ax.one
    cases (show v = _ from a)
    exact .inr ⟨_, rfl, q S _ g rfl .refl rfl⟩
  · cases e
/-- all, any of a list of bools -/
def bools : List D → Option (List Bool)
  | [] => some []
  | .bl b :: ds => (bools ds).map (b :: ·)
  | _ => none
theorem bools_at {T : Wd} {S : Sta} : ∀ {ds : List D} {xs : List V} {bs : List Bool}, bools ds = some bs → AtL T S xs ds → xs = bs.map V.bl
  | [], [], bs, e, _ => by
    cases e
    rfl
  | .bl b :: ds, x :: xs, bs, e, a => by
    obtain ⟨a1, a2⟩ : At T S x (.bl b) ∧ AtL T S xs ds := a
    obtain ⟨bs', e1, rfl⟩ := Option.map_eq_some_iff.mp (show (bools ds).map (b :: ·) = some bs from e)
    rw [bools_at e1 a2, show x = .bl b from a1]
    rfl
  | [], _ :: _, _, _, a => a.elim
  | _ :: _, [], _, _, a => a.elim
  | .non :: _, _ :: _, _, e, _ => nomatch e
  | .int _ :: _, _ :: _, _, e, _ => nomatch e
  | .str _ :: _, _ :: _, _, e, _ => nomatch e
  | .cell _ :: _, _ :: _, _, e, _ => nomatch e
  | .nod _ _ :: _, _ :: _, _, e, _ => nomatch e
def lstView (c : Cells) (d : D) : Option (List D) := match view c d with
  | some (.lst, ds) => some ds
  | _ => none
theorem lstView_at {T : Wd} {S : Sta} {v : V} {d : D} {ds : List D} (g : Good T S) (h : At T S v d) (e : lstView S.c d = some ds) : ∃ a xs, v = .ref a ∧ S.H a = some (.lst xs) ∧ AtL T S xs ds := by
  unfold lstView at e
  split at e
  · rename_i ds' e0
    cases e
    obtain ⟨a, xs, rfl, q, l⟩ := view_at g h e0
    exact ⟨a, xs, rfl, hold_L q, l⟩
  · cases e
def bAll : List D → Cells → O
  | [d], c => ((lstView c d).bind bools).map fun bs => (.bl (bs.all id), c)
  | _, _ => none
def bAny : List D → Cells → O
  | [d], c => ((lstView c d).bind bools).map fun bs => (.bl (bs.any id), c)
  | _, _ => none
theorem bAll_ok (hc : X.calm = true) : CaF X (.builtin "all") bAll := by
  refine ⟨_, cr_all hc, fun S xs ds Qv g ax p => ?_⟩
  obtain ⟨d, c, e, q⟩ := p.some
  unfold bAll at e
  split at e
  · obtain ⟨v, rfl, a⟩ := ax.one
    obtain ⟨bs, e1, e2⟩ := Option.map_eq_some_iff.mp e
    cases e2
    obtain ⟨es, e3, e4⟩ := Option.bind_eq_some_iff.mp e1
    obtain ⟨b, ys, rfl, h, l⟩ := lstView_at g a e3
    have z := bools_at e4 l
    subst z
    exact ⟨b, bs, rfl, .of h, q S _ g rfl .refl rfl⟩
  · cases e
theorem bAny_ok (hc : X.calm = true) : CaF X (.builtin "any") bAny := by
  refine ⟨_, cr_any hc, fun S xs ds Qv g ax p => ?_⟩
  obtain ⟨d, c, e, q⟩ := p.some
  unfold bAny at e
  split at e
  · obtain ⟨v, rfl, a⟩ := ax.one
    obtain ⟨bs, e1, e2⟩ := Option.map_eq_some_iff.mp e
    cases e2
    obtain ⟨es, e3, e4⟩ := Option.bind_eq_some_iff.mp e1
    obtain ⟨b, ys, rfl, h, l⟩ := lstView_at g a e3
    have z := bools_at e4 l
    subst z
    exact ⟨b, bs, rfl, .of h, q S _ g rfl .refl rfl⟩
  · cases e
/-- list(xs), tuple(xs); list(xs) as a cell -/
def bList (C : Bool) : List D → Cells → O
  | [d], c => (seqView c d).map fun ds => if C then (.cell c.length, c ++ [(.lst, ds)]) else (.lst ds, c)
  | _, _ => none
theorem bList_ok {C : Bool} : CaF X (.type "list") (bList C) := by
  refine ⟨_, call_list_of, fun S xs ds Qv g ax p => ?_⟩
  obtain ⟨d, c, e, q⟩ := p.some
  unfold bList at e
  split at e
  · obtain ⟨v, rfl, a⟩ := ax.one
    obtain ⟨es, e1, e2⟩ := Option.map_eq_some_iff.mp e
    obtain ⟨b, ys, rfl, h, l⟩ := seqView_at g a e1
    refine ⟨b, ys, rfl, h, fun p hp => ?_⟩
    cases C with
    | true =>
      cases e2
      exact madeC (t := .lst) g hp l upd_same trivial q
    | false =>
      cases e2
      exact made (t := .lst) g hp l upd_same q
  · cases e
def bTuple : List D → Cells → O
  | [d], c => match view c d with
    | some (.lst, ds) => some (.tup ds, c)
    | some (.tup, _) => some (d, c)
    | _ => none
  | _, _ => none
theorem bTuple_ok : CaF X (.type "tuple") bTuple := by
  refine ⟨_, call_tuple_of, fun S xs ds Qv g ax p => ?_⟩
  obtain ⟨d, c, e, q⟩ := p.some
  unfold bTuple at e
  split at e
  · obtain ⟨v, rfl, a⟩ := ax.one
    split at e
    · rename_i es e0
      cases e
      obtain ⟨b, ys, rfl, h, l⟩ := view_at g a e0
      exact ⟨b, ys, rfl, .inl ⟨.of (hold_L h), fun p hp => made (t := .tup) g hp l upd_same q⟩⟩
    · rename_i es e0
      cases e
      obtain ⟨b, ys, rfl, h, l⟩ := view_at g a e0
      exact ⟨b, ys, rfl, .inr ⟨hold_T h, q S _ g rfl .refl a⟩⟩
    · cases e
  · cases e
def bDivmod : List D → Cells → O
  | [.int i, .int j], c => if 0 < j ∧ Builtin.divisionGoesByPylong i j = false then some (.tup [.int (i / j), .int (i % j)], c) else none
  | _, _ => none
theorem bDivmod_ok : CaF X (.builtin "divmod") bDivmod := by
  refine ⟨_, call_divmodW, fun S xs ds Qv g ax p => ?_⟩
  obtain ⟨d, c, e, q⟩ := p.some
  unfold bDivmod at e
  split at e
  · split at e
    · rename_i h
      cases e
      obtain ⟨v, w, rfl, a, b⟩ := ax.two
      cases (show v = _ from a)
      cases (show w = _ from b)
      exact ⟨_, _, rfl, h, fun p hp => made (t := .tup) (xs := [.int _, .int _]) (ds := [.int _, .int _]) g hp ⟨rfl, rfl, trivial⟩ upd_same q⟩
    · cases e
  · cases e
def bStrI : List D → Cells → O
  | [.int i], c => if i.natAbs.log2 < 1920 then some (.str (toString i), c) else none
  | _, _ => none
theorem bStrI_ok : CaF X (.type "str") bStrI := by
  refine ⟨_, call_str_int, fun S xs ds Qv g ax p => ?_⟩
  obtain ⟨d, c, e, q⟩ := p.some
  unfold bStrI at e
  split at e
  · split at e
    · rename_i h
      cases e
      obtain ⟨v, rfl, a⟩ := ax.one
      cases (show v = _ from a)
      exact ⟨_, rfl, h, q S _ g rfl .refl rfl⟩
    · cases e
  · cases e
end
end Q
end
section
set_option Elab.async false
set_option linter.all false
set_option maxRecDepth 100000
namespace Q
open PySem PySem.Spec L2
variable [Tb]
/-! ### statements -/
inductive Fl where
  | nx (env : Env) | rt (d : D) | bk (env : Env) | ct (env : Env)
inductive RS where
  | ok (f : Fl) (c : Cells)
  | err (x : Exn) (env : Env) (c : Cells)
  | stk
def PostS (T : Wd) (S : Sta) (r : RS) (Dn : Ends) (W : WX) : Prop := match r with
  | .ok (.nx env) c => ∀ S' sg, Good T S' → S'.c = c → Ext T S S' → EnvAt T S' sg env → Dn.nx sg S'.H
  | .ok (.bk env) c => ∀ S' sg, Good T S' → S'.c = c → Ext T S S' → EnvAt T S' sg env → Dn.bk sg S'.H
  | .ok (.ct env) c => ∀ S' sg, Good T S' → S'.c = c → Ext T S S' → EnvAt T S' sg env → Dn.ct sg S'.H
  | .ok (.rt d) c => ∀ S' v, Good T S' → S'.c = c → Ext T S S' → At T S' v d → Dn.rt v S'.H
  | .err x env c => ∀ S' sg cls dd, Good T S' → S'.c = c → Ext T S S' → EnvAt T S' sg env → ExAt T S' cls dd x → W cls dd sg S'.H
  | .stk => False
theorem PostS.ext {T : Wd} {S S1 : Sta} {r : RS} {Dn : Ends} {W : WX} (e : Ext T S S1) (h : PostS T S r Dn W) : PostS T S1 r Dn W := by
  match r, h with
  | .ok (.nx env) c, h => exact fun S' sg g hc x a => h S' sg g hc (e.trans x) a
  | .ok (.bk env) c, h => exact fun S' sg g hc x a => h S' sg g hc (e.trans x) a
  | .ok (.ct env) c, h => exact fun S' sg g hc x a => h S' sg g hc (e.trans x) a
  | .ok (.rt d) c, h => exact fun S' sg g hc x a => h S' sg g hc (e.trans x) a
  | .err y env c, h => exact fun S' sg cls dd g hc x a z => h S' sg cls dd g hc (e.trans x) a z
  | .stk, h => exact h
abbrev MS := Env → Cells → RS
/-- an expression's outcome, then a statement's -/
def R.st {a : Type} (r : R a) (env : Env) (k : a → Cells → RS) : RS := match r with
  | .ok d c => k d c
  | .err x c => .err x env c
  | .stk => .stk
theorem post_st {a b : Type} {T : Wd} {S : Sta} {rel : Sta → b → a → Prop} {r : R a} {env : Env} {sg : L2.St} {k : a → Cells → RS} {Dn : Ends} {W : WX} {Q2 : b → Hp → Prop} (h : PostS T S (r.st env k) Dn W) (en : EnvAt T S sg env)
    (h2 : ∀ d S1 v, r = .ok d S1.c → Good T S1 → Ext T S S1 → rel S1 v d → PostS T S1 (k d S1.c) Dn W → Q2 v S1.H) : PostG T S rel r Q2 (WE W sg) := by
  cases r with
  | ok d c =>
    have h : PostS T S (k d c) Dn W := h
    intro S1 v g hc x a
    subst hc
    exact h2 d S1 v rfl g x a (PostS.ext x h)
  | err y c =>
    have h : PostS T S (.err y env c) Dn W := h
    exact fun S' cls dd g hc x z => h S' sg cls dd g hc x (en.ext x) z
  | stk =>
    have h : PostS T S .stk Dn W := h
    exact h
/-- a statement's outcome, then another's -/
def RS.next (r : RS) (k : Env → Cells → RS) : RS := match r with
  | .ok (.nx env) c => k env c
  | r => r
theorem post_next {T : Wd} {S : Sta} {r : RS} {k : MS} {Dn : Ends} {W : WX} (h : PostS T S (r.next k) Dn W) {nx : L2.St → Hp → Prop}
    (h2 : ∀ env S1 sg, r = .ok (.nx env) S1.c → Good T S1 → Ext T S S1 → EnvAt T S1 sg env → PostS T S1 (k env S1.c) Dn W → nx sg S1.H) : PostS T S r { Dn with nx := nx } W := by
  match r, h with
  | .ok (.nx env) c, h =>
    have h : PostS T S (k env c) Dn W := h
    intro S1 sg g hc x a
    subst hc
    exact h2 env S1 sg rfl g x a (PostS.ext x h)
  | .ok (.bk env) c, h => exact h
  | .ok (.ct env) c, h => exact h
  | .ok (.rt d) c, h => exact h
  | .err y env c, h => exact h
  | .stk, h => exact h
/-- the reading of a statement -/
def tS (T : Wd) (m : MS) (W : WX) : TS := fun Dn sg H => ∃ S env, S.H = H ∧ Good T S ∧ EnvAt T S sg env ∧ PostS T S (m env S.c) Dn W
def SS (X : Cx) (W : WX) (st : Stmt) (m : MS) : Prop := PS X st (tS (wd X) m W)
def SB (X : Cx) (W : WX) (st : List Stmt) (m : MS) : Prop := PSs X st (tS (wd X) m W)
theorem PS.imp {X : Cx} {st : Stmt} {t t' : TS} (h : PS X st t) (i : ∀ D s H, t' D s H → t D s H) : PS X st t' := ⟨fun pins s sg H D I q => h.run pins s sg H D I (i _ _ _ q)⟩
theorem PSs.imp {X : Cx} {st : List Stmt} {t t' : TS} (h : PSs X st t) (i : ∀ D s H, t' D s H → t D s H) : PSs X st t' := ⟨fun pins s sg H D I q => h.run pins s sg H D I (i _ _ _ q)⟩
section
variable {X : Cx} {W : WX} {e a b c : Expr} {es : List Expr} {pos pos' : Pos} {m ma mb mc : ME} {ms : ML} {st : Stmt} {rest : List Stmt} {k k2 : MS}
def sNil : MS := fun env c => .ok (.nx env) c
def sSeq (k k2 : MS) : MS := fun env c => (k env c).next k2
theorem sb_nil : SB X W [] sNil := PSs.imp pss_nil fun D sg H ⟨S, env, e, g, en, p⟩ => by
  subst e
  exact p S sg g rfl .refl en
theorem sb_cons (h : SS X W st k) (h2 : SB X W rest k2) : SB X W (st :: rest) (sSeq k k2) := PSs.imp (pss_cons h h2) fun D sg H ⟨S, env, e, g, en, p⟩ =>
  ⟨S, env, e, g, en, post_next p fun env' S1 sg' _ g1 x a p1 => ⟨S1, env', rfl, g1, a, p1⟩⟩
theorem sb_one (h : SS X W st k) : SB X W [st] k := PSs.imp (pss_one h) fun _ _ _ q => q
def sRet (m : ME) : MS := fun env c => (m env c).st env fun d c => .ok (.rt d) c
theorem ss_ret (ha : SE X W a ma) : SS X W (.Return (some a) pos) (sRet ma) := by
  obtain ⟨t, p, q⟩ := ha
  refine PS.imp (ps_ret p) fun D sg H ⟨S, env, e, g, en, z⟩ => ?_
  subst e
  exact q S sg env _ g en (post_st z en fun d S1 v e1 g1 x1 a1 p1 => p1 S1 v g1 rfl .refl a1)
def sRetN : MS := fun _ c => .ok (.rt .non) c
theorem ss_retN : SS X W (.Return none pos) sRetN := PS.imp ps_retN fun D sg H ⟨S, env, e, g, en, z⟩ => by
  subst e
  exact z S .non g rfl .refl rfl
theorem ss_pass : SS X W (.Pass pos) sNil := PS.imp ps_pass fun D sg H ⟨S, env, e, g, en, z⟩ => by
  subst e
  exact z S sg g rfl .refl en
def sBrk : MS := fun env c => .ok (.bk env) c
def sCnt : MS := fun env c => .ok (.ct env) c
theorem ss_break : SS X W (.Break pos) sBrk := PS.imp ps_break fun D sg H ⟨S, env, e, g, en, z⟩ => by
  subst e
  exact z S sg g rfl .refl en
theorem ss_continue : SS X W (.Continue pos) sCnt := PS.imp ps_continue fun D sg H ⟨S, env, e, g, en, z⟩ => by
  subst e
  exact z S sg g rfl .refl en
theorem ss_doc {x j} : SS X W (.Expr (.Constant (.str x) j pos) pos') sNil := PS.imp ps_doc fun D sg H ⟨S, env, e, g, en, z⟩ => by
  subst e
  exact z S sg g rfl .refl en
def sExpr (m : ME) : MS := fun env c => (m env c).st env fun _ c => .ok (.nx env) c
theorem ss_expr (ha : SE X W a ma) (hs : swapsWith a none pos.line X.env = pure false := by rfl) : SS X W (.Expr a pos) (sExpr ma) := by
  obtain ⟨t, p, q⟩ := ha
  refine PS.imp (ps_expr p hs) fun D sg H ⟨S, env, e, g, en, z⟩ => ?_
  subst e
  exact q S sg env _ g en (post_st z en fun d S1 v e1 g1 x1 a1 p1 => p1 S1 sg g1 rfl .refl (en.ext x1))
def sSet (i : Nat) (m : ME) : MS := fun env c => (m env c).st env fun d c => .ok (.nx (env.set i (some d))) c
theorem ss_set {i : Nat} {x : Str} (hN : X.N.Nodup) (ha : SE X W a ma) (hi : X.N[i]? = some x := by rfl) (hx : Loc X.env.scope x := by first | exact Or.inl rfl | exact Or.inr rfl) (hs : swapsWith a (some (.Name x pos')) pos.line X.env = pure false := by rfl)
    (hf : X.fn x = true ∨ X.env.scope.names.lookup x = some .local := by first | exact .inl rfl | exact .inr rfl | assumption) : SS X W (.Assign [.Name x pos'] a pos) (sSet i ma) := by
  obtain ⟨t, p, q⟩ := ha
  refine PS.imp (ps_set hN hi hx p hs hf) fun D sg H ⟨S, env, e, g, en, z⟩ => ?_
  subst e
  exact q S sg env _ g en (post_st z en fun d S1 v e1 g1 x1 a1 p1 => p1 S1 _ g1 rfl .refl ((en.ext x1).set i a1))
def sIf (mt : MB) (k k2 : MS) : MS := fun env c => (mt env c).st env fun b c => if b = true then k env c else k2 env c
theorem ss_if {mt : MB} {bs cs : List Stmt} (ht : ST X W a mt) (hb : SB X W bs k) (hc : SB X W cs k2) : SS X W (.If a bs cs pos) (sIf mt k k2) := by
  obtain ⟨t, p, q⟩ := ht
  refine PS.imp (ps_if p hb hc) fun D sg H ⟨S, env, e, g, en, z⟩ => ?_
  subst e
  refine q S sg env _ g en (post_st z en fun d S1 v e1 g1 x1 a1 p1 => ?_)
  cases a1
  cases d with
  | true => exact iteT ⟨S1, env, rfl, g1, en.ext x1, p1⟩
  | false => exact iteF ⟨S1, env, rfl, g1, en.ext x1, p1⟩
/-! ### targets -/
abbrev MG := D → Env → Cells → Option (Env × Cells)
def PostE (T : Wd) (S : Sta) (o : Option (Env × Cells)) (Qv : L2.St → Hp → Prop) : Prop := match o with
  | some (env, c) => ∀ S' sg, Good T S' → S'.c = c → Ext T S S' → EnvAt T S' sg env → Qv sg S'.H
  | none => False
def SG (X : Cx) (tg : Expr) (m : MG) : Prop := ∃ t, PG X tg t ∧ ∀ S v d sg env Qv, Good (wd X) S → EnvAt (wd X) S sg env → At (wd X) S v d → PostE (wd X) S (m d env S.c) Qv → t v sg S.H Qv
abbrev MGs := List D → Env → Cells → Option (Env × Cells)
def SGs (X : Cx) (tg : List Expr) (m : MGs) : Prop := ∃ t, PGs X tg t ∧ ∀ S vs ds sg env Qv, Good (wd X) S → EnvAt (wd X) S sg env → AtL (wd X) S vs ds → PostE (wd X) S (m ds env S.c) Qv → t vs sg S.H Qv
def gN (i : Nat) : MG := fun d env c => some (env.set i (some d), c)
theorem sg_name {i : Nat} {x : Str} (hN : X.N.Nodup) (hi : X.N[i]? = some x := by rfl) (hx : Loc X.env.scope x := by first | exact Or.inl rfl | exact Or.inr rfl)
    (hf : X.fn x = true ∨ X.env.scope.names.lookup x = some .local := by first | exact .inl rfl | exact .inr rfl | assumption) : SG X (.Name x pos) (gN i) :=
  ⟨_, pg_name hN hi hx hf, fun S v d sg env Qv g en a p => p S _ g rfl .refl (en.set i a)⟩
def gsNil : MGs := fun ds env c => match ds with
  | [] => some (env, c)
  | _ => none
def gsCons (m : MG) (ms : MGs) : MGs := fun ds env c => match ds with
  | d :: ds => (m d env c).bind fun p => ms ds p.1 p.2
  | [] => none
theorem sgs_nil : SGs X [] gsNil := ⟨_, pgs_nil, fun S vs ds sg env Qv g en a p => by
  cases ds with
  | nil =>
    cases vs with
    | nil => exact ⟨rfl, p S sg g rfl .refl en⟩
    | cons _ _ => exact a.elim
  | cons _ _ => exact p.elim⟩
theorem PostE.some {T : Wd} {S : Sta} {o : Option (Env × Cells)} {Qv : L2.St → Hp → Prop} (h : PostE T S o Qv) : ∃ env c, o = some (env, c) ∧ ∀ S' sg, Good T S' → S'.c = c → Ext T S S' → EnvAt T S' sg env → Qv sg S'.H := by
  cases o with
  | none => exact False.elim h
  | some p => exact ⟨p.1, p.2, rfl, h⟩
theorem PostE.ext {T : Wd} {S S1 : Sta} {o : Option (Env × Cells)} {Qv : L2.St → Hp → Prop} (e : Ext T S S1) (h : PostE T S o Qv) : PostE T S1 o Qv := by
  cases o with
  | none => exact h
  | some p => exact fun S' sg g hc x a => h S' sg g hc (e.trans x) a
theorem sgs_cons {g : MG} {gs : MGs} (h : SG X e g) (h2 : SGs X es gs) (hs : (assignEach (e :: es) X.env).map (·.2) = assign e X.env :: (assignEach es X.env).map (·.2) := by rfl) : SGs X (e :: es) (gsCons g gs) := by
  obtain ⟨t, p, q⟩ := h
  obtain ⟨t2, p2, q2⟩ := h2
  refine ⟨_, pgs_cons p p2 hs, fun S vs ds sg env Qv gd en al z => ?_⟩
  cases ds with
  | nil => exact z.elim
  | cons d ds =>
    cases vs with
    | nil => exact al.elim
    | cons v vs =>
      obtain ⟨a1, a2⟩ : At (wd X) S v d ∧ AtL (wd X) S vs ds := al
      refine ⟨v, vs, rfl, q S v d sg env _ gd en a1 ?_⟩
      have z : PostE (wd X) S ((g d env S.c).bind fun p => gs ds p.1 p.2) Qv := z
      cases e1 : g d env S.c with
      | none =>
        rw [e1] at z
        exact z.elim
      | some r =>
        obtain ⟨env', c'⟩ := r
        rw [e1] at z
        have z : PostE (wd X) S (gs ds env' c') Qv := z
        intro S1 sg1 g1 hc x1 en1
        subst hc
        exact q2 S1 vs ds sg1 env' _ g1 en1 (x1.list a2) (PostE.ext x1 z)
def gT (ms : MGs) : MG := fun d env c => match view c d with
  | some (.tup, ds) => ms ds env c
  | _ => none
theorem sg_tup {n k : Nat} {gs : MGs} (hc : X.calm = true) (h : SGs X es gs) (hlen : ∀ ds env c r, gs ds env c = some r → ds.length = n) (hn : (assignEach es X.env).length = n := by rfl) (hst : (assignEach es X.env).findIdx? (·.1) = none := by rfl) : SG X (.Tuple es k pos) (gT gs) := by
  obtain ⟨t, p, q⟩ := h
  refine ⟨_, pg_tup hc p hn hst, fun S v d sg env Qv g en a z => ?_⟩
  unfold gT at z
  split at z
  · rename_i ds e0
    obtain ⟨b, xs, rfl, h, l⟩ := view_at g a e0
    obtain ⟨env', c', e1, z'⟩ := z.some
    exact ⟨b, xs, rfl, hold_T h, by rw [l.len]; exact hlen _ _ _ _ e1, q S xs ds sg env Qv g en l z⟩
  · exact z.elim
theorem gs_len0 : ∀ ds env c r, gsNil ds env c = some r → ds.length = 0 := fun ds env c r h => by
  cases ds with
  | nil => rfl
  | cons _ _ => cases h
theorem gs_lenS {g : MG} {gs : MGs} {n : Nat} (h : ∀ ds env c r, gs ds env c = some r → ds.length = n) : ∀ ds env c r, gsCons g gs ds env c = some r → ds.length = n + 1 := fun ds env c r e => by
  cases ds with
  | nil => cases e
  | cons d ds =>
    obtain ⟨p, _, e2⟩ := Option.bind_eq_some_iff.mp (show (g d env c).bind _ = some r from e)
    rw [List.length_cons, h _ _ _ _ e2]
/-- target = e -/
def Oe (o : Option (Env × Cells)) : RS := match o with
  | some (env, c) => .ok (.nx env) c
  | none => .stk
def sAsg (g : MG) (m : ME) : MS := fun env c => (m env c).st env fun d c => Oe (g d env c)
theorem post_oe {T : Wd} {S : Sta} {o : Option (Env × Cells)} {Dn : Ends} {W : WX} (h : PostS T S (Oe o) Dn W) : PostE T S o Dn.nx := by
  cases o with
  | none => exact h
  | some p => exact h
theorem ss_asg {tg : Expr} {g : MG} (ha : SE X W a ma) (hg : SG X tg g) (hs : swapsWithSole [tg] a pos.line X.env = pure false := by rfl) (hw : swappedStores [tg] a X.env = pure none := by rfl)
    (h1 : (assignEach [tg] X.env).map (·.2) = [assign tg X.env] := by rfl) : SS X W (.Assign [tg] a pos) (sAsg g ma) := by
  obtain ⟨t, p, q⟩ := ha
  obtain ⟨t2, p2, q2⟩ := hg
  refine PS.imp (ps_asg p p2 hs hw h1) fun D sg H ⟨S, env, e, gd, en, z⟩ => ?_
  subst e
  exact q S sg env _ gd en (post_st z en fun d S1 v e1 g1 x1 a1 p1 => q2 S1 v d sg env _ g1 (en.ext x1) a1 (post_oe p1))
/-- behind one expression the list of it -/
theorem post_bind_ok {T : Wd} {S : Sta} {a2 b2 : Type} {rel2 : Sta → b2 → a2 → Prop} {r : R D} {k : D → Cells → R a2} {Qv : b2 → Hp → Prop} {Q2 : List V → Hp → Prop} {E : XK} (h : PostG T S rel2 (r.bind k) Qv E)
    (h2 : ∀ d S1 v, Good T S1 → Ext T S S1 → At T S1 v d → PostG T S1 rel2 (k d S1.c) Qv E → Q2 [v] S1.H) : PostG T S (AtL T) (r.bind fun d c => .ok [d] c) Q2 E := by
  cases r with
  | ok d c =>
    intro S1 vs g hc x a
    obtain ⟨v, rfl, a1⟩ := AtL.one a
    subst hc
    exact h2 d S1 v g x a1 (PostG.ext x h)
  | err y c => exact h
  | stk => exact h
/-! ### what a for walks -/
structure Src where
  get : Nat → Cells → Option (Option D)
  fuel : Nat
/-- a later state, perhaps with more hidden -/
structure Ext0 (T : Wd) (S S' : Sta) : Prop where
  pre : S.r <+: S'.r
  keep : ∀ v d, At T S v d → At T S' v d
  hid : ∀ a ∈ S.x, a ∈ S'.x ∧ S'.H a = S.H a
theorem Ext.zero {T : Wd} {S S' : Sta} (e : Ext T S S') : Ext0 T S S' := ⟨e.pre, e.keep, fun a ha => ⟨by rw [e.hx]; exact ha, e.hh a ha⟩⟩
theorem Ext0.trans {T : Wd} {S S1 S2 : Sta} (a : Ext0 T S S1) (b : Ext0 T S1 S2) : Ext0 T S S2 := ⟨a.pre.trans b.pre, fun v d h => b.keep v d (a.keep v d h), fun p hp => ⟨(b.hid p (a.hid p hp).1).1, (b.hid p (a.hid p hp).1).2.trans (a.hid p hp).2⟩⟩
theorem EnvAt.zero {T : Wd} {S S' : Sta} {sg : L2.St} {env : Env} (h : EnvAt T S sg env) (e : Ext0 T S S') : EnvAt T S' sg env :=
  ⟨h.len, fun i d q => let ⟨v, a, b⟩ := h.get i d q; ⟨v, a, e.keep v d b⟩⟩
def ItOk (T : Wd) (S : Sta) (J : It) (s : Src) : Prop := ∀ i S1, Good T S1 → Ext0 T S S1 → match s.get i S1.c with
  | some (some d) => J.go i S1.H ∧ ∀ v H', J.yld i S1.H v H' → ∃ S2, S2.H = H' ∧ Good T S2 ∧ S2.c = S1.c ∧ Ext T S1 S2 ∧ At T S2 v d
  | some none => J.stop i S1.H
  | none => True
theorem ItOk.ext {T : Wd} {S S1 : Sta} {J : It} {s : Src} (h : ItOk T S J s) (e : Ext0 T S S1) : ItOk T S1 J s := fun i S2 g x => h i S2 g (e.trans x)
abbrev MI := Env → Cells → R Src
def SI (X : Cx) (W : WX) (tg it : Expr) (m : MI) : Prop := ∃ t, PI X tg it t ∧ ∀ S sg env Rv, Good (wd X) S → EnvAt (wd X) S sg env → PostG (wd X) S (fun S' J s => ItOk (wd X) S' J s) (m env S.c) Rv (WE W sg) → t sg S.H Rv
/-- the turns -/
def forS (s : Src) (g : MG) (k : MS) : Nat → Nat → MS
  | 0, _, _, _ => .stk
  | n + 1, i, env, c => match s.get i c with
    | none => .stk
    | some none => .ok (.nx env) c
    | some (some d) => match g d env c with
      | none => .stk
      | some (env1, c1) => match k env1 c1 with
        | .ok (.nx env2) c2 => forS s g k n (i + 1) env2 c2
        | .ok (.ct env2) c2 => forS s g k n (i + 1) env2 c2
        | .ok (.bk env2) c2 => .ok (.nx env2) c2
        | r => r
def sFor (mi : MI) (g : MG) (k : MS) : MS := fun env c => (mi env c).st env fun s c => forS s g k s.fuel 0 env c
theorem ss_for {tg it : Expr} {mi : MI} {g : MG} {bs : List Stmt} (hp : PassesOwn (model X.prog X.w) X.A X.env X.xe) (hc : X.calm = true) (hi : SI X W tg it mi) (hg : SG X tg g) (hb : SB X W bs k)
    (hs : ∀ x, foldedSetIterable it X.env x = pure x := by intro _; rfl) : SS X W (.For tg it bs [] pos) (sFor mi g k) := by
  obtain ⟨t, p, q⟩ := hi
  obtain ⟨t2, p2, q2⟩ := hg
  refine PS.imp (ps_for hp hc p p2 hb hs) fun D sg H ⟨S, env, e, gd, en, z⟩ => ?_
  subst e
  refine q S sg env _ gd en (post_st z en fun s S0 J e1 g1 x1 a1 p1 => ?_)
  refine ⟨fun i m sg H => ∃ S1 env, S1.H = H ∧ Good (wd X) S1 ∧ Ext (wd X) S0 S1 ∧ EnvAt (wd X) S1 sg env ∧ PostS (wd X) S1 (forS s g k m i env S1.c) D W, ⟨s.fuel, S0, env, rfl, g1, .refl, en.ext x1, p1⟩, ?_⟩
  rintro i m sg1 H1 ⟨S1, env1, rfl, gd1, y1, en1, z1⟩
  have io := a1 i S1 gd1 y1.zero
  cases m with
  | zero => exact z1.elim
  | succ m =>
    unfold forS at z1
    cases e2 : s.get i S1.c with
    | none =>
      simp only [e2] at z1
      exact z1.elim
    | some o =>
      simp only [e2] at z1 io
      cases o with
      | none => exact .inl ⟨io, z1 S1 sg1 gd1 rfl .refl en1⟩
      | some d =>
        obtain ⟨i1, i2⟩ := io
        refine .inr ⟨i1, fun sg' H' => ∃ S1 env, S1.H = H' ∧ Good (wd X) S1 ∧ Ext (wd X) S0 S1 ∧ EnvAt (wd X) S1 sg' env ∧ PostS (wd X) S1 (forS s g k m (i + 1) env S1.c) D W, fun sg' H' hN => ⟨m, Nat.lt_succ_self m, hN⟩, fun v H' hy => ?_⟩
        obtain ⟨S2, rfl, g2, ec, x2, a2⟩ := i2 v H' hy
        simp only at z1
        refine q2 S2 v d sg1 env1 _ g2 (en1.ext x2) a2 ?_
        rw [ec]
        cases e3 : g d env1 S1.c with
        | none =>
          simp only [e3] at z1
          exact z1.elim
        | some r =>
          obtain ⟨env2, c2⟩ := r
          simp only [e3] at z1
          intro S3 sg3 g3 hc3 x3 en3
          subst hc3
          refine ⟨S3, env2, rfl, g3, en3, ?_⟩
          have ext3 := (y1.trans x2).trans x3
          have z2 := PostS.ext (x2.trans x3) z1
          cases e4 : k env2 S3.c with
          | stk => rw [e4] at z2; exact z2
          | err y env4 c4 => rw [e4] at z2; exact z2
          | ok f c4 =>
            rw [e4] at z2
            cases f with
            | nx env4 =>
              intro S4 sg4 g4 hc4 x4 en4
              subst hc4
              exact ⟨S4, env4, rfl, g4, ext3.trans x4, en4, PostS.ext x4 z2⟩
            | ct env4 =>
              intro S4 sg4 g4 hc4 x4 en4
              subst hc4
              exact ⟨S4, env4, rfl, g4, ext3.trans x4, en4, PostS.ext x4 z2⟩
            | bk env4 => exact z2
            | rt d4 => exact z2
/-- a list or a tuple, as it stands at each turn -/
def srcT (t : Tg) (d : D) (n : Nat) : Src := ⟨fun i c => match view c d with
  | some (t', ds) => if t' = t then some ds[i]? else none
  | none => none, n⟩
theorem srcT_some {t : Tg} {d : D} {n i : Nat} {c : Cells} {o : Option D} (h : (srcT t d n).get i c = some o) : ∃ ds, view c d = some (t, ds) ∧ o = ds[i]? := by
  unfold srcT at h
  dsimp only at h
  split at h
  · rename_i t' ds e
    by_cases ht : t' = t
    · subst ht
      rw [if_pos rfl] at h
      exact ⟨ds, e, (Option.some.inj h).symm⟩
    · rw [if_neg ht] at h
      cases h
  · cases h
/-- a walked list or tuple: one rule for both -/
theorem pi_seq {tg l : Expr} {tl : TE} (hl : PE X l tl) : PI X tg l (fun sg H R => tl sg H fun x H1 => (∃ a, x = .ref a ∧ (∃ xs, SqL X.K H1 a xs) ∧ R (Itl X.K a) H1) ∨ ∃ a, x = .ref a ∧ (∃ xs, SqT X.K H1 a xs) ∧ R (Itt X.K a) H1) := by
  refine ⟨fun pins s sg H R I h => ?_⟩
  refine thn (hl.run pins s sg H _ I h) fun v s1 ⟨x, H1, I1, r1, q1⟩ => ?_
  rcases q1 with ⟨a, e, ⟨xs, hq⟩, q⟩ | ⟨a, e, ⟨xs, hq⟩, q⟩
  · subst e
    cases r1
    obtain ⟨its, rv, p, hz⟩ := I1.list hq
    refine wpAny_pyIter_list p.isList ?_
    refine ⟨s1.heap.objs.size, [s1.heap.objs.size], _, _, H1, rfl, I1.kept (t' := s1.toks) fun b o e => Heap.get?_push_of_some _ e, turn_list a _, ⟨_, Heap.get?_push_size _ rfl, rfl, rfl⟩, fun b hb => ?_, q⟩
    have e : b = s1.heap.objs.size := by simpa using hb
    subst e
    exact I1.fpOk (Nat.le_refl _) (I1.hok.fresh (Nat.le_refl _))
  · subst e
    cases r1
    obtain ⟨its, rv, p, hz⟩ := I1.tuple hq
    refine wpAny_pyIter_tuple (show s1.heap.IsTuple a its.toArray from p) ?_
    refine ⟨s1.heap.objs.size, [s1.heap.objs.size], _, _, H1, rfl, I1.kept (t' := s1.toks) fun b o e => Heap.get?_push_of_some _ e, turn_tuple a _, ⟨_, Heap.get?_push_size _ rfl, rfl, rfl⟩, fun b hb => ?_, q⟩
    have e : b = s1.heap.objs.size := by simpa using hb
    subst e
    exact I1.fpOk (Nat.le_refl _) (I1.hok.fresh (Nat.le_refl _))
theorem itl_T {T : Wd} {S : Sta} {d : D} {n : Nat} {b : Addr} {t : Tg} (hl : ∀ S1, Good T S1 → Ext0 T S S1 → ∀ ds, view S1.c d = some (t, ds) → ∃ xs, SqL T.K S1.H b xs ∧ AtL T S1 xs ds) : ItOk T S (Itl T.K b) (srcT t d n) := by
  intro i S1 g x
  cases e : (srcT t d n).get i S1.c with
  | none => trivial
  | some o =>
    obtain ⟨ds, e1, rfl⟩ := srcT_some e
    obtain ⟨xs, h1, h2⟩ := hl S1 g x ds e1
    cases e2 : ds[i]? with
    | none => exact ⟨xs, h1, by rw [h2.len]; exact List.getElem?_eq_none_iff.mp e2⟩
    | some y =>
      obtain ⟨w, h3, h4⟩ := h2.get e2
      refine ⟨⟨xs, w, h1, h3⟩, fun v H' hy => ?_⟩
      obtain ⟨rfl, hy⟩ := hy
      have e3 := hy xs h1
      rw [h3] at e3
      cases e3
      exact ⟨S1, rfl, g, rfl, .refl, h4⟩
theorem itt_T {T : Wd} {S : Sta} {d : D} {n : Nat} {b : Addr} {t : Tg} (hl : ∀ S1, Good T S1 → Ext0 T S S1 → ∀ ds, view S1.c d = some (t, ds) → ∃ xs, SqT T.K S1.H b xs ∧ AtL T S1 xs ds) : ItOk T S (Itt T.K b) (srcT t d n) := by
  intro i S1 g x
  cases e : (srcT t d n).get i S1.c with
  | none => trivial
  | some o =>
    obtain ⟨ds, e1, rfl⟩ := srcT_some e
    obtain ⟨xs, h1, h2⟩ := hl S1 g x ds e1
    cases e2 : ds[i]? with
    | none => exact ⟨xs, h1, by rw [h2.len]; exact List.getElem?_eq_none_iff.mp e2⟩
    | some y =>
      obtain ⟨w, h3, h4⟩ := h2.get e2
      refine ⟨⟨xs, w, h1, h3⟩, fun v H' hy => ?_⟩
      obtain ⟨rfl, hy⟩ := hy
      have e3 := hy xs h1
      rw [h3] at e3
      cases e3
      exact ⟨S1, rfl, g, rfl, .refl, h4⟩
theorem view_same {T : Wd} {S S1 : Sta} {d : D} {b : Addr} (g1 : Good T S1) (x : Ext0 T S S1) (a : At T S (.ref b) d) {t : Tg} {ds : List D} (e : view S1.c d = some (t, ds)) : ∃ xs, (Hold T S1.H b xs t ∨ HoldK T b xs t) ∧ AtL T S1 xs ds := by
  obtain ⟨b', xs, eb, h, l⟩ := view_at g1 (x.keep _ _ a) e
  cases eb
  exact ⟨xs, h, l⟩
def mWalk (m : ME) : MI := fun env c => (m env c).bind fun d c => match view c d with
  | some (.lst, ds) => .ok (srcT .lst d (ds.length + 1)) c
  | some (.frl, ds) => .ok (srcT .frl d (ds.length + 1)) c
  | some (.tup, ds) => .ok (srcT .tup d (ds.length + 1)) c
  | _ => .stk
theorem si_walk {tg l : Expr} {m : ME} (hl : SE X W l m) : SI X W tg l (mWalk m) := by
  obtain ⟨t, p, q⟩ := hl
  refine ⟨_, pi_seq p, fun S sg env Rv g en z => ?_⟩
  refine q S sg env _ g en (post_bind z fun d S1 v e1 g1 x1 a1 p1 => ?_)
  split at p1
  · rename_i ds hv
    obtain ⟨b, xs, rfl, h, l⟩ := view_at g1 a1 hv
    exact .inl ⟨b, rfl, ⟨xs, .of (hold_L h)⟩, p1 S1 _ g1 rfl .refl (itl_T fun S2 g2 x2 ds2 e2 => let ⟨ys, h2, l2⟩ := view_same g2 x2 a1 e2; ⟨ys, .of (hold_L h2), l2⟩)⟩
  · rename_i ds hv
    obtain ⟨b, xs, rfl, h, l⟩ := view_at g1 a1 hv
    exact .inl ⟨b, rfl, ⟨xs, hold_F h⟩, p1 S1 _ g1 rfl .refl (itl_T fun S2 g2 x2 ds2 e2 => let ⟨ys, h2, l2⟩ := view_same g2 x2 a1 e2; ⟨ys, hold_F h2, l2⟩)⟩
  · rename_i ds hv
    obtain ⟨b, xs, rfl, h, l⟩ := view_at g1 a1 hv
    exact .inr ⟨b, rfl, ⟨xs, hold_T h⟩, p1 S1 _ g1 rfl .refl (itt_T fun S2 g2 x2 ds2 e2 => let ⟨ys, h2, l2⟩ := view_same g2 x2 a1 e2; ⟨ys, hold_T h2, l2⟩)⟩
  · exact p1.elim
/-- range(n), range(a, b) -/
def srcR (lo : Int) (n : Nat) : Src := ⟨fun i _ => some (if i < n then some (.int (lo + i)) else none), n + 1⟩
theorem itr_ok {T : Wd} {S : Sta} {lo : Int} {n : Nat} : ItOk T S (Itr lo n) (srcR lo n) := by
  intro i S1 g x
  by_cases h : i < n
  · have e : (srcR lo n).get i S1.c = some (some (.int (lo + i))) := by
      show some (if i < n then some (D.int (lo + i)) else none) = _
      rw [if_pos h]
    rw [e]
    exact ⟨h, fun v H' hy => ⟨S1, hy.1.symm, g, rfl, .refl, hy.2⟩⟩
  · have e : (srcR lo n).get i S1.c = some none := by
      show some (if i < n then some (D.int (lo + i)) else none) = _
      rw [if_neg h]
    rw [e]
    exact Nat.le_of_not_lt h
def mRng1 (ma : ME) : MI := fun env c => (ma env c).bind fun d c => match d with
  | .int j => if -(2 ^ 62) ≤ j ∧ j < 2 ^ 62 then .ok (srcR 0 j.toNat) c else .stk
  | _ => .stk
theorem si_range1 {tg : Expr} {p : Pos} (hm : X.mg "range" = none) (ha : SE X W a ma) (hg : Gl X "range" := by rfl) (hs : starEach [a] X.env = [(false, eval a X.env)] := by rfl) : SI X W tg (.Call (.Name "range" p) [a] [] pos) (mRng1 ma) := by
  obtain ⟨t, pa, q⟩ := sa_cons ha (sa_nil (X := X) (W := W)) hs
  refine ⟨_, pi_range1 hg hm pa hs, fun S sg env Rv g en z => ?_⟩
  refine q S sg env _ g en ?_
  show PostG (wd X) S _ ((ma env S.c).bind fun d c => R.ok [d] c) _ _
  refine post_bind_ok z fun d S1 v g1 x1 a1 p1 => ?_
  split at p1
  · split at p1
    · rename_i h
      exact ⟨_, congrArg (fun v => [v]) a1, h.1, h.2, p1 S1 _ g1 rfl .refl itr_ok⟩
    · exact p1.elim
  · exact p1.elim
end
end Q
end
section
set_option Elab.async false
set_option linter.all false
set_option maxRecDepth 100000
namespace Q
open PySem PySem.Spec L2
variable [Tb]
open PyProof.Rows (envOfC)
/-! ### defs -/
abbrev FD := List D → Cells → R D
/-- a def that does what F says, called where no repr is under way -/
structure FnG (P : Program) (w : World) (K : PySem.W.Frag) (mg : Str → Option Value) (base : Heap) (k : Nat) (f : Addr) (fd : FuncData) (ps : List Str) (F : FD) : Prop where
  run : ∀ (A : Around) (l : List PySem.Env) (s : Shared) (S : Sta) (args : Args) (us : List Value) (vs : List V) (ds : List D) (Qv : VK) (E : XK), A.guards = some [] → Room k A → Env0 P w K mg base A l s S.H →
    BindsTo s fd args (ps.zip us) → Vals vs us → Good ⟨K, mg⟩ S → AtL ⟨K, mg⟩ S vs ds → ds.length = ps.length → Post ⟨K, mg⟩ S (F ds S.c) Qv E →
    codeAny (model P w) A (.call (.ref f) args) (CR (L2.CX P w) l P w S.H s Qv E) s
theorem FnG.mono {P : Program} {w : World} {K : PySem.W.Frag} {mg : Str → Option Value} {base : Heap} {j k : Nat} {f : Addr} {fd : FuncData} {ps : List Str} {F : FD} (h : FnG P w K mg base j f fd ps F) (le : j ≤ k) : FnG P w K mg base k f fd ps F :=
  ⟨fun A l s S args us vs ds Qv E hg hr => h.run A l s S args us vs ds Qv E hg (hr.mono le)⟩
/-- a def behaves as another function where that one is not stuck -/
theorem FnG.imp {P : Program} {w : World} {K : PySem.W.Frag} {mg : Str → Option Value} {base : Heap} {k : Nat} {f : Addr} {fd : FuncData} {ps : List Str} {F F' : FD} (h : FnG P w K mg base k f fd ps F) (le : ∀ ds c, F' ds c = .stk ∨ F ds c = F' ds c) : FnG P w K mg base k f fd ps F' :=
  ⟨fun A l s S args us vs ds Qv E hg hr he hb hv gd al hl p => by
    rcases le ds S.c with e | e
    · rw [e] at p
      exact p.elim
    · rw [← e] at p
      exact h.run A l s S args us vs ds Qv E hg hr he hb hv gd al hl p⟩
/-- what a body's outcome is for its caller -/
def RS.out (r : RS) : R D := match r with
  | .ok (.nx _) c => .ok .non c
  | .ok (.rt d) c => .ok d c
  | .ok _ _ => .stk
  | .err x _ c => .err x c
  | .stk => .stk
def enter (n : Nat) (ds : List D) : Env := ds.map some ++ List.replicate (n - ds.length) none
/-- the function of a body; n names -/
def bodyF (n : Nat) (k : MS) : FD := fun ds c => (k (enter n ds) c).out
theorem enter_at {T : Wd} {S : Sta} {N : List Str} {vs : List V} {ds : List D} (h : AtL T S vs ds) : EnvAt T S (L2.start N vs) (enter N.length ds) := by
  have hl := h.len
  refine ⟨by unfold L2.start enter; simp [hl], fun i d e => ?_⟩
  unfold enter at e
  by_cases hi : i < ds.length
  · rw [List.getElem?_append_left (by simpa using hi), List.getElem?_map] at e
    obtain ⟨d', e1, e2⟩ := Option.map_eq_some_iff.mp e
    cases e2
    obtain ⟨v, h1, h2⟩ := h.get e1
    refine ⟨v, ?_, h2⟩
    unfold L2.start
    rw [List.getElem?_append_left (by simpa [hl] using hi), List.getElem?_map, h1]
    rfl
  · rw [List.getElem?_append_right (by simpa using Nat.le_of_not_lt hi), List.getElem?_replicate] at e
    split at e <;> cases e
theorem post_out {T : Wd} {S : Sta} {r : RS} {Qv : VK} {E : XK} (h : Post T S r.out Qv E) : PostS T S r { nx := fun _ H' => Qv .non H', rt := Qv } (fun cl dd _ H => E cl dd H) := by
  match r, h with
  | .ok (.nx env) c, h => exact fun S' sg g hc x a => h S' .non g hc x rfl
  | .ok (.rt d) c, h => exact h
  | .ok (.bk env) c, h => exact h.elim
  | .ok (.ct env) c, h => exact h.elim
  | .err y env c, h => exact fun S' sg cls dd g hc x a z => h S' cls dd g hc x z
  | .stk, h => exact h
section
variable {P : Program} {w : World} {K : PySem.W.Frag} {mg : Str → Option Value} {base : Heap}
/-- the context of a def's body -/
abbrev Xf (P : Program) (w : World) (K : PySem.W.Frag) (mg : Str → Option Value) (base : Heap) (N : List Str) (qual : Str) (st : Stmt) (f : Addr) (cdv : Value) (A : Around) (l : List PySem.Env) (s : Shared) (H : Hp) (E : XK) : Cx :=
  cxOf (L2.CX P w) P w K mg base N qual (defScope st) f cdv A l s H E
abbrev WOf (E : XK) : WX := fun cl dd _ H => E cl dd H
/-- the rule: a def by its body -/
theorem fn_body {x qual : Str} {st : Stmt} {f : Addr} {fd : FuncData} {N ps : List Str} {k : Nat} {m : MS} (F : Fun K x qual st f fd) (Sc : FnScope N ps (defScope st))
    (hbody : ∀ cdv A l s H E, A.guards = some [] → Room k (Xf P w K mg base N qual st f cdv A l s H E).A → Takes (Xf P w K mg base N qual st f cdv A l s H E) (WOf E) →
      PassesOwn (model P w) (Xf P w K mg base N qual st f cdv A l s H E).A (Xf P w K mg base N qual st f cdv A l s H E).env (Xf P w K mg base N qual st f cdv A l s H E).xe →
      SB (Xf P w K mg base N qual st f cdv A l s H E) (WOf E) (defBody st) m) : FnG P w K mg base (k + 1) f fd ps (bodyF N.length m) := by
  obtain ⟨oc, od, kV, doc, pm, an, cdv, ct, osl, rfl, lk, hcd⟩ := F.ex
  refine ⟨fun A l s S args us vs ds Qv E hgd hr e0 hb rv gd al hl p => ?_⟩
  have hlen : vs.length = ps.length := al.len.trans hl
  have kk : ∀ y ∈ ps.zip us, (defScope st).names.lookup y.1 = some .local ∨ ((defScope st).names.lookup y.1 = some .cell ∧ ((cellsFrom (s.heap.objs.size + 1) (defScope st).names []).lookup y.1).isSome = true) := by
    intro y hy
    rcases Sc.par y.1 (List.of_mem_zip hy).1 with z | z
    · exact .inl z
    · exact .inr ⟨z, PySem.W.cellsFrom_some _ _ _ (.inl z)⟩
  have hK : K.In s.heap := e0.mod.kin.keeps fun b ob q => (e0.bs b ob q).1
  have hL : s.heap.NoLimit := e0.mod.nolimit.keeps fun b ob q => (e0.bs b ob q).1
  refine PySem.codeAny_call_function hr.depth (hK _ _ lk) rfl Sc.co Sc.gen rfl (PySem.W.codeRec_of hK hcd) (hb _ _ _ _ ?_)
  refine PySem.wpAny_newFunctionEnv_cells Sc.kind kk fun env he s1 xc => ?_
  subst he
  refine ⟨hL.keeps xc.toInCall.keep, codeAny_func ?_⟩
  have I : Inv (Xf P w K mg base N qual st f cdv A l s S.H E) [] (L2.start N vs) S.H s1 := inv_start Sc hr.hd e0 hlen rv xc
  have body := hbody cdv A l s S.H E hgd (hr.deeper _) (takes_of rfl rfl rfl rfl) (passes_of rfl)
  have run := body.run [] s1 (L2.start N vs) S.H { nx := fun _ H' => Qv .non H', rt := Qv } I ⟨S, enter N.length ds, rfl, gd, enter_at al, post_out p⟩
  refine wpAny_mono run (fun fl s' hs => ?_) fun e s' hs => hs
  have done : ∀ {sg : L2.St} {H' : Hp} {v : V} {u : Value}, Inv (Xf P w K mg base N qual st f cdv A l s S.H E) [] sg H' s' → RelV v u → Qv v H' → CE l P w S.H s Qv u s' := by
    intro sg H' v u J r q
    exact ⟨v, H', J.os, J.bare, J.base, J.hok, r, q⟩
  cases fl with
  | next =>
    obtain ⟨sg, H', J, q⟩ := hs
    exact done (v := .non) (u := .none) J rfl q
  | ret u =>
    obtain ⟨v, sg, H', J, r, q⟩ := hs
    exact done J r q
  | brk =>
    obtain ⟨_, _, _, q⟩ := hs
    exact q.elim
  | cont =>
    obtain ⟨_, _, _, q⟩ := hs
    exact q.elim
end
/-! ### calls of defs -/
section
variable {X : Cx} {W : WX} {e a b : Expr} {es : List Expr} {pos p : Pos} {ms : ML} {k : Nat} {f : Addr} {fd : FuncData} {ps : List Str} {F : FD} {x : Str}
def mFn (F : FD) (n : Nat) (ms : ML) : ME := fun env c => (ms env c).bind fun ds c => if ds.length = n then F ds c else .stk
/-- the callee runs, from a state -/
theorem run_g {pins : List (Addr × Obj)} {sg : L2.St} {S : Sta} {s : Shared} {Qv : VK} {us : List Value} {vs : List V} {ds : List D} {args : Args} (G : FnG X.prog X.w X.K X.mg X.base k f fd ps F) (hr : Room k X.A) (gd : X.A.guards = some []) (tk : Takes X W)
    (hb : BindsTo s fd args (ps.zip us)) (I : Inv X pins sg S.H s) (r : Vals vs us) (g : Good (wd X) S) (al : AtL (wd X) S vs ds) (hl : ds.length = ps.length) (h : Post (wd X) S (F ds S.c) Qv (WE W sg)) :
    codeAny (model X.prog X.w) X.A (.call (.ref f) args) (fun r s' => match r with
      | .ok (.ret v) => EP X pins sg Qv v s'
      | .error e => X.xe e s'
      | _ => False) s := by
  refine codeAny_mono (G.run X.A X.stack s S args us vs ds Qv (WE W sg) gd hr I.env0 hb r g al hl h) fun r s' hq => ?_
  cases r with
  | error e => exact tk _ _ (XE.of_call I (fun _ _ _ z => z) hq)
  | ok fl =>
    cases fl with
    | ret u => exact I.after hq
    | next => exact hq.elim
    | brk => exact hq.elim
    | cont => exact hq.elim
/-- f(e, ..): every parameter is written, or the rest are defaults dd -/
theorem se_fn {ds : List Value} {dvs : List V} {dd : List D} (G : FnG X.prog X.w X.K X.mg X.base k f fd ps F) (hr : Room k X.A) (gd : X.A.guards = some []) (tk : Takes X W) (hm : X.mg x = some (.ref f)) (hk : PySem.W.keepIn X.K (.ref f) = true) (hb : Binds X.K fd ps ds)
    (ha : SA X W (e :: es) ms) (hd : Vals dvs ds) (hdd : ∀ S, AtL (wd X) S dvs dd) (hg : Gl X x := by rfl) (hdb : (x == ("__debug__" : Str)) = false := by decide)
    (he : starEach (e :: es) X.env = (false, eval e X.env) :: starEach es X.env := by rfl) (hpl : (backTo pos (starEach es X.env)).any (·.1) = false := by rfl) :
    SE X W (.Call (.Name x p) (e :: es) [] pos) (mFn F ps.length fun env c => (ms env c).bind fun xs c => .ok (xs ++ dd) c) := by
  obtain ⟨t, pa, q⟩ := ha
  refine ⟨fun sg H Qv => ∃ S env, S.H = H ∧ Good (wd X) S ∧ EnvAt (wd X) S sg env ∧ Post (wd X) S (mFn F ps.length (fun env c => (ms env c).bind fun xs c => .ok (xs ++ dd) c) env S.c) Qv (WE W sg), ⟨fun pins s sg H Qv I h => ?_⟩, fun S sg env Qv g en z => ⟨S, env, rfl, g, en, z⟩⟩
  obtain ⟨S, env, rfl, g, en, z⟩ := h
  refine wpAny_Call_Name_kw (ld_glob I hg hm ?_ hdb)
  refine PySem.W.callWith_K (h₀ := X.base) I.ok.mod.kin hk (thn (pa.run pos pins s sg S.H (fun vs H1 => ∃ S1 xs, S1.H = H1 ∧ Good (wd X) S1 ∧ EnvAt (wd X) S1 sg env ∧ AtL (wd X) S1 vs xs ∧ Post (wd X) S1 (if (xs ++ dd).length = ps.length then F (xs ++ dd) S1.c else .stk) Qv (WE W sg)) I ?_) fun us s1 hh => ?_) he hpl
  · have z' : Post (wd X) S ((ms env S.c).bind fun xs c => if (xs ++ dd).length = ps.length then F (xs ++ dd) c else .stk) Qv (WE W sg) := by
      dsimp only [mFn] at z
      cases h : ms env S.c with
      | ok xs c => rw [h] at z; exact z
      | err y c => rw [h] at z; exact z
      | stk => rw [h] at z; exact z
    exact q S sg env _ g en (post_bind z' fun xs S1 vs e1 g1 x1 a1 p1 => ⟨S1, xs, rfl, g1, en.ext x1, a1, p1⟩)
  · obtain ⟨vs, H1, I1, r, S1, xs, rfl, g1, en1, a1, p1⟩ := hh
    refine ⟨I1.kIn, ?_⟩
    split at p1
    · rename_i hlen
      have al : AtL (wd X) S1 (vs ++ dvs) (xs ++ dd) := a1.append (hdd S1)
      have r2 : Vals (vs ++ dvs) (us ++ ds) := r.append hd
      have hl2 : (us ++ ds).length = ps.length := by rw [← r2.length, al.len]; exact hlen
      refine wpAny_call (codeAny_mono (run_g G hr gd tk (hb s1 us I1.kIn hl2) I1 r2 g1 al hlen p1) fun rr s' hq => ?_)
      match rr, hq with
      | .ok (.ret v), hq => exact hq
      | .error e, hq => exact hq
    · exact p1.elim
/-- every parameter is written -/
theorem se_fn0 (G : FnG X.prog X.w X.K X.mg X.base k f fd ps F) (hr : Room k X.A) (gd : X.A.guards = some []) (tk : Takes X W) (hm : X.mg x = some (.ref f)) (hk : PySem.W.keepIn X.K (.ref f) = true) (hb : Binds X.K fd ps [])
    (ha : SA X W (e :: es) ms) (hg : Gl X x := by rfl) (hdb : (x == ("__debug__" : Str)) = false := by decide)
    (he : starEach (e :: es) X.env = (false, eval e X.env) :: starEach es X.env := by rfl) (hpl : (backTo pos (starEach es X.env)).any (·.1) = false := by rfl) :
    SE X W (.Call (.Name x p) (e :: es) [] pos) (mFn F ps.length ms) := by
  obtain ⟨t, pa, q⟩ := se_fn (dd := []) (pos := pos) (p := p) G hr gd tk hm hk hb ha .nil (fun _ => trivial) hg hdb he hpl
  refine ⟨t, pa, fun S sg env Qv g en z => q S sg env Qv g en ?_⟩
  dsimp only [mFn] at z ⊢
  cases h : ms env S.c with
  | ok xs c =>
    rw [h] at z
    simp only [R.bind, List.append_nil] at z ⊢
    exact z
  | err y c => rw [h] at z; exact z
  | stk => rw [h] at z; exact z
end
end Q
end
section
set_option Elab.async false
set_option linter.all false
set_option maxRecDepth 100000
namespace Q
open PySem PySem.Spec L2
variable [Tb]
/-! ### readings in one form -/
def tE (T : Wd) (m : ME) (W : WX) : TE := fun sg H Qv => ∃ S env, S.H = H ∧ Good T S ∧ EnvAt T S sg env ∧ Post T S (m env S.c) Qv (WE W sg)
def tB1 (T : Wd) (m : MB) (W : WX) : TT := fun sg H Qv => ∃ S env, S.H = H ∧ Good T S ∧ EnvAt T S sg env ∧ PostG T S (relE Bool) (m env S.c) Qv (WE W sg)
abbrev WF : WX := fun _ _ _ _ => False
section
variable {X : Cx} {W : WX} {e a b tg iter elt : Expr} {es ifs : List Expr} {pos : Pos} {m : ME}
theorem SE.can (h : SE X W e m) : PE X e (tE (wd X) m W) := by
  obtain ⟨t, p, q⟩ := h
  refine ⟨fun pins s sg H Qv I z => ?_⟩
  obtain ⟨S, env, rfl, g, en, z⟩ := z
  exact p.run pins s sg S.H Qv I (q S sg env Qv g en z)
theorem ST.can {mt : MB} (h : ST X W e mt) : PT X e (tB1 (wd X) mt W) := by
  obtain ⟨t, p, q⟩ := h
  refine ⟨fun pins s sg H Qv I z => ?_⟩
  obtain ⟨S, env, rfl, g, en, z⟩ := z
  exact p.run pins s sg S.H Qv I (q S sg env Qv g en z)
theorem PTs.imp {t t' : TT} (h : PTs X ifs t) (i : ∀ s H Qv, t' s H Qv → t s H Qv) : PTs X ifs t' := ⟨fun pins s sg H Qv I q => h.run pins s sg H Qv I (i _ _ _ q)⟩
def bYes : MB := fun _ c => .ok true c
theorem st_yes : PTs X [] (tB1 (wd X) bYes W) := PTs.imp pts_nil fun sg H Qv ⟨S, env, e, g, en, z⟩ => by
  subst e
  exact z S true g rfl .refl rfl
theorem st_test {mt : MB} (h : ST X W e mt) : PTs X [e] (tB1 (wd X) mt W) := pts_one h.can
/-! ### targets of a comprehension -/
def wipeE (env : Env) : List Nat → Env
  | [] => env
  | v :: vs => (wipeE env vs).set v none
theorem EnvAt.none {T : Wd} {S : Sta} {sg : L2.St} {env : Env} (h : EnvAt T S sg env) (i : Nat) : EnvAt T S (sg.set i Option.none) (env.set i Option.none) := by
  refine ⟨by rw [List.length_set, List.length_set, h.len], fun j d q => ?_⟩
  by_cases hj : i = j
  · subst hj
    by_cases hl : i < env.length
    · rw [List.getElem?_set_self hl] at q
      cases q
    · rw [List.getElem?_eq_none (by rw [List.length_set]; omega)] at q
      cases q
  · rw [List.getElem?_set_ne hj] at q ⊢
    exact h.get j d q
theorem EnvAt.wipe {T : Wd} {S : Sta} {sg : L2.St} {env : Env} (h : EnvAt T S sg env) : ∀ vs : List Nat, EnvAt T S (L2.wipe sg vs) (wipeE env vs)
  | [] => h
  | v :: vs => (EnvAt.wipe h vs).none v
/-- a target that changes the slots vs alone -/
def tG (T : Wd) (g : MG) (vs : List Nat) : TG := fun v sg H Qv => ∃ S d env, S.H = H ∧ Good T S ∧ EnvAt T S sg env ∧ At T S v d ∧ match g d env S.c with
  | some (env', c') => ∀ S' sg', Good T S' → S'.c = c' → Ext T S S' → EnvAt T S' sg' env' → L2.wipe sg' vs = L2.wipe sg vs → Qv sg' S'.H
  | none => False
theorem PG.imp {t t' : TG} (h : PG X tg t) (i : ∀ v s H Qv, t' v s H Qv → t v s H Qv) : PG X tg t' := ⟨fun pins s sg H v u Qv I r q => h.run pins s sg H v u Qv I r (i _ _ _ _ q)⟩
theorem wipe_set (sg : L2.St) (o : Option V) : ∀ {vs : List Nat} {i : Nat}, i ∈ vs → L2.wipe (sg.set i o) vs = L2.wipe sg vs
  | v :: vs, i, h => by
    unfold L2.wipe
    by_cases hv : i ∈ vs
    · rw [wipe_set sg o hv]
    · have e : i = v := by
        rcases List.mem_cons.mp h with z | z
        · exact z
        · exact absurd z hv
      subst e
      have key : ∀ (ws : List Nat), i ∉ ws → L2.wipe (sg.set i o) ws = (L2.wipe sg ws).set i o := by
        intro ws
        induction ws with
        | nil => intro _; rfl
        | cons w ws ih =>
          intro hw
          unfold L2.wipe
          rw [ih fun z => hw (List.mem_cons_of_mem _ z), List.set_comm _ _ fun z => hw (by rw [z]; exact List.mem_cons_self)]
      rw [key vs hv, List.set_set]
theorem lg_name {i : Nat} {x : Str} {vs : List Nat} (hN : X.N.Nodup) (hv : i ∈ vs) (hi : X.N[i]? = some x := by rfl) (hx : Loc X.env.scope x := by first | exact Or.inl rfl | exact Or.inr rfl)
    (hf : X.fn x = true ∨ X.env.scope.names.lookup x = some .local := by first | exact .inl rfl | exact .inr rfl | assumption) : PG X (.Name x pos) (tG (wd X) (gN i) vs) :=
  PG.imp (pg_name hN hi hx hf) fun v sg H Qv ⟨S, d, env, e, g, en, a, z⟩ => by
    subst e
    exact z S _ g rfl .refl (en.set i a) (wipe_set sg _ hv)
/-- several -/
def tGs (T : Wd) (g : MGs) (vs : List Nat) : TGs := fun ws sg H Qv => ∃ S ds env, S.H = H ∧ Good T S ∧ EnvAt T S sg env ∧ AtL T S ws ds ∧ match g ds env S.c with
  | some (env', c') => ∀ S' sg', Good T S' → S'.c = c' → Ext T S S' → EnvAt T S' sg' env' → L2.wipe sg' vs = L2.wipe sg vs → Qv sg' S'.H
  | none => False
theorem PGs.imp {t t' : TGs} (h : PGs X es t) (i : ∀ v s H Qv, t' v s H Qv → t v s H Qv) : PGs X es t' := ⟨fun pins s sg H v u Qv I r q => h.run pins s sg H v u Qv I r (i _ _ _ _ q)⟩
theorem lgs_nil {vs : List Nat} : PGs X [] (tGs (wd X) gsNil vs) := PGs.imp pgs_nil fun ws sg H Qv ⟨S, ds, env, e, g, en, a, z⟩ => by
  subst e
  cases ds with
  | nil =>
    cases ws with
    | nil => exact ⟨rfl, z S sg g rfl .refl en rfl⟩
    | cons _ _ => exact a.elim
  | cons _ _ => exact z.elim
theorem lgs_cons {g : MG} {gs : MGs} {vs : List Nat} (h : PG X e (tG (wd X) g vs)) (h2 : PGs X es (tGs (wd X) gs vs)) (hs : (assignEach (e :: es) X.env).map (·.2) = assign e X.env :: (assignEach es X.env).map (·.2) := by rfl) : PGs X (e :: es) (tGs (wd X) (gsCons g gs) vs) :=
  PGs.imp (pgs_cons h h2 hs) fun ws sg H Qv ⟨S, ds, env, e0, gd, en, al, z⟩ => by
    subst e0
    cases ds with
    | nil => exact z.elim
    | cons d ds =>
      cases ws with
      | nil => exact al.elim
      | cons v ws =>
        obtain ⟨a1, a2⟩ : At (wd X) S v d ∧ AtL (wd X) S ws ds := al
        refine ⟨v, ws, rfl, S, d, env, rfl, gd, en, a1, ?_⟩
        have hz : gsCons g gs (d :: ds) env S.c = (g d env S.c).bind fun p => gs ds p.1 p.2 := rfl
        rw [hz] at z
        cases e1 : g d env S.c with
        | none =>
          rw [e1] at z
          exact z.elim
        | some r =>
          obtain ⟨env', c'⟩ := r
          rw [e1] at z
          have hz2 : ((some (env', c')).bind fun (p : Env × Cells) => gs ds p.1 p.2) = gs ds env' c' := rfl
          rw [hz2] at z
          intro S1 sg1 g1 hc x1 en1 w1
          subst hc
          refine ⟨S1, ds, env', rfl, g1, en1, x1.list a2, ?_⟩
          cases e2 : gs ds env' S1.c with
          | none =>
            rw [e2] at z
            exact z.elim
          | some r =>
            obtain ⟨env2, c2⟩ := r
            rw [e2] at z
            exact fun S2 sg2 g2 hc2 x2 en2 w2 => z S2 sg2 g2 hc2 (x1.trans x2) en2 (w2.trans w1)
theorem lg_tup {n k : Nat} {gs : MGs} {vs : List Nat} (hc : X.calm = true) (h : PGs X es (tGs (wd X) gs vs)) (hlen : ∀ ds env c r, gs ds env c = some r → ds.length = n) (hn : (assignEach es X.env).length = n := by rfl) (hst : (assignEach es X.env).findIdx? (·.1) = none := by rfl) : PG X (.Tuple es k pos) (tG (wd X) (gT gs) vs) :=
  PG.imp (pg_tup hc h hn hst) fun v sg H Qv ⟨S, d, env, e, g, en, a, z⟩ => by
    subst e
    unfold gT at z
    cases e0 : view S.c d with
    | none =>
      simp only [e0] at z
    | some r =>
      obtain ⟨t, ds⟩ := r
      simp only [e0] at z
      cases t with
      | tup =>
        obtain ⟨b, xs, rfl, h, l⟩ := view_at g a e0
        simp only at z
        refine ⟨b, xs, rfl, hold_T h, ?_, S, ds, env, rfl, g, en, l, z⟩
        rw [l.len]
        cases e2 : gs ds env S.c with
        | none =>
          rw [e2] at z
          exact z.elim
        | some r => exact hlen _ _ _ _ e2
      | _ => exact z.elim
theorem wipe_get (sg : L2.St) (i : Nat) : ∀ vs : List Nat, (L2.wipe sg vs)[i]? = if i ∈ vs then (sg[i]?).map (fun _ => Option.none) else sg[i]?
  | [] => by simp [L2.wipe]
  | v :: vs => by
    have ih := wipe_get sg i vs
    unfold L2.wipe
    by_cases h : v = i
    · subst h
      rw [if_pos (List.mem_cons_self)]
      by_cases hl : v < sg.length
      · rw [List.getElem?_set_self (by rw [L2.wipe_length]; exact hl), List.getElem?_eq_getElem hl]
        rfl
      · rw [List.getElem?_eq_none (by rw [List.length_set, L2.wipe_length]; omega), List.getElem?_eq_none (by omega)]
        rfl
    · rw [List.getElem?_set_ne h, ih]
      have e : (i ∈ v :: vs) ↔ i ∈ vs := by
        constructor
        · intro z
          rcases List.mem_cons.mp z with q | q
          · exact absurd q.symm h
          · exact q
        · exact List.mem_cons_of_mem _
      by_cases hm : i ∈ vs
      · rw [if_pos hm, if_pos (e.mpr hm)]
      · rw [if_neg hm, if_neg (fun z => hm (e.mp z))]
theorem wipe_twice (sg : L2.St) (vs : List Nat) : L2.wipe (L2.wipe sg vs) vs = L2.wipe sg vs := by
  refine List.ext_getElem? fun i => ?_
  rw [wipe_get, wipe_get]
  by_cases h : i ∈ vs
  · rw [if_pos h, if_pos h, Option.map_map]
    cases sg[i]? <;> rfl
  · rw [if_neg h, if_neg h]
/-! ### list comprehensions -/
def R.ne {a : Type} (r : R a) : R a := match r with
  | .ok d c => .ok d c
  | _ => .stk
def lcS (s : Src) (g : MG) (vs : List Nat) (tt : MB) (te : ME) (env0 : Env) : Nat → Nat → List D → Cells → R (List D)
  | 0, _, _, _ => .stk
  | n + 1, i, acc, c => match s.get i c with
    | none => .stk
    | some none => .ok acc c
    | some (some d) => match g d (wipeE env0 vs) c with
      | none => .stk
      | some (env1, c1) => (tt env1 c1).ne.bind fun b c2 => if b = true then ((te env1 c2).ne.bind fun y c3 => if acc.length < sizeLine then lcS s g vs tt te env0 n (i + 1) (acc ++ [y]) c3 else .stk) else lcS s g vs tt te env0 n (i + 1) acc c2
def lcEnd (C : Bool) (ds : List D) (c : Cells) : R D := if C then .ok (.cell c.length) (c ++ [(.lst, ds)]) else .ok (.lst ds) c
def mLc (C : Bool) (mi : MI) (g : MG) (vs : List Nat) (tt : MB) (te : ME) : ME := fun env c => (mi env c).bind fun s c => (lcS s g vs tt te env s.fuel 0 [] c).bind (lcEnd C)
theorem post_ne {a b a2 b2 : Type} {T : Wd} {S0 S : Sta} {rel : Sta → b → a → Prop} {rel2 : Sta → b2 → a2 → Prop} {r : R a} {k : a → Cells → R a2} {Qv : b2 → Hp → Prop} {Q2 : b → Hp → Prop} {E E2 : XK} (h : PostG T S0 rel2 (r.ne.bind k) Qv E)
    (h2 : ∀ d S1 v, Good T S1 → Ext T S S1 → rel S1 v d → PostG T S0 rel2 (k d S1.c) Qv E → Q2 v S1.H) : PostG T S rel r Q2 E2 := by
  cases r with
  | ok d c =>
    intro S1 v g hc x a
    subst hc
    exact h2 d S1 v g x a h
  | err x c => exact False.elim h
  | stk => exact False.elim h
theorem post_assoc {a b a2 a3 b3 : Type} {T : Wd} {S0 : Sta} {rel3 : Sta → b3 → a3 → Prop} {r : R a} {k : a → Cells → R a2} {k2 : a2 → Cells → R a3} {Qv : b3 → Hp → Prop} {E : XK} (h : PostG T S0 rel3 ((r.bind k).bind k2) Qv E) : PostG T S0 rel3 (r.bind fun d c => (k d c).bind k2) Qv E := by
  cases r with
  | ok d c => exact h
  | err x c => exact h
  | stk => exact h
theorem lc_run {C : Bool} {T : Wd} {wi : TI} {mi : MI} {g : MG} {vs : List Nat} {mt : MB} {me : ME} (hi : ∀ S sg env Rv, Good T S → EnvAt T S sg env → PostG T S (fun S' J s => ItOk T S' J s) (mi env S.c) Rv (WE W sg) → wi sg S.H Rv) :
    ∀ S sg env Qv, Good T S → EnvAt T S sg env → Post T S (mLc C mi g vs mt me env S.c) Qv (WE W sg) → tLc wi (tG T g vs) (tB1 T mt WF) (tE T me WF) vs sg S.H Qv := by
  intro S sg env Qv gd en z
  refine hi S sg env _ gd en (post_bind z fun s S0 J e1 g0 x0 io p0 => ?_)
  intro D0 hD
  refine ⟨fun i m H => ∃ S1 acc us, S1.H = H ∧ Good T S1 ∧ S1.x = D0 :: S0.x ∧ S1.H D0 = some (.lst us) ∧ AtL T S1 us acc ∧ Ext0 T S0 S1 ∧ Post T S0 ((lcS s g vs mt me env m i acc S1.c).bind (lcEnd C)) Qv (WE W sg), ⟨s.fuel, ?_⟩, ?_⟩
  · obtain ⟨g1, k1⟩ := g0.hide (o := .lst []) hD trivial
    exact ⟨S0.hide D0 (.lst []), [], [], rfl, g1, rfl, upd_same, trivial, ⟨List.prefix_refl _, k1, fun a ha => ⟨List.mem_cons_of_mem _ ha, by
      obtain ⟨_, u, e, _⟩ := g0.hid a ha
      exact upd_ne (ne_of_none e hD)⟩⟩, p0⟩
  · rintro i m H ⟨S1, acc, us, rfl, g1, hx, hD1, l1, x1, p1⟩
    cases m with
    | zero => exact p1.elim
    | succ m =>
      have it := io i S1 g1 x1
      unfold lcS at p1
      cases e2 : s.get i S1.c with
      | none =>
        simp only [e2] at p1
        exact p1.elim
      | some o =>
        simp only [e2] at p1 it
        cases o with
        | none =>
          refine .inl ⟨it, ?_⟩
          have nD : D0 ∉ S1.r := (g1.hid D0 (by rw [hx]; exact List.mem_cons_self)).1
          have nD0 : D0 ∉ S0.x := g0.freshX hD
          have sub : ∀ a ∈ S0.x, a ∈ S1.x := fun a ha => by rw [hx]; exact List.mem_cons_of_mem _ ha
          have g2 := g1.tell sub
          have x2 : Ext T S0 (S1.tell S0.x) := ⟨x1.pre, fun v d a => at_tell sub v d (x1.keep v d a), rfl, fun a ha => (x1.hid a ha).2⟩
          have l2 : AtL T (S1.tell S0.x) us acc := atL_of (at_tell sub) l1
          have p1 : Post T S0 (lcEnd C acc S1.c) Qv (WE W sg) := p1
          unfold lcEnd at p1
          cases C with
          | false => exact p1 (S1.tell S0.x) (.ref D0) g2 rfl x2 ⟨D0, us, rfl, .inl ⟨nD, nD0, hD1⟩, l2⟩
          | true =>
            -- the list becomes a cell
            obtain ⟨S3, hS3⟩ : ∃ S3 : Sta, S3 = ⟨S1.H, S1.r ++ [D0], S1.c ++ [(.lst, acc)], S0.x⟩ := ⟨_, rfl⟩
            have k3 : ∀ v d, At T S1 v d → At T S3 v d := by
              intro v d a
              subst hS3
              refine at_keep (S := S1) (S' := ⟨S1.H, S1.r ++ [D0], S1.c ++ [(.lst, acc)], S0.x⟩) (fun j b e => ?_) (fun b u n nx e _ => ⟨fun hm => ?_, fun hm => nx (sub b hm), e⟩) v d a
              · rw [List.getElem?_append_left (List.getElem?_eq_some_iff.mp e).1]
                exact e
              · rcases List.mem_append.mp hm with q | q
                · exact n q
                · have eb : b = D0 := by simpa using q
                  exact nx (by rw [eb, hx]; exact List.mem_cons_self)
            have g3 : Good T S3 := by
              subst hS3
              refine ⟨by simp [g1.len], ?_, fun a ha => ?_, fun j b cl hr hc => ?_, g1.tab⟩
              · rw [List.nodup_append]
                refine ⟨g1.nd, by simp, fun a ha b hb e => ?_⟩
                have eb : b = D0 := by simpa using hb
                rw [e, eb] at ha
                exact nD ha
              · obtain ⟨n, u, e, mu⟩ := g1.hid a (sub a ha)
                refine ⟨fun hm => ?_, u, e, mu⟩
                rcases List.mem_append.mp hm with q | q
                · exact n q
                · have eb : a = D0 := by simpa using q
                  exact nD0 (by rw [← eb]; exact ha)
              · by_cases hj : j < S1.r.length
                · have hr' : S1.r[j]? = some b := (List.getElem?_append_left hj).symm.trans hr
                  have hc' : S1.c[j]? = some cl := (List.getElem?_append_left (by rw [← g1.len]; exact hj)).symm.trans hc
                  obtain ⟨ys, hy, m', l'⟩ := g1.at' j b cl hr' hc'
                  exact ⟨ys, hy, m', atL_of k3 l'⟩
                · have hr2 : (S1.r ++ [D0])[j]? = some b := hr
                  have hc2 : (S1.c ++ [((.lst, acc) : Cl)])[j]? = some cl := hc
                  rw [List.getElem?_append_right (by omega)] at hr2
                  rw [List.getElem?_append_right (by rw [← g1.len]; omega)] at hc2
                  have e0 : j - S1.r.length = 0 := by
                    cases k : j - S1.r.length with
                    | zero => rfl
                    | succ k' => rw [k] at hr2; simp at hr2
                  have e1 : j - S1.c.length = 0 := by rw [← g1.len]; exact e0
                  rw [e0] at hr2
                  rw [e1] at hc2
                  have ea : D0 = b := by simpa using hr2
                  have ec : (.lst, acc) = cl := by simpa using hc2
                  subst ea ec
                  exact ⟨us, hD1, by rw [hD1]; trivial, atL_of k3 l1⟩
            have ec3 : S3.c = S1.c ++ [(.lst, acc)] := by rw [hS3]
            have eH3 : S3.H = S1.H := by rw [hS3]
            have x3 : Ext T S0 S3 := by
              refine ⟨?_, fun v d a => k3 v d (x1.keep v d a), by rw [hS3], fun a ha => by rw [eH3]; exact (x1.hid a ha).2⟩
              rw [hS3]
              exact x1.pre.trans ⟨[D0], rfl⟩
            have q := p1 S3 (.ref D0) g3 ec3 x3 ⟨D0, rfl, by
              rw [hS3, ← g1.len, List.getElem?_append_right (Nat.le_refl _), Nat.sub_self]
              rfl⟩
            rw [eH3] at q
            exact q
        | some d =>
          obtain ⟨i1, i2⟩ := it
          refine .inr ⟨i1, fun H' => ∃ S1 acc us, S1.H = H' ∧ Good T S1 ∧ S1.x = D0 :: S0.x ∧ S1.H D0 = some (.lst us) ∧ AtL T S1 us acc ∧ Ext0 T S0 S1 ∧ Post T S0 ((lcS s g vs mt me env m (i + 1) acc S1.c).bind (lcEnd C)) Qv (WE W sg), fun H' h => ⟨m, Nat.lt_succ_self m, h⟩, fun v H' hy => ?_⟩
          obtain ⟨S2, rfl, g2, ec, x2, a2⟩ := i2 v H' hy
          simp only at p1
          have en2 : EnvAt T S2 (L2.wipe sg vs) (wipeE env vs) := (((en.ext x0).zero x1).ext x2).wipe vs
          refine ⟨S2, d, wipeE env vs, rfl, g2, en2, a2, ?_⟩
          rw [ec]
          cases e3 : g d (wipeE env vs) S1.c with
          | none =>
            simp only [e3] at p1
            exact p1.elim
          | some r =>
            obtain ⟨env1, c1⟩ := r
            simp only [e3] at p1
            intro S3 sg3 g3 hc3 x3 en3 w3
            subst hc3
            refine ⟨by
              have idem : ∀ (ws : List Nat), L2.wipe (L2.wipe sg vs) ws = L2.wipe (L2.wipe sg vs) ws := fun _ => rfl
              rw [w3]
              exact wipe_twice sg vs, S3, env1, rfl, g3, en3, ?_⟩
            refine post_ne (post_assoc (b := Bool) (a2 := List D) p1) fun bb S4 vb g4 x4 eb p4 => ?_
            cases eb
            have hid : ∀ {S' : Sta}, Ext T S1 S' → S'.x = D0 :: S0.x ∧ S'.H D0 = some (.lst us) ∧ AtL T S' us acc ∧ Ext0 T S0 S' := fun {S'} x => ⟨x.hx.trans hx, (x.hh D0 (by rw [hx]; exact List.mem_cons_self)).trans hD1, x.list l1, x1.trans x.zero⟩
            cases bb with
            | false =>
              refine iteF ?_
              obtain ⟨q1, q2, q3, q4⟩ := hid ((x2.trans x3).trans x4)
              exact ⟨S4, acc, us, rfl, g4, q1, q2, q3, q4, p4⟩
            | true =>
              refine iteT ⟨S4, env1, rfl, g4, en3.ext x4, ?_⟩
              refine post_ne (post_assoc (b := D) (a2 := List D) p4) fun y S5 vy g5 x5 ay p5 => ?_
              obtain ⟨q1, q2, q3, q4⟩ := hid (((x2.trans x3).trans x4).trans x5)
              split at p5
              · rename_i hl
                refine ⟨us, q2, by rw [q3.len]; exact hl, ?_⟩
                obtain ⟨g6, k6⟩ := g5.seth (o := .lst (us ++ [vy])) (p := D0) (by rw [q1]; exact List.mem_cons_self) trivial
                refine ⟨S5.seth D0 (.lst (us ++ [vy])), acc ++ [y], us ++ [vy], rfl, g6, q1, upd_same, (atL_of k6 q3).append ⟨k6 _ _ ay, trivial⟩, ⟨q4.pre, fun v d a => k6 v d (q4.keep v d a), fun a ha => ⟨(q4.hid a ha).1, ?_⟩⟩, p5⟩
                have ne : a ≠ D0 := fun z => g0.freshX hD (by rw [← z]; exact ha)
                exact (upd_ne ne).trans (q4.hid a ha).2
              · exact p5.elim
/-- [elt for tg in iter if ..]; C: a cell -/
theorem se_lc {C : Bool} {scope : Scope} {own : List (Str × Nat)} {mi : MI} {g : MG} {mt : MB} {me : ME} (hc : X.calm = true) (hN : X.N.Nodup) (hi : SI X W tg iter mi) (ok : BlkOk X.N X.env.scope scope own)
    (hg : ∀ (s : Shared) (H : Hp) (Ca : Addr) (cl : List (Str × Addr)) (fp : List Addr), PG (X.blk s H scope (compEnvC scope cl Ca X.env) fp) tg (tG (wd X) g (own.map (·.2))))
    (ht : ∀ (s : Shared) (H : Hp) (Ca : Addr) (cl : List (Str × Addr)) (fp : List Addr), PTs (X.blk s H scope (compEnvC scope cl Ca X.env) fp) ifs (tB1 (wd X) mt WF))
    (he : ∀ (s : Shared) (H : Hp) (Ca : Addr) (cl : List (Str × Addr)) (fp : List Addr), SE (X.blk s H scope (compEnvC scope cl Ca X.env) fp) WF elt me) (hs : ∀ x, foldedSetIterable iter X.env x = pure x := by intro _; rfl) :
    SE X W (.ListComp elt [⟨tg, iter, ifs, 0⟩] scope pos) (mLc C mi g (own.map (·.2)) mt me) := by
  obtain ⟨t, p, q⟩ := hi
  exact ⟨_, pe_lc (te := tE (wd X) me WF) hc hN p ok hg ht (fun s H Ca cl fp => (he s H Ca cl fp).can) hs, lc_run q⟩
/-- name = [..] -/
theorem ss_setLc {C : Bool} {i : Nat} {y : Str} {py spos : Pos} {scope : Scope} {own : List (Str × Nat)} {mi : MI} {g : MG} {mt : MB} {me : ME} (hc : X.calm = true) (hN : X.N.Nodup) (hi : SI X W tg iter mi) (ok : BlkOk X.N X.env.scope scope own)
    (hg : ∀ (s : Shared) (H : Hp) (Ca : Addr) (cl : List (Str × Addr)) (fp : List Addr), PG (X.blk s H scope (compEnvC scope cl Ca X.env) fp) tg (tG (wd X) g (own.map (·.2))))
    (ht : ∀ (s : Shared) (H : Hp) (Ca : Addr) (cl : List (Str × Addr)) (fp : List Addr), PTs (X.blk s H scope (compEnvC scope cl Ca X.env) fp) ifs (tB1 (wd X) mt WF))
    (he : ∀ (s : Shared) (H : Hp) (Ca : Addr) (cl : List (Str × Addr)) (fp : List Addr), SE (X.blk s H scope (compEnvC scope cl Ca X.env) fp) WF elt me) (hy : X.N[i]? = some y := by rfl) (hyl : X.env.scope.names.lookup y = some .local := by rfl)
    (hsw : swapsWith (.ListComp elt [⟨tg, iter, ifs, 0⟩] scope pos) (some (.Name y py)) spos.line X.env = pure true := by exact sw_true rfl rfl rfl (by decide +kernel)) (hs : ∀ x, foldedSetIterable iter X.env x = pure x := by intro _; rfl) :
    SS X W (.Assign [.Name y py] (.ListComp elt [⟨tg, iter, ifs, 0⟩] scope pos) spos) (sSet i (mLc C mi g (own.map (·.2)) mt me)) := by
  obtain ⟨t, p, q⟩ := hi
  refine PS.imp (ps_setLc (te := tE (wd X) me WF) hc hN hy hyl hsw p ok hg ht (fun s H Ca cl fp => (he s H Ca cl fp).can) hs) fun D sg H ⟨S, env, e, gd, en, z⟩ => ?_
  subst e
  exact lc_run q S sg env _ gd en (post_st z en fun d S1 v e1 g1 x1 a1 p1 => p1 S1 _ g1 rfl .refl ((en.ext x1).set i a1))
end
end Q
end
section
set_option Elab.async false
set_option linter.all false
set_option maxRecDepth 100000
namespace Q
open PySem PySem.Spec L2
variable [Tb]
open PyProof.V (PairsRead reads_dictOf)
/-! ### repr of data -/
def kPy : Key → PyData
  | .inl i => .int i
  | .inr x => .str x
mutual
def pyrW (f : Nat → Option PyData) : D → Option PyData
  | .non => some .none
  | .bl b => some (.bool b)
  | .int i => some (.int i)
  | .str x => some (.str x)
  | .cell i => f i
  | .fn _ _ _ _ _ => none
  | .nod t ds => match t with
    | .lst => (pyrL f ds).map .list
    | .tup => (pyrL f ds).map .tuple
    | .dic ks => (pyrL f ds).map fun ps => .dict ((ks.map kPy).zip ps)
    | _ => none
def pyrL (f : Nat → Option PyData) : List D → Option (List PyData)
  | [] => some []
  | d :: ds => match pyrW f d, pyrL f ds with
    | some p, some ps => some (p :: ps)
    | _, _ => none
end
def pyrC (c : Cells) : Nat → Nat → Option PyData
  | 0, _ => none
  | k + 1, i => match c[i]? with
    | some (t, ds) => pyrW (pyrC c k) (.nod t ds)
    | none => none
def pyr (c : Cells) (d : D) : Option PyData := pyrW (pyrC c 6) d
/-- sys.modules stands where it always stands -/
def SysIn (h : Heap) : Prop := ∃ o, h.get? sysModules = some o
section
variable {X : Cx} {pins : List (Addr × Obj)} {sg : L2.St} {S : Sta} {s : Shared}
theorem not_sys (I : Inv X pins sg S.H s) (hs : SysIn X.base) {a : Addr} {o : HO} (h : S.H a = some o) : a ≠ sysModules := fun e => by
  obtain ⟨ob, q⟩ := hs
  have n := (I.bs _ _ q).2
  rw [← e, h] at n
  cases n
/-- a node of an object that stands at a -/
def NodR (X : Cx) (S : Sta) (s : Shared) (t : Tg) (ds : List D) (p : PyData) : Prop := ∀ (a : Addr) (xs : List V), (Hold (wd X) S.H a xs t ∨ HoldK (wd X) a xs t) → AtL (wd X) S xs ds → ∃ as, Reads s.heap (.ref a) p as ∧ sysModules ∉ as
theorem nod_reads (I : Inv X pins sg S.H s) (hs : SysIn X.base) {f : Nat → Option PyData} {t : Tg} {ds : List D} {p : PyData} (e : pyrW f (.nod t ds) = some p)
    (hl : ∀ ps xs us, pyrL f ds = some ps → AtL (wd X) S xs ds → Vals xs us → ∃ as, ReadsAll s.heap us ps as ∧ sysModules ∉ as)
    (hp : ∀ ps xs (ks : List Key) vs, pyrL f ds = some ps → AtL (wd X) S xs ds → KV (ks.zip xs) vs → ks.length = xs.length → ∃ bs, PairsRead s.heap kPy vs ((ks.map kPy).zip ps) bs ∧ sysModules ∉ bs) : NodR X S s t ds p := by
  intro a xs h l
  cases t with
  | lst =>
    obtain ⟨ps, e1, rfl⟩ := Option.map_eq_some_iff.mp (show (pyrL f ds).map PyData.list = some p from e)
    have ha := hold_L h
    obtain ⟨its, rv, ⟨o, n, ho, hc, _, hd⟩, _⟩ := I.list (.of ha)
    obtain ⟨as, r, q⟩ := hl ps xs its e1 l rv
    refine ⟨_, Reads.list ho hc hd r, fun hm => ?_⟩
    rcases List.mem_cons.mp hm with z | z
    · exact not_sys I hs ha z.symm
    · exact q z
  | tup =>
    obtain ⟨ps, e1, rfl⟩ := Option.map_eq_some_iff.mp (show (pyrL f ds).map PyData.tuple = some p from e)
    obtain ⟨its, rv, ⟨o, ho, hc, n, hd⟩, _⟩ := I.tuple (hold_T h)
    obtain ⟨as, r, q⟩ := hl ps xs its e1 l rv
    exact ⟨_, Reads.tuple ho hc hd r, q⟩
  | dic ks =>
    obtain ⟨ps, e1, rfl⟩ := Option.map_eq_some_iff.mp (show ((pyrL f ds).map fun ps => PyData.dict ((ks.map kPy).zip ps)) = some p from e)
    rcases h with ⟨hz, h⟩ | h
    · obtain ⟨_, _, vs, kv, dd⟩ := dk_of I.hok h
      obtain ⟨bs, r, q⟩ := hp ps xs ks vs e1 l kv hz
      refine ⟨_, reads_dictOf (fun k key hk => ?_) dd r, fun hm => ?_⟩
      · rcases keyIs_shape (k := k) (v := key) hk with ⟨i, t, rfl, rfl⟩ | ⟨x, t, rfl, rfl⟩
        · exact Reads.int i t
        · exact Reads.str x t
      · rcases List.mem_cons.mp hm with z | z
        · exact not_sys I hs h z.symm
        · exact q z
    · exact h.elim
  | frl => exact nomatch (show none = some p from e)
  | dit ks => exact nomatch (show none = some p from e)
  | xdc ks => exact nomatch (show none = some p from e)
  | obj C ks => exact nomatch (show none = some p from e)
mutual
theorem pyrW_reads (I : Inv X pins sg S.H s) (g : Good (wd X) S) (hs : SysIn X.base) {f : Nat → Option PyData} (hf : ∀ i p v u, f i = some p → At (wd X) S v (.cell i) → RelV v u → ∃ as, Reads s.heap u p as ∧ sysModules ∉ as) :
    ∀ (d : D) (p : PyData) (v : V) (u : Value), pyrW f d = some p → At (wd X) S v d → RelV v u → ∃ as, Reads s.heap u p as ∧ sysModules ∉ as
  | .non, p, v, u, e, a, r => by
    cases e
    cases (show v = .non from a)
    cases r
    exact ⟨_, Reads.none, by simp⟩
  | .bl b, p, v, u, e, a, r => by
    cases e
    cases (show v = .bl b from a)
    cases r
    exact ⟨_, Reads.bool b, by simp⟩
  | .int i, p, v, u, e, a, r => by
    cases e
    cases (show v = .int i from a)
    obtain ⟨t, rfl⟩ := r
    exact ⟨_, Reads.int i t, by simp⟩
  | .str x, p, v, u, e, a, r => by
    cases e
    cases (show v = .str x from a)
    obtain ⟨t, rfl⟩ := r
    exact ⟨_, Reads.str x t, by simp⟩
  | .cell i, p, v, u, e, a, r => hf i p v u e a r
  | .fn _ _ _ _ _, p, v, u, e, a, r => by cases e
  | .nod t ds, p, v, u, e, a, r => by
    obtain ⟨b, xs, rfl, h, l⟩ := view_at g a (show view S.c (.nod t ds) = some (t, ds) from rfl)
    cases r
    exact nod_reads I hs e (fun ps xs us e1 l rv => pyrL_reads I g hs hf ds ps xs us e1 l rv) (fun ps xs ks vs e1 l kv hz => pyrP_reads I g hs hf ds ps xs ks vs e1 l kv hz) b xs h l
theorem pyrL_reads (I : Inv X pins sg S.H s) (g : Good (wd X) S) (hs : SysIn X.base) {f : Nat → Option PyData} (hf : ∀ i p v u, f i = some p → At (wd X) S v (.cell i) → RelV v u → ∃ as, Reads s.heap u p as ∧ sysModules ∉ as) :
    ∀ (ds : List D) (ps : List PyData) (xs : List V) (us : List Value), pyrL f ds = some ps → AtL (wd X) S xs ds → Vals xs us → ∃ as, ReadsAll s.heap us ps as ∧ sysModules ∉ as
  | [], ps, [], us, e, _, rv => by
    cases e
    cases rv
    exact ⟨_, ReadsAll.nil, by simp⟩
  | d :: ds, ps, x :: xs, us, e, a, rv => by
    obtain ⟨a1, a2⟩ : At (wd X) S x d ∧ AtL (wd X) S xs ds := a
    cases rv with
    | cons r1 r2 =>
      unfold pyrL at e
      split at e
      · rename_i p ps' e1 e2
        cases e
        obtain ⟨as, q1, n1⟩ := pyrW_reads I g hs hf d p x _ e1 a1 r1
        obtain ⟨bs, q2, n2⟩ := pyrL_reads I g hs hf ds ps' xs _ e2 a2 r2
        exact ⟨_, ReadsAll.cons q1 q2, fun hm => (List.mem_append.mp hm).elim n1 n2⟩
      · cases e
  | [], _, _ :: _, _, _, a, _ => a.elim
  | _ :: _, _, [], _, _, a, _ => a.elim
theorem pyrP_reads (I : Inv X pins sg S.H s) (g : Good (wd X) S) (hs : SysIn X.base) {f : Nat → Option PyData} (hf : ∀ i p v u, f i = some p → At (wd X) S v (.cell i) → RelV v u → ∃ as, Reads s.heap u p as ∧ sysModules ∉ as) :
    ∀ (ds : List D) (ps : List PyData) (xs : List V) (ks : List Key) (vs : List (Key × Value)), pyrL f ds = some ps → AtL (wd X) S xs ds → KV (ks.zip xs) vs → ks.length = xs.length → ∃ bs, PairsRead s.heap kPy vs ((ks.map kPy).zip ps) bs ∧ sysModules ∉ bs
  | [], ps, [], ks, vs, e, _, kv, hz => by
    cases e
    cases ks with
    | nil =>
      cases kv
      exact ⟨_, PairsRead.nil, by simp⟩
    | cons _ _ => simp at hz
  | d :: ds, ps, x :: xs, ks, vs, e, a, kv, hz => by
    obtain ⟨a1, a2⟩ : At (wd X) S x d ∧ AtL (wd X) S xs ds := a
    cases ks with
    | nil => simp at hz
    | cons k ks =>
      unfold pyrL at e
      split at e
      · rename_i p ps' e1 e2
        cases e
        have kv : KV ((k, x) :: ks.zip xs) vs := kv
        cases kv with
        | cons r1 r2 =>
          rename_i kv' vs'
          obtain ⟨k', u'⟩ := kv'
          obtain ⟨rk, ru⟩ := r1
          have ek : k = k' := rk
          subst ek
          obtain ⟨as, q1, n1⟩ := pyrW_reads I g hs hf d p x u' e1 a1 ru
          obtain ⟨bs, q2, n2⟩ := pyrP_reads I g hs hf ds ps' xs ks _ e2 a2 r2 (by simpa using hz)
          exact ⟨_, PairsRead.cons q1 q2, fun hm => (List.mem_append.mp hm).elim n1 n2⟩
      · cases e
  | [], _, _ :: _, _, _, _, a, _, _ => a.elim
  | _ :: _, _, [], _, _, _, a, _, _ => a.elim
end
theorem pyrC_reads (I : Inv X pins sg S.H s) (g : Good (wd X) S) (hs : SysIn X.base) : ∀ (k i : Nat) (p : PyData) (v : V) (u : Value), pyrC S.c k i = some p → At (wd X) S v (.cell i) → RelV v u → ∃ as, Reads s.heap u p as ∧ sysModules ∉ as
  | 0, i, p, v, u, e, _, _ => by cases e
  | k + 1, i, p, v, u, e, a, r => by
    unfold pyrC at e
    split at e
    · rename_i t ds e0
      obtain ⟨b, xs, rfl, h, l⟩ := view_at g a (show view S.c (.cell i) = some (t, ds) from e0)
      cases r
      exact nod_reads I hs e (fun ps xs us e1 l rv => pyrL_reads I g hs (pyrC_reads I g hs k) ds ps xs us e1 l rv) (fun ps xs ks vs e1 l kv hz => pyrP_reads I g hs (pyrC_reads I g hs k) ds ps xs ks vs e1 l kv hz) b xs h l
    · cases e
theorem pyr_reads (I : Inv X pins sg S.H s) (g : Good (wd X) S) (hs : SysIn X.base) {d : D} {p : PyData} {v : V} {u : Value} (e : pyr S.c d = some p) (a : At (wd X) S v d) (r : RelV v u) : ∃ as, Reads s.heap u p as ∧ sysModules ∉ as :=
  pyrW_reads I g hs (pyrC_reads I g hs 6) d p v u e a r
end
/-- a built-in's rule, told over states -/
theorem CaF.mk {X : Cx} {fn : Value} {f : List D → Cells → O} (h : ∀ (pins : List (Addr × Obj)) (s : Shared) (sg : L2.St) (S : Sta) (xs : List V) (us : List Value) (ds : List D) (d : D) (c : Cells) (Qv : VK), Inv X pins sg S.H s → Vals xs us → Good (wd X) S → AtL (wd X) S xs ds → f ds S.c = some (d, c) →
    (∀ S' v, Good (wd X) S' → S'.c = c → Ext (wd X) S S' → At (wd X) S' v d → Qv v S'.H) → wpAny (model X.prog X.w) X.A (call fn us) (EP X pins sg Qv) X.xe s) : CaF X fn f := by
  refine ⟨fun xs H Qv => ∃ S ds, S.H = H ∧ Good (wd X) S ∧ AtL (wd X) S xs ds ∧ PostO (wd X) S (f ds S.c) Qv, fun pins s sg H xs us Qv I r q => ?_, fun S xs ds Qv g al p => ⟨S, ds, rfl, g, al, p⟩⟩
  obtain ⟨S, ds, rfl, g, al, p⟩ := q
  obtain ⟨d, c, e, q⟩ := p.some
  exact h pins s sg S xs us ds d c Qv I r g al e q
def bRepr : List D → Cells → O
  | [d], c => match pyr c d with
    | some p => if p.showable && decide (p.depth ≤ 60) && decide (p.shown.length ≤ sizeLine) then some (.str p.shown, c) else none
    | none => none
  | _, _ => none
theorem bRepr_ok {X : Cx} {k : Nat} (hr : Room k X.A) (gd : X.A.guards = some []) (hs : SysIn X.base) : CaF X (.builtin "repr") bRepr := by
  refine CaF.mk fun pins s sg S xs us ds d c Qv I r g al e q => ?_
  unfold bRepr at e
  split at e
  · rename_i d0 c0
    obtain ⟨v, rfl, a⟩ := al.one
    obtain ⟨u, rfl, ru⟩ := vals1 r
    split at e
    · rename_i p e1
      split at e
      · rename_i hz
        rw [Bool.and_eq_true, Bool.and_eq_true] at hz
        obtain ⟨⟨hsh, hd⟩, hl⟩ := hz
        have hd := of_decide_eq_true hd
        have hl := of_decide_eq_true hl
        cases e
        obtain ⟨as, rd, ns⟩ := pyr_reads I g hs e1 a ru
        have fin : ∀ {s' : Shared} {tk : Tok}, Inv X pins sg S.H s' → EP X pins sg Qv (.str p.shown tk) s' := fun I' => ⟨.str p.shown, S.H, I', ⟨_, rfl⟩, q S _ g rfl .refl rfl⟩
        cases rd with
        | none => exact PySem.P.repr_of_none (fin (I.tok _))
        | bool b => exact PySem.P.repr_of_bool (fin (I.tok _))
        | int i t => exact PySem.P.repr_of_int (of_decide_eq_true hsh) (fin (I.tok _))
        | str x t => exact PySem.P.repr_of_str (fin (I.tok _)) hl
        | list h1 h2 h3 h4 =>
          refine repr_of_reads' (h₀ := s.heap) (Reads.list h1 h2 h3 h4) hsh (fun _ => ns) gd (by have := hr.units; omega) (fun _ _ z => z) (fun h' t tk hk => fin (I.kept hk)) hl
        | tuple h1 h2 h3 h4 =>
          refine repr_of_reads' (h₀ := s.heap) (Reads.tuple h1 h2 h3 h4) hsh (fun _ => ns) gd (by have := hr.units; omega) (fun _ _ z => z) (fun h' t tk hk => fin (I.kept hk)) hl
        | dict h1 h2 h3 h4 h5 =>
          refine repr_of_reads' (h₀ := s.heap) (Reads.dict h1 h2 h3 h4 h5) hsh (fun _ => ns) gd (by have := hr.units; omega) (fun _ _ z => z) (fun h' t tk hk => fin (I.kept hk)) hl
      · cases e
    · cases e
  · cases e
end Q
end
section
set_option Elab.async false
set_option linter.all false
set_option maxRecDepth 100000
namespace Q
open PySem PySem.Spec L2
variable [Tb]
section
variable {X : Cx} {W : WX} {e a b c o i f : Expr} {es : List Expr} {pos apos cpos : Pos} {m ma mb mc mo mi mf : ME} {ms : ML}
/-! ### methods of built-in types -/
def isTy (T : String) (c : Cells) (d : D) : Bool := match d with
  | .str _ => decide (T = "str")
  | .int _ => decide (T = "int")
  | d => match view c d with
    | some (.lst, _) => decide (T = "list")
    | some (.frl, _) => decide (T = "list")
    | some (.dic _, _) => decide (T = "dict")
    | _ => false
theorem isTy_at {Ty : String} {S : Sta} {v : V} {d : D} (g : Good (wd X) S) (h : isTy Ty S.c d = true) (a : At (wd X) S v d) : tyV X.K Ty v S.H := by
  have obj : (match view S.c d with
    | some (.lst, _) => decide (Ty = "list")
    | some (.frl, _) => decide (Ty = "list")
    | some (.dic _, _) => decide (Ty = "dict")
    | _ => false) = true → tyV X.K Ty v S.H := fun h => by
    split at h
    · rename_i ds e0
      obtain ⟨b, xs, rfl, h1, l⟩ := view_at g a e0
      exact .inl ⟨of_decide_eq_true h, xs, .of (hold_L h1)⟩
    · rename_i ds e0
      obtain ⟨b, xs, rfl, h1, l⟩ := view_at g a e0
      exact .inl ⟨of_decide_eq_true h, xs, hold_F h1⟩
    · rename_i ks ds e0
      obtain ⟨b, xs, rfl, h1, l⟩ := view_at g a e0
      rcases h1 with ⟨_, h1⟩ | h1
      · exact .inr (.inr (.inl ⟨of_decide_eq_true h, .inl ⟨_, h1⟩⟩))
      · exact h1.elim
    · cases h
  cases d with
  | str z => cases (show v = _ from a); exact (show Ty = "str" from of_decide_eq_true h)
  | int z => cases (show v = _ from a); exact (show Ty = "int" from of_decide_eq_true h)
  | non => cases h
  | bl z => cases h
  | cell i => exact obj h
  | fn _ _ _ _ _ => cases h
  | nod t ds => exact obj h
abbrev FM := D → List D → Cells → O
def MeF (X : Cx) (id : String) (f : FM) : Prop := ∃ r, MtR X id r ∧ ∀ S x xs d ds Qv, Good (wd X) S → At (wd X) S x d → AtL (wd X) S xs ds → PostO (wd X) S (f d ds S.c) Qv → r x xs S.H Qv
def mMe (T : String) (f : FM) (mo : ME) (ms : ML) : ME := fun env c => (mo env c).bind fun d c => if isTy T c d = true then (ms env c).bind fun ds c => (f d ds c).r else .stk
theorem se_me {T id : String} {name : Str} {fm : FM} (pa : PlainAttrs T) (slot : Slot T name id) (hty : typeOf (.builtin id) = pure (.type "method_descriptor")) (hm : MeF X id fm) (ho : SE X W o mo) (ha : SA X W (e :: es) ms)
    (hbase : attributeBase o name X.env (eval o X.env) = eval o X.env := by rfl)
    (hfew : ((backTo cpos (starEach (e :: es) X.env)).all (fun x => !x.1) && (backToKw cpos (keywordEach [] X.env)).all (fun x => x.1.isSome)
      && decide ((e :: es).length + ([] : List Keyword).length + (if ([] : List Keyword).isEmpty then 0 else 1) < 30)) = true := by rfl)
    (hline : (apos.endLine == cpos.line) = true := by rfl) (hs : starEach (e :: es) X.env = (false, eval e X.env) :: starEach es X.env := by rfl) (hplain : (backTo cpos (starEach es X.env)).any (·.1) = false := by rfl) :
    SE X W (.Call (.Attribute o name apos) (e :: es) [] cpos) (mMe T fm mo ms) := by
  obtain ⟨r, h1, h2⟩ := hm
  obtain ⟨to, po, qo⟩ := ho
  obtain ⟨t, p, q⟩ := ha
  refine ⟨_, pe_bm pa slot hty h1 po p hbase hfew hline hs hplain, fun S sg env Qv g en z => ?_⟩
  refine qo S sg env _ g en (post_bind z fun d S1 v e1 g1 x1 a1 p1 => ?_)
  split at p1
  · rename_i ht
    refine ⟨isTy_at g1 ht a1, q S1 sg env _ g1 (en.ext x1) (post_bind p1 fun ds S2 vs e2 g2 x2 a2 p2 => ?_)⟩
    exact h2 S2 v vs d ds Qv g2 (x2.keep _ _ a1) a2 p2.o
  · exact p1.elim
theorem se_me0 {T id : String} {name : Str} {fm : FM} (pa : PlainAttrs T) (slot : Slot T name id) (hty : typeOf (.builtin id) = pure (.type "method_descriptor")) (hm : MeF X id fm) (ho : SE X W o mo)
    (hbase : attributeBase o name X.env (eval o X.env) = eval o X.env := by rfl) (hline : (apos.endLine == cpos.line) = true := by rfl) : SE X W (.Call (.Attribute o name apos) [] [] cpos) (mMe T fm mo mNil) := by
  obtain ⟨r, h1, h2⟩ := hm
  obtain ⟨to, po, qo⟩ := ho
  refine ⟨_, pe_bm0 pa slot hty h1 po hbase hline, fun S sg env Qv g en z => ?_⟩
  refine qo S sg env _ g en (post_bind z fun d S1 v e1 g1 x1 a1 p1 => ?_)
  split at p1
  · rename_i ht
    have p1 : Post (wd X) S1 (fm d [] S1.c).r Qv (WE W sg) := p1
    exact ⟨isTy_at g1 ht a1, h2 S1 v [] d [] Qv g1 a1 trivial p1.o⟩
  · exact p1.elim
/-- a cell that is a list, changed -/
theorem cell_lst {S : Sta} {x : V} {k : Nat} {xs : List D} (g : Good (wd X) S) (a : At (wd X) S x (.cell k)) (e : S.c[k]? = some (.lst, xs)) : ∃ l us, x = .ref l ∧ S.r[k]? = some l ∧ S.H l = some (.lst us) ∧ AtL (wd X) S us xs := by
  obtain ⟨l, rfl, h⟩ : ∃ a, x = .ref a ∧ S.r[k]? = some a := a
  obtain ⟨us, hh, _, al⟩ := g.at' k l _ h e
  exact ⟨l, us, rfl, h, hh, al⟩
theorem set_lst {S : Sta} {k : Nat} {l : Addr} {us : List V} {xs : List D} {Qv : VK} {y : V} {d : D} (g : Good (wd X) S) (h : S.r[k]? = some l) (al : AtL (wd X) S us xs) (ay : At (wd X) S y d)
    (q : ∀ S' v, Good (wd X) S' → S'.c = S.c.set k (.lst, xs) → Ext (wd X) S S' → At (wd X) S' v d → Qv v S'.H) : Qv y (upd S.H l (.lst us)) := by
  have x := Sta.ext_set (T := wd X) (o := .lst us) (cl := (.lst, xs)) g h
  exact q (S.set k l (.lst us) (.lst, xs)) y (g.set h (show Hold (wd X) _ l us .lst from upd_same) trivial al) rfl x (x.keep _ _ ay)
def fAppend : FM := fun d ds c => match d, ds with
  | .cell k, [y] => match c[k]? with
    | some (.lst, xs) => if xs.length < sizeLine then some (.non, c.set k (.lst, xs ++ [y])) else none
    | _ => none
  | _, _ => none
theorem fAppend_ok : MeF X "list.append" fAppend := by
  refine ⟨rAppend, mt_append, fun S x vs d ds Qv g ax al p => ?_⟩
  obtain ⟨r, c', e, q⟩ := p.some
  unfold fAppend at e
  split at e
  · split at e
    · rename_i hc
      split at e
      · rename_i hz
        cases e
        obtain ⟨l, us, rfl, h1, h2, h3⟩ := cell_lst g ax hc
        obtain ⟨y, rfl, ay⟩ := al.one
        exact ⟨l, us, y, rfl, rfl, h2, by rw [h3.len]; exact hz, set_lst g h1 (h3.append (ys := [y]) (es := [_]) ⟨ay, trivial⟩) (show At (wd X) S .non .non from rfl) q⟩
      · cases e
    · cases e
  · cases e
def fInsert : FM := fun d ds c => match d, ds with
  | .cell k, [.int i, y] => match c[k]? with
    | some (.lst, xs) => if xs.length < sizeLine ∧ 0 ≤ i ∧ i < 2 ^ 63 then some (.non, c.set k (.lst, xs.take i.toNat ++ [y] ++ xs.drop i.toNat)) else none
    | _ => none
  | _, _ => none
theorem AtL.take {T : Wd} {S : Sta} : ∀ {xs : List V} {ds : List D} (n : Nat), AtL T S xs ds → AtL T S (xs.take n) (ds.take n)
  | [], [], n, _ => by simp [AtL]
  | x :: xs, d :: ds, 0, _ => trivial
  | x :: xs, d :: ds, n + 1, h => by
    obtain ⟨h1, h2⟩ : At T S x d ∧ AtL T S xs ds := h
    exact ⟨h1, AtL.take n h2⟩
  | [], _ :: _, _, h => h.elim
  | _ :: _, [], _, h => h.elim
theorem AtL.drop {T : Wd} {S : Sta} : ∀ {xs : List V} {ds : List D} (n : Nat), AtL T S xs ds → AtL T S (xs.drop n) (ds.drop n)
  | [], [], n, _ => by simp [AtL]
  | x :: xs, d :: ds, 0, h => h
  | x :: xs, d :: ds, n + 1, h => by
    obtain ⟨h1, h2⟩ : At T S x d ∧ AtL T S xs ds := h
    exact AtL.drop n h2
  | [], _ :: _, _, h => h.elim
  | _ :: _, [], _, h => h.elim
theorem fInsert_ok : MeF X "list.insert" fInsert := by
  refine ⟨_, mt_insert, fun S x vs d ds Qv g ax al p => ?_⟩
  obtain ⟨r, c', e, q⟩ := p.some
  unfold fInsert at e
  split at e
  · split at e
    · rename_i hc
      split at e
      · rename_i hz
        cases e
        obtain ⟨l, us, rfl, h1, h2, h3⟩ := cell_lst g ax hc
        obtain ⟨i', y, rfl, ai, ay⟩ := al.two
        cases (show i' = _ from ai)
        exact ⟨l, us, _, y, rfl, rfl, h2, by rw [h3.len]; exact hz.1, hz.2.1, hz.2.2, set_lst g h1 (((h3.take _).append (ys := [y]) (es := [_]) ⟨ay, trivial⟩).append (h3.drop _)) (show At (wd X) S .non .non from rfl) q⟩
      · cases e
    · cases e
  · cases e
/-! ### o[i] = v as a target -/
theorem AtL.set {T : Wd} {S : Sta} : ∀ {xs : List V} {ds : List D} (n : Nat) {v : V} {d : D}, AtL T S xs ds → At T S v d → AtL T S (xs.set n v) (ds.set n d)
  | [], [], n, _, _, _, _ => by simp [AtL]
  | x :: xs, d :: ds, 0, _, _, h, a => ⟨a, h.2⟩
  | x :: xs, d :: ds, n + 1, _, _, h, a => by
    obtain ⟨h1, h2⟩ : At T S x d ∧ AtL T S xs ds := h
    exact ⟨h1, AtL.set n h2 a⟩
  | [], _ :: _, _, _, _, h, _ => h.elim
  | _ :: _, [], _, _, _, h, _ => h.elim
def gIx (mo mi : ME) : MG := fun d env c => match mo env c with
  | .ok o c => match mi env c with
    | .ok (.int i) c => match o with
      | .cell k => match c[k]? with
        | some (.lst, xs) => (ixN xs.length i).bind fun j => if j < xs.length then some (env, c.set k (.lst, xs.set j d)) else none
        | _ => none
      | _ => none
    | _ => none
  | _ => none
theorem post_one {a b : Type} {T : Wd} {S : Sta} {rel : Sta → b → a → Prop} {r : R a} {x : a} {c : Cells} {Qv : b → Hp → Prop} {E : XK} (e : r = .ok x c) (h : ∀ S1 v, Good T S1 → S1.c = c → Ext T S S1 → rel S1 v x → Qv v S1.H) : PostG T S rel r Qv E := by
  subst e
  exact h
theorem sg_ix (ho : SE X W o mo) (hi : SE X W i mi)
    (ha : ∀ v, assign (.Subscript o i pos) X.env v = (do
      let ov ← holding [v] (eval o X.env)
      let iv ← holding [v, ov] (eval i X.env)
      standAt pos
      holding [v, ov, iv] (setItem ov iv v)
      release [v, ov, iv] []) := by intro _; rfl) : SG X (.Subscript o i pos) (gIx mo mi) := by
  obtain ⟨to, po, qo⟩ := ho
  obtain ⟨ti, pi, qi⟩ := hi
  refine ⟨_, pg_sub po pi set_list ha, fun S v d sg env Qv g en a z => ?_⟩
  obtain ⟨env', c', e, z⟩ := z.some
  unfold gIx at e
  split at e
  · rename_i od c1 e1
    split at e
    · rename_i k c2 e2
      split at e
      · rename_i j
        split at e
        · rename_i xs e3
          obtain ⟨n, e4, e5⟩ := Option.bind_eq_some_iff.mp e
          split at e5
          · rename_i hn
            cases e5
            refine qo S sg env _ g en (post_one e1 fun S1 ov g1 h1 x1 a1 => ?_)
            refine qi S1 sg env _ g1 (en.ext x1) (post_one (by rw [h1]; exact e2) fun S2 iv g2 h2 x2 a2 => ?_)
            subst h2
            obtain ⟨l, us, rfl, r1, r2, r3⟩ := cell_lst g2 (x2.keep _ _ a1) e3
            refine ⟨l, us, k, n, rfl, a2, r2, by rw [r3.len]; exact e4, ?_⟩
            have av := x2.keep _ _ (x1.keep _ _ a)
            have al := r3.set n av
            have x := Sta.ext_set (T := wd X) (o := .lst (us.set n v)) (cl := (.lst, xs.set n d)) g2 r1
            exact z (S2.set j l (.lst (us.set n v)) (.lst, xs.set n d)) sg (g2.set r1 (show Hold (wd X) _ l _ .lst from upd_same) trivial al) rfl ((x1.trans x2).trans x) (((en.ext x1).ext x2).ext x)
          · cases e5
        · cases e
      · cases e
    · cases e
  · cases e
/-! ### a, b = x, y with plain names -/
def sPar (i j : Nat) (ma mb : ME) : MS := fun env c => (ma env c).st env fun x c => (mb env c).st env fun y c => .ok (.nx ((env.set i (some x)).set j (some y))) c
theorem ss_par {i j : Nat} {x y : Str} {px py pt : Pos} {kt k2 pt2} (hc : X.calm = true) (hN : X.N.Nodup) (ha : SE X W a ma) (hb : SE X W b mb) (hi : X.N[i]? = some x := by rfl) (hj : X.N[j]? = some y := by rfl) (hij : i ≠ j := by decide)
    (hx : X.env.scope.names.lookup x = some .local := by rfl) (hy : X.env.scope.names.lookup y = some .local := by rfl)
    (hw : swappedStores [.Tuple [.Name x px, .Name y py] kt pt] (.Tuple [a, b] k2 pt2) X.env = pure (some [x, y]) := by rfl)
    (hs : swapsWithSole [.Tuple [.Name x px, .Name y py] kt pt] (.Tuple [a, b] k2 pt2) pos.line X.env = pure false := by rfl) (h2 : starEach [a, b] X.env = (false, eval a X.env) :: starEach [b] X.env := by rfl) (h3 : starEach [b] X.env = (false, eval b X.env) :: starEach [] X.env := by rfl) :
    SS X W (.Assign [.Tuple [.Name x px, .Name y py] kt pt] (.Tuple [a, b] k2 pt2) pos) (sPar i j ma mb) := by
  obtain ⟨t, p, q⟩ := sa_cons ha (sa_cons hb sa_nil h3) h2
  refine PS.imp (ps_par hc hN hi hj hij hx hy p hw hs) fun D sg H ⟨S, env, e, g, en, z⟩ => ?_
  subst e
  refine q S sg env _ g en ?_
  show PostG _ _ _ ((ma env S.c).bind fun d c => ((mCons mb mNil env c).bind fun ds c => R.ok (d :: ds) c)) _ _
  have z : PostS (wd X) S ((ma env S.c).st env fun x c => (mb env c).st env fun y c => .ok (.nx ((env.set i (some x)).set j (some y))) c) D W := z
  cases e1 : ma env S.c with
  | stk => rw [e1] at z; exact z.elim
  | err y c => rw [e1] at z; exact fun S' cls dd g hc x1 z1 => z S' sg cls dd g hc x1 (en.ext x1) z1
  | ok d1 c1 =>
    rw [e1] at z
    have z : PostS (wd X) S ((mb env c1).st env fun y c => .ok (.nx ((env.set i (some d1)).set j (some y))) c) D W := z
    show PostG _ _ _ (((mb env c1).bind fun d c => R.ok [d] c).bind fun ds c => R.ok (d1 :: ds) c) _ _
    cases e2 : mb env c1 with
    | stk => rw [e2] at z; exact z.elim
    | err y c => rw [e2] at z; exact fun S' cls dd g hc x1 z1 => z S' sg cls dd g hc x1 (en.ext x1) z1
    | ok d2 c2 =>
      rw [e2] at z
      intro S' vs g' hc x1 al
      obtain ⟨v, w', rfl, av, aw⟩ := AtL.two al
      exact ⟨v, w', rfl, z S' _ g' hc x1 (((en.ext x1).set i av).set j aw)⟩
end
end Q
end
section
set_option Elab.async false
set_option linter.all false
set_option maxRecDepth 100000
namespace Q
open PySem PySem.Spec L2
variable [Tb]
/-! ### dict displays with keys ints and texts, .get -/
def keyOf : D → Option Key
  | .int i => some (.inl i)
  | .str x => some (.inr x)
  | _ => none
theorem keyOf_at {T : Wd} {S : Sta} {v : V} {d : D} {k : Key} (e : keyOf d = some k) (a : At T S v d) : v = kV k := by
  cases d with
  | int i => cases e; exact a
  | str x => cases e; exact a
  | _ => cases e
def keysOf : List D → Option (List Key)
  | [] => some []
  | d :: ds => match keyOf d, keysOf ds with
    | some k, some ks => some (k :: ks)
    | _, _ => none
def lookD : List Key → List D → Key → Option D
  | k' :: ks, d :: ds, k => if k' = k then some d else lookD ks ds k
  | _, _, _ => none
theorem lookD_at {T : Wd} {S : Sta} {k : Key} : ∀ {ks : List Key} {xs : List V} {ds : List D}, AtL T S xs ds → ks.length = xs.length → match lookD ks ds k with
    | some d => ∃ v, valV (ks.zip xs) k = some v ∧ At T S v d
    | none => valV (ks.zip xs) k = none
  | [], [], [], _, _ => rfl
  | k' :: ks, x :: xs, d :: ds, h, e => by
    obtain ⟨h1, h2⟩ : At T S x d ∧ AtL T S xs ds := h
    unfold lookD
    by_cases hk : k' = k
    · rw [if_pos hk]
      exact ⟨x, valV_pos (p := (k', x)) hk, h1⟩
    · rw [if_neg hk]
      have ih := lookD_at (k := k) h2 (show ks.length = xs.length by simpa using e)
      rw [List.zip_cons_cons, valV_neg (p := (k', x)) hk]
      exact ih
  | [], _ :: _, _, _, e => by simp at e
  | _ :: _, [], _, _, e => by simp at e
  | [], [], _ :: _, h, _ => h.elim
  | _ :: _, _ :: _, [], h, _ => h.elim
theorem putK_new {kvs : List (Key × V)} {k : Key} {v : V} (h : k ∉ kvs.map (·.1)) : putK kvs k v = kvs ++ [(k, v)] := by
  unfold putK
  rw [if_neg]
  intro z
  obtain ⟨p, hp, e⟩ := List.any_eq_true.mp z
  exact h (List.mem_map.mpr ⟨p, hp, of_decide_eq_true e⟩)
theorem mergeK_nodup : ∀ {more kvs : List (Key × V)}, (kvs.map (·.1) ++ more.map (·.1)).Nodup → mergeK kvs more = kvs ++ more
  | [], kvs, _ => by
    show kvs = kvs ++ []
    simp
  | p :: r, kvs, h => by
    have hp : p.1 ∉ kvs.map (·.1) := fun hm => by
      rw [List.map_cons, List.nodup_append] at h
      exact h.2.2 _ hm _ List.mem_cons_self rfl
    show mergeK (putK kvs p.1 p.2) r = _
    rw [putK_new hp, mergeK_nodup (more := r) (kvs := kvs ++ [(p.1, p.2)]) (by simpa using h)]
    simp
section
variable {X : Cx} {W : WX} {e a b c o f : Expr} {es : List Expr} {pos apos cpos : Pos} {m ma mb mc mo me mf : ME} {ms : ML}
abbrev MP := Env → Cells → R (List D × List D)
def PairAt (T : Wd) (S : Sta) (ps : List (V × V)) (q : List D × List D) : Prop := AtL T S (ps.map (·.1)) q.1 ∧ AtL T S (ps.map (·.2)) q.2
def SPr (X : Cx) (W : WX) (pos : Pos) (keys : List (Option Expr)) (values : List Expr) (m : MP) : Prop :=
  ∃ trs, PPs X pos keys values trs ∧ ∀ S sg env Qv, Good (wd X) S → EnvAt (wd X) S sg env → PostG (wd X) S (PairAt (wd X)) (m env S.c) Qv (WE W sg) → tPairs trs sg S.H Qv
def mPn : MP := fun _ c => .ok ([], []) c
def mPc (mk mv : ME) (mr : MP) : MP := fun env c => (mk env c).bind fun k c => (mv env c).bind fun v c => (mr env c).bind fun q c => .ok (k :: q.1, v :: q.2) c
theorem sp_nil : SPr X W pos [] [] mPn := ⟨_, pps_nil, fun S sg env Qv g en p => p S [] g rfl .refl ⟨trivial, trivial⟩⟩
theorem sp_cons {ks : List (Option Expr)} {vs : List Expr} {mr : MP} (hk : SE X W a ma) (hv : SE X W b mb) (hr : SPr X W pos ks vs mr) : SPr X W pos (some a :: ks) (b :: vs) (mPc ma mb mr) := by
  obtain ⟨ta, pa, qa⟩ := hk
  obtain ⟨tb, pb, qb⟩ := hv
  obtain ⟨tr, pr, qr⟩ := hr
  refine ⟨_, pps_cons pa pb pr, fun S sg env Qv g en z => ?_⟩
  refine qa S sg env _ g en (post_bind z fun x S1 v e1 g1 x1 a1 p1 => ?_)
  refine qb S1 sg env _ g1 (en.ext x1) (post_bind p1 fun y S2 u e2 g2 x2 a2 p2 => ?_)
  refine qr S2 sg env _ g2 ((en.ext x1).ext x2) (post_bind p2 fun q S3 ps e3 g3 x3 a3 p3 => ?_)
  exact p3 S3 ((v, u) :: ps) g3 rfl .refl ⟨⟨x3.keep _ _ (x2.keep _ _ a1), a3.1⟩, ⟨x3.keep _ _ a2, a3.2⟩⟩
/-- a hidden object told at last -/
theorem unhide {T : Wd} {S S2 : Sta} {p : Addr} {o u : HO} (g : Good T S) (hp : S.H p = none) (g2 : Good T S2) (x2 : Ext T (S.hide p o) S2) (m : Mu p (some u)) :
    ∃ S3 : Sta, S3.H = upd S2.H p u ∧ S3.c = S2.c ∧ Good T S3 ∧ Ext T S S3 ∧ p ∉ S3.r ∧ p ∉ S3.x ∧ ∀ v d, At T S2 v d → At T S3 v d := by
  have hx : S2.x = p :: S.x := x2.hx
  have hm : p ∈ S2.x := by rw [hx]; exact List.mem_cons_self
  have fr := g.freshX hp
  obtain ⟨g3, k3⟩ := g2.seth (o := u) hm m
  have sub : ∀ a ∈ S.x, a ∈ (S2.seth p u).x := fun a ha => by
    show a ∈ S2.x
    rw [hx]
    exact List.mem_cons_of_mem _ ha
  refine ⟨(S2.seth p u).tell S.x, rfl, rfl, g3.tell sub, ⟨x2.pre, fun v d a => at_tell sub v d (k3 v d (x2.keep v d ?_)), rfl, fun a ha => ?_⟩, (g2.hid p hm).1, fr, fun v d a => at_tell sub v d (k3 v d a)⟩
  · exact at_keep (S := S) (S' := S.hide p o) (fun _ _ e => e) (fun a u n nx e _ => ⟨n, fun hm => by
      rcases List.mem_cons.mp hm with z | z
      · rw [z, hp] at e
        cases e
      · exact nx z, (upd_ne (ne_of_none e hp)).trans e⟩) v d a
  · have ne : a ≠ p := fun z => fr (by rw [← z]; exact ha)
    show upd S2.H p u a = S.H a
    rw [upd_ne ne, x2.hh a (List.mem_cons_of_mem _ ha)]
    exact upd_ne ne
theorem keysOf_at {T : Wd} {S : Sta} : ∀ {ks : List D} {kk : List Key} {ps : List (V × V)}, keysOf ks = some kk → AtL T S (ps.map (·.1)) ks → ps = (kk.zip (ps.map (·.2))).map (fun kv => (kV kv.1, kv.2)) ∧ kk.length = ps.length
  | [], kk, [], e, _ => by cases e; exact ⟨rfl, rfl⟩
  | d :: ks, kk, p :: ps, e, h => by
    obtain ⟨h1, h2⟩ := (show At T S p.1 d ∧ AtL T S (ps.map (fun x : V × V => x.1)) ks from by simpa [AtL] using h)
    unfold keysOf at e
    split at e
    · rename_i k ks' e1 e2
      cases e
      obtain ⟨i1, i2⟩ := keysOf_at e2 h2
      have ep : p = (kV k, p.2) := by rw [← keyOf_at e1 h1]
      refine ⟨?_, by simp [i2]⟩
      rw [List.map_cons, List.zip_cons_cons, List.map_cons, ← i1, ← ep]
    · cases e
  | [], _, _ :: _, _, h => h.elim
  | _ :: _, _, [], _, h => h.elim
def mDictE (q : List D × List D) (c : Cells) : R D := match keysOf q.1 with
  | some kk => if kk.Nodup ∧ kk.length ≤ 15 then .ok (.nod (.dic kk) q.2) c else .stk
  | none => .stk
def mDict (mp : MP) : ME := fun env c => match mp env c with
  | .ok q c => mDictE q c
  | _ => .stk
theorem se_dict {keys : List (Option Expr)} {values : List Expr} {mp : MP} (h : SPr X W pos keys values mp) (hall : keys.all (·.isSome) = true := by rfl) (hl : keys.length = values.length := by rfl) (h0 : keys ≠ [] := by exact fun z => nomatch z)
    (h15 : keys.length ≤ 15 := by decide) : SE X W (.Dict keys values pos) (mDict mp) := by
  obtain ⟨trs, p, q⟩ := h
  refine ⟨_, pe_disp p hall hl h0 h15, fun S sg env Qv g en z => ?_⟩
  intro pa hp
  obtain ⟨g1, k1⟩ := g.hide (o := .dK []) hp trivial
  have en1 : EnvAt (wd X) (S.hide pa (.dK [])) sg env := ⟨en.len, fun i d e => let ⟨v, h1, h2⟩ := en.get i d e; ⟨v, h1, k1 v d h2⟩⟩
  refine q (S.hide pa (.dK [])) sg env _ g1 en1 ?_
  have z : Post (wd X) S (match mp env S.c with
    | .ok q c => mDictE q c
    | _ => .stk) Qv (WE W sg) := z
  show PostG (wd X) (S.hide pa (.dK [])) (PairAt (wd X)) (mp env S.c) _ _
  cases e1 : mp env S.c with
  | stk => rw [e1] at z; exact z.elim
  | err y cc =>
    rw [e1] at z
    exact z.elim
  | ok q' cc =>
    rw [e1] at z
    intro S2 ps g2 hc x2 pq
    subst hc
    have z : Post (wd X) S (mDictE q' S2.c) Qv (WE W sg) := z
    unfold mDictE at z
    split at z
    · rename_i kk e2
      split at z
      · rename_i hk
        obtain ⟨i1, i2⟩ := keysOf_at e2 pq.1
        have hd : S2.H pa = some (.dK []) := by
          rw [x2.hh pa List.mem_cons_self]
          exact upd_same
        have el : (kk.zip (ps.map (·.2))).map (·.1) = kk := by
          rw [List.map_fst_zip]
          simp [i2]
        refine ⟨hd, kk.zip (ps.map (·.2)), i1, by rw [List.length_zip, List.length_map, i2, Nat.min_self, ← i2]; exact hk.2, ?_⟩
        rw [mergeK_nodup (by simpa [el] using hk.1), List.nil_append]
        obtain ⟨S3, h1, h2, g3, x3, n3, nx3, k3⟩ := unhide (u := .dK (kk.zip (ps.map (·.2)))) g hp g2 x2 trivial
        have qq := z S3 (.ref pa) g3 h2 x3 ⟨pa, ps.map (·.2), rfl, .inl ⟨n3, nx3, by simp [i2], by rw [h1]; exact upd_same⟩, atL_of k3 pq.2⟩
        rw [h1] at qq
        exact qq
      · exact z.elim
    · exact z.elim
/-- {} -/
def mDict0 : ME := fun _ c => .ok (.nod (.dic []) []) c
theorem se_dict0 : SE X W (.Dict [] [] pos) mDict0 := ⟨_, pe_dnewK, fun S sg env Qv g en z p hp => made (T := wd X) (t := .dic []) (xs := []) (ds := []) g hp (show AtL (wd X) S [] [] from trivial) ⟨rfl, upd_same⟩ z⟩
/-! ### d.get(k, x), d[k], k in d -/
def fGet (d k x : D) (c : Cells) : O := match view c d, keyOf k with
  | some (.dic ks, ds), some kk => some ((lookD ks ds kk).getD x, c)
  | _, _ => none
def mGet2 (md mk mx : ME) : ME := fun env c => (md env c).bind fun d c => match view c d with
  | some (.dic _, _) => (mk env c).bind fun k c => (mx env c).bind fun x c => (fGet d k x c).r
  | _ => .stk
theorem se_get2 (hu : X.A.units + 1 < cLine) (ho : SE X W o mo) (he : SE X W e me) (hf : SE X W f mf) (m : M2 X o "get" apos e f cpos) : SE X W (.Call (.Attribute o "get" apos) [e, f] [] cpos) (mGet2 mo me mf) := by
  obtain ⟨to, po, qo⟩ := ho
  obtain ⟨te, pe, qe⟩ := he
  obtain ⟨tf, pf, qf⟩ := hf
  refine ⟨_, pe_dget2 hu po pe pf m, fun S sg env Qv g en z => ?_⟩
  refine qo S sg env _ g en (post_bind z fun d S1 v e1 g1 x1 a1 p1 => ?_)
  split at p1
  · rename_i ks ds e0
    obtain ⟨b, xs, rfl, h1, l⟩ := view_at g1 a1 e0
    rcases h1 with ⟨hz, h1⟩ | h1
    · refine ⟨b, rfl, .inl ⟨_, .of h1⟩, ?_⟩
      refine qe S1 sg env _ g1 (en.ext x1) (post_bind p1 fun k S2 kv e2 g2 x2 a2 p2 => ?_)
      refine qf S2 sg env _ g2 ((en.ext x1).ext x2) (post_bind p2 fun y S3 yv e3 g3 x3 a3 p3 => ?_)
      obtain ⟨r, c', e4, q⟩ := p3.o.some
      unfold fGet at e4
      split at e4
      · rename_i ks' ds' kk e5 e6
        cases e4
        obtain ⟨b', ys, eb, h2, l2⟩ := view_at g3 (x3.keep _ _ (x2.keep _ _ a1)) e5
        cases eb
        rcases h2 with ⟨hz2, h2⟩ | h2
        · have ek := keyOf_at e6 (x3.keep _ _ a2)
          have lk := lookD_at (k := kk) l2 hz2
          refine ⟨valV (ks'.zip ys) kk, .inl ⟨_, kk, .of h2, ek, rfl⟩, ?_⟩
          cases e7 : lookD ks' ds' kk with
          | some d' =>
            rw [e7] at lk q
            obtain ⟨w', h3, h4⟩ := lk
            rw [h3]
            exact q S3 w' g3 rfl .refl h4
          | none =>
            rw [e7] at lk q
            rw [lk]
            exact q S3 yv g3 rfl .refl a3
        · exact h2.elim
      · cases e4
    · exact h1.elim
  · exact p1.elim
end
end Q
end
section
set_option Elab.async false
set_option linter.all false
set_option maxRecDepth 100000
namespace Q
open PySem PySem.Spec L2
variable [Tb]
/-! ### raising an own exception whose __init__ keeps its argument -/
def spI (C : Addr) (f : Str) : Sp := fun vs H Qv _ => ∃ a v, vs = [.ref a, v] ∧ H a = some (exo a C none) ∧ ∀ dx, H dx = none → dx ≠ a → Qv .non (upd (upd H dx (exd dx [(f, v)])) a (exo a C (some dx)))
theorem fn_init1 {P : Program} {w : World} {K : PySem.W.Frag} {mg : Str → Option Value} {base : Heap} {k : Nat} {x qual s v f : Str} {st : Stmt} {fI C : Addr} {fd : FuncData} {p1 p2 p3 p4 : Pos} (F : Fun K x qual st fI fd) (Sc : FnScope [s, v] [s, v] (defScope st)) (T : OexC K C)
    (hno : PySem.W.findIn K (.ref C) f = some none) (hb : defBody st = [.Assign [.Attribute (.Name s p1) f p2] (.Name v p3) p4] := by rfl) (hs : Vis (defScope st) s := by exact .inl rfl) (hv : Vis (defScope st) v := by exact .inl rfl)
    (hsw : ∀ env, swapsWith (.Name v p3) (some (.Attribute (.Name s p1) f p2)) p4.line env = pure false := by intro _; rfl) (hd1 : (s == ("__debug__" : Str)) = false := by decide) (hd2 : (s == ("__classdict__" : Str)) = false := by decide)
    (hd3 : (v == ("__debug__" : Str)) = false := by decide) (hd4 : (v == ("__classdict__" : Str)) = false := by decide) : FnOk P w K mg base C8.CX0 (k + 1) fI fd [s, v] (spI C f) := by
  refine F.ok Sc (fun vs H Qv E h => ?_) (fun cdv A l sh H vs Qv E hr h => ?_)
  · obtain ⟨a, y, rfl, _⟩ := h
    rfl
  · obtain ⟨a, y, rfl, ha, q⟩ := h
    rw [hb]
    refine ⟨_, pss_one (ps_ost (pe_var (i := 0) rfl hs hd1 hd2) (pe_var (i := 1) rfl hv hd3 hd4) (hsw _)), ?_⟩
    exact ⟨y, rfl, .ref a, rfl, a, C, rfl, T, hno, .inl ⟨ha, fun dx h1 h2 => q dx h1 h2⟩⟩
section
variable {X : Cx} {W : WX} {e a b c o i f : Expr} {es : List Expr} {pos p pos' : Pos} {m ma mb mc mo : ME} {ms : ML}
def sRaise (cls : Str) (ks : List Str) (ms : ML) : MS := fun env c => (ms env c).st env fun ds c => if ds.length = ks.length then .err ⟨cls, ks, ds⟩ env c else .stk
theorem ss_raise1 {CX : CXT} {x s v f : Str} {C fI : Addr} {k : Nat} {fd : FuncData} (hc : X.calm = true) (tk : Takes X W) (T : OexC X.K C) (iC : PySem.W.findIn X.K (.ref C) "__init__" = some (some (.ref fI))) (tI : PySem.W.typeIn X.K (.ref fI) = some (.type "function"))
    (F1 : FnOk X.prog X.w X.K X.mg X.base CX k fI fd [s, v] (spI C f)) (hr : Room (k + 1) X.A) (hb : Binds X.K fd [s, v] []) (hx : Passes CX X (fun _ _ _ => False)) (hm : X.mg x = some (.ref C)) (ha : SA X W [e] ms) (hg : Gl X x := by rfl)
    (hdb : (x == ("__debug__" : Str)) = false := by decide) (he : starEach [e] X.env = (false, eval e X.env) :: starEach [] X.env := by rfl) (hpl : (backTo pos (starEach [] X.env)).any (·.1) = false := by rfl) :
    SS X W (.Raise (some (.Call (.Name x p) [e] [] pos)) none pos') (sRaise x [f] ms) := by
  obtain ⟨t, pa, q⟩ := ha
  refine PS.imp (ps_raise hc tk (pmk_oex (CX := CX) (dvs := []) (ds := []) T iC tI F1 hr hb .nil hx hg hm pa hdb he hpl)) fun D sg H ⟨S, env, eq, g, en, z⟩ => ?_
  subst eq
  refine q S sg env _ g en (post_st z en fun ds S1 vs e1 g1 x1 al p1 => ?_)
  split at p1
  · rename_i hl
    obtain ⟨d, rfl⟩ : ∃ d, ds = [d] := List.length_eq_one_iff.mp hl
    obtain ⟨y, rfl, ay⟩ := al.one
    refine ⟨by simp, fun a hn => ⟨a, y, rfl, upd_same, fun dx hdx ne => ?_⟩⟩
    have hd1 : S1.H dx = none := (upd_ne ne).symm.trans hdx
    refine ⟨rfl, dx, [(f, y)], upd_same, (upd_ne ne).trans upd_same, hd1, ?_⟩
    have eH : upd (del (upd (upd (upd S1.H a (exo a C none)) dx (exd dx [(f, y)])) a (exo a C (some dx))) a) dx (.xd [(f, y)]) = upd S1.H dx (.xd [(f, y)]) := by
      funext j
      by_cases h1 : j = dx
      · rw [h1, upd_same, upd_same]
      · rw [upd_ne h1, upd_ne h1]
        by_cases h2 : j = a
        · rw [h2, del_same, hn]
        · rw [del_ne h2, upd_ne h2, upd_ne h1, upd_ne h2]
    rw [eH]
    have x2 := Sta.ext_put (T := wd X) (o := .xd [(f, y)]) g1 hd1
    exact p1 (S1.put dx (.xd [(f, y)])) sg (.ref C) (some dx) (g1.put hd1) rfl x2 ((en.ext x1).ext x2)
      ⟨C, hm, rfl, .inr ⟨dx, rfl, dx, [y], rfl, .inl ⟨g1.fresh hd1, g1.freshX hd1, rfl, upd_same⟩, x2.keep _ _ ay, trivial⟩⟩
  · exact p1.elim
/-! ### try with several clauses, each with a name -/
/-- an exception has landed at h3 -/
structure Lnd (X : Cx) (pins : List (Addr × Obj)) (sg : L2.St) (H : Hp) (sI s' : Shared) (h3 : Heap) (a : Addr) (B : Heap) (cls : Value) (d : Option Addr) : Prop where
  inv : Inv X pins sg H sI
  gr : ∀ b o, sI.heap.get? b = some o → b ∉ frs X.stack → B.get? b = some o
  up : sI.heap.UpToSlots h3
  fl : HandSPX.FlyingZ B (X.env :: X.outer) a (Zc cls d) h3
  na : H a = none
  os : s'.os = sI.os
  ag : PyProof.Rows.AllBare s'.gens
def HdOk (X : Cx) (hs : List ExceptHandler) (Wc : Ends → WX) : Prop := ∀ (pins : List (Addr × Obj)) (sg : L2.St) (H : Hp) (sI s' : Shared) (h3 : Heap) (a : Addr) (B : Heap) (cls : Value) (d : Option Addr) (D : Ends),
  X.A.frames = some (X.env :: X.outer) → Lnd X pins sg H sI s' h3 a B cls d → Wc D cls d sg H → wpAny (model X.prog X.w) X.A (handleBy (.ref a) X.env hs) (SP X pins D) X.xe { s' with heap := h3 }
theorem hd_nil (hs : X.stack = X.env :: X.outer) (hf : X.env.frame = some X.env.locals) (tk : Takes X W) : HdOk X [] (fun _ => W) := by
  intro pins sg H sI s' h3 a B cls d D hfr L w
  refine wpAny_handleBy_nil ?_
  obtain ⟨k1, k2, k3, oe, vs, Ta, oT, ts', he, hz, hd, h1, hr⟩ := id L.fl
  unfold PySem.passOn
  refine wpAny_bind (wpAny_field he hd h1 ?_)
  rw [if_neg (fun z => by simp at z)]
  have fin : wpAny (model X.prog X.w) X.A (setFlight (.ref a) X.env.frame) (fun _ s4 => wpAny (model X.prog X.w) X.A (throw (.ref a) : Sem Flow) (SP X pins D) X.xe s4) X.xe { s' with heap := h3 } := by
    rw [hf]
    refine HandSPX.setFlight_upZ L.fl fun h4 hh4 up4 => wpAny_throw (tk _ _ ?_)
    exact ⟨a, B, sI, pins, sg, H, cls, d, rfl, L.inv, L.gr, L.up.trans up4, .inr (.inr (by rw [hs]; exact hh4)), L.na, L.os, L.ag, w⟩
  first
    | exact wpAny_bind (wpAny_pure (wpAny_bind fin))
    | exact wpAny_bind fin
/-- what 'except x as n' wishes; Wr: what the rest wishes -/
def wCl (K : PySem.W.Frag) (c : Value) (i : Nat) (ts : Addr → Value → Option Addr → TS) (Wr : Ends → WX) (D : Ends) : WX := fun cls d sg H =>
  ∃ b, PySem.W.exmOne K cls c = some b ∧ (b = true → ∀ a, H a = none → ts a cls d { nx := fun s H' => D.nx (s.set i none) H', rt := D.rt, bk := fun s H' => D.bk (s.set i none) H', ct := fun s H' => D.ct (s.set i none) H' } (sg.set i (some (.ref a))) H) ∧
    (b = false → Wr D cls d sg H)
theorem hd_as {x n : Str} {c : Value} {i : Nat} {suite : List Stmt} {b₀ : Stmt} {np pos' : Pos} {ts : Addr → Value → Option Addr → TS} {rest : List ExceptHandler} {Wr : Ends → WX} (hs : X.stack = X.env :: X.outer) (hf : X.env.frame = some X.env.locals) (hN : X.N.Nodup)
    (hc : Names X x c) (hrest : HdOk X rest Wr)
    (hsu : ∀ (a : Addr) (oe : Obj) (cls : Value) (d : Option Addr) (pn : List (Addr × Obj)), Zc cls d oe → (∃ vs, oe.data = .fields vs) → PSs (X.suite a ((a, oe) :: pn)) (b₀ :: suite) (ts a cls d)) (hi : X.N[i]? = some n := by rfl) (hln : X.env.kindOf n = some .local := by rfl) :
    HdOk X (.ExceptHandler (some (.Name x np)) (some n) (b₀ :: suite) pos' :: rest) (wCl X.K c i ts Wr) := by
  intro pins sg H sI s' h3 a B cls d D hfr L w
  obtain ⟨bb, hb1, hyes, hno⟩ := w
  have ok := L.inv.ok
  have J3 : Inv X pins sg H { s' with heap := h3 } := L.inv.landed L.gr L.fl.1 L.up L.os L.ag
  obtain ⟨oe3, vs3, he3, hz3, hd3⟩ := L.fl.there
  have nfr : a ∉ frs (X.env :: X.outer) := fun hm => by
    obtain ⟨_, ob, eb, hnf⟩ := L.fl.2.2.1.mem hm
    rw [he3] at eb
    cases eb
    exact hnf _ hd3
  have nL : a ≠ X.env.locals := fun z => nfr (List.mem_filterMap.mpr ⟨X.env, List.mem_cons_self, hf.trans (congrArg some z.symm)⟩)
  have nF : a ∉ X.fs := fun hm => by
    obtain ⟨en, he, q⟩ := List.mem_filterMap.mp hm
    exact nfr (List.mem_filterMap.mpr ⟨en, List.mem_cons_of_mem _ he, q⟩)
  have S3 := J3.suite he3 hd3 L.na nL nF
  refine wpAny_handleBy_cons (codeAny_handlers_test ?_) (by intro q; cases q)
  have LT : PySem.W.Looks (model X.prog X.w) h3 (typeOf (.ref a)) cls := fun A Qv E sh k q => wpAny_typeOf_ref (k _ _ he3) (by rw [hz3.1]; exact q)
  have LM := PySem.W.exm_one (M := model X.prog X.w) J3.kIn LT hb1
  have test : ∀ {Qv : Value → Shared → Prop} {E : Value → Shared → Prop}, Qv c { s' with heap := h3 } → wpAny (model X.prog X.w) (X.A.mark (some (.ref a))) (eval (.Name x np) X.env) Qv E { s' with heap := h3 } := fun {Qv E} q => by
    obtain ⟨hg, hdbg, hm | ⟨hm, hv, hnn⟩⟩ := hc
    · exact ld_glob (X := X.suite a ((a, oe3) :: (X.pn ++ pins))) S3 hg hm q hdbg
    · exact ld_blt (X := X.suite a ((a, oe3) :: (X.pn ++ pins))) S3 hg hm hv q hnn hdbg
  refine test (LM.here ?_)
  cases bb with
  | false => exact hrest pins sg H sI s' h3 a B cls d D hfr L (hno rfl)
  | true =>
    refine codeAny_handlers_suite_as (HandSPX.lands_againZ L.fl fun h4 fl4 up4 => ?_)
    have J4 : Inv X pins sg H { s' with heap := h4 } := L.inv.landed L.gr fl4.1 (L.up.trans up4) L.os L.ag
    obtain ⟨oe4, vs4, he4, hz4, hd4⟩ := fl4.there
    have S4 := J4.suite he4 hd4 L.na nL nF
    refine store_ok (X := X.suite a ((a, oe4) :: (X.pn ++ pins))) (v := .ref a) S4 hN hi (.inl hln) rfl (fun s5 S5 => ?_) (.inr hln)
    refine wpAny_mono ((hsu a oe4 cls d (X.pn ++ pins) hz4 ⟨_, hd4⟩).run [] s5 _ H _ S5 (hyes rfl a L.na)) (fun fl s6 hsp => ?_) (fun _ _ z => z.elim)
    have fin : ∀ {sg6 : L2.St} {H6 : Hp} {Qs : Shared → Prop}, Inv (X.suite a ((a, oe4) :: (X.pn ++ pins))) [] sg6 H6 s6 → (∀ s7, Inv X pins (sg6.set i none) H6 s7 → Qs s7) →
        wpAny (model X.prog X.w) X.A (do bindName X.env n .none; unbindBehindTheSuite X.env n pos') (fun _ s7 => Qs s7) X.xe s6 := fun {sg6 H6 Qs} S6 hq => gone_ok (S6.unsuite ok) hN hi hln hq
    cases fl with
    | ret u =>
      obtain ⟨v6, sg6, H6, S6, r6, q6⟩ := hsp
      exact fin S6 fun s7 J7 => ⟨_, _, _, J7, r6, q6⟩
    | next =>
      obtain ⟨sg6, H6, S6, q6⟩ := hsp
      exact fin S6 fun s7 J7 => ⟨_, _, J7, q6⟩
    | brk =>
      obtain ⟨sg6, H6, S6, q6⟩ := hsp
      exact fin S6 fun s7 J7 => ⟨_, _, J7, q6⟩
    | cont =>
      obtain ⟨sg6, H6, S6, q6⟩ := hsp
      exact fin S6 fun s7 J7 => ⟨_, _, J7, q6⟩
theorem ps_tryL {body : List Stmt} {h₀ : ExceptHandler} {hl : List ExceptHandler} {tb : WX → TS} {Wc : Ends → WX} (hs : X.stack = X.env :: X.outer) (hf : X.env.frame = some X.env.locals)
    (hb : ∀ (Wi : WX) (pn : List (Addr × Obj)) (xe : Value → Shared → Prop), Takes (X.tr pn xe) Wi → PassesOwn (model X.prog X.w) X.A X.env xe → PSs (X.tr pn xe) body (tb Wi)) (hh : HdOk X (h₀ :: hl) Wc) :
    PS X (.Try body (h₀ :: hl) [] [] pos) (fun D sg H => tb (Wc D) D sg H) := by
  refine ⟨fun pins s sg H D I h => ?_⟩
  have ok := I.ok
  have hfr : X.A.frames = some (X.env :: X.outer) := ok.frames.trans (by rw [hs])
  refine wpAny_Try_except ?_
  refine wpAny_mono ((hb (Wc D) (X.pn ++ pins) (fun e s₁ => wpAny (model X.prog X.w) X.A (noteFrame e X.env) (fun _ s₂ => wpAny (model X.prog X.w) X.A (setFlight e none) (fun _ s₃ =>
    wpAny (model X.prog X.w) X.A (handleBy e X.env (h₀ :: hl)) (SP X pins D) X.xe s₃) X.xe s₂) X.xe s₁) (fun u s' xx => ?_) PassesOwn.looking).run [] s sg H D (I.toTry _) h) (fun fl s1 hsp => ?_) (fun e s1 he => he)
  · obtain ⟨a, B, sI, pins', sg', H', cls, d, rfl, J', nb, up, sky, na, os, ag, wz⟩ := xx
    have J : Inv X pins sg' H' sI := J'.ofTry ok
    have sk : Sky B (X.env :: X.outer) a (Zc cls d) X.env.locals s'.heap := hs ▸ sky
    show wpAny (model X.prog X.w) X.A (noteFrame (.ref a) X.env) _ _ _
    refine Sky.land Zc.steady hfr hf sk fun h3 fl3 up3 => ?_
    exact hh pins sg' H' sI s' h3 a B cls d D hfr ⟨J, nb, up.trans up3, fl3, na, os, ag⟩ wz
  · cases fl with
    | ret u =>
      obtain ⟨v, sg', H', J', r, q⟩ := hsp
      exact ⟨v, sg', H', J'.ofTry ok, r, q⟩
    | next =>
      obtain ⟨sg', H', J', q⟩ := hsp
      exact wpAny_execs_nil ⟨sg', H', J'.ofTry ok, q⟩
    | brk =>
      obtain ⟨sg', H', J', q⟩ := hsp
      exact ⟨sg', H', J'.ofTry ok, q⟩
    | cont =>
      obtain ⟨sg', H', J', q⟩ := hsp
      exact ⟨sg', H', J'.ofTry ok, q⟩
end
end Q
end
section
set_option Elab.async false
set_option linter.all false
set_option maxRecDepth 100000
namespace Q
open PySem PySem.Spec L2
variable [Tb]
theorem ExAt.ext {T : Wd} {S S' : Sta} {cls : Value} {dd : Option Addr} {x : Exn} (h : ExAt T S cls dd x) (e : Ext T S S') : ExAt T S' cls dd x := by
  obtain ⟨C, h1, h2, h3⟩ := h
  exact ⟨C, h1, h2, h3.imp id fun ⟨d, h4, h5⟩ => ⟨d, h4, e.keep _ _ h5⟩⟩
theorem EnvAt.clr {T : Wd} {S : Sta} {sg : L2.St} {env : Env} (h : EnvAt T S sg env) (i : Nat) (o : Option V) : EnvAt T S (sg.set i o) (env.set i (Option.none : Option D)) := by
  refine ⟨by rw [List.length_set, List.length_set, h.len], fun j e q => ?_⟩
  by_cases hj : i = j
  · subst hj
    by_cases hl : i < env.length
    · rw [List.getElem?_set_self hl] at q
      cases q
    · rw [List.getElem?_eq_none (by simpa using hl)] at q
      cases q
  · rw [List.getElem?_set_ne hj] at q ⊢
    exact h.get j e q
/-! ### expressions over the error in hand -/
def SX (Y : Cx) (i : Nat) (a C : Addr) (d : Option Addr) (x : Exn) (e : Expr) (m : ME) : Prop :=
  ∃ t, PE Y e t ∧ ∀ S sg env Qv, Good (wd Y) S → EnvAt (wd Y) S sg env → sg[i]? = some (some (.ref a)) → ExAt (wd Y) S (.ref C) d x → Post (wd Y) S (m env S.c) Qv (WE WF sg) → t sg S.H Qv
def SXA (Y : Cx) (i : Nat) (a C : Addr) (d : Option Addr) (x : Exn) (e : List Expr) (m : ML) : Prop :=
  ∃ t, PA Y e t ∧ ∀ S sg env Qv, Good (wd Y) S → EnvAt (wd Y) S sg env → sg[i]? = some (some (.ref a)) → ExAt (wd Y) S (.ref C) d x → PostG (wd Y) S (AtL (wd Y)) (m env S.c) Qv (WE WF sg) → t sg S.H Qv
def lookF : List Str → List D → Str → Option D
  | k :: ks, d :: ds, f => if (f == k) = true then some d else lookF ks ds f
  | _, _, _ => none
theorem lookF_at {T : Wd} {S : Sta} {f : Str} : ∀ {ks : List Str} {xs : List V} {ds : List D} {d : D}, AtL T S xs ds → lookF ks ds f = some d → ∃ v, (ks.zip xs).lookup f = some v ∧ At T S v d
  | k :: ks, x :: xs, y :: ds, d, h, e => by
    obtain ⟨h1, h2⟩ : At T S x y ∧ AtL T S xs ds := h
    unfold lookF at e
    rw [List.zip_cons_cons]
    cases hk : (f == k) with
    | true =>
      rw [hk, if_pos rfl] at e
      cases e
      exact ⟨x, by simp [List.lookup, hk], h1⟩
    | false =>
      rw [hk, if_neg (by decide)] at e
      obtain ⟨v, h3, h4⟩ := lookF_at h2 e
      exact ⟨v, by simpa [List.lookup, hk] using h3, h4⟩
  | [], _, _, _, _, e => by
    unfold lookF at e
    cases e
  | _ :: _, [], [], _, _, e => by
    unfold lookF at e
    cases e
  | _ :: _, [], _ :: _, _, h, _ => h.elim
  | _ :: _, _ :: _, [], _, h, _ => h.elim
section
variable {X Y : Cx} {i : Nat} {a C : Addr} {d : Option Addr} {x : Exn} {e b : Expr} {es : List Expr} {pos p : Pos} {m ma mb : ME} {ms : ML} {oe : Obj} {pn : List (Addr × Obj)}
theorem sx_se (h : SE Y WF e m) : SX Y i a C d x e m := by
  obtain ⟨t, p, q⟩ := h
  exact ⟨t, p, fun S sg env Qv g en _ _ z => q S sg env Qv g en z⟩
theorem sxa_nil : SXA Y i a C d x [] mNil := ⟨_, pa_nil, fun S sg env Qv g en _ _ p => p S [] g rfl .refl trivial⟩
theorem sxa_cons (ha : SX Y i a C d x e ma) (hr : SXA Y i a C d x es ms) (hs : starEach (e :: es) Y.env = (false, eval e Y.env) :: starEach es Y.env := by rfl) : SXA Y i a C d x (e :: es) (mCons ma ms) := by
  obtain ⟨ta, pa, qa⟩ := ha
  obtain ⟨tb, pb, qb⟩ := hr
  refine ⟨_, pa_cons pa pb hs, fun S sg env Qv g en hi hx p => ?_⟩
  refine qa S sg env _ g en hi hx (post_bind p fun y S1 v e1 g1 x1 a1 p1 => ?_)
  refine qb S1 sg env _ g1 (en.ext x1) hi (hx.ext x1) (post_bind p1 fun ys S2 vs e2 g2 x2 a2 p2 => ?_)
  exact p2 S2 (v :: vs) g2 rfl .refl ⟨x2.keep _ _ a1, a2⟩
theorem sx_lstC (h : SXA Y i a C d x es ms) : SX Y i a C d x (.List es pos) (mLstC ms) := by
  obtain ⟨t, p, q⟩ := h
  refine ⟨_, pe_lst p, fun S sg env Qv g en hi hx z => ?_⟩
  refine q S sg env _ g en hi hx (post_bind z fun ds S1 vs e1 g1 x1 a1 p1 => ?_)
  split at p1
  · rename_i h
    exact ⟨by rw [a1.len]; exact h, fun p hp => madeC (T := wd Y) (t := .lst) g1 hp a1 upd_same trivial p1⟩
  · exact p1.elim
theorem sx_lst (h : SXA Y i a C d x es ms) : SX Y i a C d x (.List es pos) (mLst ms) := by
  obtain ⟨t, p, q⟩ := h
  refine ⟨_, pe_lst p, fun S sg env Qv g en hi hx z => ?_⟩
  refine q S sg env _ g en hi hx (post_bind z fun ds S1 vs e1 g1 x1 a1 p1 => ?_)
  split at p1
  · rename_i h
    exact ⟨by rw [a1.len]; exact h, fun p hp => made (T := wd Y) (t := .lst) g1 hp a1 upd_same p1⟩
  · exact p1.elim
theorem sx_one {op} (h : SX Y i a C d x e m) : SX Y i a C d x (.BoolOp op [e] pos) m := by
  obtain ⟨t, p, q⟩ := h
  exact ⟨t, pe_one p, q⟩
theorem sx_and {rest : List Expr} (ha : SX Y i a C d x e ma) (hb : SX Y i a C d x (.BoolOp .And (b :: rest) pos) mb) : SX Y i a C d x (.BoolOp .And (e :: b :: rest) pos) (mAndV ma mb) := by
  obtain ⟨ta, pa, qa⟩ := ha
  obtain ⟨tb, pb, qb⟩ := hb
  refine ⟨_, pe_andT pa pb, fun S sg env Qv g en hi hx p => ?_⟩
  refine qa S sg env _ g en hi hx (post_bind p fun y S1 v e1 g1 x1 a1 p1 => ?_)
  split at p1
  · rename_i h
    exact ⟨true, truth_at g1 h a1, iteT (qb S1 sg env Qv g1 (en.ext x1) hi (hx.ext x1) p1)⟩
  · rename_i h
    exact ⟨false, truth_at g1 h a1, iteF (p1 S1 v g1 rfl .refl a1)⟩
  · exact p1.elim
theorem sx_callB {nm : Str} {id : String} {f : List D → Cells → O} (h : CaF Y (.builtin id) f) (hm : Y.mg nm = none) (ha : SXA Y i a C d x (e :: es) ms) (hg : Gl Y nm := by rfl) (hv : bootBuiltins nm = some (.builtin id) := by decide +kernel) (hn : nm ≠ "__name__" := by decide) (hdb : (nm == ("__debug__" : Str)) = false := by decide)
    (he : starEach (e :: es) Y.env = (false, eval e Y.env) :: starEach es Y.env := by rfl) (hpl : (backTo pos (starEach es Y.env)).any (·.1) = false := by rfl) : SX Y i a C d x (.Call (.Name nm p) (e :: es) [] pos) (mCall f ms) := by
  obtain ⟨r, h1, h2⟩ := h
  obtain ⟨t, pa, q⟩ := ha
  refine ⟨_, pe_callB h1 hg hm hv pa hn hdb he hpl, fun S sg env Qv g en hi hx z => ?_⟩
  refine q S sg env _ g en hi hx (post_bind z fun ds S1 vs e1 g1 x1 a1 p1 => ?_)
  exact h2 S1 vs ds Qv g1 a1 p1.o
/-- e.f -/
def mFld (x : Exn) (f : Str) : ME := fun _ c => match lookF x.ks x.ds f with
  | some d => .ok d c
  | none => .stk
theorem sx_fld {n f : Str} {pe : Pos} (T : XfC X.K C) (hno : PySem.W.findIn X.K (.ref C) f = some none) (hz : Zc (.ref C) d oe) (hf : ∃ vs, oe.data = .fields vs) (he : PE (X.suite a ((a, oe) :: pn)) (.Name n pe) (tVar i))
    (hb : attributeBase (.Name n pe) f X.env (eval (.Name n pe) X.env) = eval (.Name n pe) X.env := by rfl) : SX (X.suite a ((a, oe) :: pn)) i a C d x (.Attribute (.Name n pe) f pos) (mFld x f) := by
  refine ⟨_, pe_xf T hno hz hf he hb, fun S sg env Qv g en hi hx z => ?_⟩
  unfold mFld at z
  split at z
  · rename_i y e1
    obtain ⟨C', h1, h2, h3⟩ := hx
    rcases h3 with ⟨h4, h5, _⟩ | ⟨dd, h4, h5⟩
    · rw [h4, h5] at e1
      cases e1
    · obtain ⟨b, xs, eb, hh, al⟩ := view_at g h5 (show view S.c (.nod (.xdc x.ks) x.ds) = some (.xdc x.ks, x.ds) from rfl)
      cases eb
      rcases hh with ⟨hl, hh⟩ | hh
      · obtain ⟨v, q1, q2⟩ := lookF_at al e1
        exact ⟨.ref a, hi, rfl, rfl, dd, _, v, h4, hh, q1, z S v g rfl .refl q2⟩
      · exact hh.elim
  · exact z.elim
/-- isinstance(e, A) -/
def rIsX (K : PySem.W.Frag) (C a : Addr) (d : Option Addr) : List V → Hp → VK → Prop := fun xs H Qv => ∃ (c : V) (cv : Value) (b : Bool), xs = [.ref a, c] ∧ (∀ u, RelV c u → u = cv) ∧ PySem.W.kitOne K (.ref C) cv = some b ∧ (d = none ∨ ∃ dd fs, d = some dd ∧ H dd = some (.xd fs)) ∧ Qv (.bl b) H
theorem call_isX (T : ExcC X.K C) (hcl : (PySem.W.clsIn X.K C).isSome = true) (hz : Zc (.ref C) d oe) (hf : ∃ vs, oe.data = .fields vs) : CallR (X.suite a ((a, oe) :: pn)) (.builtin "isinstance") (rIsX X.K C a d) := by
  intro pins s sg H xs us Qv I r h
  obtain ⟨c, cv, b, rfl, hcv, e, hd, q⟩ := h
  obtain ⟨u1, u2, rfl, r1, r2⟩ := vals2 r
  cases r1
  have ec := hcv _ r2
  subst ec
  obtain ⟨hget, _⟩ := I.pin (a, oe) (List.mem_append.mpr (.inl List.mem_cons_self))
  obtain ⟨vs, hv⟩ := hf
  have J : ∃ od, PySem.W.InstAt s.heap a oe C od := by
    obtain ⟨oc, od, oda, osl⟩ := oe
    obtain ⟨h1, h2⟩ := hz
    dsimp only at h1 h2 hv
    subst h1 h2 hv
    rcases hd with rfl | ⟨dd, fs, rfl, hx⟩
    · exact ⟨none, hget, rfl, rfl, trivial⟩
    · have hok : ObjOk X.prog X.w H s.heap dd (.xd fs) := I.hok dd _ hx
      obtain ⟨mA, hns, _⟩ := hok
      obtain ⟨od, ho, _⟩ := lookIn_ns hns
      exact ⟨some od, hget, rfl, rfl, ho⟩
  obtain ⟨od, J⟩ := J
  exact PySem.W.kia_one (PySem.W.kitx_exc (gt := none) hcl T.hg T.hk T.hs T.ha T.hn T.ht T.hm) I.kIn J e (fun z => nomatch z) fun tk => ⟨.bl b, H, I.kept (t' := tk) fun _ _ z => z, rfl, q⟩
theorem sx_isi {n A : Str} {pe pA : Pos} {cV : V} {cv : Value} {r : Bool} (T : ExcC X.K C) (hcl : (PySem.W.clsIn X.K C).isSome = true) (hz : Zc (.ref C) d oe) (hf : ∃ vs, oe.data = .fields vs) (he : PE (X.suite a ((a, oe) :: pn)) (.Name n pe) (tVar i))
    (hA : PE (X.suite a ((a, oe) :: pn)) (.Name A pA) (tC cV)) (hcv : ∀ u, RelV cV u → u = cv) (hk : PySem.W.kitOne X.K (.ref C) cv = some r) (hm : X.mg "isinstance" = none) (hg : Gl X "isinstance" := by rfl)
    (hs : starEach [.Name n pe, .Name A pA] X.env = (false, eval (.Name n pe) X.env) :: starEach [.Name A pA] X.env := by rfl) (hs2 : starEach [.Name A pA] X.env = (false, eval (.Name A pA) X.env) :: starEach [] X.env := by rfl) (hpl : (backTo pos (starEach [.Name A pA] X.env)).any (·.1) = false := by rfl) :
    SX (X.suite a ((a, oe) :: pn)) i a C d x (.Call (.Name "isinstance" p) [.Name n pe, .Name A pA] [] pos) (mC (.bl r)) := by
  refine ⟨_, pe_callB (X := X.suite a ((a, oe) :: pn)) (call_isX T hcl hz hf) hg hm (by decide +kernel) (pa_cons he (pa_cons hA pa_nil hs2) hs) (by decide) (by decide) hs hpl, fun S sg env Qv g en hi hx z => ?_⟩
  refine ⟨.ref a, hi, cV, cv, r, rfl, hcv, hk, ?_, z S (.bl r) g rfl .refl rfl⟩
  obtain ⟨C', h1, h2, h3⟩ := hx
  rcases h3 with ⟨_, _, h5⟩ | ⟨dd, h4, h5⟩
  · exact .inl h5
  · obtain ⟨b, xs, eb, hh, al⟩ := view_at g h5 (show view S.c (.nod (.xdc x.ks) x.ds) = some (.xdc x.ks, x.ds) from rfl)
    cases eb
    rcases hh with ⟨hl, hh⟩ | hh
    · exact .inr ⟨dd, _, h4, hh⟩
    · exact hh.elim
end
end Q
end
section
set_option Elab.async false
set_option linter.all false
set_option maxRecDepth 100000
namespace Q
open PySem PySem.Spec L2
variable [Tb]
/-! ### except suites, the whole try -/
def SXS (Y : Cx) (i : Nat) (a C : Addr) (d : Option Addr) (x : Exn) (st : List Stmt) (k : MS) : Prop :=
  PSs Y st (fun Dn sg H => ∃ S env, S.H = H ∧ Good (wd Y) S ∧ EnvAt (wd Y) S sg env ∧ sg[i]? = some (some (.ref a)) ∧ ExAt (wd Y) S (.ref C) d x ∧ PostS (wd Y) S (k env S.c) Dn WF)
structure Cla where
  hit : Str → Option Bool
  i : Nat
  k : Exn → MS
def RS.clr (i : Nat) : RS → RS
  | .ok (.nx env) c => .ok (.nx (env.set i none)) c
  | .ok (.bk env) c => .ok (.bk (env.set i none)) c
  | .ok (.ct env) c => .ok (.ct (env.set i none)) c
  | .ok (.rt d) c => .ok (.rt d) c
  | _ => .stk
def tryCl : List Cla → Exn → MS
  | [], x => fun env c => .err x env c
  | cl :: r, x => fun env c => match cl.hit x.cls with
    | some true => if cl.i < env.length then (cl.k x (env.set cl.i none) c).clr cl.i else .stk
    | some false => tryCl r x env c
    | none => .stk
def sTry (kb : MS) (cls : List Cla) : MS := fun env c => match kb env c with
  | .err x env' c' => tryCl cls x env' c'
  | r => r
theorem post_clr {T : Wd} {S : Sta} {i : Nat} {r : RS} {Dn : Ends} {W : WX} (h : PostS T S (r.clr i) Dn W) :
    PostS T S r { nx := fun s H' => Dn.nx (s.set i none) H', rt := Dn.rt, bk := fun s H' => Dn.bk (s.set i none) H', ct := fun s H' => Dn.ct (s.set i none) H' } WF := by
  match r, h with
  | .ok (.nx env) c, h => exact fun S' sg g hc x a => h S' _ g hc x (a.clr i none)
  | .ok (.bk env) c, h => exact fun S' sg g hc x a => h S' _ g hc x (a.clr i none)
  | .ok (.ct env) c, h => exact fun S' sg g hc x a => h S' _ g hc x (a.clr i none)
  | .ok (.rt d) c, h => exact h
  | .err y env c, h => exact h.elim
  | .stk, h => exact h.elim
/-- what the clauses wish -/
def wCls (X : Cx) (W : WX) (cls : List Cla) (Dn : Ends) : WX := fun cv d sg H => ∃ S env x, S.H = H ∧ Good (wd X) S ∧ EnvAt (wd X) S sg env ∧ ExAt (wd X) S cv d x ∧ PostS (wd X) S (tryCl cls x env S.c) Dn W
section
variable {X Y : Cx} {W : WX} {i : Nat} {a C : Addr} {d : Option Addr} {x : Exn} {e b : Expr} {es : List Expr} {pos p : Pos} {m ma mb : ME} {ms : ML} {oe : Obj} {pn : List (Addr × Obj)}
theorem HdOk.imp {hs : List ExceptHandler} {Wc Wc' : Ends → WX} (h : HdOk X hs Wc) (hi : ∀ D cls d sg H, Wc' D cls d sg H → Wc D cls d sg H) : HdOk X hs Wc' :=
  fun pins sg H sI s' h3 a B cls d D hfr L w => h pins sg H sI s' h3 a B cls d D hfr L (hi _ _ _ _ _ w)
theorem hq_nil (hs : X.stack = X.env :: X.outer) (hf : X.env.frame = some X.env.locals) (tk : Takes X W) : HdOk X [] (wCls X W []) :=
  (hd_nil hs hf tk).imp fun D cls d sg H ⟨S, env, x, e, g, en, ex, p⟩ => by
    subst e
    exact p S sg cls d g rfl .refl en ex
theorem hq_cons {xc n : Str} {c : Value} {cl : Cla} {cls : List Cla} {suite : List Stmt} {b₀ : Stmt} {np pos' : Pos} {rest : List ExceptHandler} (hs : X.stack = X.env :: X.outer) (hf : X.env.frame = some X.env.locals) (hN : X.N.Nodup) (hc : Names X xc c) (hrest : HdOk X rest (wCls X W cls))
    (hit : ∀ n r C, cl.hit n = some r → X.mg n = some (.ref C) → PySem.W.exmOne X.K (.ref C) c = some r)
    (hsu : ∀ (a : Addr) (oe : Obj) (C : Addr) (d : Option Addr) (pn : List (Addr × Obj)) (x : Exn), X.mg x.cls = some (.ref C) → cl.hit x.cls = some true → Zc (.ref C) d oe → (∃ vs, oe.data = .fields vs) → SXS (X.suite a ((a, oe) :: pn)) cl.i a C d x (b₀ :: suite) (cl.k x))
    (hi : X.N[cl.i]? = some n := by rfl) (hln : X.env.kindOf n = some .local := by rfl) :
    HdOk X (.ExceptHandler (some (.Name xc np)) (some n) (b₀ :: suite) pos' :: rest) (wCls X W (cl :: cls)) := by
  refine (hd_as (c := c) (i := cl.i) hs hf hN hc hrest (ts := fun a cv d Dn sg H => ∃ S env x C, S.H = H ∧ Good (wd X) S ∧ EnvAt (wd X) S sg env ∧ sg[cl.i]? = some (some (.ref a)) ∧ ExAt (wd X) S (.ref C) d x ∧ cv = .ref C ∧ X.mg x.cls = some (.ref C) ∧ cl.hit x.cls = some true ∧ PostS (wd X) S (cl.k x env S.c) Dn WF) (fun a oe cv d pn hz hv => ?_) hi hln).imp ?_
  · refine ⟨fun pins s sg H D I h => ?_⟩
    obtain ⟨S, env, x, C, eH, g, en, hia, ex, ec, hm, ht, p⟩ := h
    subst ec
    exact (hsu a oe C d pn x hm ht hz hv).run pins s sg H D I ⟨S, env, eH, g, en, hia, ex, p⟩
  · intro D cv d sg H ⟨S, env, x, e, g, en, ex, p⟩
    subst e
    obtain ⟨C, hm, ec, hd⟩ := id ex
    subst ec
    have p : PostS (wd X) S (match cl.hit x.cls with
      | some true => if cl.i < env.length then (cl.k x (env.set cl.i none) S.c).clr cl.i else .stk
      | some false => tryCl cls x env S.c
      | none => .stk) D W := p
    cases ht : cl.hit x.cls with
    | none =>
      rw [ht] at p
      exact p.elim
    | some r =>
      rw [ht] at p
      refine ⟨r, hit _ _ _ ht hm, fun hr a na => ?_, fun hr => ?_⟩
      · subst hr
        have p : PostS (wd X) S (if cl.i < env.length then (cl.k x (env.set cl.i none) S.c).clr cl.i else .stk) D W := p
        split at p
        · rename_i hl
          exact ⟨S, env.set cl.i none, x, C, rfl, g, en.clr cl.i _, List.getElem?_set_self (by rw [en.len]; exact hl), ex, rfl, hm, ht, post_clr p⟩
        · exact p.elim
      · subst hr
        exact ⟨S, env, x, rfl, g, en, ex, p⟩
theorem ss_try {body : List Stmt} {h₀ : ExceptHandler} {hl : List ExceptHandler} {kb : MS} {cls : List Cla} (hs : X.stack = X.env :: X.outer) (hf : X.env.frame = some X.env.locals)
    (hb : ∀ (Wi : WX) (pn : List (Addr × Obj)) (xe : Value → Shared → Prop), Takes (X.tr pn xe) Wi → PassesOwn (model X.prog X.w) X.A X.env xe → SB (X.tr pn xe) Wi body kb) (hh : HdOk X (h₀ :: hl) (wCls X W cls)) : SS X W (.Try body (h₀ :: hl) [] [] pos) (sTry kb cls) := by
  refine PS.imp (ps_tryL hs hf (tb := fun Wi => tS (wd X) kb Wi) (fun Wi pn xe tk po => hb Wi pn xe tk po) hh) fun D sg H ⟨S, env, e, g, en, p⟩ => ?_
  subst e
  refine ⟨S, env, rfl, g, en, ?_⟩
  unfold sTry at p
  cases h : kb env S.c with
  | stk => rw [h] at p; exact p
  | err x env' c' =>
    rw [h] at p
    intro S' sg' cv dd g' hc x' en' ex
    subst hc
    exact ⟨S', env', x, rfl, g', en', ex, PostS.ext x' p⟩
  | ok f c' =>
    rw [h] at p
    cases f <;> exact p
/-- name = e in a suite -/
theorem sxs_set {j : Nat} {y : Str} {py : Pos} (hN : Y.N.Nodup) (ha : SX Y i a C d x e m) (hi : Y.N[j]? = some y := by rfl) (hx : Loc Y.env.scope y := by first | exact Or.inl rfl | exact Or.inr rfl) (hs : swapsWith e (some (.Name y py)) pos.line Y.env = pure false := by rfl)
    (hf : Y.fn y = true ∨ Y.env.scope.names.lookup y = some .local := by first | exact .inl rfl | exact .inr rfl | assumption) : SXS Y i a C d x [.Assign [.Name y py] e pos] (sSet j m) := by
  obtain ⟨t, p, q⟩ := ha
  refine PSs.imp (pss_one (ps_set hN hi hx p hs hf)) fun D sg H ⟨S, env, e, g, en, hia, ex, z⟩ => ?_
  subst e
  exact q S sg env _ g en hia ex (post_st z en fun d S1 v e1 g1 x1 a1 p1 => p1 S1 _ g1 rfl .refl ((en.ext x1).set j a1))
theorem sxs_ret (ha : SX Y i a C d x e m) : SXS Y i a C d x [.Return (some e) pos] (sRet m) := by
  obtain ⟨t, p, q⟩ := ha
  refine PSs.imp (pss_one (ps_ret p)) fun D sg H ⟨S, env, e, g, en, hia, ex, z⟩ => ?_
  subst e
  exact q S sg env _ g en hia ex (post_st z en fun d S1 v e1 g1 x1 a1 p1 => p1 S1 v g1 rfl .refl a1)
end
end Q
end
section
set_option Elab.async false
set_option linter.all false
set_option maxRecDepth 100000
namespace Q
open PySem PySem.Spec L2
open PyProof.Rows (envOfC)
variable [Tb]
/-! ### x(lambda: body) -/
def kn : Env → List D
  | some d :: e => d :: kn e
  | none :: e => kn e
  | [] => []
def knV : L2.St → Env → List V
  | v :: s, some _ :: e => v.getD .non :: knV s e
  | _ :: s, none :: e => knV s e
  | _, _ => []
theorem kn_at {T : Wd} {S : Sta} : ∀ {sg : L2.St} {env : Env}, EnvAt T S sg env → AtL T S (knV sg env) (kn env)
  | [], [], _ => trivial
  | v :: sg, o :: env, h => by
    have t : EnvAt T S sg env := ⟨by simpa using h.len, fun i d e => h.get (i + 1) d (by simpa using e)⟩
    cases o with
    | none =>
      have q := kn_at t
      exact q
    | some d =>
      obtain ⟨x, e, a⟩ := h.get 0 d rfl
      have e : some v = some (some x) := e
      cases e
      exact ⟨a, kn_at t⟩
  | [], _ :: _, h => absurd h.len (by simp)
  | _ :: _, [], h => absurd h.len (by simp)
theorem kn_back {T : Wd} {S S1 : Sta} : ∀ {sg : L2.St} {env : Env}, EnvAt T S sg env → AtL T S1 (knV sg env) (kn env) → EnvAt T S1 sg env
  | [], [], _, _ => ⟨rfl, fun i d e => by simp at e⟩
  | v :: sg, o :: env, h, q => by
    have t : EnvAt T S sg env := ⟨by simpa using h.len, fun i d e => h.get (i + 1) d (by simpa using e)⟩
    cases o with
    | none =>
      have ih := kn_back t q
      exact ⟨h.len, fun i d e => by
        cases i with
        | zero => cases e
        | succ i => exact ih.get i d (by simpa using e)⟩
    | some d =>
      obtain ⟨x, e, a⟩ := h.get 0 d rfl
      have e : some v = some (some x) := e
      cases e
      obtain ⟨q1, q2⟩ : At T S1 x d ∧ AtL T S1 (knV sg env) (kn env) := q
      have ih := kn_back t q2
      exact ⟨h.len, fun i d' e => by
        cases i with
        | zero => cases e; exact ⟨x, rfl, q1⟩
        | succ i => exact ih.get i d' (by simpa using e)⟩
  | [], _ :: _, h, _ => absurd h.len (by simp)
  | _ :: _, [], h, _ => absurd h.len (by simp)
/-- all but the tables stays -/
theorem Good.extN {T : Wd} {S : Sta} {H1 : Hp} (g : Good T S) (e : LamX.ExtN S.H H1) (t : LamX.Tabs Tb.l H1) : Good T { S with H := H1 } ∧ Ext T S { S with H := H1 } := by
  have kx : ∀ a ∈ S.x, H1 a = S.H a := fun a ha => by
    obtain ⟨_, o, h, m⟩ := g.hid a ha
    rw [h]
    exact e a o h fun ps z => by subst z; exact m
  have x : Ext T S { S with H := H1 } := ext_of (List.prefix_refl _) rfl kx fun a o n nx h q => ⟨n, nx, e a o h q⟩
  have kr : ∀ a ∈ S.r, H1 a = S.H a := fun a ha => by
    obtain ⟨o, h, m⟩ := g.there ha
    rw [h]
    exact e a o h fun ps z => by subst z; exact m
  refine ⟨⟨g.len, g.nd, fun a ha => ?_, fun i a cl hr hc => ?_, t⟩, x⟩
  · obtain ⟨n, o, h, m⟩ := g.hid a ha
    exact ⟨n, o, (kx a ha).trans h, m⟩
  · obtain ⟨xs, hh, m, l⟩ := g.at' i a cl hr hc
    have ke := kr a (List.mem_of_getElem? hr)
    exact ⟨xs, hold_ne hh ke, by show Mu a (H1 a); rw [ke]; exact m, x.list l⟩
open Classical in
noncomputable def mAct (D0 : D) (F0 : Cells → R D) : ME := fun env c => if env[0]? = some (some D0) then F0 c else .stk
section
variable {X : Cx} {pins : List (Addr × Obj)} {sg0 : L2.St} {H0 : Hp} {s0 : Shared}
/-- the argument's call, within the def that got it -/
theorem se_act {Ng : List Str} {qg : Str} {sc : Scope} {g f c' : Addr} {cdg pm ctv : Value} {params : Arguments} {body : Expr} {scope : Scope} {k : Nat} {a : Str} {pn : List (Addr × Obj)} {xe : Value → Shared → Prop} {Wi : WX} {mb : ME} {env0 : Env} {S0 : Sta} {p1 p2 : Pos}
    (I : Inv X pins sg0 H0 s0) (L : LamX.LamS X.env.scope scope) (hf : s0.heap.get? f = some (PySem.W.kla_obj "<lambda>" (X.env.qual ++ "<lambda>") params body scope (cloFrom X.env.cells scope.names []) pm c' ctv)) (hfn : H0 f = none) (hfr : f ∉ frs X.stack)
    (hbind : bindArgs (PySem.W.kla_fn "<lambda>" (X.env.qual ++ "<lambda>") params body scope (cloFrom X.env.cells scope.names []) pm (.ref c') ctv) ⟨[], []⟩ = pure [])
    (tk : Takes ((cxOf C8.CX0 X.prog X.w X.K X.mg X.base Ng qg sc g cdg X.A X.stack s0 H0 C8.E0).tr pn xe) Wi) (hr : Room (k + 1) (X.A.deeper (envOfC qg sc s0.heap.objs.size g cdg)))
    (gdX : X.A.guards = some []) (hbody : ∀ (E : XK) (A : Around) (outer : List PySem.Env) (s : Shared) (H : Hp), A.guards = some [] → Room k (A.deeper (LamX.lamEnv X scope s.heap.objs.size f c')) → SE (LamX.lamCx X A outer s H E scope f c') (fun cl dd _ H => E cl dd H) body mb)
    (en0 : EnvAt (wd X) S0 sg0 env0) (hN : Ng[0]? = some a) (hv : Vis sc a) (hd : (a == ("__debug__" : Str)) = false) (hcd : (a == ("__classdict__" : Str)) = false) :
    ∀ S sg env Qv, Good (wd X) S → EnvAt (wd X) S sg env → env[0]? = some (some (D.fn f c' (X.env.qual ++ "<lambda>") (knV sg0 env0) (kn env0))) → Post (wd X) S (mb env0 S.c) Qv (WE Wi sg) →
      ∀ pinsZ sZ, Inv ((cxOf C8.CX0 X.prog X.w X.K X.mg X.base Ng qg sc g cdg X.A X.stack s0 H0 C8.E0).tr pn xe) pinsZ sg S.H sZ →
        wpAny (model X.prog X.w) ((cxOf C8.CX0 X.prog X.w X.K X.mg X.base Ng qg sc g cdg X.A X.stack s0 H0 C8.E0).tr pn xe).A (eval (.Call (.Name a p1) [] [] p2) ((cxOf C8.CX0 X.prog X.w X.K X.mg X.base Ng qg sc g cdg X.A X.stack s0 H0 C8.E0).tr pn xe).env)
          (EP ((cxOf C8.CX0 X.prog X.w X.K X.mg X.base Ng qg sc g cdg X.A X.stack s0 H0 C8.E0).tr pn xe) pinsZ sg Qv) ((cxOf C8.CX0 X.prog X.w X.K X.mg X.base Ng qg sc g cdg X.A X.stack s0 H0 C8.E0).tr pn xe).xe sZ := by
  intro S sg env Qv gd en h0 z pinsZ sZ IZ
  obtain ⟨v0, hs0, av⟩ := en.get 0 _ h0
  obtain ⟨rfl, ⟨nc, ncx, hc⟩, akn⟩ : v0 = .ref f ∧ (c' ∉ S.r ∧ c' ∉ S.x ∧ S.H c' = some (LamX.CodeO c' (X.env.qual ++ "<lambda>"))) ∧ AtL (wd X) S (knV sg0 env0) (kn env0) := av
  have enZ : EnvAt (wd X) S sg0 env0 := kn_back en0 akn
  refine wpAny_Call_Name_kw (thn ((pe_var (pos := p1) (i := 0) hN hv hd hcd).run pinsZ sZ sg S.H (fun v H1 => v = .ref f ∧ H1 = S.H) IZ ⟨.ref f, hs0, rfl, rfl⟩) fun u s1 ⟨v, H1, I1, r1, q1⟩ => ?_)
  obtain ⟨ev, eH⟩ := q1
  subst ev
  rw [eH] at I1
  obtain rfl : u = Value.ref f := r1
  have un : Un (frs X.stack) [] H0 S.H s0.heap s1.heap := I1.base
  have hfo := un.keep f _ hf hfn hfr (fun y => nomatch (show f ∈ ([] : List Addr) from y))
  refine PySem.W.callWith_F0 ⟨_, _, _, _, hfo⟩ ?_
  obtain ⟨⟨oc, vs, t, hoc, hdc, hvc⟩, _, _⟩ := I1.hok c' _ hc
  obtain ⟨tb, pb, qb⟩ := hbody (fun cl dd H => Wi cl dd sg H) (X.A.deeper (envOfC qg sc s0.heap.objs.size g cdg)) (envOfC qg sc s0.heap.objs.size g cdg :: X.stack) s1 S.H gdX (hr.deeper _)
  have rc : codeAny (model X.prog X.w) (X.A.deeper (envOfC qg sc s0.heap.objs.size g cdg)) (.call (.ref f) ⟨[], []⟩) (CR (L2.CX X.prog X.w) (envOfC qg sc s0.heap.objs.size g cdg :: X.stack) X.prog X.w S.H s1 Qv (fun cl dd H => Wi cl dd sg H)) s1 := by
    refine PySem.W.kla_callFunE hr.depth hfo rfl L.co L.gen rfl ⟨c', oc, vs, t, rfl, hoc, hdc, hvc⟩ ?_
    rw [hbind]
    refine wpAny_pure (wpAny_newFunctionEnv (fun y hy => (L.own y hy).2) (fun y hy => absurd hy (by simp)) (fun h₁ hns hsb => ⟨I1.nolimit.fresh _ hsb, ?_⟩) L.kind)
    show codeAny _ _ (.expr body (LamX.lamEnv X scope s1.heap.objs.size f c')) _ _
    have kp : ∀ b o, s1.heap.get? b = some o → h₁.get? b = some o := fun b o e => hsb.extBut b o (Nat.ne_of_lt (Heap.lt_size e)) (Heap.get?_push_of_some _ e)
    have J := LamX.lam_start2 (E := fun cl dd H => Wi cl dd sg H) (f := f) (c' := c') (tk := s1.toks + ([] : List (Str × Value)).length) I L I1.env0 hr.hd un hns kp
    refine PySem.W.kla_codeExpr (wpAny_mono (pb.run [] _ _ S.H Qv J (qb S sg0 env0 Qv gd enZ z)) (fun v s' hq => ?_) fun e s' hq => hq)
    obtain ⟨w', H', J', rv, q⟩ := hq
    exact ⟨w', H', J'.os, J'.bare, J'.base, J'.hok, rv, q⟩
  refine wpAny_call (codeAny_mono rc fun r s' hq => ?_)
  cases r with
  | error e => exact tk _ _ (XE.of_call I1 (fun _ _ _ y => y) hq)
  | ok fl =>
    cases fl with
    | ret u => exact I1.after hq
    | next => exact hq.elim
    | brk => exact hq.elim
    | cont => exact hq.elim
end
abbrev Zt (X : Cx) (Ng : List Str) (x : Str) (sc : Scope) (g : Addr) (cdg : Value) (s : Shared) (H : Hp) : Cx := cxOf C8.CX0 X.prog X.w X.K X.mg X.base Ng x sc g cdg X.A X.stack s H C8.E0
def mLam (toldF : (Cells → R D) → Cells → R D) (mb : ME) : ME := fun env c => match toldF (mb env) c with
  | .ok d c => .ok d c
  | _ => .stk
section
variable {X : Cx} {W : WX}
theorem se_lam {x a : Str} {g c P : Addr} {k : Nat} {pg : Arguments} {bg : List Stmt} {sc : Scope} {dV kV doc pm cdv ct oc : Value} {an od : Option Addr} {osl : Array (Option Value)} {Ng : List Str} {params : Arguments} {body : Expr} {scope : Scope} {mb : ME} {p lpos pos : Pos}
    {toldF : (Cells → R D) → Cells → R D} {kb : D → (Cells → R D) → MS} (hm : X.mg x = some (.ref g)) (hk : PySem.W.keepIn X.K (.ref g) = true)
    (lk : X.K.lookup g = some ⟨oc, od, .func (PySem.W.fnOf x x pg bg sc dV kV doc pm an cdv ct), osl⟩) (hcg : PySem.W.codeIn X.K cdv x = true) (hb : L2.Binds X.K (PySem.W.fnOf x x pg bg sc dV kV doc pm an cdv ct) [a] []) (Sg : FnScope Ng [a] sc) (hNg : Ng[0]? = some a) (hva : Vis sc a)
    (hind : ∀ D0 F0 cc, (kb D0 F0 (enter Ng.length [D0]) cc).out = toldF F0 cc)
    (hG : ∀ (D0 : D) (F0 : Cells → R D) (s : Shared) (H : Hp), Room (k + 1) (Zt X Ng x sc g cdv s H).A →
      (∀ (Wi : WX) (pn : List (Addr × Obj)) (xe : Value → Shared → Prop) (p1 p2 : Pos), Takes ((Zt X Ng x sc g cdv s H).nox.tr pn xe) Wi → SE ((Zt X Ng x sc g cdv s H).nox.tr pn xe) Wi (.Call (.Name a p1) [] [] p2) (mAct D0 F0)) → SB (Zt X Ng x sc g cdv s H).nox WF bg (kb D0 F0))
    (TB : LamX.TabB X.base X.mg c P) (hcode : X.env.code = .ref c) (hmT : (P, X.env.qual ++ "<lambda>") ∈ Tb.l) (hu : ∀ p ∈ Tb.l, p.1 = P → p.2 = X.env.qual ++ "<lambda>") (hr : Room (k + 2) X.A) (L : LamX.LamS X.env.scope scope) (hdef : defaultsOf params X.env = ([], []))
    (hbind : ∀ (q : Str) (cl : List (Str × Addr)) (pm cv ctv : Value), bindArgs (PySem.W.kla_fn "<lambda>" q params body scope cl pm cv ctv) ⟨[], []⟩ = pure [])
    (gdX : X.A.guards = some []) (hbody : ∀ (E : XK) (A : Around) (outer : List PySem.Env) (s : Shared) (H : Hp) (f c' : Addr), A.guards = some [] → Room k (A.deeper (LamX.lamEnv X scope s.heap.objs.size f c')) → SE (LamX.lamCx X A outer s H E scope f c') (fun cl dd _ H => E cl dd H) body mb)
    (hg : Gl X x := by rfl) (hdb : (x == ("__debug__" : Str)) = false := by decide) (hd : (a == ("__debug__" : Str)) = false := by decide) (hcd : (a == ("__classdict__" : Str)) = false := by decide) :
    SE X W (.Call (.Name x p) [.Lambda params body scope lpos] [] pos) (mLam toldF mb) := by
  refine ⟨tE (wd X) (mLam toldF mb) W, ⟨fun pins s σ H Qv I h => ?_⟩, fun S sg env Qv g en z => ⟨S, env, rfl, g, en, z⟩⟩
  obtain ⟨S, env, rfl, gd, en, z⟩ := h
  refine wpAny_Call_Name_kw (ld_glob I hg hm ?_ hdb)
  refine PySem.W.callWith_K (h₀ := X.base) I.ok.mod.kin hk ?_ (by rfl) (by rfl)
  show wpAny _ _ (spliced ((false, eval (.Lambda params body scope lpos) X.env) :: backTo pos (starEach [] X.env))) _ _ s
  refine Calls.spliced_cons (LamX.lam_make2 I TB hcode hmT hu gd.tab hdef (L.has I.ok) fun f c' pm' ctv H1 s' I1 eN T1 hf hfn hfr hco => Calls.spliced_nil ⟨I1.kIn, ?_⟩)
  obtain ⟨g1, x1⟩ := gd.extN eN T1
  have nr : c' ∉ S.r := fun hm => by
    obtain ⟨o, h, m⟩ := g1.there hm
    have h : H1 c' = some o := h
    rw [hco] at h
    cases h
    exact mu_code m
  have nx : c' ∉ S.x := fun hm => by
    obtain ⟨_, o, h, m⟩ := g1.hid c' hm
    have h : H1 c' = some o := h
    rw [hco] at h
    cases h
    exact mu_code m
  have aD : At (wd X) { S with H := H1 } (.ref f) (.fn f c' (X.env.qual ++ "<lambda>") (knV σ env) (kn env)) := ⟨rfl, ⟨nr, nx, hco⟩, kn_at (en.ext x1)⟩
  have rc : codeAny (model X.prog X.w) X.A (.call (.ref g) ⟨[.ref f], []⟩) (CR C8.CX0 X.stack X.prog X.w H1 s' Qv C8.E0) s' := by
    refine LamX.run_ofS (N := Ng) (ps := [a]) (us := [.ref f]) (vs := [.ref f]) lk hcg Sg hr I1.env0 (hb s' [.ref f] I1.kIn rfl) (.cons rfl .nil) rfl fun hr' => ?_
    have sb := hG (.fn f c' (X.env.qual ++ "<lambda>") (knV σ env) (kn env)) (mb env) s' H1 hr' (fun Wi pn xe p1 p2 tk => ?_)
    · refine ⟨_, sb.nox, ⟨{ S with H := H1 }, enter Ng.length [_], rfl, g1, enter_at (vs := [.ref f]) (ds := [_]) ⟨aD, trivial⟩, post_out (E := fun _ _ _ => False) ?_⟩⟩
      rw [hind]
      have z : Post (wd X) S (match toldF (mb env) S.c with
        | .ok d c => .ok d c
        | _ => .stk) Qv (WE W σ) := z
      show Post (wd X) { S with H := H1 } (toldF (mb env) S.c) Qv _
      cases h : toldF (mb env) S.c with
      | ok d cc => rw [h] at z; exact PostG.ext x1 z
      | err y cc => rw [h] at z; exact z.elim
      | stk => rw [h] at z; exact z.elim
    · refine ⟨tE (wd X) (mAct _ _) Wi, ⟨fun pinsZ sZ σZ HZ Q2 IZ h2 => ?_⟩, fun S sg env Qv g en z => ⟨S, env, rfl, g, en, z⟩⟩
      obtain ⟨S2, env2, rfl, g2, en2, z2⟩ := h2
      unfold mAct at z2
      split at z2
      · rename_i h0
        exact se_act I1 L hf hfn hfr (hbind _ _ _ _ _) tk hr' gdX (fun E A outer s H ga hr2 => hbody E A outer s H f c' ga hr2) (en.ext x1) hNg hva hd hcd S2 σZ env2 Q2 g2 en2 h0 z2 pinsZ sZ IZ
      · exact z2.elim
  refine wpAny_call (codeAny_mono rc fun r s2 hq => ?_)
  cases r with
  | error e => exact (show False from hq).elim
  | ok fl =>
    cases fl with
    | ret u => exact I1.after hq
    | next => exact hq.elim
    | brk => exact hq.elim
    | cont => exact hq.elim
end
end Q
end
section
set_option Elab.async false
set_option linter.all false
set_option maxRecDepth 100000
namespace Q
open PySem PySem.Spec L2
open PyProof.Rows (envOfC)
variable [Tb]
section
variable {X : Cx} {W : WX} {e a b c o i f : Expr} {es : List Expr} {pos p pos' : Pos} {m ma mb mc mo : ME} {ms : ML}
/-! ### lists of ints -/
def intL : List D → Option (List Int)
  | [] => some []
  | .int i :: ds => (intL ds).map (i :: ·)
  | _ => none
theorem intL_at {T : Wd} {S : Sta} : ∀ {ds : List D} {xs : List V} {ns : List Int}, intL ds = some ns → AtL T S xs ds → xs = ns.map V.int
  | [], [], ns, e, _ => by cases e; rfl
  | .int i :: ds, x :: xs, ns, e, h => by
    obtain ⟨h1, h2⟩ : At T S x (.int i) ∧ AtL T S xs ds := h
    obtain ⟨ms, e1, e2⟩ := Option.map_eq_some_iff.mp (show (intL ds).map (i :: ·) = some ns from e)
    subst e2
    rw [intL_at e1 h2, List.map_cons, show x = .int i from h1]
  | [], _ :: _, _, _, h => h.elim
  | _ :: _, [], _, _, h => h.elim
theorem ints_D (ns : List Int) : intL (ns.map D.int) = some ns := by
  induction ns with
  | nil => rfl
  | cons n ns ih => simp [intL, ih]
theorem atL_ints {T : Wd} {S : Sta} (ns : List Int) : AtL T S (ns.map V.int) (ns.map D.int) := by
  induction ns with
  | nil => trivial
  | cons n ns ih => exact ⟨rfl, ih⟩
def lView (c : Cells) (d : D) : Option (List D) := match view c d with
  | some (.lst, ds) => some ds
  | some (.frl, ds) => some ds
  | _ => none
theorem lView_at {S : Sta} {v : V} {d : D} {ds : List D} (g : Good (wd X) S) (h : At (wd X) S v d) (e : lView S.c d = some ds) : ∃ a xs, v = .ref a ∧ SqL X.K S.H a xs ∧ AtL (wd X) S xs ds := by
  unfold lView at e
  split at e
  · rename_i ds' e0
    cases e
    obtain ⟨a, xs, rfl, q, l⟩ := view_at g h e0
    exact ⟨a, xs, rfl, .of (hold_L q), l⟩
  · rename_i ds' e0
    cases e
    obtain ⟨a, xs, rfl, q, l⟩ := view_at g h e0
    exact ⟨a, xs, rfl, hold_F q, l⟩
  · cases e
def maxI : List Int → Int
  | [] => 0
  | [x] => x
  | x :: xs => max x (maxI xs)
def minI : List Int → Int
  | [] => 0
  | [x] => x
  | x :: xs => min x (minI xs)
theorem maxI_spec : ∀ {ns : List Int}, ns ≠ [] → maxI ns ∈ ns ∧ ∀ y ∈ ns, y ≤ maxI ns
  | [x], _ => by simp [maxI]
  | x :: y :: r, _ => by
    obtain ⟨h1, h2⟩ := maxI_spec (ns := y :: r) (by simp)
    have e : maxI (x :: y :: r) = max x (maxI (y :: r)) := rfl
    rw [e]
    refine ⟨?_, fun z hz => ?_⟩
    · rcases Int.le_total x (maxI (y :: r)) with h | h
      · rw [Int.max_eq_right h]; exact List.mem_cons_of_mem _ h1
      · rw [Int.max_eq_left h]; exact List.mem_cons_self
    · rcases List.mem_cons.mp hz with q | q
      · rw [q]; exact Int.le_max_left _ _
      · exact Int.le_trans (h2 z q) (Int.le_max_right _ _)
theorem minI_spec : ∀ {ns : List Int}, ns ≠ [] → minI ns ∈ ns ∧ ∀ y ∈ ns, minI ns ≤ y
  | [x], _ => by simp [minI]
  | x :: y :: r, _ => by
    obtain ⟨h1, h2⟩ := minI_spec (ns := y :: r) (by simp)
    have e : minI (x :: y :: r) = min x (minI (y :: r)) := rfl
    rw [e]
    refine ⟨?_, fun z hz => ?_⟩
    · rcases Int.le_total x (minI (y :: r)) with h | h
      · rw [Int.min_eq_left h]; exact List.mem_cons_self
      · rw [Int.min_eq_right h]; exact List.mem_cons_of_mem _ h1
    · rcases List.mem_cons.mp hz with q | q
      · rw [q]; exact Int.min_le_left _ _
      · exact Int.le_trans (Int.min_le_right _ _) (h2 z q)
def bMaxL : List D → Cells → O
  | [d], c => ((lView c d).bind intL).bind fun ns => if ns = [] then none else some (.int (maxI ns), c)
  | _, _ => none
def bMinL : List D → Cells → O
  | [d], c => ((lView c d).bind intL).bind fun ns => if ns = [] then none else some (.int (minI ns), c)
  | _, _ => none
theorem ne_pos {ns : List Int} (h : ns ≠ []) : 0 < ns.length := by
  cases ns with
  | nil => exact absurd rfl h
  | cons _ _ => simp
theorem bMaxL_ok (hc : X.calm = true) : CaF X (.builtin "max") bMaxL := by
  refine ⟨_, cr_max hc, fun S xs ds Qv g ax p => ?_⟩
  obtain ⟨d, c, e, q⟩ := p.some
  unfold bMaxL at e
  split at e
  · obtain ⟨v, rfl, a⟩ := ax.one
    obtain ⟨ns, e1, e2⟩ := Option.bind_eq_some_iff.mp e
    obtain ⟨es, e3, e4⟩ := Option.bind_eq_some_iff.mp e1
    split at e2
    · cases e2
    · rename_i hn
      cases e2
      obtain ⟨l, us, rfl, h, al⟩ := lView_at g a e3
      have hu := intL_at e4 al
      subst hu
      refine ⟨l, ns, rfl, h, ne_pos hn, fun m h1 h2 => ?_⟩
      obtain ⟨h3, h4⟩ := maxI_spec hn
      have em : m = maxI ns := Int.le_antisymm (h4 m h1) (h2 _ h3)
      exact q S _ g rfl .refl (by rw [em]; rfl)
  · cases e
theorem bMinL_ok (hc : X.calm = true) : CaF X (.builtin "min") bMinL := by
  refine ⟨_, cr_min hc, fun S xs ds Qv g ax p => ?_⟩
  obtain ⟨d, c, e, q⟩ := p.some
  unfold bMinL at e
  split at e
  · obtain ⟨v, rfl, a⟩ := ax.one
    obtain ⟨ns, e1, e2⟩ := Option.bind_eq_some_iff.mp e
    obtain ⟨es, e3, e4⟩ := Option.bind_eq_some_iff.mp e1
    split at e2
    · cases e2
    · rename_i hn
      cases e2
      obtain ⟨l, us, rfl, h, al⟩ := lView_at g a e3
      have hu := intL_at e4 al
      subst hu
      refine ⟨l, ns, rfl, h, ne_pos hn, fun m h1 h2 => ?_⟩
      obtain ⟨h3, h4⟩ := minI_spec hn
      have em : m = minI ns := Int.le_antisymm (h2 _ h3) (h4 m h1)
      exact q S _ g rfl .refl (by rw [em]; rfl)
  · cases e
/-! ### isinstance of types -/
def tyD (c : Cells) (d : D) : Option String := match d with
  | .non => some "NoneType"
  | .bl _ => some "bool"
  | .int _ => some "int"
  | .str _ => some "str"
  | d => match view c d with
    | some (.lst, _) => some "list"
    | some (.frl, _) => some "list"
    | some (.tup, _) => some "tuple"
    | some (.dic _, _) => some "dict"
    | some (.dit _, _) => some "dict"
    | _ => none
theorem tyD_at {S : Sta} {v : V} {d : D} {t : String} (g : Good (wd X) S) (e : tyD S.c d = some t) (a : At (wd X) S v d) : TyX X.K S.H v (.type t) := by
  have obj : (match view S.c d with
    | some (.lst, _) => some "list"
    | some (.frl, _) => some "list"
    | some (.tup, _) => some "tuple"
    | some (.dic _, _) => some "dict"
    | some (.dit _, _) => some "dict"
    | _ => none) = some t → TyX X.K S.H v (.type t) := fun e => by
    split at e
    · rename_i ds e0
      cases e
      obtain ⟨b, xs, rfl, h, l⟩ := view_at g a e0
      exact .base (.lst (hold_L h))
    · rename_i ds e0
      cases e
      obtain ⟨b, xs, rfl, h, l⟩ := view_at g a e0
      rcases h with ⟨o, h⟩ | ⟨ob, its, n, h1, h2, _⟩
      · exact .base (.frz h)
      · exact .kList h1 h2
    · rename_i ds e0
      cases e
      obtain ⟨b, xs, rfl, h, l⟩ := view_at g a e0
      rcases h with h | ⟨ob, its, n, h1, h2, h3, _⟩
      · exact .base (.tup h)
      · exact .kTuple h1 h2
    · rename_i ks ds e0
      cases e
      obtain ⟨b, xs, rfl, h, l⟩ := view_at g a e0
      rcases h with ⟨_, h⟩ | h
      · exact .base (.dK h)
      · exact h.elim
    · rename_i ks ds e0
      cases e
      obtain ⟨b, xs, rfl, h, l⟩ := view_at g a e0
      rcases h with ⟨_, h⟩ | h
      · exact .base (.dT h)
      · exact h.elim
    · cases e
  cases d with
  | non => cases e; cases (show v = .non from a); exact .base .non
  | bl k => cases e; cases (show v = .bl k from a); exact .base (.bl k)
  | int k => cases e; cases (show v = .int k from a); exact .base (.int k)
  | str k => cases e; cases (show v = .str k from a); exact .base (.str k)
  | cell k => exact obj e
  | fn _ _ _ _ _ => exact obj e
  | nod t ds => exact obj e
/-- the answer for built-in types, as a table -/
def isB (t T : String) : Option Bool := if t ∈ ["NoneType", "bool", "int", "str", "list", "tuple", "dict"] ∧ T ∈ ["bool", "int", "str", "list", "tuple", "dict"] then some (decide (t = T) || (decide (t = "bool") && decide (T = "int"))) else none
theorem isB_kit {K : PySem.W.Frag} {t T : String} {r : Bool} (h : isB t T = some r) : PySem.W.kitOne K (.type t) (.type T) = some r := by
  unfold isB at h
  split at h
  · rename_i hm
    cases h
    obtain ⟨h1, h2⟩ := hm
    have tab : ∀ t ∈ ["NoneType", "bool", "int", "str", "list", "tuple", "dict"], ∀ T ∈ ["bool", "int", "str", "list", "tuple", "dict"], kitB t T = some (decide (t = T) || (decide (t = "bool") && decide (T = "int"))) := by decide +kernel
    exact kit_ty (tab t h1 T h2)
  · cases h
def isAny (t : String) : List String → Option Bool
  | [] => some false
  | T :: r => match isB t T with
    | some true => some true
    | some false => isAny t r
    | none => none
theorem isAny_kit {K : PySem.W.Frag} {t : String} : ∀ {Ts : List String} {r : Bool}, isAny t Ts = some r → PySem.W.kitAny K (.type t) (Ts.map Value.type) = some r
  | [], r, h => by cases h; exact kitAny_nil
  | T :: Ts, r, h => by
    unfold isAny at h
    split at h
    · rename_i e
      cases h
      exact kitAny_cons (isB_kit e) (fun z => nomatch z) fun _ => rfl
    · rename_i e
      exact kitAny_cons (isB_kit e) (fun _ => isAny_kit h) fun z => nomatch z
    · cases h
def fIsi (Ts : List String) (d : D) (c : Cells) : O := (tyD c d).bind fun t => (isAny t Ts).map fun b => (.bl b, c)
/-- isinstance(a, T) -/
theorem se_isi {Tn : Str} {T : String} {pT : Pos} (ha : SE X W a ma) (hT : PE X (.Name Tn pT) (tC (.ty T))) (hm : X.mg "isinstance" = none) (hg : Gl X "isinstance" := by rfl)
    (hs : starEach [a, .Name Tn pT] X.env = (false, eval a X.env) :: starEach [.Name Tn pT] X.env := by rfl) (hs2 : starEach [.Name Tn pT] X.env = (false, eval (.Name Tn pT) X.env) :: starEach [] X.env := by rfl) (hpl : (backTo pos (starEach [.Name Tn pT] X.env)).any (·.1) = false := by rfl) :
    SE X W (.Call (.Name "isinstance" p) [a, .Name Tn pT] [] pos) (m1 (fIsi [T]) ma) := by
  obtain ⟨ta, pa, qa⟩ := ha
  refine ⟨_, pe_callB call_isi hg hm (by decide +kernel) (pa_cons pa (pa_cons hT pa_nil hs2) hs) (by decide) (by decide) hs hpl, fun S sg env Qv g en z => ?_⟩
  refine qa S sg env _ g en (post_bind z fun d S1 v e1 g1 x1 a1 p1 => ?_)
  obtain ⟨r, c', e, q⟩ := p1.o.some
  obtain ⟨t, e2, e3⟩ := Option.bind_eq_some_iff.mp e
  obtain ⟨r', e4, e5⟩ := Option.map_eq_some_iff.mp e3
  cases e5
  have e6 : isB t T = some r' := by
    unfold isAny at e4
    split at e4
    · rename_i e7; cases e4; exact e7
    · rename_i e7; cases e4; exact e7
    · cases e4
  exact ⟨v, .ty T, _, _, r', rfl, .ty T, tyD_at g1 e2 a1, isB_kit e6, q S1 _ g1 rfl .refl rfl⟩
/-- isinstance(a, (T, U)) -/
theorem se_isi2 {Tn Un' : Str} {T U : String} {pT pU pt : Pos} {kt : Nat} (ha : SE X W a ma) (hT : PE X (.Name Tn pT) (tC (.ty T))) (hU : PE X (.Name Un' pU) (tC (.ty U))) (hm : X.mg "isinstance" = none) (hg : Gl X "isinstance" := by rfl)
    (hs : starEach [a, .Tuple [.Name Tn pT, .Name Un' pU] kt pt] X.env = (false, eval a X.env) :: starEach [.Tuple [.Name Tn pT, .Name Un' pU] kt pt] X.env := by rfl)
    (hs2 : starEach [.Tuple [.Name Tn pT, .Name Un' pU] kt pt] X.env = (false, eval (.Tuple [.Name Tn pT, .Name Un' pU] kt pt) X.env) :: starEach [] X.env := by rfl) (hpl : (backTo pos (starEach [.Tuple [.Name Tn pT, .Name Un' pU] kt pt] X.env)).any (·.1) = false := by rfl)
    (hs3 : starEach [.Name Tn pT, .Name Un' pU] X.env = (false, eval (.Name Tn pT) X.env) :: starEach [.Name Un' pU] X.env := by rfl) (hs4 : starEach [.Name Un' pU] X.env = (false, eval (.Name Un' pU) X.env) :: starEach [] X.env := by rfl) :
    SE X W (.Call (.Name "isinstance" p) [a, .Tuple [.Name Tn pT, .Name Un' pU] kt pt] [] pos) (m1 (fIsi [T, U]) ma) := by
  obtain ⟨ta, pa, qa⟩ := ha
  refine ⟨_, pe_callB call_isiT hg hm (by decide +kernel) (pa_cons pa (pa_cons (pe_tup (pa_cons hT (pa_cons hU pa_nil hs4) hs3)) pa_nil hs2) hs) (by decide) (by decide) hs hpl, fun S sg env Qv g en z => ?_⟩
  refine qa S sg env _ g en (post_bind z fun d S1 v e1 g1 x1 a1 p1 => ?_)
  obtain ⟨r, c', e, q⟩ := p1.o.some
  obtain ⟨t, e2, e3⟩ := Option.bind_eq_some_iff.mp e
  obtain ⟨r', e4, e5⟩ := Option.map_eq_some_iff.mp e3
  cases e5
  refine ⟨by show 2 ≤ sizeLine; decide, fun tp htp => ?_⟩
  have g2 := g1.put (o := .tup [.ty T, .ty U]) htp
  have x2 := Sta.ext_put (T := wd X) (o := .tup [.ty T, .ty U]) g1 htp
  exact ⟨v, tp, [.ty T, .ty U], .type t, [.type T, .type U], r', rfl, upd_same, .cons (.ty T) (.cons (.ty U) .nil), tyD_at g2 e2 (x2.keep _ _ a1), isAny_kit e4, q (S1.put tp _) _ g2 rfl x2 rfl⟩
/-! ### >= of tuples of ints -/
def rGeT (K : PySem.W.Frag) : R2 := fun x y H Qv => ∃ (a b : Addr) (ns ms : List Int), x = .ref a ∧ y = .ref b ∧ SqT K H a (ns.map V.int) ∧ SqT K H b (ms.map V.int) ∧
  Qv (.bl (Ob.lexAt (fun j => decide (ns.getD j 0 = ms.getD j 0)) (fun j => decide (ns.getD j 0 ≥ ms.getD j 0)) (decide (ns.length ≥ ms.length)) 0 (min ns.length ms.length))) H
theorem op_geT (hu : X.A.units < cLine) : OpR X (compareOp .GtE) (rGeT X.K) := by
  intro pins s sg H x y v u Qv I rx ry h
  obtain ⟨a, b, ns, ms, rfl, rfl, ha, hb, q⟩ := h
  cases rx
  cases ry
  obtain ⟨its, r1, p1, _⟩ := I.tuple ha
  obtain ⟨jts, r2, p2, _⟩ := I.tuple hb
  have i1 := Vals.ints r1
  have i2 := Vals.ints r2
  have k1 : its.toArray.size = ns.length := (List.size_toArray ..).trans i1.length
  have k2 : jts.toArray.size = ms.length := (List.size_toArray ..).trans i2.length
  have t1 : ∀ j (hj : j < its.toArray.size), ∃ t, its.toArray[j] = .int (ns.getD j 0) t := fun j hj => PyProof.Rows.IntsAre.int_at i1 _ _ (by simp at hj; simp [hj])
  have t2 : ∀ j (hj : j < jts.toArray.size), ∃ t, jts.toArray[j] = .int (ms.getD j 0) t := fun j hj => PyProof.Rows.IntsAre.int_at i2 _ _ (by simp at hj; simp [hj])
  have R := Ob.RcOp.tuples_ge (A := X.A) (s := s) (e := fun j => decide (ns.getD j 0 = ms.getD j 0)) (r := fun j => decide (ns.getD j 0 ≥ ms.getD j 0)) p1 p2 hu (fun j h1 h2 => ?_) (fun j h1 h2 _ => ?_)
  · rw [k1, k2] at R
    exact R X.prog X.w X.xe (EP X pins sg Qv) ⟨.bl _, H, I, rfl, q⟩
  · obtain ⟨t, et⟩ := t1 j h1
    obtain ⟨t', et'⟩ := t2 j h2
    rw [et, et', show decide (ns.getD j 0 = ms.getD j 0) = (ns.getD j 0 == ms.getD j 0) from rfl]
    exact SeqAt.EqAt.int_int _ _ _ _
  · obtain ⟨t, et⟩ := t1 j h1
    obtain ⟨t', et'⟩ := t2 j h2
    rw [et, et']
    exact Ob.RcOp.ge_int _ _ _ _
def geL : List Int → List Int → Bool
  | _, [] => true
  | [], _ :: _ => false
  | x :: xs, y :: ys => if x = y then geL xs ys else decide (x ≥ y)
theorem lexAt_shift {e r : Nat → Bool} {d : Bool} : ∀ (n i : Nat), Ob.lexAt e r d (i + 1) n = Ob.lexAt (fun j => e (j + 1)) (fun j => r (j + 1)) d i n
  | 0, i => by rw [Ob.lexAt_zero, Ob.lexAt_zero]
  | n + 1, i => by
    rw [Ob.lexAt_succ, Ob.lexAt_succ, lexAt_shift n (i + 1)]
theorem geL_lex : ∀ (ns ms : List Int), Ob.lexAt (fun j => decide (ns.getD j 0 = ms.getD j 0)) (fun j => decide (ns.getD j 0 ≥ ms.getD j 0)) (decide (ns.length ≥ ms.length)) 0 (min ns.length ms.length) = geL ns ms
  | ns, [] => by
    rw [List.length_nil, Nat.min_zero, Ob.lexAt_zero]
    cases ns <;> simp [geL]
  | [], y :: ms => by
    rw [List.length_nil, Nat.zero_min, Ob.lexAt_zero]
    simp [geL]
  | x :: ns, y :: ms => by
    have ih := geL_lex ns ms
    rw [List.length_cons, List.length_cons, Nat.succ_min_succ, Ob.lexAt_succ, lexAt_shift]
    simp only [List.getD_cons_zero, List.getD_cons_succ, geL, decide_eq_true_eq]
    rw [show decide (ns.length + 1 ≥ ms.length + 1) = decide (ns.length ≥ ms.length) by simp, ih]
def fGeT (x y : D) (c : Cells) : O := match view c x, view c y with
  | some (.tup, xs), some (.tup, ys) => match intL xs, intL ys with
    | some ns, some ms => some (.bl (geL ns ms), c)
    | _, _ => none
  | _, _ => none
theorem fGeT_ok (hu : X.A.units < cLine) : OpF X (compareOp .GtE) fGeT := by
  refine ⟨_, op_geT hu, fun S x y dx dy Qv g ax ay p => ?_⟩
  obtain ⟨d, c, e, q⟩ := p.some
  unfold fGeT at e
  split at e
  · rename_i xs ys e1 e2
    split at e
    · rename_i ns ms e3 e4
      cases e
      obtain ⟨a, us, rfl, h1, l1⟩ := view_at g ax e1
      obtain ⟨b, ws, rfl, h2, l2⟩ := view_at g ay e2
      have u1 := intL_at e3 l1
      have u2 := intL_at e4 l2
      subst u1 u2
      exact ⟨a, b, ns, ms, rfl, rfl, hold_T h1, hold_T h2, q S _ g rfl .refl (by rw [geL_lex]; rfl)⟩
    · cases e
  · cases e
def fGeA : D → D → Cells → O := orO fGe fGeT
theorem fGeA_ok (hu : X.A.units < cLine) : OpF X (compareOp .GtE) fGeA := fGe_ok.or (fGeT_ok hu)
end
end Q
end
section
set_option Elab.async false
set_option linter.all false
set_option maxRecDepth 100000
namespace Q
open PySem PySem.Spec L2
open PyProof.Rows (envOfC)
variable [Tb]
/-! ### def f(*values) -/
structure FnS (P : Program) (w : World) (K : PySem.W.Frag) (mg : Str → Option Value) (base : Heap) (k : Nat) (f : Addr) (F : FD) : Prop where
  run : ∀ (A : Around) (l : List PySem.Env) (s : Shared) (S : Sta) (us : List Value) (vs : List V) (ds : List D) (Qv : VK) (E : XK), A.guards = some [] → Room k A → Env0 P w K mg base A l s S.H →
    Vals vs us → Good ⟨K, mg⟩ S → AtL ⟨K, mg⟩ S vs ds → Post ⟨K, mg⟩ S (F ds S.c) Qv E → codeAny (model P w) A (.call (.ref f) ⟨us, []⟩) (CR (L2.CX P w) l P w S.H s Qv E) s
section
variable {P : Program} {w : World} {K : PySem.W.Frag} {mg : Str → Option Value} {base : Heap}
def starF (n : Nat) (k : MS) : FD := fun ds c => if ds.length ≤ sizeLine then (k (enter n [.tup ds]) c).out else .stk
theorem fn_bodyS {x qual pv : Str} {st : Stmt} {f : Addr} {fd : FuncData} {N : List Str} {k : Nat} {m : MS} (F : Fun K x qual st f fd) (Sc : FnScope N [pv] (defScope st))
    (hb : ∀ us : List Value, bindArgs fd ⟨us, []⟩ = (newTuple us >>= fun t => pure [(pv, t)]))
    (hbody : ∀ cdv A l s H E, A.guards = some [] → Room k (Xf P w K mg base N qual st f cdv A l s H E).A → Takes (Xf P w K mg base N qual st f cdv A l s H E) (WOf E) →
      PassesOwn (model P w) (Xf P w K mg base N qual st f cdv A l s H E).A (Xf P w K mg base N qual st f cdv A l s H E).env (Xf P w K mg base N qual st f cdv A l s H E).xe →
      SB (Xf P w K mg base N qual st f cdv A l s H E) (WOf E) (defBody st) m) : FnS P w K mg base (k + 1) f (starF N.length m) := by
  obtain ⟨oc, od, kV, doc, pm, an, cdv, ct, osl, rfl, lk, hcd⟩ := F.ex
  refine ⟨fun A l s S us vs ds Qv E hgd hr e0 hv gd al p => ?_⟩
  unfold starF at p
  split at p
  · rename_i hz
    have hzu : us.length ≤ sizeLine := by rw [← hv.length, al.len]; exact hz
    have hzv : vs.length ≤ sizeLine := by rw [al.len]; exact hz
    have hn : S.H s.heap.objs.size = none := e0.hok.fresh (Nat.le_refl _)
    refine StX.run_bnd (N := N) (ps := [pv]) lk hcd Sc hr e0 (G := fun xs H2 => ∃ q, S.H q = none ∧ xs = [V.ref q] ∧ H2 = upd S.H q (.tup vs)) (fun A' Ex Q' h => ?_) fun s2 H2 xs ⟨q, hq, ex, eH⟩ hr' => ?_
    · rw [hb us]
      refine wpAny_bind (wpAny_newTuple (wpAny_pure ?_) hzu)
      have new : ObjOk P w (upd S.H s.heap.objs.size (.tup vs)) (s.heap.push ({ cls := .type "tuple", data := .seq us.toArray } : Obj)) s.heap.objs.size (.tup vs) := ⟨hzv, us, hv, ⟨_, Heap.get?_push_size _ rfl, rfl, _, rfl⟩⟩
      have un := StX.un_laid (fs := frs l) (s := s) (o := ({ cls := .type "tuple", data := .seq us.toArray } : Obj)) (u := .tup vs) hn
      exact h _ _ [V.ref s.heap.objs.size] [Value.ref s.heap.objs.size] (StX.env0_laid e0 new) un rfl (fun e s' => StX.cxUp l s S.H _ _ E e s' un (fun b o y => Heap.get?_push_of_some _ y) rfl) (.cons rfl .nil) rfl ⟨_, hn, rfl, rfl⟩
    · subst ex eH
      have body := hbody cdv A l s2 (upd S.H q (.tup vs)) E hgd hr' (takes_of rfl rfl rfl rfl) (passes_of rfl)
      have x1 := Sta.ext_put (T := ⟨K, mg⟩) (o := .tup vs) gd hq
      refine ⟨_, body, S.put q (.tup vs), enter N.length [.tup ds], rfl, gd.put hq, enter_at (vs := [.ref q]) (ds := [.tup ds]) ⟨⟨q, vs, rfl, .inl ⟨gd.fresh hq, gd.freshX hq, upd_same⟩, x1.list al⟩, trivial⟩, post_out (PostG.ext x1 p)⟩
  · exact p.elim
end
section
variable {X : Cx} {W : WX} {e a b : Expr} {es : List Expr} {pos p : Pos} {ms : ML} {k : Nat} {f : Addr} {F : FD} {x : Str}
theorem run_s {pins : List (Addr × Obj)} {sg : L2.St} {S : Sta} {s : Shared} {Qv : VK} {us : List Value} {vs : List V} {ds : List D} (G : FnS X.prog X.w X.K X.mg X.base k f F) (hr : Room k X.A) (gd : X.A.guards = some []) (tk : Takes X W)
    (I : Inv X pins sg S.H s) (r : Vals vs us) (g : Good (wd X) S) (al : AtL (wd X) S vs ds) (h : Post (wd X) S (F ds S.c) Qv (WE W sg)) :
    codeAny (model X.prog X.w) X.A (.call (.ref f) ⟨us, []⟩) (fun r s' => match r with
      | .ok (.ret v) => EP X pins sg Qv v s'
      | .error e => X.xe e s'
      | _ => False) s := by
  refine codeAny_mono (G.run X.A X.stack s S us vs ds Qv (WE W sg) gd hr I.env0 r g al h) fun r s' hq => ?_
  cases r with
  | error e => exact tk _ _ (XE.of_call I (fun _ _ _ z => z) hq)
  | ok fl =>
    cases fl with
    | ret u => exact I.after hq
    | next => exact hq.elim
    | brk => exact hq.elim
    | cont => exact hq.elim
def mFnS (F : FD) (ms : ML) : ME := fun env c => (ms env c).bind F
theorem se_fnS (G : FnS X.prog X.w X.K X.mg X.base k f F) (hr : Room k X.A) (gd : X.A.guards = some []) (tk : Takes X W) (hm : X.mg x = some (.ref f)) (hk : PySem.W.keepIn X.K (.ref f) = true)
    (ha : SA X W (e :: es) ms) (hg : Gl X x := by rfl) (hdb : (x == ("__debug__" : Str)) = false := by decide)
    (he : starEach (e :: es) X.env = (false, eval e X.env) :: starEach es X.env := by rfl) (hpl : (backTo pos (starEach es X.env)).any (·.1) = false := by rfl) :
    SE X W (.Call (.Name x p) (e :: es) [] pos) (mFnS F ms) := by
  obtain ⟨t, pa, q⟩ := ha
  refine ⟨tE (wd X) (mFnS F ms) W, ⟨fun pins s sg H Qv I h => ?_⟩, fun S sg env Qv g en z => ⟨S, env, rfl, g, en, z⟩⟩
  obtain ⟨S, env, rfl, g, en, z⟩ := h
  refine wpAny_Call_Name_kw (ld_glob I hg hm ?_ hdb)
  refine PySem.W.callWith_K (h₀ := X.base) I.ok.mod.kin hk (thn (pa.run pos pins s sg S.H (fun vs H1 => ∃ S1 xs, S1.H = H1 ∧ Good (wd X) S1 ∧ EnvAt (wd X) S1 sg env ∧ AtL (wd X) S1 vs xs ∧ Post (wd X) S1 (F xs S1.c) Qv (WE W sg)) I ?_) fun us s1 hh => ?_) he hpl
  · exact q S sg env _ g en (post_bind z fun xs S1 vs e1 g1 x1 a1 p1 => ⟨S1, xs, rfl, g1, en.ext x1, a1, p1⟩)
  · obtain ⟨vs, H1, I1, r, S1, xs, rfl, g1, en1, a1, p1⟩ := hh
    refine ⟨I1.kIn, wpAny_call (codeAny_mono (run_s G hr gd tk I1 r g1 a1 p1) fun rr s' hq => ?_)⟩
    match rr, hq with
    | .ok (.ret v), hq => exact hq
    | .error e, hq => exact hq
theorem se_fnS0 (G : FnS X.prog X.w X.K X.mg X.base k f F) (hr : Room k X.A) (gd : X.A.guards = some []) (tk : Takes X W) (hm : X.mg x = some (.ref f)) (hk : PySem.W.keepIn X.K (.ref f) = true)
    (hg : Gl X x := by rfl) (hdb : (x == ("__debug__" : Str)) = false := by decide) : SE X W (.Call (.Name x p) [] [] pos) (mFnS F mNil) := by
  refine ⟨tE (wd X) (mFnS F mNil) W, ⟨fun pins s sg H Qv I h => ?_⟩, fun S sg env Qv g en z => ⟨S, env, rfl, g, en, z⟩⟩
  obtain ⟨S, env, rfl, g, en, z⟩ := h
  refine wpAny_Call_Name_kw (ld_glob I hg hm ?_ hdb)
  refine PySem.W.callWith_K0 I.kIn hk (wpAny_call (codeAny_mono (run_s (us := []) (vs := []) (ds := []) G hr gd tk I .nil g (show AtL (wd X) S [] [] from trivial) z) fun rr s' hq => ?_))
  match rr, hq with
  | .ok (.ret v), hq => exact hq
  | .error e, hq => exact hq
end
end Q
end
section
set_option Elab.async false
set_option linter.all false
set_option maxRecDepth 100000
namespace Q
open PySem PySem.Spec L2
variable [Tb]
section
variable {X : Cx} {W : WX} {e a b : Expr} {es : List Expr} {pos p kpos : Pos} {ma : ME} {ms mk : ML} {k : Nat} {f : Addr} {fd : FuncData} {ps : List Str} {F : FD} {x : Str} {kws : List Keyword}
/-! ### keywords -/
def SK (X : Cx) (W : WX) (kws : List Keyword) (m : ML) : Prop :=
  ∃ t, PK X kws t ∧ ∀ S sg env Qv, Good (wd X) S → EnvAt (wd X) S sg env → PostG (wd X) S (AtL (wd X)) (m env S.c) Qv (WE W sg) → t sg S.H Qv
theorem sk_nil : SK X W [] mNil := ⟨_, pk_nil, fun S sg env Qv g en p => p S [] g rfl .refl trivial⟩
theorem sk_cons {nm : Option Str} (ha : SE X W e ma) (hr : SK X W kws ms) : SK X W (⟨nm, e, kpos⟩ :: kws) (mCons ma ms) := by
  obtain ⟨ta, pa, qa⟩ := ha
  obtain ⟨tb, pb, qb⟩ := hr
  refine ⟨_, pk_cons pa pb, fun S sg env Qv g en p => ?_⟩
  refine qa S sg env _ g en (post_bind p fun y S1 v e1 g1 x1 a1 p1 => ?_)
  refine qb S1 sg env _ g1 (en.ext x1) (post_bind p1 fun ys S2 vs e2 g2 x2 a2 p2 => ?_)
  exact p2 S2 (v :: vs) g2 rfl .refl ⟨x2.keep _ _ a1, a2⟩
def rv {α : Type} (r : Bool) (l : List α) : List α := if r then l.reverse else l
/-- f(k1 = .., k2 = ..): all parameters, in their order or (r) the other way round -/
def mFnK (F : FD) (n : Nat) (r : Bool) (ms : ML) : ME := fun env c => (ms env c).bind fun ds c => if ds.length = n then F (rv r ds) c else .stk
theorem se_fnK0 {r : Bool} {ks : List Str} (G : FnG X.prog X.w X.K X.mg X.base k f fd ps F) (hr : Room k X.A) (gd : X.A.guards = some []) (tk : Takes X W) (hm : X.mg x = some (.ref f)) (hk : PySem.W.keepIn X.K (.ref f) = true)
    (hb : ∀ (s : Shared) (us : List Value), X.K.In s.heap → us.length = ps.length → BindsTo s fd ⟨[], ks.zip us⟩ (ps.zip (rv r us))) (ha : SK X W kws ms) (hall : (backToKw pos (keywordEach kws X.env)).all (·.1.isSome) = true := by rfl) (hks : (backToKw pos (keywordEach kws X.env)).filterMap (·.1) = ks := by rfl)
    (hg : Gl X x := by rfl) (hdb : (x == ("__debug__" : Str)) = false := by decide) (hpl : ((backTo pos (starEach [] X.env)).any (·.1) || (backToKw pos (keywordEach kws X.env)).any (·.1.isNone)) = false := by rfl) :
    SE X W (.Call (.Name x p) [] kws pos) (mFnK F ps.length r ms) := by
  obtain ⟨t, pa, q⟩ := ha
  refine ⟨tE (wd X) (mFnK F ps.length r ms) W, ⟨fun pins s sg H Qv I h => ?_⟩, fun S sg env Qv g en z => ⟨S, env, rfl, g, en, z⟩⟩
  obtain ⟨S, env, rfl, g, en, z⟩ := h
  refine wpAny_Call_Name_kw (ld_glob I hg hm ?_ hdb)
  refine PySem.W.callWith_KW0 (h₀ := X.base) I.ok.mod.kin hk hall (thn (pa.run pos pins s sg S.H (fun vs H1 => ∃ S1 xs, S1.H = H1 ∧ Good (wd X) S1 ∧ EnvAt (wd X) S1 sg env ∧ AtL (wd X) S1 vs xs ∧ Post (wd X) S1 (if xs.length = ps.length then F (rv r xs) S1.c else .stk) Qv (WE W sg)) I ?_) fun us s1 hh => ?_) hpl
  · exact q S sg env _ g en (post_bind z fun xs S1 vs e1 g1 x1 a1 p1 => ⟨S1, xs, rfl, g1, en.ext x1, a1, p1⟩)
  · obtain ⟨vs, H1, I1, rr, S1, xs, rfl, g1, en1, a1, p1⟩ := hh
    rw [hks]
    refine ⟨I1.kIn, ?_⟩
    split at p1
    · rename_i hlen
      have hlu : us.length = ps.length := by rw [← rr.length, a1.len]; exact hlen
      have al : AtL (wd X) S1 (rv r vs) (rv r xs) := by
        cases r
        · exact a1
        · exact a1.rev
      have r2 : Vals (rv r vs) (rv r us) := by
        cases r
        · exact rr
        · exact rr.reverse
      have hl2 : (rv r xs).length = ps.length := by
        cases r
        · exact hlen
        · exact (List.length_reverse ..).trans hlen
      refine wpAny_call (codeAny_mono (run_g G hr gd tk (hb s1 us I1.kIn hlu) I1 r2 g1 al hl2 p1) fun q2 s' hq => ?_)
      match q2, hq with
      | .ok (.ret v), hq => exact hq
      | .error e, hq => exact hq
    · exact p1.elim
/-- a built-in function with keywords -/
def CaK (X : Cx) (fn : Value) (ks : List Str) (f : List D → List D → Cells → R D) (W : WX) : Prop := ∀ (pins : List (Addr × Obj)) (s : Shared) (sg : L2.St) (S : Sta) (env : Env) (xs zs : List V) (us ws : List Value) (ds es : List D) (Qv : VK), Inv X pins sg S.H s → Vals xs us → Vals zs ws →
  Good (wd X) S → EnvAt (wd X) S sg env → AtL (wd X) S xs ds → AtL (wd X) S zs es → Post (wd X) S (f ds es S.c) Qv (WE W sg) → wpAny (model X.prog X.w) X.A (call fn us (ks.zip ws)) (EP X pins sg Qv) X.xe s
def mCallK (f : List D → List D → Cells → R D) (ms mk : ML) : ME := fun env c => (ms env c).bind fun ds c => (mk env c).bind fun es c => f ds es c
theorem se_callK {id : String} {ks : List Str} {fk : List D → List D → Cells → R D} (h : CaK X (.builtin id) ks fk W) (hm : X.mg x = none) (ha : SA X W (e :: es) ms) (hk : SK X W kws mk) (hg : Gl X x := by rfl) (hv : bootBuiltins x = some (.builtin id) := by decide +kernel) (hn : x ≠ "__name__" := by decide) (hdb : (x == ("__debug__" : Str)) = false := by decide)
    (he : backTo pos (starEach (e :: es) X.env) = (false, eval e X.env) :: backTo pos (starEach es X.env) := by rfl) (hpl : (backTo pos (starEach (e :: es) X.env)).any (·.1) = false := by rfl)
    (hall : (backToKw pos (keywordEach kws X.env)).all (·.1.isSome) = true := by rfl) (hnone : (backToKw pos (keywordEach kws X.env)).any (·.1.isNone) = false := by rfl) (hks : (backToKw pos (keywordEach kws X.env)).filterMap (·.1) = ks := by rfl) :
    SE X W (.Call (.Name x p) (e :: es) kws pos) (mCallK fk ms mk) := by
  obtain ⟨t, pa, q⟩ := ha
  obtain ⟨t2, pk, q2⟩ := hk
  refine ⟨tE (wd X) (mCallK fk ms mk) W, ⟨fun pins s sg H Qv I h0 => ?_⟩, fun S sg env Qv g en z => ⟨S, env, rfl, g, en, z⟩⟩
  obtain ⟨S, env, rfl, g, en, z⟩ := h0
  refine wpAny_Call_Name_kw (ld_blt I hg hm hv ?_ hn hdb)
  refine PyProof.Rows.callWith_kw (thn (pa.run pos pins _ sg S.H (fun vs H1 => ∃ S1 xs, S1.H = H1 ∧ Good (wd X) S1 ∧ EnvAt (wd X) S1 sg env ∧ AtL (wd X) S1 vs xs ∧ Post (wd X) S1 ((mk env S1.c).bind fun es c => fk xs es c) Qv (WE W sg)) (I.tok _) ?_) fun us s1 hh => ?_) he hpl hall hnone
  · exact q S sg env _ g en (post_bind z fun xs S1 vs e1 g1 x1 a1 p1 => ⟨S1, xs, rfl, g1, en.ext x1, a1, p1⟩)
  · obtain ⟨vs, H1, I1, r1, S1, xs, rfl, g1, en1, a1, p1⟩ := hh
    refine thn (pk.run pos pins s1 sg S1.H (fun zs H2 => ∃ S2 es, S2.H = H2 ∧ Good (wd X) S2 ∧ EnvAt (wd X) S2 sg env ∧ AtL (wd X) S2 vs xs ∧ AtL (wd X) S2 zs es ∧ Post (wd X) S2 (fk xs es S2.c) Qv (WE W sg)) I1 ?_) fun ws s2 hh => ?_
    · exact q2 S1 sg env _ g1 en1 (post_bind p1 fun es S2 zs e2 g2 x2 a2 p2 => ⟨S2, es, rfl, g2, en1.ext x2, x2.list a1, a2, p2⟩)
    · obtain ⟨zs, H2, I2, r2, S2, es, rfl, g2, en2, b1, b2, p2⟩ := hh
      rw [hks]
      exact h pins s2 sg S2 env vs zs us ws xs es Qv I2 r1 r2 g2 en2 b1 b2 p2
end
end Q
end
section
set_option Elab.async false
set_option linter.all false
set_option maxRecDepth 100000
namespace Q
open PySem PySem.Spec L2
variable [Tb]
/-! ### min, max with key= and default= -/
abbrev X1 (X : Cx) : Cx := { X with A := X.A.in1, xe := fun _ _ => False }
theorem Cx.Ok.one {X : Cx} (k : X.Ok) : (X1 X).Ok := ⟨k.mod, k.kind, k.glob, k.blt, k.above, k.inj, k.has, k.cab, k.hd, k.frames, k.stk, k.exf, k.bs, k.bsz, k.noex, k.exfs, k.funs, k.frf⟩
section
variable {X : Cx} {W : WX} {pins : List (Addr × Obj)} {sg : L2.St} {H : Hp} {s : Shared}
theorem inv1 (I : Inv X pins sg H s) : Inv (X1 X) pins sg H s := ⟨Cx.Ok.one I.ok, I.os, I.bare, I.base, I.loc, I.cell, I.free, I.freeC, I.pin, I.hok, I.len⟩
theorem inv0 (k : X.Ok) (I : Inv (X1 X) pins sg H s) : Inv X pins sg H s := ⟨k, I.os, I.bare, I.base, I.loc, I.cell, I.free, I.freeC, I.pin, I.hok, I.len⟩
/-- an iterator at I over what sq tells -/
structure Nxt (X : Cx) (I : Addr) (tn : Nat → Heap → Prop) (sq : Hp → List V → Prop) : Prop where
  obj : ∀ i h, tn i h → ∃ o, h.get? I = some o ∧ ∀ v, o.data ≠ .cell v
  keep : ∀ i h h', tn i h → (∀ o, h.get? I = some o → h'.get? I = some o) → tn i h'
  item : ∀ (i : Nat) (pins : List (Addr × Obj)) (s : Shared) (sg : L2.St) (H : Hp) (xs : List V) (x : V) (Qn : Option Value → Shared → Prop) (E : Value → Shared → Prop), Inv (X1 X) pins sg H s → FpOk (X1 X) pins H I → tn i s.heap → sq H xs → xs[i]? = some x →
    (∀ u s', RelV x u → Inv (X1 X) pins sg H s' → tn (i + 1) s'.heap → Qn (some u) s') → wpAny (model X.prog X.w) X.A.in1 (pyNext (.ref I)) Qn E s
  done : ∀ (pins : List (Addr × Obj)) (s : Shared) (sg : L2.St) (H : Hp) (xs : List V) (Qn : Option Value → Shared → Prop) (E : Value → Shared → Prop), Inv (X1 X) pins sg H s → FpOk (X1 X) pins H I → tn xs.length s.heap → sq H xs →
    (∀ s', Inv (X1 X) pins sg H s' → Qn none s') → wpAny (model X.prog X.w) X.A.in1 (pyNext (.ref I)) Qn E s
theorem nxt_tup (hc : X.calm = true) (l I : Addr) : Nxt X I (fun i h => h.IsTupleIter I l i) (fun H xs => SqT X.K H l xs) where
  obj := fun i h ⟨o, e, c, d⟩ => ⟨o, e, fun v z => by rw [d] at z; cases z⟩
  keep := fun i h h' st k => st.at k
  item := fun i pins s sg H xs x Qn E J f st hq hx h => by
    obtain ⟨its, rv, p, hz⟩ := J.tuple hq
    obtain ⟨u, hu, ru⟩ := rv.get hx
    obtain ⟨f0, f1, f2, f3, f4, f5⟩ := f
    refine wpAny_pyNext_tuple_item st (show s.heap.IsTuple l its.toArray from p) (x := u) (by simpa using hu) fun h' st' sb => ?_
    exact h u _ ru (J.turned (t' := s.toks) (fun b o hb e => (sb.2 b hb).trans e) f0 f1 f3 f4 f5) st'
  done := fun pins s sg H xs Qn E J f st hq h => by
    obtain ⟨its, rv, p, hz⟩ := J.tuple hq
    obtain ⟨f0, f1, f2, f3, f4, f5⟩ := f
    have hl := rv.length
    exact wpAny_pyNext_tuple_end (J.ok.hd hc) st (show s.heap.IsTuple l its.toArray from p) (by simp; omega) fun h' eb => h _ (J.turned (t' := s.toks) (fun b o hb e => eb b o hb e) f0 f1 f3 f4 f5)
theorem nxt_lst (hc : X.calm = true) (l I : Addr) : Nxt X I (fun i h => h.IsListIter I l i) (fun H xs => SqL X.K H l xs) where
  obj := fun i h ⟨o, e, c, d⟩ => ⟨o, e, fun v z => by rw [d] at z; cases z⟩
  keep := fun i h h' st k => st.at k
  item := fun i pins s sg H xs x Qn E J f st hq hx h => by
    obtain ⟨its, rv, p, hz⟩ := J.list hq
    obtain ⟨u, hu, ru⟩ := rv.get hx
    obtain ⟨f0, f1, f2, f3, f4, f5⟩ := f
    refine wpAny_pyNext_list_item st p.isList (x := u) (by simpa using hu) fun h' st' sb => ?_
    exact h u _ ru (J.turned (t' := s.toks) (fun b o hb e => (sb.2 b hb).trans e) f0 f1 f3 f4 f5) st'
  done := fun pins s sg H xs Qn E J f st hq h => by
    obtain ⟨its, rv, p, hz⟩ := J.list hq
    obtain ⟨f0, f1, f2, f3, f4, f5⟩ := f
    have hl := rv.length
    exact wpAny_pyNext_list_end (J.ok.hd hc) st p.isList (by simp; omega) fun h' eb => h _ (J.turned (t' := s.toks) (fun b o hb e => eb b o hb e) f0 f1 f3 f4 f5)
end
def mmL (fc : D → D → Cells → O) (F : FD) : List D → Option (D × D) → Cells → R (Option (D × D))
  | [], b, c => .ok b c
  | d :: ds, b, c => match F [d] c with
    | .ok k c => match b with
      | none => mmL fc F ds (some (d, k)) c
      | some (b0, k0) => match fc k k0 c with
        | some (.bl true, c') => mmL fc F ds (some (d, k)) c'
        | some (.bl false, c') => mmL fc F ds (some (b0, k0)) c'
        | _ => .stk
    | _ => .stk
/-- what the list of the best holds -/
def BestAt (T : Wd) (S : Sta) (bl : List V) : Option (D × D) → Prop
  | none => bl = []
  | some (d, k) => AtL T S bl [d, k]
theorem BestAt.zero {T : Wd} {S S' : Sta} {bl : List V} {b : Option (D × D)} (h : BestAt T S bl b) (k : ∀ v d, At T S v d → At T S' v d) : BestAt T S' bl b := by
  cases b with
  | none => exact h
  | some p => exact atL_of k h
section
variable {X : Cx} {pins : List (Addr × Obj)} {sg : L2.St}
/-- the hidden list at Sa is written -/
theorem seth_ok {S0 S1 : Sta} {Sa : Addr} {bl bl' : List V} {b' : Option (D × D)} {s1 : Shared} {its its' : List Value} {n : Nat} {f : Array Value → Array Value} (g0 : Sa ∉ S0.x) (I1 : Inv (X1 X) pins sg S1.H s1) (g1 : Good (wd X) S1) (hx : S1.x = Sa :: S0.x) (hS : S1.H Sa = some (.lst bl)) (x1 : Ext0 (wd X) S0 S1)
    (e : s1.heap.get? Sa = some { cls := .type "list", data := .seq its.toArray n }) (hf : f its.toArray = its'.toArray) (hv : Vals bl' its') (hz : bl'.length ≤ 2) (hb : BestAt (wd X) S1 bl' b') :
    ∃ S2 : Sta, S2.c = S1.c ∧ Inv (X1 X) pins sg S2.H { s1 with heap := s1.heap.update Sa (Obj.mapSeq f) } ∧ Good (wd X) S2 ∧ S2.x = Sa :: S0.x ∧ S2.H Sa = some (.lst bl') ∧ BestAt (wd X) S2 bl' b' ∧ Ext0 (wd X) S0 S2 ∧ (∀ v d, At (wd X) S1 v d → At (wd X) S2 v d) ∧ (∀ b, b ≠ Sa → S2.H b = S1.H b) := by
  obtain ⟨g2, k2⟩ := g1.seth (o := .lst bl') (p := Sa) (by rw [hx]; exact List.mem_cons_self) trivial
  refine ⟨S1.seth Sa (.lst bl'), rfl, ?_, g2, hx, upd_same, hb.zero k2, ⟨x1.pre, fun v d a => k2 v d (x1.keep v d a), fun a ha => ⟨(x1.hid a ha).1, ?_⟩⟩, k2, fun b hb => upd_ne hb⟩
  · exact I1.lset (t' := s1.toks) hS e hf hv (by have := sizeLine_eq; omega)
  · have ne : a ≠ Sa := fun z => g0 (by rw [← z]; exact ha)
    exact (upd_ne ne).trans (x1.hid a ha).2
end
end Q
end
section
set_option Elab.async false
set_option linter.all false
set_option maxRecDepth 100000
namespace Q
open PySem PySem.Spec L2
variable [Tb]
section
variable {X : Cx} {pins : List (Addr × Obj)} {sg : L2.St}
theorem FpOk.at {X : Cx} {pins : List (Addr × Obj)} {H H' : Hp} {b : Addr} (f : FpOk X pins H b) (h : H' b = none) : FpOk X pins H' b := ⟨h, f.2⟩
theorem min_loop {q I Sa : Addr} {kk : Nat} {fd : FuncData} {p : Str} {F : FD} {fc : D → D → Cells → O} {tn : Nat → Heap → Prop} {sq : Hp → List V → Prop} {S0 : Sta} {all : List D} {best : Option (D × D)} {cE : Cells} {dv : Value} {Rz : Result → Shared → Prop}
    (G : FnG X.prog X.w X.K X.mg X.base kk q fd [p] F) (hr : Room kk (X1 X).A) (gd : X.A.guards = some []) (hb : Binds X.K fd [p] []) (cmp : OpF (X1 X) (compareOp .Lt) fc) (T : Nxt X I tn sq) (g0 : Sa ∉ S0.x) (nI : I ≠ Sa)
    (stay : ∀ S1, Good (wd X) S1 → Ext0 (wd X) S0 S1 → ∃ xs, sq S1.H xs ∧ AtL (wd X) S1 xs all)
    (hR : ∀ s' S', Inv (X1 X) pins sg S'.H s' → Good (wd X) S' → S'.x = Sa :: S0.x → S'.H Sa = some (.lst []) → S'.c = cE → Ext0 (wd X) S0 S' → (match best with
      | some (d, _) => ∀ u v, RelV v u → At (wd X) S' v d → Rz (.ok (.ret u)) s'
      | none => Rz (.ok (.ret dv)) s')) :
    ∀ (n i : Nat) (s1 : Shared) (S1 : Sta) (bl : List V) (bo : Option (D × D)), i + n = all.length → Inv (X1 X) pins sg S1.H s1 → Good (wd X) S1 → S1.x = Sa :: S0.x → S1.H Sa = some (.lst bl) → BestAt (wd X) S1 bl bo → Ext0 (wd X) S0 S1 → FpOk (X1 X) pins S1.H I → tn i s1.heap →
      mmL fc F (all.drop i) bo S1.c = .ok best cE → codeAny (model X.prog X.w) X.A (.builtin "min.loop" ⟨[.ref I, .ref q, .ref Sa], [("default", dv)]⟩) Rz s1 := by
  have hname : (toString "min" ++ toString ".loop" : String) = "min.loop" := by decide
  intro n
  induction n with
  | zero =>
    intro i s1 S1 bl bo hi I1 g1 hx hS hB x1 fI st hm
    have hl : i = all.length := by omega
    subst hl
    rw [List.drop_length] at hm
    have hm : R.ok bo S1.c = R.ok best cE := hm
    cases hm
    obtain ⟨xs, hq, al⟩ := stay S1 g1 x1
    obtain ⟨_, its, m, rv, hlen, e⟩ := I1.lstM hS
    refine codeAny_builtin PySem.F.entry_min_loop ?_
    rw [Around.under_plainId PySem.F.plain_min_loop _]
    show wpAny _ X.A.in1 (seqItems? (.ref Sa) >>= _) _ _ _
    refine wpAny_bind (wpAny_seqItems e rfl ?_)
    show wpAny _ X.A.in1 (tryCatch (pyNext (.ref I)) _ >>= _) _ _ _
    refine wpAny_bind (wpAny_tryCatch (T.done pins s1 sg S1.H xs _ _ I1 fI (by rw [al.len]; exact st) hq fun s2 I2 => ?_))
    obtain ⟨_, jts, m2, rv2, hlen2, e2⟩ := I2.lstM hS
    cases best with
    | none =>
      have hB : bl = [] := hB
      subst hB
      cases rv
      show wpAny _ X.A.in1 (rule _ >>= _) _ _ _
      refine wpAny_bind (wpAny_rule (wpAny_pure ?_))
      exact hR s2 S1 I2 g1 hx hS rfl x1
    | some b =>
      obtain ⟨d, kd⟩ := b
      obtain ⟨vb, vk, rfl, ab, ak⟩ := AtL.two (show AtL (wd X) S1 bl [d, kd] from hB)
      obtain ⟨ub, uk, rfl, rb, rk⟩ := vals2 rv
      show wpAny _ X.A.in1 (updateSeq Sa (fun _ => #[]) >>= _) _ _ _
      obtain ⟨S2, hc2, I3, g3, hx3, hS3, _, x3, k3, _⟩ := seth_ok (bl' := []) (b' := none) (its' := []) (f := fun _ => #[]) g0 I2 g1 hx hS x1 e2 rfl .nil (by simp) rfl
      refine wpAny_bind (wpAny_updateSeq e2 rfl (wpAny_bind (wpAny_letGo (wpAny_pure ?_))))
      exact hR _ S2 I3 g3 hx3 hS3 hc2 x3 ub vb rb (k3 _ _ ab)
  | succ n ih =>
    intro i s1 S1 bl bo hi I1 g1 hx hS hB x1 fI st hm
    obtain ⟨xs, hq, al⟩ := stay S1 g1 x1
    have hil : i < all.length := by omega
    have hd : all[i]? = some all[i] := List.getElem?_eq_getElem hil
    obtain ⟨x, hxi, ax⟩ := al.get hd
    obtain ⟨_, its, m, rv, hlen, e⟩ := I1.lstM hS
    rw [List.drop_eq_getElem_cons hil] at hm
    refine codeAny_builtin PySem.F.entry_min_loop ?_
    rw [Around.under_plainId PySem.F.plain_min_loop _]
    show wpAny _ X.A.in1 (seqItems? (.ref Sa) >>= _) _ _ _
    refine wpAny_bind (wpAny_seqItems e rfl ?_)
    show wpAny _ X.A.in1 (tryCatch (pyNext (.ref I)) _ >>= _) _ _ _
    refine wpAny_bind (wpAny_tryCatch (T.item i pins s1 sg S1.H xs x _ _ I1 fI st hq hxi fun u s2 ru I2 st2 => ?_))
    -- the key
    obtain ⟨oI, hoI, hcI⟩ := T.obj _ _ st2
    have I2p := I2.pinned (fp := [I]) (fun b hb => by rw [List.mem_singleton.mp hb]; exact fI) (fun b hb => by rw [List.mem_singleton.mp hb]; exact ⟨oI, hoI, hcI⟩)
    have pI : ∀ {H' : Hp} {s' : Shared}, Inv (X1 X) (pins ++ pinsAt [I] s2.heap) sg H' s' → s'.heap.get? I = some oI ∧ H' I = none := fun {H' s'} J =>
      let z := J.pin (I, oI) (List.mem_append_right _ (List.mem_append_right _ (mem_pinsAt (List.mem_singleton.mpr rfl) hoI)))
      ⟨z.1, z.2.1⟩
    show wpAny _ X.A.in1 (tryCatch (holding [u] (call (.ref q) [u])) _ >>= _) _ _ _
    unfold mmL at hm
    cases hk : F [all[i]] S1.c with
    | stk => rw [hk] at hm; cases hm
    | err y c => rw [hk] at hm; cases hm
    | ok kd c1 =>
      rw [hk] at hm
      have gk : ∀ {Qk : VK}, (∀ S2 v, Good (wd X) S2 → S2.c = c1 → Ext (wd X) S1 S2 → At (wd X) S2 v kd → Qk v S2.H) → Post (wd X) S1 (F [all[i]] S1.c) Qk (fun _ _ _ => False) := fun {Qk} h => by
        rw [hk]
        exact h
      refine wpAny_bind (wpAny_tryCatch (wpAny_holding (wpAny_call (codeAny_mono (run_g (X := X1 X) (vs := [x]) (ds := [all[i]]) (Qv := fun v H' => ∃ S2, S2.H = H' ∧ Good (wd X) S2 ∧ S2.c = c1 ∧ Ext (wd X) S1 S2 ∧ At (wd X) S2 v kd) G hr gd LamX.takes0 (hb s2 [u] I2.kIn rfl) I2p (.cons ru .nil) g1 ⟨ax, trivial⟩ rfl
        (gk fun S2 v g hc xx a => ⟨S2, rfl, g, hc, xx, a⟩)) fun rr s3 hq3 => ?_))))
      match rr, hq3 with
      | .error e, hq3 => exact hq3.elim
      | .ok (.ret uk), hq3 =>
        obtain ⟨vk, H3, I3, rk, S3, rfl, g3, hc3, x13, ak⟩ := hq3
        obtain ⟨hoI3, nI3⟩ := pI I3
        have st3 : tn (i + 1) s3.heap := T.keep _ _ _ st2 fun o ho => by rw [hoI] at ho; cases ho; exact hoI3
        have hx3 : S3.x = Sa :: S0.x := x13.hx.trans hx
        have hS3 : S3.H Sa = some (.lst bl) := (x13.hh Sa (by rw [hx]; exact List.mem_cons_self)).trans hS
        have x03 := x1.trans x13.zero
        have nx : ∀ {s5 : Shared} {S5 : Sta} {bl5 : List V} {bo5 : Option (D × D)}, Inv (X1 X) pins sg S5.H s5 → Good (wd X) S5 → S5.x = Sa :: S0.x → S5.H Sa = some (.lst bl5) → BestAt (wd X) S5 bl5 bo5 → Ext0 (wd X) S0 S5 → S5.H I = none → tn (i + 1) s5.heap → mmL fc F (all.drop (i + 1)) bo5 S5.c = .ok best cE →
            codeAny (model X.prog X.w) X.A (.builtin "min.loop" ⟨[.ref I, .ref q, .ref Sa], [("default", dv)]⟩) Rz s5 := fun {s5 S5 bl5 bo5} a1 a2 a3 a4 a5 a6 a7 a8 a9 => ih (i + 1) s5 S5 bl5 bo5 (by omega) a1 a2 a3 a4 a5 a6 (FpOk.at fI a7) a8 a9
        have put : ∀ {s5 : Shared} {S5 : Sta} {jts : List Value} {m5 : Nat}, Inv (X1 X) (pins ++ pinsAt [I] s2.heap) sg S5.H s5 → Good (wd X) S5 → Ext (wd X) S1 S5 → At (wd X) S5 vk kd → s5.heap.get? Sa = some { cls := .type "list", data := .seq jts.toArray m5 } → mmL fc F (all.drop (i + 1)) (some (all[i], kd)) S5.c = .ok best cE →
            codeAny (model X.prog X.w) X.A (.builtin "min.loop" ⟨[.ref I, .ref q, .ref Sa], [("default", dv)]⟩) Rz { s5 with heap := s5.heap.update Sa (Obj.mapSeq fun _ => #[u, uk]) } := fun {s5 S5 jts m5} I5 g5 x15 a5 e0 hm => by
          obtain ⟨h1, h2⟩ := pI I5
          have hS5 : S5.H Sa = some (.lst bl) := (x15.hh Sa (by rw [hx]; exact List.mem_cons_self)).trans hS
          obtain ⟨S4, hc4, I4, g4, hx4, hS4, hB4, x4, k4, ne4⟩ := seth_ok (bl' := [x, vk]) (b' := some (all[i], kd)) (its' := [u, uk]) (f := fun _ => #[u, uk]) g0 I5.unpinned g5 (x15.hx.trans hx) hS5 (x1.trans x15.zero) e0 rfl (.cons ru (.cons rk .nil)) (by simp) ⟨x15.keep _ _ ax, a5, trivial⟩
          refine nx I4 g4 hx4 hS4 hB4 x4 (by rw [ne4 I nI]; exact h2) ?_ (by rw [hc4]; exact hm)
          exact T.keep _ _ _ st2 fun o ho => (Heap.get?_update_other s5.heap _ (Ne.symm nI)).trans (by rw [hoI] at ho; cases ho; exact h1)
        obtain ⟨_, jts, m3, rv3, hlen3, e3⟩ := I3.lstM hS3
        cases bo with
        | none =>
          have hB : bl = [] := hB
          subst hB
          cases rv
          show wpAny _ X.A.in1 (updateSeq Sa (fun _ => #[u, uk]) >>= _) _ _ _
          refine wpAny_bind (wpAny_updateSeq e3 rfl ?_)
          rw [hname]
          subst hc3
          exact wpAny_pure ⟨plainId_quiet PySem.F.plain_min_loop _, put I3 g3 x13 ak e3 hm⟩
        | some b =>
          obtain ⟨d0, k0⟩ := b
          obtain ⟨vb, vk0, rfl, ab, ak0⟩ := AtL.two (show AtL (wd X) S1 bl [d0, k0] from hB)
          obtain ⟨ub, uk0, rfl, rb, rk0⟩ := vals2 rv
          subst hc3
          have hm : (match fc kd k0 S3.c with
            | some (.bl true, c') => mmL fc F (all.drop (i + 1)) (some (all[i], kd)) c'
            | some (.bl false, c') => mmL fc F (all.drop (i + 1)) (some (d0, k0)) c'
            | _ => .stk) = .ok best cE := hm
          obtain ⟨rc, ho, hs⟩ := cmp
          show wpAny _ X.A.in1 (tryCatch (holding [u, uk] (compareOp .Lt uk uk0 >>= _)) _ >>= _) _ _ _
          cases hf : fc kd k0 S3.c with
          | none => rw [hf] at hm; cases hm
          | some pr =>
            obtain ⟨rd, c4⟩ := pr
            rw [hf] at hm
            have kc := ho (pins ++ pinsAt [I] s2.heap) s3 sg S3.H vk vk0 uk uk0 (fun v H' => ∃ S4, S4.H = H' ∧ Good (wd X) S4 ∧ S4.c = c4 ∧ Ext (wd X) S3 S4 ∧ At (wd X) S4 v rd) I3 rk rk0 (hs S3 vk vk0 kd k0 _ g3 ak (x13.keep _ _ ak0) (by rw [hf]; exact fun S4 v g hc xx a => ⟨S4, rfl, g, hc, xx, a⟩))
            refine wpAny_bind (wpAny_tryCatch (wpAny_holding (wpAny_bind (wpAny_mono kc (fun w2 s4 hw => ?_) fun _ _ z => z.elim))))
            obtain ⟨vr, H4, I4, rr, S4, rfl, g4, hc4, x34, ar⟩ := hw
            have x14 := x13.trans x34
            have hS4 : S4.H Sa = some (.lst [vb, vk0]) := (x14.hh Sa (by rw [hx]; exact List.mem_cons_self)).trans hS
            obtain ⟨_, jt4, m4, rv4, hlen4, e4⟩ := I4.lstM hS4
            subst hc4
            obtain ⟨h1, h2⟩ := pI I4
            cases rd with
            | bl b =>
              cases (show vr = .bl b from ar)
              cases (show w2 = Value.bool b from rr)
              refine wpAny_bind (wpAny_holding (wpAny_truthy_bool (wpAny_bind (wpAny_letGo (wpAny_pure ?_)))))
              cases b with
              | true =>
                rw [if_pos rfl]
                refine wpAny_bind (wpAny_updateSeq e4 rfl (wpAny_bind (wpAny_letGo ?_)))
                rw [hname]
                exact wpAny_pure ⟨plainId_quiet PySem.F.plain_min_loop _, put I4 g4 x14 (x34.keep _ _ ak) e4 hm⟩
              | false =>
                rw [if_neg Bool.false_ne_true]
                refine wpAny_bind (wpAny_letGo ?_)
                rw [hname]
                refine wpAny_pure ⟨plainId_quiet PySem.F.plain_min_loop _, nx (bo5 := some (d0, k0)) I4.unpinned g4 (x14.hx.trans hx) hS4 ⟨x14.keep _ _ ab, x14.keep _ _ ak0, trivial⟩ (x1.trans x14.zero) h2 ?_ hm⟩
                exact T.keep _ _ _ st2 fun o ho => by rw [hoI] at ho; cases ho; exact h1
            | _ => cases hm
end
end Q
end
section
set_option Elab.async false
set_option linter.all false
set_option maxRecDepth 100000
namespace Q
open PySem PySem.Spec L2
variable [Tb]
def seqTg : Tg → Bool
  | .lst => true
  | .tup => true
  | .frl => true
  | _ => false
def mmF (fc : D → D → Cells → O) (F : FD) (d dd : D) (c : Cells) : R D := match d with
  | .nod t all => if seqTg t = true then (match mmL fc F all none c with
      | .ok (some (x, _)) c => .ok x c
      | .ok none c => .ok dd c
      | _ => .stk) else .stk
  | _ => .stk
theorem min_argsK (a k v : Value) : argsOk "min" ⟨[a], [(Str.ofString "key", k), (Str.ofString "default", v)]⟩ := by unfold argsOk; kernel_rfl
section
variable {X : Cx} {W : WX} {pins : List (Addr × Obj)} {sg : L2.St}
theorem call_minK {q : Addr} {kk : Nat} {fd : FuncData} {p : Str} {F : FD} {fc : D → D → Cells → O} {S : Sta} {s : Shared} {v vd : V} {u dv : Value} {d dd : D} {Qv : VK} {E : XK} (hc : X.calm = true) (G : FnG X.prog X.w X.K X.mg X.base kk q fd [p] F) (hr : Room kk (X1 X).A) (gd : X.A.guards = some []) (hb : Binds X.K fd [p] []) (cmp : OpF (X1 X) (compareOp .Lt) fc)
    (I : Inv X pins sg S.H s) (g : Good (wd X) S) (ru : RelV v u) (av : At (wd X) S v d) (rd : RelV vd dv) (ad : At (wd X) S vd dd) (z : Post (wd X) S (mmF fc F d dd S.c) Qv E) :
    wpAny (model X.prog X.w) X.A (call (.builtin "min") [u] [("key", .ref q), ("default", dv)]) (EP X pins sg Qv) X.xe s := by
  have hname : (toString "min" ++ toString ".loop" : String) = "min.loop" := by decide
  cases d with
  | nod t all =>
    have z : Post (wd X) S (if seqTg t = true then (match mmL fc F all none S.c with
      | .ok (some (x, _)) c => .ok x c
      | .ok none c => .ok dd c
      | _ => .stk) else .stk) Qv E := z
    split at z
    · rename_i ht
      refine PyProof.Rows.kmk_tree PySem.F.kind_min PySem.F.plain_min PySem.F.entry_min (min_argsK _ _ _) ?_
      show wpAny _ X.A.in1 (Builtin.Builtins.bindParams "min" ["key", "default"] 0 ⟨[], [(Str.ofString "key", .ref q), (Str.ofString "default", dv)]⟩ >>= _) _ _ s
      refine wpAny_bind (wpAny_of_eq (show Builtin.Builtins.bindParams "min" ["key", "default"] 0 ⟨[], [(Str.ofString "key", .ref q), (Str.ofString "default", dv)]⟩ = pure [some (.ref q), some dv] from rfl) ?_)
      refine wpAny_bind (wpAny_pure ?_)
      obtain ⟨l, xs, rfl, hh, al⟩ := view_at g av (show view S.c (.nod t all) = some (t, all) from rfl)
      cases ru
      have J := inv1 I
      -- the iterator's object, the list of the best
      have fin : ∀ (oI : Obj) (tn : Nat → Heap → Prop) (sq : Hp → List V → Prop), Nxt X s.heap.objs.size tn sq → (∀ S1, Good (wd X) S1 → Ext0 (wd X) S S1 → ∃ xs, sq S1.H xs ∧ AtL (wd X) S1 xs all) → (∀ h, h.get? s.heap.objs.size = some oI → tn 0 h) → oI.isFreed = false →
          codeAny (model X.prog X.w) X.A (.builtin "min.loop" ⟨[.ref s.heap.objs.size, .ref q, .ref (s.heap.push oI).objs.size], [("default", dv)]⟩) (fun r s' => match r with
            | .ok (.ret v) => EP X pins sg Qv v s'
            | .ok _ => False
            | .error e => X.xe e s') { s with heap := (s.heap.push oI).push { cls := .type "list", data := .seq #[] } } := fun oI tn sq T stay h0 hfr => by
        have J1 : Inv (X1 X) pins sg S.H { s with heap := s.heap.push oI } := J.kept (t' := s.toks) fun b o e => Heap.get?_push_of_some _ e
        have hn : S.H (s.heap.push oI).objs.size = none := I.hok.fresh (by rw [Heap.size_push]; exact Nat.le_succ _)
        have J2 := J1.lnew (ys := []) (its := []) (t' := s.toks) .nil (Nat.zero_le _)
        obtain ⟨g1, k1⟩ := g.hide (o := .lst []) hn trivial
        have nI : s.heap.objs.size ≠ (s.heap.push oI).objs.size := by rw [Heap.size_push]; exact Nat.ne_of_lt (Nat.lt_succ_self _)
        have x0 : Ext0 (wd X) S (S.hide (s.heap.push oI).objs.size (.lst [])) := ⟨List.prefix_refl _, k1, fun a ha => ⟨List.mem_cons_of_mem _ ha, by
          obtain ⟨_, w, e, _⟩ := g.hid a ha
          exact upd_ne (ne_of_none e hn)⟩⟩
        cases hm : mmL fc F all none S.c with
        | stk => rw [hm] at z; exact z.elim
        | err y c => rw [hm] at z; exact z.elim
        | ok best cE =>
          rw [hm] at z
          refine min_loop (bl := []) (bo := none) G hr gd hb cmp T (g.freshX hn) nI stay (fun s' S' I' g' hx' hS' hc' x' => ?_) all.length 0 _ (S.hide (s.heap.push oI).objs.size (.lst [])) (Nat.zero_add _) J2 g1 rfl upd_same rfl x0
            (J.fpOk (Nat.le_refl _) ((upd_ne nI).trans (I.hok.fresh (Nat.le_refl _)))) (h0 _ (Heap.get?_push_of_some _ (Heap.get?_push_size _ hfr))) hm
          have sub : ∀ a ∈ S.x, a ∈ S'.x := fun a ha => by rw [hx']; exact List.mem_cons_of_mem _ ha
          have g2 := g'.tell sub
          have x2 : Ext (wd X) S (S'.tell S.x) := ⟨x'.pre, fun v d a => at_tell sub v d (x'.keep v d a), rfl, fun a ha => (x'.hid a ha).2⟩
          cases best with
          | none => exact ⟨vd, S'.H, inv0 I.ok I', rd, z (S'.tell S.x) vd g2 hc' x2 (x2.keep _ _ ad)⟩
          | some b =>
            obtain ⟨xb, kb⟩ := b
            exact fun ub vb rb ab => ⟨vb, S'.H, inv0 I.ok I', rb, z (S'.tell S.x) vb g2 hc' x2 (at_tell sub _ _ ab)⟩
      have stL : ∀ S1, Good (wd X) S1 → Ext0 (wd X) S S1 → (t = .lst ∨ t = .frl) → ∃ xs, SqL X.K S1.H l xs ∧ AtL (wd X) S1 xs all := fun S1 g1 x1 h => by
        obtain ⟨l', ys, e, hh1, al1⟩ := view_at g1 (x1.keep _ _ av) (show view S1.c (.nod t all) = some (t, all) from rfl)
        cases e
        rcases h with rfl | rfl
        · exact ⟨ys, .of (hold_L hh1), al1⟩
        · exact ⟨ys, hold_F hh1, al1⟩
      cases t with
      | lst =>
        obtain ⟨its, rv, pl, _⟩ := I.list (.of (hold_L hh))
        refine wpAny_bind (wpAny_pyIter_list pl.isList (wpAny_bind (wpAny_newList ?_ (Nat.zero_le _))))
        rw [hname]
        exact wpAny_pure ⟨plainId_quiet PySem.F.plain_min_loop _, fin _ _ _ (nxt_lst hc l _) (fun S1 g1 x1 => stL S1 g1 x1 (.inl rfl)) (fun h e => ⟨_, e, rfl, rfl⟩) rfl⟩
      | frl =>
        obtain ⟨its, rv, pl, _⟩ := I.list (hold_F hh)
        refine wpAny_bind (wpAny_pyIter_list pl.isList (wpAny_bind (wpAny_newList ?_ (Nat.zero_le _))))
        rw [hname]
        exact wpAny_pure ⟨plainId_quiet PySem.F.plain_min_loop _, fin _ _ _ (nxt_lst hc l _) (fun S1 g1 x1 => stL S1 g1 x1 (.inr rfl)) (fun h e => ⟨_, e, rfl, rfl⟩) rfl⟩
      | tup =>
        obtain ⟨its, rv, pl, _⟩ := I.tuple (hold_T hh)
        refine wpAny_bind (wpAny_pyIter_tuple (show s.heap.IsTuple l its.toArray from pl) (wpAny_bind (wpAny_newList ?_ (Nat.zero_le _))))
        rw [hname]
        refine wpAny_pure ⟨plainId_quiet PySem.F.plain_min_loop _, fin _ _ _ (nxt_tup hc l _) (fun S1 g1 x1 => ?_) (fun h e => ⟨_, e, rfl, rfl⟩) rfl⟩
        obtain ⟨l', ys, e, hh1, al1⟩ := view_at g1 (x1.keep _ _ av) (show view S1.c (.nod .tup all) = some (.tup, all) from rfl)
        cases e
        exact ⟨ys, hold_T hh1, al1⟩
      | _ => cases ht
    · exact z.elim
  | _ => exact z.elim
end
end Q
end
section
set_option Elab.async false
set_option linter.all false
set_option maxRecDepth 100000
namespace Q
open PySem PySem.Spec L2
variable [Tb]
theorem max_argsK (a k v : Value) : argsOk "max" ⟨[a], [(Str.ofString "key", k), (Str.ofString "default", v)]⟩ := by unfold argsOk; kernel_rfl
section
variable {X : Cx} {W : WX} {pins : List (Addr × Obj)} {sg : L2.St}
theorem max_loop {q I Sa : Addr} {kk : Nat} {fd : FuncData} {p : Str} {F : FD} {fc : D → D → Cells → O} {tn : Nat → Heap → Prop} {sq : Hp → List V → Prop} {S0 : Sta} {all : List D} {best : Option (D × D)} {cE : Cells} {dv : Value} {Rz : Result → Shared → Prop}
    (G : FnG X.prog X.w X.K X.mg X.base kk q fd [p] F) (hr : Room kk (X1 X).A) (gd : X.A.guards = some []) (hb : Binds X.K fd [p] []) (cmp : OpF (X1 X) (compareOp .Gt) fc) (T : Nxt X I tn sq) (g0 : Sa ∉ S0.x) (nI : I ≠ Sa)
    (stay : ∀ S1, Good (wd X) S1 → Ext0 (wd X) S0 S1 → ∃ xs, sq S1.H xs ∧ AtL (wd X) S1 xs all)
    (hR : ∀ s' S', Inv (X1 X) pins sg S'.H s' → Good (wd X) S' → S'.x = Sa :: S0.x → S'.H Sa = some (.lst []) → S'.c = cE → Ext0 (wd X) S0 S' → (match best with
      | some (d, _) => ∀ u v, RelV v u → At (wd X) S' v d → Rz (.ok (.ret u)) s'
      | none => Rz (.ok (.ret dv)) s')) :
    ∀ (n i : Nat) (s1 : Shared) (S1 : Sta) (bl : List V) (bo : Option (D × D)), i + n = all.length → Inv (X1 X) pins sg S1.H s1 → Good (wd X) S1 → S1.x = Sa :: S0.x → S1.H Sa = some (.lst bl) → BestAt (wd X) S1 bl bo → Ext0 (wd X) S0 S1 → FpOk (X1 X) pins S1.H I → tn i s1.heap →
      mmL fc F (all.drop i) bo S1.c = .ok best cE → codeAny (model X.prog X.w) X.A (.builtin "max.loop" ⟨[.ref I, .ref q, .ref Sa], [("default", dv)]⟩) Rz s1 := by
  have hname : (toString "max" ++ toString ".loop" : String) = "max.loop" := by decide
  intro n
  induction n with
  | zero =>
    intro i s1 S1 bl bo hi I1 g1 hx hS hB x1 fI st hm
    have hl : i = all.length := by omega
    subst hl
    rw [List.drop_length] at hm
    have hm : R.ok bo S1.c = R.ok best cE := hm
    cases hm
    obtain ⟨xs, hq, al⟩ := stay S1 g1 x1
    obtain ⟨_, its, m, rv, hlen, e⟩ := I1.lstM hS
    refine codeAny_builtin PySem.F.entry_max_loop ?_
    rw [Around.under_plainId PySem.F.plain_max_loop _]
    show wpAny _ X.A.in1 (seqItems? (.ref Sa) >>= _) _ _ _
    refine wpAny_bind (wpAny_seqItems e rfl ?_)
    show wpAny _ X.A.in1 (tryCatch (pyNext (.ref I)) _ >>= _) _ _ _
    refine wpAny_bind (wpAny_tryCatch (T.done pins s1 sg S1.H xs _ _ I1 fI (by rw [al.len]; exact st) hq fun s2 I2 => ?_))
    obtain ⟨_, jts, m2, rv2, hlen2, e2⟩ := I2.lstM hS
    cases best with
    | none =>
      have hB : bl = [] := hB
      subst hB
      cases rv
      show wpAny _ X.A.in1 (rule _ >>= _) _ _ _
      refine wpAny_bind (wpAny_rule (wpAny_pure ?_))
      exact hR s2 S1 I2 g1 hx hS rfl x1
    | some b =>
      obtain ⟨d, kd⟩ := b
      obtain ⟨vb, vk, rfl, ab, ak⟩ := AtL.two (show AtL (wd X) S1 bl [d, kd] from hB)
      obtain ⟨ub, uk, rfl, rb, rk⟩ := vals2 rv
      show wpAny _ X.A.in1 (updateSeq Sa (fun _ => #[]) >>= _) _ _ _
      obtain ⟨S2, hc2, I3, g3, hx3, hS3, _, x3, k3, _⟩ := seth_ok (bl' := []) (b' := none) (its' := []) (f := fun _ => #[]) g0 I2 g1 hx hS x1 e2 rfl .nil (by simp) rfl
      refine wpAny_bind (wpAny_updateSeq e2 rfl (wpAny_bind (wpAny_letGo (wpAny_pure ?_))))
      exact hR _ S2 I3 g3 hx3 hS3 hc2 x3 ub vb rb (k3 _ _ ab)
  | succ n ih =>
    intro i s1 S1 bl bo hi I1 g1 hx hS hB x1 fI st hm
    obtain ⟨xs, hq, al⟩ := stay S1 g1 x1
    have hil : i < all.length := by omega
    have hd : all[i]? = some all[i] := List.getElem?_eq_getElem hil
    obtain ⟨x, hxi, ax⟩ := al.get hd
    obtain ⟨_, its, m, rv, hlen, e⟩ := I1.lstM hS
    rw [List.drop_eq_getElem_cons hil] at hm
    refine codeAny_builtin PySem.F.entry_max_loop ?_
    rw [Around.under_plainId PySem.F.plain_max_loop _]
    show wpAny _ X.A.in1 (seqItems? (.ref Sa) >>= _) _ _ _
    refine wpAny_bind (wpAny_seqItems e rfl ?_)
    show wpAny _ X.A.in1 (tryCatch (pyNext (.ref I)) _ >>= _) _ _ _
    refine wpAny_bind (wpAny_tryCatch (T.item i pins s1 sg S1.H xs x _ _ I1 fI st hq hxi fun u s2 ru I2 st2 => ?_))
    -- the key
    obtain ⟨oI, hoI, hcI⟩ := T.obj _ _ st2
    have I2p := I2.pinned (fp := [I]) (fun b hb => by rw [List.mem_singleton.mp hb]; exact fI) (fun b hb => by rw [List.mem_singleton.mp hb]; exact ⟨oI, hoI, hcI⟩)
    have pI : ∀ {H' : Hp} {s' : Shared}, Inv (X1 X) (pins ++ pinsAt [I] s2.heap) sg H' s' → s'.heap.get? I = some oI ∧ H' I = none := fun {H' s'} J =>
      let z := J.pin (I, oI) (List.mem_append_right _ (List.mem_append_right _ (mem_pinsAt (List.mem_singleton.mpr rfl) hoI)))
      ⟨z.1, z.2.1⟩
    show wpAny _ X.A.in1 (tryCatch (holding [u] (call (.ref q) [u])) _ >>= _) _ _ _
    unfold mmL at hm
    cases hk : F [all[i]] S1.c with
    | stk => rw [hk] at hm; cases hm
    | err y c => rw [hk] at hm; cases hm
    | ok kd c1 =>
      rw [hk] at hm
      have gk : ∀ {Qk : VK}, (∀ S2 v, Good (wd X) S2 → S2.c = c1 → Ext (wd X) S1 S2 → At (wd X) S2 v kd → Qk v S2.H) → Post (wd X) S1 (F [all[i]] S1.c) Qk (fun _ _ _ => False) := fun {Qk} h => by
        rw [hk]
        exact h
      refine wpAny_bind (wpAny_tryCatch (wpAny_holding (wpAny_call (codeAny_mono (run_g (X := X1 X) (vs := [x]) (ds := [all[i]]) (Qv := fun v H' => ∃ S2, S2.H = H' ∧ Good (wd X) S2 ∧ S2.c = c1 ∧ Ext (wd X) S1 S2 ∧ At (wd X) S2 v kd) G hr gd LamX.takes0 (hb s2 [u] I2.kIn rfl) I2p (.cons ru .nil) g1 ⟨ax, trivial⟩ rfl
        (gk fun S2 v g hc xx a => ⟨S2, rfl, g, hc, xx, a⟩)) fun rr s3 hq3 => ?_))))
      match rr, hq3 with
      | .error e, hq3 => exact hq3.elim
      | .ok (.ret uk), hq3 =>
        obtain ⟨vk, H3, I3, rk, S3, rfl, g3, hc3, x13, ak⟩ := hq3
        obtain ⟨hoI3, nI3⟩ := pI I3
        have st3 : tn (i + 1) s3.heap := T.keep _ _ _ st2 fun o ho => by rw [hoI] at ho; cases ho; exact hoI3
        have hx3 : S3.x = Sa :: S0.x := x13.hx.trans hx
        have hS3 : S3.H Sa = some (.lst bl) := (x13.hh Sa (by rw [hx]; exact List.mem_cons_self)).trans hS
        have x03 := x1.trans x13.zero
        have nx : ∀ {s5 : Shared} {S5 : Sta} {bl5 : List V} {bo5 : Option (D × D)}, Inv (X1 X) pins sg S5.H s5 → Good (wd X) S5 → S5.x = Sa :: S0.x → S5.H Sa = some (.lst bl5) → BestAt (wd X) S5 bl5 bo5 → Ext0 (wd X) S0 S5 → S5.H I = none → tn (i + 1) s5.heap → mmL fc F (all.drop (i + 1)) bo5 S5.c = .ok best cE →
            codeAny (model X.prog X.w) X.A (.builtin "max.loop" ⟨[.ref I, .ref q, .ref Sa], [("default", dv)]⟩) Rz s5 := fun {s5 S5 bl5 bo5} a1 a2 a3 a4 a5 a6 a7 a8 a9 => ih (i + 1) s5 S5 bl5 bo5 (by omega) a1 a2 a3 a4 a5 a6 (FpOk.at fI a7) a8 a9
        have put : ∀ {s5 : Shared} {S5 : Sta} {jts : List Value} {m5 : Nat}, Inv (X1 X) (pins ++ pinsAt [I] s2.heap) sg S5.H s5 → Good (wd X) S5 → Ext (wd X) S1 S5 → At (wd X) S5 vk kd → s5.heap.get? Sa = some { cls := .type "list", data := .seq jts.toArray m5 } → mmL fc F (all.drop (i + 1)) (some (all[i], kd)) S5.c = .ok best cE →
            codeAny (model X.prog X.w) X.A (.builtin "max.loop" ⟨[.ref I, .ref q, .ref Sa], [("default", dv)]⟩) Rz { s5 with heap := s5.heap.update Sa (Obj.mapSeq fun _ => #[u, uk]) } := fun {s5 S5 jts m5} I5 g5 x15 a5 e0 hm => by
          obtain ⟨h1, h2⟩ := pI I5
          have hS5 : S5.H Sa = some (.lst bl) := (x15.hh Sa (by rw [hx]; exact List.mem_cons_self)).trans hS
          obtain ⟨S4, hc4, I4, g4, hx4, hS4, hB4, x4, k4, ne4⟩ := seth_ok (bl' := [x, vk]) (b' := some (all[i], kd)) (its' := [u, uk]) (f := fun _ => #[u, uk]) g0 I5.unpinned g5 (x15.hx.trans hx) hS5 (x1.trans x15.zero) e0 rfl (.cons ru (.cons rk .nil)) (by simp) ⟨x15.keep _ _ ax, a5, trivial⟩
          refine nx I4 g4 hx4 hS4 hB4 x4 (by rw [ne4 I nI]; exact h2) ?_ (by rw [hc4]; exact hm)
          exact T.keep _ _ _ st2 fun o ho => (Heap.get?_update_other s5.heap _ (Ne.symm nI)).trans (by rw [hoI] at ho; cases ho; exact h1)
        obtain ⟨_, jts, m3, rv3, hlen3, e3⟩ := I3.lstM hS3
        cases bo with
        | none =>
          have hB : bl = [] := hB
          subst hB
          cases rv
          show wpAny _ X.A.in1 (updateSeq Sa (fun _ => #[u, uk]) >>= _) _ _ _
          refine wpAny_bind (wpAny_updateSeq e3 rfl ?_)
          rw [hname]
          subst hc3
          exact wpAny_pure ⟨plainId_quiet PySem.F.plain_max_loop _, put I3 g3 x13 ak e3 hm⟩
        | some b =>
          obtain ⟨d0, k0⟩ := b
          obtain ⟨vb, vk0, rfl, ab, ak0⟩ := AtL.two (show AtL (wd X) S1 bl [d0, k0] from hB)
          obtain ⟨ub, uk0, rfl, rb, rk0⟩ := vals2 rv
          subst hc3
          have hm : (match fc kd k0 S3.c with
            | some (.bl true, c') => mmL fc F (all.drop (i + 1)) (some (all[i], kd)) c'
            | some (.bl false, c') => mmL fc F (all.drop (i + 1)) (some (d0, k0)) c'
            | _ => .stk) = .ok best cE := hm
          obtain ⟨rc, ho, hs⟩ := cmp
          show wpAny _ X.A.in1 (tryCatch (holding [u, uk] (compareOp .Gt uk uk0 >>= _)) _ >>= _) _ _ _
          cases hf : fc kd k0 S3.c with
          | none => rw [hf] at hm; cases hm
          | some pr =>
            obtain ⟨rd, c4⟩ := pr
            rw [hf] at hm
            have kc := ho (pins ++ pinsAt [I] s2.heap) s3 sg S3.H vk vk0 uk uk0 (fun v H' => ∃ S4, S4.H = H' ∧ Good (wd X) S4 ∧ S4.c = c4 ∧ Ext (wd X) S3 S4 ∧ At (wd X) S4 v rd) I3 rk rk0 (hs S3 vk vk0 kd k0 _ g3 ak (x13.keep _ _ ak0) (by rw [hf]; exact fun S4 v g hc xx a => ⟨S4, rfl, g, hc, xx, a⟩))
            refine wpAny_bind (wpAny_tryCatch (wpAny_holding (wpAny_bind (wpAny_mono kc (fun w2 s4 hw => ?_) fun _ _ z => z.elim))))
            obtain ⟨vr, H4, I4, rr, S4, rfl, g4, hc4, x34, ar⟩ := hw
            have x14 := x13.trans x34
            have hS4 : S4.H Sa = some (.lst [vb, vk0]) := (x14.hh Sa (by rw [hx]; exact List.mem_cons_self)).trans hS
            obtain ⟨_, jt4, m4, rv4, hlen4, e4⟩ := I4.lstM hS4
            subst hc4
            obtain ⟨h1, h2⟩ := pI I4
            cases rd with
            | bl b =>
              cases (show vr = .bl b from ar)
              cases (show w2 = Value.bool b from rr)
              refine wpAny_bind (wpAny_holding (wpAny_truthy_bool (wpAny_bind (wpAny_letGo (wpAny_pure ?_)))))
              cases b with
              | true =>
                rw [if_pos rfl]
                refine wpAny_bind (wpAny_updateSeq e4 rfl (wpAny_bind (wpAny_letGo ?_)))
                rw [hname]
                exact wpAny_pure ⟨plainId_quiet PySem.F.plain_max_loop _, put I4 g4 x14 (x34.keep _ _ ak) e4 hm⟩
              | false =>
                rw [if_neg Bool.false_ne_true]
                refine wpAny_bind (wpAny_letGo ?_)
                rw [hname]
                refine wpAny_pure ⟨plainId_quiet PySem.F.plain_max_loop _, nx (bo5 := some (d0, k0)) I4.unpinned g4 (x14.hx.trans hx) hS4 ⟨x14.keep _ _ ab, x14.keep _ _ ak0, trivial⟩ (x1.trans x14.zero) h2 ?_ hm⟩
                exact T.keep _ _ _ st2 fun o ho => by rw [hoI] at ho; cases ho; exact h1
            | _ => cases hm
theorem call_maxK {q : Addr} {kk : Nat} {fd : FuncData} {p : Str} {F : FD} {fc : D → D → Cells → O} {S : Sta} {s : Shared} {v vd : V} {u dv : Value} {d dd : D} {Qv : VK} {E : XK} (hc : X.calm = true) (G : FnG X.prog X.w X.K X.mg X.base kk q fd [p] F) (hr : Room kk (X1 X).A) (gd : X.A.guards = some []) (hb : Binds X.K fd [p] []) (cmp : OpF (X1 X) (compareOp .Gt) fc)
    (I : Inv X pins sg S.H s) (g : Good (wd X) S) (ru : RelV v u) (av : At (wd X) S v d) (rd : RelV vd dv) (ad : At (wd X) S vd dd) (z : Post (wd X) S (mmF fc F d dd S.c) Qv E) :
    wpAny (model X.prog X.w) X.A (call (.builtin "max") [u] [("key", .ref q), ("default", dv)]) (EP X pins sg Qv) X.xe s := by
  have hname : (toString "max" ++ toString ".loop" : String) = "max.loop" := by decide
  cases d with
  | nod t all =>
    have z : Post (wd X) S (if seqTg t = true then (match mmL fc F all none S.c with
      | .ok (some (x, _)) c => .ok x c
      | .ok none c => .ok dd c
      | _ => .stk) else .stk) Qv E := z
    split at z
    · rename_i ht
      refine PyProof.Rows.kmk_tree PySem.F.kind_max PySem.F.plain_max PySem.F.entry_max (max_argsK _ _ _) ?_
      show wpAny _ X.A.in1 (Builtin.Builtins.bindParams "max" ["key", "default"] 0 ⟨[], [(Str.ofString "key", .ref q), (Str.ofString "default", dv)]⟩ >>= _) _ _ s
      refine wpAny_bind (wpAny_of_eq (show Builtin.Builtins.bindParams "max" ["key", "default"] 0 ⟨[], [(Str.ofString "key", .ref q), (Str.ofString "default", dv)]⟩ = pure [some (.ref q), some dv] from rfl) ?_)
      refine wpAny_bind (wpAny_pure ?_)
      obtain ⟨l, xs, rfl, hh, al⟩ := view_at g av (show view S.c (.nod t all) = some (t, all) from rfl)
      cases ru
      have J := inv1 I
      -- the iterator's object, the list of the best
      have fin : ∀ (oI : Obj) (tn : Nat → Heap → Prop) (sq : Hp → List V → Prop), Nxt X s.heap.objs.size tn sq → (∀ S1, Good (wd X) S1 → Ext0 (wd X) S S1 → ∃ xs, sq S1.H xs ∧ AtL (wd X) S1 xs all) → (∀ h, h.get? s.heap.objs.size = some oI → tn 0 h) → oI.isFreed = false →
          codeAny (model X.prog X.w) X.A (.builtin "max.loop" ⟨[.ref s.heap.objs.size, .ref q, .ref (s.heap.push oI).objs.size], [("default", dv)]⟩) (fun r s' => match r with
            | .ok (.ret v) => EP X pins sg Qv v s'
            | .ok _ => False
            | .error e => X.xe e s') { s with heap := (s.heap.push oI).push { cls := .type "list", data := .seq #[] } } := fun oI tn sq T stay h0 hfr => by
        have J1 : Inv (X1 X) pins sg S.H { s with heap := s.heap.push oI } := J.kept (t' := s.toks) fun b o e => Heap.get?_push_of_some _ e
        have hn : S.H (s.heap.push oI).objs.size = none := I.hok.fresh (by rw [Heap.size_push]; exact Nat.le_succ _)
        have J2 := J1.lnew (ys := []) (its := []) (t' := s.toks) .nil (Nat.zero_le _)
        obtain ⟨g1, k1⟩ := g.hide (o := .lst []) hn trivial
        have nI : s.heap.objs.size ≠ (s.heap.push oI).objs.size := by rw [Heap.size_push]; exact Nat.ne_of_lt (Nat.lt_succ_self _)
        have x0 : Ext0 (wd X) S (S.hide (s.heap.push oI).objs.size (.lst [])) := ⟨List.prefix_refl _, k1, fun a ha => ⟨List.mem_cons_of_mem _ ha, by
          obtain ⟨_, w, e, _⟩ := g.hid a ha
          exact upd_ne (ne_of_none e hn)⟩⟩
        cases hm : mmL fc F all none S.c with
        | stk => rw [hm] at z; exact z.elim
        | err y c => rw [hm] at z; exact z.elim
        | ok best cE =>
          rw [hm] at z
          refine max_loop (bl := []) (bo := none) G hr gd hb cmp T (g.freshX hn) nI stay (fun s' S' I' g' hx' hS' hc' x' => ?_) all.length 0 _ (S.hide (s.heap.push oI).objs.size (.lst [])) (Nat.zero_add _) J2 g1 rfl upd_same rfl x0
            (J.fpOk (Nat.le_refl _) ((upd_ne nI).trans (I.hok.fresh (Nat.le_refl _)))) (h0 _ (Heap.get?_push_of_some _ (Heap.get?_push_size _ hfr))) hm
          have sub : ∀ a ∈ S.x, a ∈ S'.x := fun a ha => by rw [hx']; exact List.mem_cons_of_mem _ ha
          have g2 := g'.tell sub
          have x2 : Ext (wd X) S (S'.tell S.x) := ⟨x'.pre, fun v d a => at_tell sub v d (x'.keep v d a), rfl, fun a ha => (x'.hid a ha).2⟩
          cases best with
          | none => exact ⟨vd, S'.H, inv0 I.ok I', rd, z (S'.tell S.x) vd g2 hc' x2 (x2.keep _ _ ad)⟩
          | some b =>
            obtain ⟨xb, kb⟩ := b
            exact fun ub vb rb ab => ⟨vb, S'.H, inv0 I.ok I', rb, z (S'.tell S.x) vb g2 hc' x2 (at_tell sub _ _ ab)⟩
      have stL : ∀ S1, Good (wd X) S1 → Ext0 (wd X) S S1 → (t = .lst ∨ t = .frl) → ∃ xs, SqL X.K S1.H l xs ∧ AtL (wd X) S1 xs all := fun S1 g1 x1 h => by
        obtain ⟨l', ys, e, hh1, al1⟩ := view_at g1 (x1.keep _ _ av) (show view S1.c (.nod t all) = some (t, all) from rfl)
        cases e
        rcases h with rfl | rfl
        · exact ⟨ys, .of (hold_L hh1), al1⟩
        · exact ⟨ys, hold_F hh1, al1⟩
      cases t with
      | lst =>
        obtain ⟨its, rv, pl, _⟩ := I.list (.of (hold_L hh))
        refine wpAny_bind (wpAny_pyIter_list pl.isList (wpAny_bind (wpAny_newList ?_ (Nat.zero_le _))))
        rw [hname]
        exact wpAny_pure ⟨plainId_quiet PySem.F.plain_max_loop _, fin _ _ _ (nxt_lst hc l _) (fun S1 g1 x1 => stL S1 g1 x1 (.inl rfl)) (fun h e => ⟨_, e, rfl, rfl⟩) rfl⟩
      | frl =>
        obtain ⟨its, rv, pl, _⟩ := I.list (hold_F hh)
        refine wpAny_bind (wpAny_pyIter_list pl.isList (wpAny_bind (wpAny_newList ?_ (Nat.zero_le _))))
        rw [hname]
        exact wpAny_pure ⟨plainId_quiet PySem.F.plain_max_loop _, fin _ _ _ (nxt_lst hc l _) (fun S1 g1 x1 => stL S1 g1 x1 (.inr rfl)) (fun h e => ⟨_, e, rfl, rfl⟩) rfl⟩
      | tup =>
        obtain ⟨its, rv, pl, _⟩ := I.tuple (hold_T hh)
        refine wpAny_bind (wpAny_pyIter_tuple (show s.heap.IsTuple l its.toArray from pl) (wpAny_bind (wpAny_newList ?_ (Nat.zero_le _))))
        rw [hname]
        refine wpAny_pure ⟨plainId_quiet PySem.F.plain_max_loop _, fin _ _ _ (nxt_tup hc l _) (fun S1 g1 x1 => ?_) (fun h e => ⟨_, e, rfl, rfl⟩) rfl⟩
        obtain ⟨l', ys, e, hh1, al1⟩ := view_at g1 (x1.keep _ _ av) (show view S1.c (.nod .tup all) = some (.tup, all) from rfl)
        cases e
        exact ⟨ys, hold_T hh1, al1⟩
      | _ => cases ht
    · exact z.elim
  | _ => exact z.elim
/-! ### < and > of tuples of ints -/
def fLtT (x y : D) (c : Cells) : O := match view c x, view c y with
  | some (.tup, xs), some (.tup, ys) => match intL xs, intL ys with
    | some ns, some ms => some (.bl (HT.lexLt ns ms), c)
    | _, _ => none
  | _, _ => none
theorem fLtT_ok (hu : X.A.units < cLine) : OpF X (compareOp .Lt) fLtT := by
  refine ⟨_, op_ltT hu, fun S x y dx dy Qv g ax ay p => ?_⟩
  obtain ⟨d, c, e, q⟩ := p.some
  unfold fLtT at e
  split at e
  · rename_i xs ys e1 e2
    split at e
    · rename_i ns ms e3 e4
      cases e
      obtain ⟨a, us, rfl, h1, l1⟩ := view_at g ax e1
      obtain ⟨b, ws, rfl, h2, l2⟩ := view_at g ay e2
      have u1 := intL_at e3 l1
      have u2 := intL_at e4 l2
      subst u1 u2
      exact ⟨a, b, ns, ms, rfl, rfl, hold_T h1, hold_T h2, q S _ g rfl .refl rfl⟩
    · cases e
  · cases e
def rGtT (K : PySem.W.Frag) : R2 := fun x y H Qv => ∃ (a b : Addr) (ns ms : List Int), x = .ref a ∧ y = .ref b ∧ SqT K H a (ns.map V.int) ∧ SqT K H b (ms.map V.int) ∧
  Qv (.bl (Ob.lexAt (fun j => decide (ns.getD j 0 = ms.getD j 0)) (fun j => decide (ms.getD j 0 < ns.getD j 0)) (decide (ns.length > ms.length)) 0 (min ns.length ms.length))) H
theorem op_gtT (hu : X.A.units < cLine) : OpR X (compareOp .Gt) (rGtT X.K) := by
  intro pins s sg H x y v u Qv I rx ry h
  obtain ⟨a, b, ns, ms, rfl, rfl, ha, hb, q⟩ := h
  cases rx
  cases ry
  obtain ⟨its, r1, p1, _⟩ := I.tuple ha
  obtain ⟨jts, r2, p2, _⟩ := I.tuple hb
  have i1 := Vals.ints r1
  have i2 := Vals.ints r2
  have k1 : its.toArray.size = ns.length := (List.size_toArray ..).trans i1.length
  have k2 : jts.toArray.size = ms.length := (List.size_toArray ..).trans i2.length
  have t1 : ∀ j (hj : j < its.toArray.size), ∃ t, its.toArray[j] = .int (ns.getD j 0) t := fun j hj => PyProof.Rows.IntsAre.int_at i1 _ _ (by simp at hj; simp [hj])
  have t2 : ∀ j (hj : j < jts.toArray.size), ∃ t, jts.toArray[j] = .int (ms.getD j 0) t := fun j hj => PyProof.Rows.IntsAre.int_at i2 _ _ (by simp at hj; simp [hj])
  have R := Ob.RcOp.tuples_gt (A := X.A) (s := s) (e := fun j => decide (ns.getD j 0 = ms.getD j 0)) (r := fun j => decide (ms.getD j 0 < ns.getD j 0)) p1 p2 hu (fun j h1 h2 => ?_) (fun j h1 h2 _ => ?_)
  · rw [k1, k2] at R
    exact R X.prog X.w X.xe (EP X pins sg Qv) ⟨.bl _, H, I, rfl, q⟩
  · obtain ⟨t, et⟩ := t1 j h1
    obtain ⟨t', et'⟩ := t2 j h2
    rw [et, et', show decide (ns.getD j 0 = ms.getD j 0) = (ns.getD j 0 == ms.getD j 0) from rfl]
    exact SeqAt.EqAt.int_int _ _ _ _
  · obtain ⟨t, et⟩ := t1 j h1
    obtain ⟨t', et'⟩ := t2 j h2
    rw [et, et']
    exact Ob.RcOp.gt_int _ _ _ _
def gtL : List Int → List Int → Bool
  | [], _ => false
  | _ :: _, [] => true
  | x :: xs, y :: ys => if x = y then gtL xs ys else decide (y < x)
theorem gtL_lex : ∀ (ns ms : List Int), Ob.lexAt (fun j => decide (ns.getD j 0 = ms.getD j 0)) (fun j => decide (ms.getD j 0 < ns.getD j 0)) (decide (ns.length > ms.length)) 0 (min ns.length ms.length) = gtL ns ms
  | [], ms => by
    rw [List.length_nil, Nat.zero_min, Ob.lexAt_zero]
    simp [gtL]
  | x :: ns, [] => by
    rw [List.length_nil, Nat.min_zero, Ob.lexAt_zero]
    simp [gtL]
  | x :: ns, y :: ms => by
    have ih := gtL_lex ns ms
    rw [List.length_cons, List.length_cons, Nat.succ_min_succ, Ob.lexAt_succ, lexAt_shift]
    simp only [List.getD_cons_zero, List.getD_cons_succ, gtL, decide_eq_true_eq]
    rw [show decide (ns.length + 1 > ms.length + 1) = decide (ns.length > ms.length) by simp, ih]
def fGtT (x y : D) (c : Cells) : O := match view c x, view c y with
  | some (.tup, xs), some (.tup, ys) => match intL xs, intL ys with
    | some ns, some ms => some (.bl (gtL ns ms), c)
    | _, _ => none
  | _, _ => none
theorem fGtT_ok (hu : X.A.units < cLine) : OpF X (compareOp .Gt) fGtT := by
  refine ⟨_, op_gtT hu, fun S x y dx dy Qv g ax ay p => ?_⟩
  obtain ⟨d, c, e, q⟩ := p.some
  unfold fGtT at e
  split at e
  · rename_i xs ys e1 e2
    split at e
    · rename_i ns ms e3 e4
      cases e
      obtain ⟨a, us, rfl, h1, l1⟩ := view_at g ax e1
      obtain ⟨b, ws, rfl, h2, l2⟩ := view_at g ay e2
      have u1 := intL_at e3 l1
      have u2 := intL_at e4 l2
      subst u1 u2
      exact ⟨a, b, ns, ms, rfl, rfl, hold_T h1, hold_T h2, q S _ g rfl .refl (by rw [gtL_lex]; rfl)⟩
    · cases e
  · cases e
/-! ### min(xs, key = f, default = e) -/
def mMM (fc : D → D → Cells → O) (F : FD) (ma md : ME) : ME := fun env c => (ma env c).bind fun d c => (md env c).bind fun dd c => mmF fc F d dd c
theorem se_mm {nm : Str} {id : String} {q : Addr} {F : FD} {fc : D → D → Cells → O} {a e kx : Expr} {ma md : ME} {kp dp p pos : Pos}
    (hcall : ∀ (S : Sta) (s : Shared) (v vd : V) (u dv : Value) (d dd : D) (Qv : VK) (E : XK) (pins : List (Addr × Obj)) (sg : L2.St), Inv X pins sg S.H s → Good (wd X) S → RelV v u → At (wd X) S v d → RelV vd dv → At (wd X) S vd dd → Post (wd X) S (mmF fc F d dd S.c) Qv E →
      wpAny (model X.prog X.w) X.A (call (.builtin id) [u] [("key", .ref q), ("default", dv)]) (EP X pins sg Qv) X.xe s)
    (hm : X.mg nm = none) (ha : SE X W a ma) (hk : PE X kx (tC (.ref q))) (hd : SE X W e md) (hg : Gl X nm := by rfl) (hv : bootBuiltins nm = some (.builtin id) := by decide +kernel) (hn : nm ≠ "__name__" := by decide) (hdb : (nm == ("__debug__" : Str)) = false := by decide)
    (he : backTo pos (starEach [a] X.env) = (false, eval a X.env) :: backTo pos (starEach [] X.env) := by rfl) (hpl : (backTo pos (starEach [a] X.env)).any (·.1) = false := by rfl) (hs : starEach [a] X.env = (false, eval a X.env) :: starEach [] X.env := by rfl)
    (hall : (backToKw pos (keywordEach [⟨some "key", kx, kp⟩, ⟨some "default", e, dp⟩] X.env)).all (·.1.isSome) = true := by rfl) (hnone : (backToKw pos (keywordEach [⟨some "key", kx, kp⟩, ⟨some "default", e, dp⟩] X.env)).any (·.1.isNone) = false := by rfl)
    (hks : (backToKw pos (keywordEach [⟨some "key", kx, kp⟩, ⟨some "default", e, dp⟩] X.env)).filterMap (·.1) = ([Str.ofString "key", Str.ofString "default"] : List Str) := by rfl) :
    SE X W (.Call (.Name nm p) [a] [⟨some "key", kx, kp⟩, ⟨some "default", e, dp⟩] pos) (mMM fc F ma md) := by
  obtain ⟨ta, pa, qa⟩ := ha
  obtain ⟨td, pd, qd⟩ := hd
  refine ⟨tE (wd X) (mMM fc F ma md) W, ⟨fun pins s sg H Qv I h0 => ?_⟩, fun S sg env Qv g en z => ⟨S, env, rfl, g, en, z⟩⟩
  obtain ⟨S, env, rfl, g, en, z⟩ := h0
  refine wpAny_Call_Name_kw (ld_blt I hg hm hv ?_ hn hdb)
  refine PyProof.Rows.callWith_kw (thn ((pa_cons pa pa_nil hs).run pos pins _ sg S.H (fun vs H1 => ∃ S1 v d, vs = [v] ∧ S1.H = H1 ∧ Good (wd X) S1 ∧ EnvAt (wd X) S1 sg env ∧ At (wd X) S1 v d ∧ Post (wd X) S1 ((md env S1.c).bind fun dd c => mmF fc F d dd c) Qv (WE W sg)) (I.tok _) ?_) fun us s1 hh => ?_) he hpl hall hnone
  · exact qa S sg env _ g en (post_bind z fun d S1 v e1 g1 x1 a1 p1 => ⟨S1, v, d, rfl, rfl, g1, en.ext x1, a1, p1⟩)
  · obtain ⟨vs, H1, I1, r1, S1, v, d, rfl, rfl, g1, en1, a1, p1⟩ := hh
    refine thn ((pk_cons hk (pk_cons pd pk_nil)).run pos pins s1 sg S1.H (fun zs H2 => ∃ S2 vd dd, zs = [.ref q, vd] ∧ S2.H = H2 ∧ Good (wd X) S2 ∧ At (wd X) S2 v d ∧ At (wd X) S2 vd dd ∧ Post (wd X) S2 (mmF fc F d dd S2.c) Qv (WE W sg)) I1 ?_) fun ws s2 hh => ?_
    · exact qd S1 sg env _ g1 en1 (post_bind p1 fun dd S2 vd e2 g2 x2 a2 p2 => ⟨S2, vd, dd, rfl, rfl, g2, x2.keep _ _ a1, a2, p2⟩)
    · obtain ⟨zs, H2, I2, r2, S2, vd, dd, rfl, rfl, g2, b1, b2, p2⟩ := hh
      rw [hks]
      obtain ⟨u, rfl, ru⟩ := vals1 r1
      obtain ⟨w1, w2, rfl, rw1, rw2⟩ := vals2 r2
      cases rw1
      exact hcall S2 s2 v vd u w2 d dd Qv _ pins sg I2 g2 ru b1 rw2 b2 p2
end
end Q
end
section
set_option Elab.async false
set_option linter.all false
set_option maxRecDepth 100000
namespace Q
open PySem PySem.Spec L2
variable [Tb]
section
variable {X : Cx} {W : WX} {pos : Pos} {x : Str}
/-! ### names in short -/
theorem v (i : Nat) (hN : X.N[i]? = some x := by rfl) (hv : Vis X.env.scope x := by first | exact Or.inl rfl | exact Or.inr (Or.inl rfl) | exact Or.inr (Or.inr rfl)) (hd : (x == ("__debug__" : Str)) = false := by decide)
    (hcd : (x == ("__classdict__" : Str)) = false := by decide) : SE X W (.Name x pos) (mVar i) := se_var (pe_var hN hv hd hcd)
theorem gStr {y : Str} {t : Tok} (hm : X.mg x = some (.str y t)) (hg : Gl X x := by rfl) (hd : (x == ("__debug__" : Str)) = false := by decide) : SE X W (.Name x pos) (mC (.str y)) :=
  se_glob (v := .str y) (pe_glob hg hm ⟨t, rfl⟩ hd) fun _ _ => rfl
theorem gInt {y : Int} {t : Tok} (hm : X.mg x = some (.int y t)) (hg : Gl X x := by rfl) (hd : (x == ("__debug__" : Str)) = false := by decide) : SE X W (.Name x pos) (mC (.int y)) :=
  se_glob (v := .int y) (pe_glob hg hm ⟨t, rfl⟩ hd) fun _ _ => rfl
theorem gTy {T : String} (hm : X.mg x = none) (hg : Gl X x := by rfl) (hv : bootBuiltins x = some (.type T) := by decide +kernel) (hn : x ≠ "__name__" := by decide) (hd : (x == ("__debug__" : Str)) = false := by decide) : PE X (.Name x pos) (tC (.ty T)) :=
  pe_bltn hg hm hv rfl hn hd
theorem gFn {a : Addr} (hm : X.mg x = some (.ref a)) (hg : Gl X x := by rfl) (hd : (x == ("__debug__" : Str)) = false := by decide) : PE X (.Name x pos) (tC (.ref a)) := pe_glob hg hm rfl hd
end
/-- the def's object and its name -/
def Df (K : PySem.W.Frag) (mg : Str → Option Value) (x : Str) (st : Stmt) : Prop := ∃ f fd, L2.Fun K x x st f fd ∧ mg x = some (.ref f)
/-- a def that does what F says, by its name -/
def Ok (P : Program) (w : World) (K : PySem.W.Frag) (mg : Str → Option Value) (base : Heap) (k : Nat) (x : Str) (st : Stmt) (ps : List Str) (F : FD) : Prop :=
  ∃ f fd, L2.Fun K x x st f fd ∧ mg x = some (.ref f) ∧ Binds K fd ps [] ∧ FnG P w K mg base k f fd ps F
def OkS (P : Program) (w : World) (K : PySem.W.Frag) (mg : Str → Option Value) (base : Heap) (k : Nat) (x : Str) (st : Stmt) (F : FD) : Prop :=
  ∃ f fd, L2.Fun K x x st f fd ∧ mg x = some (.ref f) ∧ FnS P w K mg base k f F
section
variable {P : Program} {w : World} {K : PySem.W.Frag} {mg : Str → Option Value} {base : Heap}
theorem FnS.mono {j k : Nat} {f : Addr} {F : FD} (h : FnS P w K mg base j f F) (le : j ≤ k) : FnS P w K mg base k f F := ⟨fun A l s S us vs ds Qv E hg hr => h.run A l s S us vs ds Qv E hg (hr.mono le)⟩
theorem ok_mk {x : Str} {st : Stmt} {N ps : List Str} {k : Nat} {m : MS} (D0 : Df K mg x st) (Sc : FnScope N ps (defScope st))
    (hbind : ∀ (kV doc pm : Value) (an : Option Addr) (cdv ct : Value) (us : List Value), us.length = ps.length → bindArgs (PySem.W.fnOf x x (defArgs st) (defBody st) (defScope st) .none kV doc pm an cdv ct) ⟨us, []⟩ = pure (ps.zip us))
    (hbody : ∀ f cdv A l s H E, A.guards = some [] → Room k (Xf P w K mg base N x st f cdv A l s H E).A → Takes (Xf P w K mg base N x st f cdv A l s H E) (WOf E) →
      PassesOwn (model P w) (Xf P w K mg base N x st f cdv A l s H E).A (Xf P w K mg base N x st f cdv A l s H E).env (Xf P w K mg base N x st f cdv A l s H E).xe →
      SB (Xf P w K mg base N x st f cdv A l s H E) (WOf E) (defBody st) m) : Ok P w K mg base (k + 1) x st ps (bodyF N.length m) := by
  obtain ⟨f, fd, F, h⟩ := D0
  exact ⟨f, fd, F, h, F.binds hbind, fn_body F Sc (hbody f)⟩
theorem okS_mk {x pv : Str} {st : Stmt} {N : List Str} {k : Nat} {m : MS} (D0 : Df K mg x st) (Sc : FnScope N [pv] (defScope st))
    (hbind : ∀ (kV doc pm : Value) (an : Option Addr) (cdv ct : Value) (us : List Value), bindArgs (PySem.W.fnOf x x (defArgs st) (defBody st) (defScope st) .none kV doc pm an cdv ct) ⟨us, []⟩ = (newTuple us >>= fun t => pure [(pv, t)]))
    (hbody : ∀ f cdv A l s H E, A.guards = some [] → Room k (Xf P w K mg base N x st f cdv A l s H E).A → Takes (Xf P w K mg base N x st f cdv A l s H E) (WOf E) →
      PassesOwn (model P w) (Xf P w K mg base N x st f cdv A l s H E).A (Xf P w K mg base N x st f cdv A l s H E).env (Xf P w K mg base N x st f cdv A l s H E).xe →
      SB (Xf P w K mg base N x st f cdv A l s H E) (WOf E) (defBody st) m) : OkS P w K mg base (k + 1) x st (starF N.length m) := by
  obtain ⟨f, fd, F, h⟩ := D0
  refine ⟨f, fd, F, h, fn_bodyS F Sc (fun us => ?_) (hbody f)⟩
  obtain ⟨oc, od, kV, doc, pm, an, cdv, ct, osl, rfl, lk, hcd⟩ := F.ex
  exact hbind kV doc pm an cdv ct us
end
section
variable {X : Cx} {W : WX} {pos p : Pos} {x : Str} {st : Stmt} {j k : Nat} {ps : List Str} {F : FD} {e : Expr} {es : List Expr} {ms : ML} {kws : List Keyword}
theorem se_ok (O : Ok X.prog X.w X.K X.mg X.base k x st ps F) (hr : Room j X.A) (gd : X.A.guards = some []) (tk : Takes X W) (ha : SA X W (e :: es) ms) (le : k ≤ j := by decide) (hg : Gl X x := by rfl) (hdb : (x == ("__debug__" : Str)) = false := by decide)
    (he : starEach (e :: es) X.env = (false, eval e X.env) :: starEach es X.env := by rfl) (hpl : (backTo pos (starEach es X.env)).any (·.1) = false := by rfl) : SE X W (.Call (.Name x p) (e :: es) [] pos) (mFn F ps.length ms) := by
  obtain ⟨f, fd, Fu, h, b, G⟩ := O
  exact se_fn0 (G.mono le) hr gd tk h Fu.kp b ha hg hdb he hpl
theorem se_okS (O : OkS X.prog X.w X.K X.mg X.base k x st F) (hr : Room j X.A) (gd : X.A.guards = some []) (tk : Takes X W) (ha : SA X W (e :: es) ms) (le : k ≤ j := by decide) (hg : Gl X x := by rfl) (hdb : (x == ("__debug__" : Str)) = false := by decide)
    (he : starEach (e :: es) X.env = (false, eval e X.env) :: starEach es X.env := by rfl) (hpl : (backTo pos (starEach es X.env)).any (·.1) = false := by rfl) : SE X W (.Call (.Name x p) (e :: es) [] pos) (mFnS F ms) := by
  obtain ⟨f, fd, Fu, h, G⟩ := O
  exact se_fnS (G.mono le) hr gd tk h Fu.kp ha hg hdb he hpl
theorem se_okS0 (O : OkS X.prog X.w X.K X.mg X.base k x st F) (hr : Room j X.A) (gd : X.A.guards = some []) (tk : Takes X W) (le : k ≤ j := by decide) (hg : Gl X x := by rfl) (hdb : (x == ("__debug__" : Str)) = false := by decide) : SE X W (.Call (.Name x p) [] [] pos) (mFnS F mNil) := by
  obtain ⟨f, fd, Fu, h, G⟩ := O
  exact se_fnS0 (G.mono le) hr gd tk h Fu.kp hg hdb
/-- min(xs, key = f, default = d), max(..) -/
theorem se_minK {q : Str} {a d : Expr} {ma md : ME} {kp dp pq : Pos} {pn : Str} (hc : X.calm = true) (O : Ok X.prog X.w X.K X.mg X.base k q st [pn] F) (hr : Room (j + 1) X.A) (gd : X.A.guards = some []) (hm : X.mg "min" = none) (ha : SE X W a ma) (hd : SE X W d md) (le : k ≤ j := by decide)
    (hgq : Gl X q := by rfl) (hdq : (q == ("__debug__" : Str)) = false := by decide) (hg : Gl X "min" := by rfl)
    (he : backTo pos (starEach [a] X.env) = (false, eval a X.env) :: backTo pos (starEach [] X.env) := by rfl) (hpl : (backTo pos (starEach [a] X.env)).any (·.1) = false := by rfl) (hs : starEach [a] X.env = (false, eval a X.env) :: starEach [] X.env := by rfl) :
    SE X W (.Call (.Name "min" p) [a] [⟨some "key", .Name q pq, kp⟩, ⟨some "default", d, dp⟩] pos) (mMM fLtT F ma md) := by
  obtain ⟨f, fd, Fu, h, b, G⟩ := O
  have hr1 : Room j (X1 X).A := hr.in1
  exact se_mm (q := f) (fun S s v vd u dv d dd Qv E pins sg I g ru av rd ad z => call_minK hc (G.mono le) hr1 gd b (fLtT_ok (Nat.lt_of_le_of_lt (Nat.le_add_right _ _) hr1.units)) I g ru av rd ad z) hm ha (gFn h hgq hdq) hd hg (by decide +kernel) (by decide) (by decide) he hpl hs
theorem se_maxK {q : Str} {a d : Expr} {ma md : ME} {kp dp pq : Pos} {pn : Str} (hc : X.calm = true) (O : Ok X.prog X.w X.K X.mg X.base k q st [pn] F) (hr : Room (j + 1) X.A) (gd : X.A.guards = some []) (hm : X.mg "max" = none) (ha : SE X W a ma) (hd : SE X W d md) (le : k ≤ j := by decide)
    (hgq : Gl X q := by rfl) (hdq : (q == ("__debug__" : Str)) = false := by decide) (hg : Gl X "max" := by rfl)
    (he : backTo pos (starEach [a] X.env) = (false, eval a X.env) :: backTo pos (starEach [] X.env) := by rfl) (hpl : (backTo pos (starEach [a] X.env)).any (·.1) = false := by rfl) (hs : starEach [a] X.env = (false, eval a X.env) :: starEach [] X.env := by rfl) :
    SE X W (.Call (.Name "max" p) [a] [⟨some "key", .Name q pq, kp⟩, ⟨some "default", d, dp⟩] pos) (mMM fGtT F ma md) := by
  obtain ⟨f, fd, Fu, h, b, G⟩ := O
  have hr1 : Room j (X1 X).A := hr.in1
  exact se_mm (q := f) (fun S s v vd u dv d dd Qv E pins sg I g ru av rd ad z => call_maxK hc (G.mono le) hr1 gd b (fGtT_ok (Nat.lt_of_le_of_lt (Nat.le_add_right _ _) hr1.units)) I g ru av rd ad z) hm ha (gFn h hgq hdq) hd hg (by decide +kernel) (by decide) (by decide) he hpl hs
theorem se_okK {r : Bool} {ks : List Str} (O : Ok X.prog X.w X.K X.mg X.base k x st ps F) (hr : Room j X.A) (gd : X.A.guards = some []) (tk : Takes X W)
    (hb : ∀ (kV doc pm : Value) (an : Option Addr) (cdv ct : Value) (us : List Value), us.length = ps.length → bindArgs (PySem.W.fnOf x x (defArgs st) (defBody st) (defScope st) .none kV doc pm an cdv ct) ⟨[], ks.zip us⟩ = pure (ps.zip (rv r us))) (ha : SK X W kws ms) (le : k ≤ j := by decide)
    (hall : (backToKw pos (keywordEach kws X.env)).all (·.1.isSome) = true := by rfl) (hks : (backToKw pos (keywordEach kws X.env)).filterMap (·.1) = ks := by rfl)
    (hg : Gl X x := by rfl) (hdb : (x == ("__debug__" : Str)) = false := by decide) (hpl : ((backTo pos (starEach [] X.env)).any (·.1) || (backToKw pos (keywordEach kws X.env)).any (·.1.isNone)) = false := by rfl) :
    SE X W (.Call (.Name x p) [] kws pos) (mFnK F ps.length r ms) := by
  obtain ⟨f, fd, Fu, h, b, G⟩ := O
  refine se_fnK0 (ks := ks) (r := r) (G.mono le) hr gd tk h Fu.kp (fun s us _ hl => ?_) ha hall hks hg hdb hpl
  obtain ⟨oc, od, kV, doc, pm, an, cdv, ct, osl, rfl, lk, hcd⟩ := Fu.ex
  exact .of_eq (hb kV doc pm an cdv ct us hl)
end
/-- an own exception whose __init__ keeps its argument as value -/
def ExD (P : Program) (w : World) (K : PySem.W.Frag) (mg : Str → Option Value) (base : Heap) (x : Str) : Prop :=
  ∃ C fI fd s v, OexC K C ∧ PySem.W.findIn K (.ref C) "__init__" = some (some (.ref fI)) ∧ PySem.W.typeIn K (.ref fI) = some (.type "function") ∧ FnOk P w K mg base C8.CX0 1 fI fd [s, v] (spI C "value") ∧ Binds K fd [s, v] [] ∧ mg x = some (.ref C)
section
variable {X : Cx} {W : WX} {pos p pos' : Pos} {x : Str} {j : Nat} {e : Expr} {ms : ML}
theorem ss_raiseX (hc : X.calm = true) (tk : Takes X W) (O : ExD X.prog X.w X.K X.mg X.base x) (hr : Room j X.A) (ha : SA X W [e] ms) (le : 2 ≤ j := by decide) (hg : Gl X x := by rfl)
    (hdb : (x == ("__debug__" : Str)) = false := by decide) (he : starEach [e] X.env = (false, eval e X.env) :: starEach [] X.env := by rfl) (hpl : (backTo pos (starEach [] X.env)).any (·.1) = false := by rfl) :
    SS X W (.Raise (some (.Call (.Name x p) [e] [] pos)) none pos') (sRaise x ["value"] ms) := by
  obtain ⟨C, fI, fd, s, v, T, iC, tI, F1, b, h⟩ := O
  exact ss_raise1 hc tk T iC tI F1 (hr.mono le) b C8.pass0 h ha hg hdb he hpl
end
end Q
end
section
set_option Elab.async false
set_option linter.all false
set_option maxRecDepth 100000
namespace Q
open PySem PySem.Spec L2
open PyProof.Rows (envOfC)
variable [Tb]
/-! ### a def whose code object is known: it makes lambdas -/
def DfC (K : PySem.W.Frag) (mg : Str → Option Value) (x : Str) (st : Stmt) (c : Addr) : Prop := ∃ (f : Addr) (oc : Value) (od : Option Addr) (kV doc pm : Value) (an : Option Addr) (ct : Value) (osl : Array (Option Value)),
  K.lookup f = some ⟨oc, od, .func (PySem.W.fnOf x x (defArgs st) (defBody st) (defScope st) .none kV doc pm an (.ref c) ct), osl⟩ ∧ PySem.W.codeIn K (.ref c) x = true ∧ PySem.W.keepIn K (.ref f) = true ∧ mg x = some (.ref f)
section
variable {P : Program} {w : World} {K : PySem.W.Frag} {mg : Str → Option Value} {base : Heap}
theorem ok_mkC {x : Str} {st : Stmt} {N ps : List Str} {k : Nat} {m : MS} {c : Addr} (D0 : DfC K mg x st c) (Sc : FnScope N ps (defScope st))
    (hbind : ∀ (kV doc pm : Value) (an : Option Addr) (cdv ct : Value) (us : List Value), us.length = ps.length → bindArgs (PySem.W.fnOf x x (defArgs st) (defBody st) (defScope st) .none kV doc pm an cdv ct) ⟨us, []⟩ = pure (ps.zip us))
    (hbody : ∀ f A l s H E, A.guards = some [] → Room k (Xf P w K mg base N x st f (.ref c) A l s H E).A → Takes (Xf P w K mg base N x st f (.ref c) A l s H E) (WOf E) →
      PassesOwn (model P w) (Xf P w K mg base N x st f (.ref c) A l s H E).A (Xf P w K mg base N x st f (.ref c) A l s H E).env (Xf P w K mg base N x st f (.ref c) A l s H E).xe →
      SB (Xf P w K mg base N x st f (.ref c) A l s H E) (WOf E) (defBody st) m) : Ok P w K mg base (k + 1) x st ps (bodyF N.length m) := by
  obtain ⟨f, oc, od, kV, doc, pm, an, ct, osl, lk, hcd, kp, h⟩ := D0
  have F : L2.Fun K x x st f (PySem.W.fnOf x x (defArgs st) (defBody st) (defScope st) .none kV doc pm an (.ref c) ct) := fun_mk lk hcd kp
  refine ⟨f, _, F, h, F.binds hbind, ⟨fun A l s S args us vs ds Qv E hgd hr e0 hb rv gd al hl p => ?_⟩⟩
  have hlen : vs.length = ps.length := al.len.trans hl
  have kk : ∀ y ∈ ps.zip us, (defScope st).names.lookup y.1 = some .local ∨ ((defScope st).names.lookup y.1 = some .cell ∧ ((cellsFrom (s.heap.objs.size + 1) (defScope st).names []).lookup y.1).isSome = true) := by
    intro y hy
    rcases Sc.par y.1 (List.of_mem_zip hy).1 with z | z
    · exact .inl z
    · exact .inr ⟨z, PySem.W.cellsFrom_some _ _ _ (.inl z)⟩
  have hK : K.In s.heap := e0.mod.kin.keeps fun b ob q => (e0.bs b ob q).1
  have hL : s.heap.NoLimit := e0.mod.nolimit.keeps fun b ob q => (e0.bs b ob q).1
  refine PySem.codeAny_call_function hr.depth (hK _ _ lk) rfl Sc.co Sc.gen rfl (PySem.W.codeRec_of hK hcd) (hb _ _ _ _ ?_)
  refine PySem.wpAny_newFunctionEnv_cells Sc.kind kk fun env he s1 xc => ?_
  subst he
  refine ⟨hL.keeps xc.toInCall.keep, codeAny_func ?_⟩
  have I : Inv (Xf P w K mg base N x st f (.ref c) A l s S.H E) [] (L2.start N vs) S.H s1 := inv_start Sc hr.hd e0 hlen rv xc
  have body := hbody f A l s S.H E hgd (hr.deeper _) (takes_of rfl rfl rfl rfl) (passes_of rfl)
  have run := body.run [] s1 (L2.start N vs) S.H { nx := fun _ H' => Qv .non H', rt := Qv } I ⟨S, enter N.length ds, rfl, gd, enter_at al, post_out p⟩
  refine wpAny_mono run (fun fl s' hs => ?_) fun e s' hs => hs
  have done : ∀ {sg : L2.St} {H' : Hp} {v : V} {u : Value}, Inv (Xf P w K mg base N x st f (.ref c) A l s S.H E) [] sg H' s' → RelV v u → Qv v H' → CE l P w S.H s Qv u s' := by
    intro sg H' v u J r q
    exact ⟨v, H', J.os, J.bare, J.base, J.hok, r, q⟩
  cases fl with
  | next =>
    obtain ⟨sg, H', J, q⟩ := hs
    exact done (v := .non) (u := .none) J rfl q
  | ret u =>
    obtain ⟨v, sg, H', J, r, q⟩ := hs
    exact done J r q
  | brk =>
    obtain ⟨_, _, _, q⟩ := hs
    exact q.elim
  | cont =>
    obtain ⟨_, _, _, q⟩ := hs
    exact q.elim
end
/-! ### facts of exception classes -/
/-- the class cls in a clause, and what an error of a class of ns answers to it -/
def ExHit (K : PySem.W.Frag) (mg : Str → Option Value) (ns : List Str) (cls : Str) : Prop := ∃ cc, mg cls = some (.ref cc) ∧ ∀ n ∈ ns, ∀ C, mg n = some (.ref C) → PySem.W.exmOne K (.ref C) (.ref cc) = some (decide (n = cls))
def hitOf (ns : List Str) (cls : Str) : Str → Option Bool := fun n => if n ∈ ns then some (decide (n = cls)) else none
/-- an error of the class cls in hand: its field f, its bases -/
structure ExSu (K : PySem.W.Frag) (mg : Str → Option Value) (cls f : Str) : Prop where
  xf : ∀ C, mg cls = some (.ref C) → XfC K C ∧ ExcC K C ∧ (PySem.W.clsIn K C).isSome = true ∧ PySem.W.findIn K (.ref C) f = some none
/-- an own base class of cls -/
def ExBase (K : PySem.W.Frag) (mg : Str → Option Value) (cls b : Str) : Prop := ∃ B, mg b = some (.ref B) ∧ ∀ C, mg cls = some (.ref C) → PySem.W.kitOne K (.ref C) (.ref B) = some true
def ExTy (K : PySem.W.Frag) (mg : Str → Option Value) (cls : Str) (T : String) : Prop := ∀ C, mg cls = some (.ref C) → PySem.W.kitOne K (.ref C) (.type T) = some true
section
variable {X : Cx} {W : WX}
theorem hit_of {ns : List Str} {cls : Str} {cc : Addr} (h : ∀ n ∈ ns, ∀ C, X.mg n = some (.ref C) → PySem.W.exmOne X.K (.ref C) (.ref cc) = some (decide (n = cls))) : ∀ n r C, hitOf ns cls n = some r → X.mg n = some (.ref C) → PySem.W.exmOne X.K (.ref C) (.ref cc) = some r := by
  intro n r C e hm
  unfold hitOf at e
  split at e
  · rename_i hn
    cases e
    exact h n hn C hm
  · cases e
theorem hit_is {ns : List Str} {cls n : Str} (h : hitOf ns cls n = some true) : n = cls := by
  unfold hitOf at h
  split at h
  · exact of_decide_eq_true (Option.some.inj h)
  · cases h
/-- except cls as n: name = ['tag', n.f, isinstance(n, A) and isinstance(n, T)] -/
def kTag (j : Nat) (tag f : Str) (x : Exn) : MS := sSet j (mLst (mCons (mC (.str tag)) (mCons (mFld x f) (mCons (mAndV (mC (.bl true)) (mC (.bl true))) mNil))))
theorem hq_tag {i j : Nat} {cls n y A Tn f tag : Str} {T : String} {ns : List Str} {clz : List Cla} {rest : List ExceptHandler} {p0 p1 p2 p3 p4 p5 p6 p7 p8 p9 pa pb pc pd pe pf pg : Pos} {jj : Nat} (hs : X.stack = X.env :: X.outer) (hf : X.env.frame = some X.env.locals) (hN : X.N.Nodup)
    (hh : ExHit X.K X.mg ns cls) (su : ExSu X.K X.mg cls f) (hA : ExBase X.K X.mg cls A) (hT : ExTy X.K X.mg cls T) (hTn : X.mg Tn = none) (him : X.mg "isinstance" = none) (hrest : HdOk X rest (wCls X W clz))
    (hi : X.N[i]? = some n := by rfl) (hj : X.N[j]? = some y := by rfl) (hln : X.env.kindOf n = some .local := by rfl) (hly : X.env.scope.names.lookup y = some .local := by rfl) (hgc : Gl X cls := by rfl) (hdc : (cls == ("__debug__" : Str)) = false := by decide)
    (hgA : Gl X A := by rfl) (hdA : (A == ("__debug__" : Str)) = false := by decide) (hgT : Gl X Tn := by rfl) (hvT : bootBuiltins Tn = some (.type T) := by decide +kernel) (hnT : Tn ≠ "__name__" := by decide) (hdT : (Tn == ("__debug__" : Str)) = false := by decide) (hgi : Gl X "isinstance" := by rfl)
    (hvn : Vis X.env.scope n := by exact .inl rfl) (hdn : (n == ("__debug__" : Str)) = false := by decide) (hcn : (n == ("__classdict__" : Str)) = false := by decide) :
    HdOk X (.ExceptHandler (some (.Name cls p0)) (some n) [.Assign [.Name y p1] (.List [.Constant (.str tag) jj p2, .Attribute (.Name n p3) f p4, .BoolOp .And [.Call (.Name "isinstance" p5) [.Name n p6, .Name A p7] [] p8, .Call (.Name "isinstance" p9) [.Name n pa, .Name Tn pb] [] pc] pd] pe) pf] pg :: rest)
      (wCls X W (⟨hitOf ns cls, i, kTag j tag f⟩ :: clz)) := by
  obtain ⟨cc, hcc, hall⟩ := hh
  obtain ⟨B, hB, hkB⟩ := hA
  refine hq_cons (c := .ref cc) hs hf hN ⟨hgc, hdc, .inl hcc⟩ hrest (hit_of hall) (fun a oe C d pn x hm ht hz hv => ?_) hi hln
  have ex : x.cls = cls := hit_is ht
  rw [ex] at hm
  obtain ⟨xf, ec, hcl, hno⟩ := su.xf C hm
  have pN : ∀ p, PE (X.suite a ((a, oe) :: pn)) (.Name n p) (tVar i) := fun p => pe_var (X := X.suite a ((a, oe) :: pn)) hi hvn hdn hcn
  exact sxs_set (Y := X.suite a ((a, oe) :: pn)) hN (sx_lst (sxa_cons (sx_se se_str) (sxa_cons (sx_fld xf hno hz hv (pN _)) (sxa_cons (sx_and (sx_isi (cV := .ref B) (cv := .ref B) ec hcl hz hv (pN _) (pe_glob (X := X.suite a ((a, oe) :: pn)) (v := .ref B) hgA hB rfl hdA) (fun u h => h) (hkB C hm) him hgi)
    (sx_one (sx_isi (cV := .ty T) (cv := .type T) ec hcl hz hv (pN _) (pe_bltn (X := X.suite a ((a, oe) :: pn)) (v := .ty T) hgT hTn hvT rfl hnT hdT) (fun u h => h) (hT C hm) him hgi))) sxa_nil)))) hj (Or.inl hly) rfl (Or.inr hly)
/-- the table of the code object at c knows the one name q -/
def LamT (base : Heap) (mg : Str → Option Value) (c : Addr) (q : Str) : Prop := ∃ P, LamX.TabB base mg c P ∧ (P, q) ∈ Tb.l ∧ ∀ p ∈ Tb.l, p.1 = P → p.2 = q
theorem se_told {x a q : Str} {st : Stmt} {c : Addr} {j k : Nat} {Ng : List Str} {params : Arguments} {body : Expr} {scope : Scope} {mb : ME} {p lpos pos : Pos} {toldF : (Cells → R D) → Cells → R D} {kb : D → (Cells → R D) → MS} (D0 : Df X.K X.mg x st) (Sg : FnScope Ng [a] (defScope st))
    (hbd : ∀ (kV doc pm : Value) (an : Option Addr) (cdv ct : Value) (us : List Value), us.length = [a].length → bindArgs (PySem.W.fnOf x x (defArgs st) (defBody st) (defScope st) .none kV doc pm an cdv ct) ⟨us, []⟩ = pure ([a].zip us))
    (hind : ∀ D0 F0 cc, (kb D0 F0 (enter Ng.length [D0]) cc).out = toldF F0 cc)
    (hG : ∀ (g : Addr) (cdv : Value) (D0 : D) (F0 : Cells → R D) (s : Shared) (H : Hp), Room (k + 1) (Zt X Ng x (defScope st) g cdv s H).A → (Zt X Ng x (defScope st) g cdv s H).A.guards = some [] →
      (∀ (Wi : WX) (pn : List (Addr × Obj)) (xe : Value → Shared → Prop) (p1 p2 : Pos), Takes ((Zt X Ng x (defScope st) g cdv s H).nox.tr pn xe) Wi → SE ((Zt X Ng x (defScope st) g cdv s H).nox.tr pn xe) Wi (.Call (.Name a p1) [] [] p2) (mAct D0 F0)) → SB (Zt X Ng x (defScope st) g cdv s H).nox WF (defBody st) (kb D0 F0))
    (TB : LamT X.base X.mg c q) (hr : Room j X.A) (gd : X.A.guards = some []) (L : LamX.LamS X.env.scope scope)
    (hbody : ∀ (E : XK) (A : Around) (outer : List PySem.Env) (s : Shared) (H : Hp) (f c' : Addr), A.guards = some [] → Room k (A.deeper (LamX.lamEnv X scope s.heap.objs.size f c')) → SE (LamX.lamCx X A outer s H E scope f c') (fun cl dd _ H => E cl dd H) body mb)
    (le : k + 2 ≤ j := by decide) (hcode : X.env.code = .ref c := by rfl) (hq : X.env.qual ++ "<lambda>" = q := by rfl) (hNg : Ng[0]? = some a := by rfl) (hva : Vis (defScope st) a := by exact .inl rfl) (hdef : defaultsOf params X.env = ([], []) := by rfl)
    (hbindL : ∀ (q : Str) (cl : List (Str × Addr)) (pm cv ctv : Value), bindArgs (PySem.W.kla_fn "<lambda>" q params body scope cl pm cv ctv) ⟨[], []⟩ = pure [] := by intros; rfl)
    (hg : Gl X x := by rfl) (hdb : (x == ("__debug__" : Str)) = false := by decide) (hd : (a == ("__debug__" : Str)) = false := by decide) (hcd : (a == ("__classdict__" : Str)) = false := by decide) :
    SE X W (.Call (.Name x p) [.Lambda params body scope lpos] [] pos) (mLam toldF mb) := by
  obtain ⟨g, fd, Fu, h⟩ := D0
  obtain ⟨P, tb, hP, hu⟩ := TB
  have b := Fu.binds hbd
  have kp := Fu.kp
  obtain ⟨oc, od, kV, doc, pm, an, cdv, ct, osl, rfl, lk, hcg⟩ := Fu.ex
  subst hq
  exact se_lam (k := k) h kp lk hcg b Sg hNg hva hind (fun D0 F0 s H hr2 act => hG g cdv D0 F0 s H hr2 gd act) tb hcode hP hu (hr.mono le) L hdef hbindL gd hbody hg hdb hd hcd
end
end Q
end
section
set_option Elab.async false
set_option linter.all false
set_option maxRecDepth 100000
set_option maxHeartbeats 1000000
namespace Q
open PySem PySem.Spec L2
open PyProof.Rows (AllBare IntsAre)
/-! ### the end of a law: the script, the tables, the call -/
/-- the start: the script (where the written part has it not) and the tables -/
noncomputable def startH (a : Addr) (vs : List Value) (ns : List Int) (ts : List Addr) (b : Bool) : Hp := fun p =>
  if b = true ∧ p = a then some (.frz { cls := .type "list", data := .seq vs.toArray } (.lst (ns.map V.int))) else if p ∈ ts then some (.tbl #[]) else none
theorem startH_cases {a : Addr} {vs : List Value} {ns : List Int} {ts : List Addr} {b : Bool} (p : Addr) :
    (b = true ∧ p = a ∧ startH a vs ns ts b p = some (.frz { cls := .type "list", data := .seq vs.toArray } (.lst (ns.map V.int)))) ∨ (p ∈ ts ∧ startH a vs ns ts b p = some (.tbl #[])) ∨ (p ∉ ts ∧ (b = true → p ≠ a) ∧ startH a vs ns ts b p = none) := by
  unfold startH
  by_cases h : b = true ∧ p = a
  · rw [if_pos h]
    exact .inl ⟨h.1, h.2, rfl⟩
  · rw [if_neg h]
    by_cases h2 : p ∈ ts
    · rw [if_pos h2]
      exact .inr (.inl ⟨h2, rfl⟩)
    · rw [if_neg h2]
      exact .inr (.inr ⟨h2, fun e z => h ⟨e, z⟩, rfl⟩)
section
variable {P : Program} {w : World} {K : PySem.W.Frag} {mg mb : Str → Option Value} {k : Nat} {fa a : Addr} {cs : List (Addr × Addr)} {nm x : Str} {st : Stmt} {F : FD} {s1 : Shared} {vs : List Value} {ns : List Int} {q : Str}
theorem law_callG [TI : Tb] (hTI : ∀ p ∈ TI.l, ∃ r ∈ cs, r.2 = p.1) (KX : K.In s1.heap) (hns : s1.heap.Ns mainGlobals mg) (hbi : s1.heap.Ns builtinsNs mb) (hbb : ∀ x : Str, x ≠ "__name__" → mb x = bootBuiltins x) (hlim : s1.heap.NoLimit) (hsy : ∃ mm, s1.heap.Ns sysModules mm) (hgen : s1.gens = #[])
    (hT : ∀ p ∈ cs, s1.heap.get? p.2 = some { cls := .none, data := .fields #[] }) (nT : ∀ p ∈ cs, K.lookup p.2 = none) (C : ∀ p ∈ cs, PySem.W.CodeHd s1.heap p.1 p.2)
    (hbm : ∃ (bm : Addr) (ob : Obj), mg "__builtins__" = some (.ref bm) ∧ bm ≠ builtinsNs ∧ s1.heap.get? bm = some ob ∧ ob.cls = .type "module" ∧ ob.dict = some builtinsNs ∧ ob.data = .plain)
    (ha : s1.heap.get? a = some { cls := .type "list", data := .seq vs.toArray }) (hi : IntsAre vs ns) (hl : ns.length ≤ sizeLine) (hr : Room k callerA)
    (hmg : mg nm = some (.ref fa)) (G : ∀ base : Heap, K.In base → base.Ns mainGlobals mg → (∀ p ∈ cs, LamX.TabB base mg p.1 p.2) → SysIn base → Ok P w K mg base k nm st [x] F)
    (hF : ∃ c, F [.nod .frl (ns.map D.int)] [] = .ok (.bl true) c) :
    codeAny (model P w) callerA (.call (.ref fa) ⟨[.ref a], []⟩) (fun r s' => r = .ok (.ret (.bool true)) ∧ OldK s1.heap s'.heap ∧ s'.os = s1.os ∧ AllBare s'.gens) s1 := by
  have rv : Vals (ns.map V.int) vs := vals_ints hi
  have lenV := hi.length
  obtain ⟨ts, hts⟩ : ∃ ts, ts = cs.map (·.2) := ⟨_, rfl⟩
  obtain ⟨b, hb⟩ : ∃ b, b = (K.lookup a).isNone := ⟨_, rfl⟩
  obtain ⟨H, hH⟩ : ∃ H, H = startH a vs ns ts b := ⟨_, rfl⟩
  have cas := fun p => startH_cases (a := a) (vs := vs) (ns := ns) (ts := ts) (b := b) p
  rw [← hH] at cas
  have tabOf : ∀ p ∈ ts, s1.heap.get? p = some { cls := .none, data := .fields #[] } := fun p hp => by
    rw [hts] at hp
    obtain ⟨r, hr1, rfl⟩ := List.mem_map.mp hp
    exact hT r hr1
  have aT : a ∉ ts := fun z => by
    have e := tabOf a z
    rw [ha] at e
    have z2 : Data.seq vs.toArray _ = Data.fields #[] := congrArg Obj.data (Option.some.inj e)
    cases z2
  -- what is no list and no empty record is not tracked
  have free : ∀ {p : Addr} {o : Obj}, s1.heap.get? p = some o → (∀ xs n, o.data ≠ .seq xs n) → o.data ≠ .fields #[] → H p = none := fun {p o} e n1 n2 => by
    rcases cas p with ⟨_, rfl, _⟩ | ⟨hp, _⟩ | ⟨_, _, z⟩
    · rw [ha] at e
      cases e
      exact (n1 _ _ rfl).elim
    · rw [tabOf p hp] at e
      cases e
      exact (n2 rfl).elim
    · exact z
  have nsF : ∀ {p : Addr} {m : Str → Option Value}, s1.heap.Ns p m → (hidT s1.heap H).Ns p m := fun {p m} ⟨o, es, ep, e, dd, rest⟩ =>
    ⟨o, es, ep, hidT_get e (free e (fun xs n z => by rw [dd] at z; cases z) fun z => by rw [dd] at z; cases z), dd, rest⟩
  have KB : K.In (hidT s1.heap H) := fun p o e => hidT_get (KX p o e) (by
    rcases cas p with ⟨hb1, rfl, _⟩ | ⟨hp, _⟩ | ⟨_, _, z⟩
    · rw [hb, e] at hb1
      cases hb1
    · rw [hts] at hp
      obtain ⟨r, hr1, rfl⟩ := List.mem_map.mp hp
      rw [nT r hr1] at e
      cases e
    · exact z)
  have hM : L2.Mod K mg (hidT s1.heap H) := ⟨KB, nsF hns, ⟨mb, nsF hbi, hbb⟩, let ⟨mc, h1, h2⟩ := hlim; ⟨mc, nsF h1, h2⟩⟩
  have hS : SysIn (hidT s1.heap H) := by
    obtain ⟨mm, hn⟩ := hsy
    obtain ⟨o, _, _, e, _⟩ := nsF hn
    exact ⟨o, e⟩
  have TB : ∀ p ∈ cs, LamX.TabB (hidT s1.heap H) mg p.1 p.2 := fun p hp => by
    refine ⟨?_, ?_, fun z => ?_⟩
    · obtain ⟨o, us, file, tf, flags, tg, inF, text, tt, e1, r1, r2, r3, rest⟩ := C p hp
      refine ⟨o, us, file, tf, flags, tg, inF, text, tt, hidT_get e1 (free e1 (fun xs n z => by rw [r2] at z; cases z) fun z => ?_), r1, r2, r3, rest⟩
      rw [r2] at z
      cases z
      simp at r3
    · obtain ⟨bm, ob, b1, b2, b3, b4, b5, b6⟩ := hbm
      refine ⟨bm, ob, b1, b2, fun z => ?_, fun z => ?_, hidT_get b3 (free b3 (fun xs n z => by rw [b6] at z; cases z) fun z => by rw [b6] at z; cases z), b4, b5, b6⟩
      · obtain ⟨o, es, ep, e, dd, _⟩ := hns
        rw [z, e] at b3
        cases b3
        rw [dd] at b6
        cases b6
      · rw [z, hT p hp] at b3
        cases b3
        cases b6
    · obtain ⟨o, es, ep, e, dd, _⟩ := hns
      rw [z, hT p hp] at e
      cases e
      cases dd
  have hok : HOk P w H s1.heap := fun p u e => by
    rcases cas p with ⟨_, rfl, z⟩ | ⟨hp, z⟩ | ⟨_, _, z⟩
    · rw [z] at e
      cases e
      exact ⟨ha, by rw [List.length_map]; exact hl, vs, _, rv, ha⟩
    · rw [z] at e
      cases e
      exact tabOf p hp
    · rw [z] at e
      cases e
  have e0 : Env0 P w K mg (hidT s1.heap H) callerA [] s1 H := ⟨rfl, hM, fun p o e => of_hidT e, Nat.le_of_eq (hidT_size _ _), trivial, fun p hp => absurd (show p ∈ ([] : List Addr) from hp) (by simp), hok, .of_eq hgen⟩
  -- the state of data: nothing but the script
  have g0 : Good ⟨K, mg⟩ ⟨H, [], [], []⟩ := by
    refine ⟨rfl, List.nodup_nil, fun p hp => absurd hp (by simp), fun i p cl e => by simp at e, fun p hp => ?_⟩
    obtain ⟨r, hr1, er⟩ := hTI p hp
    have hm : p.1 ∈ ts := by
      rw [hts, ← er]
      exact List.mem_map.mpr ⟨r, hr1, rfl⟩
    rcases cas p.1 with ⟨_, z, _⟩ | ⟨_, z⟩ | ⟨z, _⟩
    · exact absurd (z ▸ hm) aT
    · exact LamX.TabS.nil z
    · exact absurd hm z
  have aS : At ⟨K, mg⟩ ⟨H, [], [], []⟩ (.ref a) (.nod .frl (ns.map D.int)) := by
    refine ⟨a, ns.map V.int, rfl, ?_, atL_ints ns⟩
    rcases cas a with ⟨_, _, z⟩ | ⟨z, _⟩ | ⟨_, h2, _⟩
    · exact .inl ⟨by simp, by simp, _, z⟩
    · exact absurd z aT
    · refine .inr ?_
      cases hk : K.lookup a with
      | none =>
        rw [hk] at hb
        exact absurd rfl (h2 (by rw [hb]; rfl))
      | some o =>
        have e := KX a o hk
        rw [ha] at e
        cases e
        exact ⟨_, vs.toArray, _, hk, rfl, rfl, rfl, by rw [List.size_toArray, lenV]; exact hl, by simpa using rv⟩
  obtain ⟨cE, hF⟩ := hF
  obtain ⟨f, fd, _, hm2, bd, gf⟩ := G _ KB (nsF hns) TB hS
  have ef : f = fa := by
    rw [hmg] at hm2
    cases hm2
    rfl
  subst ef
  refine codeAny_mono (gf.run callerA [] s1 ⟨H, [], [], []⟩ ⟨[.ref a], []⟩ [.ref a] [.ref a] [.nod .frl (ns.map D.int)] (fun v _ => v = .bl true) (fun _ _ _ => False) rfl hr e0 (bd s1 [.ref a] KX rfl) (.cons rfl .nil) g0 ⟨aS, trivial⟩ rfl ?_) fun r s' h => ?_
  · rw [hF]
    exact fun S' v _ _ _ av => av
  · cases r with
    | error e =>
      obtain ⟨_, _, _, _, _, _, _, _, _, _, _, _, z⟩ := h
      exact z.elim
    | ok fl =>
      cases fl with
      | next => exact h.elim
      | brk => exact h.elim
      | cont => exact h.elim
      | ret u =>
        obtain ⟨v, H', os, bare, un, hok', r', qv⟩ := h
        have qv : v = .bl true := qv
        subst qv
        obtain rfl : u = Value.bool true := r'
        have kept : ∀ p o, p ∉ ts → s1.heap.get? p = some o → s'.heap.get? p = some o := fun p o np e => by
          rcases cas p with ⟨_, _, z⟩ | ⟨z, _⟩ | ⟨_, _, z⟩
          · obtain ⟨e1, _⟩ := hok p _ z
            obtain ⟨e2, _⟩ := hok' p _ (un.frzs p _ _ z)
            rw [e] at e1
            cases e1
            exact e2
          · exact absurd z np
          · exact un.keep p o e z (fun y => absurd (show p ∈ ([] : List Addr) from y) (by simp)) (by simp)
        have more : ∀ p ∈ ts, ∃ ps : Array Value, s'.heap.get? p = some { cls := .none, data := .fields ps } := fun p hp => by
          rcases cas p with ⟨_, z, _⟩ | ⟨_, z⟩ | ⟨z, _⟩
          · exact absurd (z ▸ hp) aT
          · obtain ⟨ps, y⟩ := un.tbls p #[] z
            exact ⟨_, hok' p _ y⟩
          · exact absurd hp z
        refine ⟨rfl, ⟨fun p o e => ?_, fun p o e => ?_⟩, os, bare⟩
        · by_cases hp : p ∈ ts
          · obtain ⟨ps, hm⟩ := more p hp
            have hp2 := hp
            rw [hts] at hp2
            obtain ⟨r, hr1, rfl⟩ := List.mem_map.mp hp2
            rw [hT r hr1] at e
            cases e
            exact .inr (.inl ⟨((C r hr1).tab (hT r hr1)).isCodeTable, rfl, #[], ps, rfl, by rw [Array.empty_append]; exact hm⟩)
          · exact .inl (kept p o hp e)
        · by_cases hp : p ∈ ts
          · obtain ⟨ps, hm⟩ := more p hp
            exact ⟨_, hm⟩
          · exact ⟨o, kept p o hp e⟩
end
end Q
end
section
set_option Elab.async false
set_option linter.all false
set_option maxRecDepth 100000
namespace Q
open PySem PySem.Spec L2 PySem.W PyProof.Rows
/-- what is known of the law's def at the head's heap h -/
def LawG (l : PySem.W.OpenLaw) (w : World) (K : PySem.W.Frag) (k n : Nat) (nm x : Str) (st : Stmt) (mg : Str → Option Value) (h : Heap) : Prop :=
  ∃ (TI : Tb) (cs : List (Addr × Addr)) (F : FD), (∀ p ∈ TI.l, ∃ r ∈ cs, r.2 = p.1) ∧ (∀ p ∈ cs, h.get? p.2 = some { cls := .none, data := .fields #[] }) ∧ (∀ p ∈ cs, K.lookup p.2 = none) ∧ (∀ p ∈ cs, PySem.W.CodeHd h p.1 p.2) ∧
    (∀ ns : List Int, ns.length ≤ n → (∀ z ∈ ns, Builtin.Int.intBits z ≤ 1048576) → ∃ c, F [.nod .frl (ns.map D.int)] [] = .ok (.bl true) c) ∧
    ∀ base : Heap, K.In base → base.Ns mainGlobals mg → (∀ p ∈ cs, LamX.TabB base mg p.1 p.2) → SysIn base → Ok l.prog w K mg base k nm st [x] F
theorem walk_G {l : PySem.W.OpenLaw} {n k : Nat} {q : Program} {loose : List Str} {XP : (Str → Option Value) → Heap → Prop} {YP : World → Heap → Prop} {d : DefRec} {K : Params → PySem.W.Frag} {x : Str} {st : Stmt}
    (hn : l.most = some n) (hn2 : n ≤ sizeLine) (hdf : d.params.defaults = []) (hq : PyProof.Rows.importsNone q = true) (hr : Room k callerA) (hY : ∀ (w : World) (h : Heap), YP w h → (K w.params).In h)
    (F : ∀ (w : World) (mg : Str → Option Value) (fa : Addr) (h : Heap), YP w h → (K w.params).In h → h.Ns mainGlobals mg → mg d.name = some (.ref fa) → LawG l w (K w.params) k n d.name x st mg h) :
    PySem.W.WalkO q loose XP YP l.row.toRowW d [] (fun f vs => PySem.call f vs) := by
  refine Att.attach_callB hn hdf fun w s0 s1 mg mb fa o pm cd doc a vs ns G Y ho hd hcd hmg hobj hints hlen hbits hg => ?_
  obtain ⟨TI, cs, Fl, hTI, hT, nT, C, hF, hG⟩ := F w mg fa _ Y (hY w _ Y) G.T.g hmg
  obtain ⟨mm, hsy, _⟩ := (G.T.seer hq).mods
  exact law_callG (TI := TI) hTI (hY w _ Y) G.T.g G.T.b G.T.builtins G.T.nolimit ⟨mm, hsy⟩ hg hT nT C G.T.bmain hobj hints (Nat.le_trans hlen hn2) hr hmg hG (hF ns hlen hbits)
end Q
end
section
set_option Elab.async false
set_option linter.all false
set_option maxRecDepth 100000
namespace Q
open PySem PySem.Spec L2
variable [Tb]
/-! ### what the head tells, put together -/
section
variable {K : PySem.W.Frag} {h : Heap} {mg : Str → Option Value} {x : Str} {st : Stmt} {f : Addr} {oc : Value} {od an : Option Addr} {osl : Array (Option Value)} {kV doc pm cdv ct : Value}
theorem df_mk (X : K.In h) (G : h.Ns mainGlobals mg) (a : PySem.W.nsIn K mainGlobals x = some (some (.ref f)))
    (l : K.lookup f = some ⟨oc, od, .func (PySem.W.fnOf x x (defArgs st) (defBody st) (defScope st) .none kV doc pm an cdv ct), osl⟩) (c : PySem.W.codeIn K cdv x = true) (k : PySem.W.keepIn K (.ref f) = true) : Df K mg x st := ⟨f, _, fun_mk l c k, PySem.W.mg_of X G a⟩
theorem dfC_mk {c0 : Addr} (X : K.In h) (G : h.Ns mainGlobals mg) (a : PySem.W.nsIn K mainGlobals x = some (some (.ref f)))
    (l : K.lookup f = some ⟨oc, od, .func (PySem.W.fnOf x x (defArgs st) (defBody st) (defScope st) .none kV doc pm an (.ref c0) ct), osl⟩) (c : PySem.W.codeIn K (.ref c0) x = true) (k : PySem.W.keepIn K (.ref f) = true) : DfC K mg x st c0 := ⟨f, oc, od, kV, doc, pm, an, ct, osl, l, c, k, PySem.W.mg_of X G a⟩
theorem str_mk {y : Str} {t : Tok} (X : K.In h) (G : h.Ns mainGlobals mg) (a : PySem.W.nsIn K mainGlobals x = some (some (.str y t))) : ∃ t, mg x = some (.str y t) := ⟨t, PySem.W.mg_of X G a⟩
/-- an own exception, one field -/
theorem exd_mk {P : Program} {w : World} {base : Heap} {C fI : Addr} {nm q s v : Str} {N : Addr} {bs bm : List Value} {qual : Str} {p1 p2 p3 p4 : Pos} {T : OexC K C} (X : K.In h) (G : h.Ns mainGlobals mg) (a : PySem.W.nsIn K mainGlobals x = some (some (.ref C)))
    (iC : PySem.W.findIn K (.ref C) "__init__" = some (some (.ref fI))) (tI : PySem.W.typeIn K (.ref fI) = some (.type "function"))
    (l : K.lookup fI = some ⟨oc, od, .func (PySem.W.fnOf "__init__" qual (defArgs st) (defBody st) (defScope st) .none kV doc pm an cdv ct), osl⟩) (c : PySem.W.codeIn K cdv qual = true) (k : PySem.W.keepIn K (.ref fI) = true)
    (hno : PySem.W.findIn K (.ref C) "value" = some none) (Sc : FnScope [s, v] [s, v] (defScope st)) (hb : defBody st = [.Assign [.Attribute (.Name s p1) "value" p2] (.Name v p3) p4]) (hs : Vis (defScope st) s) (hv : Vis (defScope st) v)
    (hsw : ∀ env, swapsWith (.Name v p3) (some (.Attribute (.Name s p1) "value" p2)) p4.line env = pure false)
    (hbd : ∀ (kV doc pm : Value) (an : Option Addr) (cdv ct : Value) (us : List Value), us.length = 2 → bindArgs (PySem.W.fnOf "__init__" qual (defArgs st) (defBody st) (defScope st) .none kV doc pm an cdv ct) ⟨us, []⟩ = pure ([s, v].zip us))
    (hd1 : (s == ("__debug__" : Str)) = false) (hd2 : (s == ("__classdict__" : Str)) = false) (hd3 : (v == ("__debug__" : Str)) = false) (hd4 : (v == ("__classdict__" : Str)) = false) : ExD P w K mg base x := by
  have F : L2.Fun K "__init__" qual st fI _ := fun_mk l c k
  exact ⟨C, fI, _, s, v, T, iC, tI, fn_init1 (k := 0) F Sc T hno hb hs hv hsw hd1 hd2 hd3 hd4, F.binds hbd, PySem.W.mg_of X G a⟩
theorem hit_mk {ns : List Str} {cls : Str} {cc : Addr} (X : K.In h) (G : h.Ns mainGlobals mg) (a : PySem.W.nsIn K mainGlobals cls = some (some (.ref cc)))
    (all : ∀ n ∈ ns, ∃ C, PySem.W.nsIn K mainGlobals n = some (some (.ref C)) ∧ PySem.W.exmOne K (.ref C) (.ref cc) = some (decide (n = cls))) : ExHit K mg ns cls := ⟨cc, PySem.W.mg_of X G a, fun n hn C hm => by
  obtain ⟨C', h1, h2⟩ := all n hn
  have e := PySem.W.mg_of X G h1
  rw [hm] at e
  cases e
  exact h2⟩
theorem su_mk {cls fl : Str} {C : Addr} (X : K.In h) (G : h.Ns mainGlobals mg) (a : PySem.W.nsIn K mainGlobals cls = some (some (.ref C))) (xf : XfC K C) (ec : ExcC K C) (hcl : (PySem.W.clsIn K C).isSome = true) (hno : PySem.W.findIn K (.ref C) fl = some none) : ExSu K mg cls fl := ⟨fun C' hm => by
  have e := PySem.W.mg_of X G a
  rw [hm] at e
  cases e
  exact ⟨xf, ec, hcl, hno⟩⟩
theorem base_mk {cls b : Str} {C B : Addr} (X : K.In h) (G : h.Ns mainGlobals mg) (a : PySem.W.nsIn K mainGlobals cls = some (some (.ref C))) (a2 : PySem.W.nsIn K mainGlobals b = some (some (.ref B))) (k : PySem.W.kitOne K (.ref C) (.ref B) = some true) : ExBase K mg cls b := ⟨B, PySem.W.mg_of X G a2, fun C' hm => by
  have e := PySem.W.mg_of X G a
  rw [hm] at e
  cases e
  exact k⟩
theorem ty_mk {cls : Str} {C : Addr} {T : String} (X : K.In h) (G : h.Ns mainGlobals mg) (a : PySem.W.nsIn K mainGlobals cls = some (some (.ref C))) (k : PySem.W.kitOne K (.ref C) (.type T) = some true) : ExTy K mg cls T := fun C' hm => by
  have e := PySem.W.mg_of X G a
  rw [hm] at e
  cases e
  exact k
/-- the table of a code object, over any base that has K -/
theorem lam_mk {base : Heap} {c0 P : Addr} {q : Str} (TB : LamX.TabB base mg c0 P) (hl : Tb.l = [(P, q)]) : LamT base mg c0 q := ⟨P, TB, by rw [hl]; exact List.mem_cons_self, fun p hp _ => by
  rw [hl] at hp
  rw [List.mem_singleton.mp hp]⟩
end
end Q
end
section
set_option Elab.async false
set_option linter.all false
set_option maxRecDepth 100000
set_option maxHeartbeats 1000000
namespace Q
open PySem PySem.Spec PyProof.Rows L2
/-! ### sorted(set of ints, reverse = b) -/
theorem gt_of_nodup : ∀ l : List Int, l.Pairwise (· ≥ ·) → l.Nodup → l.Pairwise (· > ·)
  | [], _, _ => .nil
  | x :: l, h, d => by
    obtain ⟨h1, h2⟩ := List.pairwise_cons.mp h
    obtain ⟨d1, d2⟩ := List.nodup_cons.mp d
    refine List.pairwise_cons.mpr ⟨fun y hy => ?_, gt_of_nodup l h2 d2⟩
    have le := h1 y hy
    have ne : x ≠ y := fun z => d1 (z ▸ hy)
    show y < x
    have le : y ≤ x := le
    omega
section
variable {P : Program} {w : World} {A : Around} {E : Value → Shared → Prop} {s : Shared} {a : Addr}
theorem sorted_setR {S : Int → Bool} {n : Nat} {Qv : Value → Shared → Prop} (R : SetR w s.heap a S n) (hh : A.handled = none) (hz : n ≤ sizeLine)
    (hQ : ∀ s' p (out : Array Value) (c : Nat) (ns : List Int), (∀ b o, s.heap.get? b = some o → s'.heap.get? b = some o) → s'.gens = s.gens → s'.os = s.os → s.heap.objs.size ≤ p →
      s'.heap.get? p = some (seqObj "list" out c) → IntsAre out.toList ns → ns.Pairwise (· > ·) → (∀ k, k ∈ ns ↔ S k = true) → ns.length = n → Qv (.ref p) s') :
    wpAny (model P w) A (call (.builtin "sorted") [.ref a] [(Str.ofString "reverse", .bool true)]) Qv E s := by
  obtain ⟨o, es, ep, t, ho, hex, hd, g, nd, hm, hb, hf, hn, hr, hl⟩ := R
  refine PyProof.Rows.call_function_entry_kw kind_sorted plain_sorted entry_sorted (args_sorted_rev _ _) ?_
  unfold Builtin.«sorted»
  refine wpAny_bind (m := checkCount "sorted" 1 1 _) (wpAny_pure ?_)
  refine wpAny_bind (collect_set (A := A.in1) hh ⟨o, ho, hex.1, hd⟩ hf hb hr hl fun s1 vs k1 hsz g1 o1 pm => ?_)
  have hvl : vs.length = n := (pm.length_eq.trans (by rw [List.length_map, Array.length_toList])).trans hn
  have hI : IntsAre vs (vs.map Builtin.Re.reRawOf) := ints_of vs fun v hv => by
    obtain ⟨e, he, q⟩ := List.mem_map.mp (pm.mem_iff.mp hv)
    obtain ⟨k, tk, h1, _⟩ := g e he
    exact ⟨k, tk, by rw [← q]; exact h1⟩
  have pk : (vs.map Builtin.Re.reRawOf).Perm (es.toList.map L2.keyOf) := by
    have q := pm.map Builtin.Re.reRawOf
    rw [List.map_map] at q
    exact q
  refine wpAny_bind (wpAny_newList ?_ (by rw [hvl]; exact hz))
  have hoL : (s1.heap.push (seqObj "list" vs.toArray 0)).get? s1.heap.objs.size = some (seqObj "list" vs.toArray 0) := Heap.get?_push_size _ rfl
  refine wpAny_bind (wpAny_holding (wpAny_call_entry_kw slot_list_sort ⟨_, hoL, rfl⟩ entry_list_sort ?_ (args_list_sort_rev _ _)))
  refine SrtR.list_sort_ordR (b := true) SrtO.swo_int hoL (by rw [hvl]; exact hz) (fun h2 => SrtO.ints_sortable hI h2) fun out hs hst => ⟨_, rfl, ?_⟩
  obtain ⟨ns, k2, k3, k4⟩ := SrtR.ints_outR hI hs hst
  obtain ⟨c, hc⟩ := sortedHeap_at (vs := vs) (out := out.toArray.reverse) hoL
  have pn : ns.Perm (es.toList.map L2.keyOf) := k3.trans pk
  refine wpAny_pure ⟨_, rfl, hQ _ s1.heap.objs.size _ c ns (fun b u e => ?_) g1 o1 hsz hc k2 (gt_of_nodup ns k4 (pn.nodup_iff.mpr nd)) (fun k => by rw [pn.mem_iff, ← hm k]) (by rw [pn.length_eq, List.length_map, Array.length_toList]; exact hn)⟩
  have q := k1 b u e
  have hlt := Heap.lt_size q
  show (sortedHeap _ s1.heap.objs.size vs _).get? b = some u
  rw [sortedHeap_old (Nat.ne_of_lt hlt) (by rw [size_push']; exact Nat.lt_succ_of_lt hlt)]
  exact Heap.get?_push_of_some _ q
end
end Q
end
section
set_option Elab.async false
set_option linter.all false
set_option maxRecDepth 100000
set_option maxHeartbeats 3200000
namespace Q
open PySem PySem.Spec PyProof.Rows L2
/-! ### set(a list of ints), with its order known -/
def freshS (w : World) : Obj := { cls := .type "set", dict := none, data := .set #[] 0 (.fresh 0 0 (!w.params.followText "set-order")) }
section
variable {P : Program} {w : World} {A : Around} {E : Value → Shared → Prop} {s : Shared}
theorem code_set_new1L (x : Value) {Q1 : Value → Shared → Prop} (h : Q1 (.ref s.heap.objs.size) { s with heap := s.heap.push (freshS w) }) :
    codeAny (model P w) A (.call (.builtin "set.__new__") ⟨[.type "set", x], []⟩) (wants Q1 E) s := by
  refine codeAny_of_tree ?_
  show wpAny _ A.in1 (checkBuiltinCall "set.__new__" ⟨[.type "set", x], []⟩ >>= fun _ => again (.builtin "set.__new__" ⟨[.type "set", x], []⟩)) _ _ s
  refine wpAny_bind (wpAny_of_eq (PySem.F.newCall_set_1 x) (wpAny_pure ⟨plainId_quiet F.plain_set_new _, codeAny_builtin F.entry_set_new ?_⟩))
  rw [Around.under_plainId F.plain_set_new _]
  unfold Builtin.«set.__new__» Builtin.Frozenset.newClass
  have hsub := sub_set_self
  obtain ⟨hp, g, d, tk, os⟩ := s
  dsimp only
  wp_walk
  refine wpAny_askSetting (wpAny_pure ?_)
  dsimp only
  simp only [newObj]
  exact wpAny_bind (wpAny_alloc (wpAny_pure (wpAny_pure h)))
end
section
variable {P : Program} {w : World} {A : Around} {R : Result → Shared → Prop} {I : Addr} {fp wr : List Addr} {G : Array GenState → Array GenState → Prop} {n : Nat} {Pv : Nat → Value → Prop} {St : Nat → Shared → Prop}
theorem setR_same {h : Heap} {a : Addr} {S S' : Int → Bool} {m m' : Nat} (x : SetR w h a S m) (e : ∀ k, S k = S' k) (em : m = m') : SetR w h a S' m' := by
  have es : S = S' := funext e
  rw [← es, ← em]
  exact x
theorem update_loopR (W : WalksS P w A.in1 I fp wr G n Pv St) (D0 : Addr) (hDf : D0 ∉ fp) (val : Nat → Int) (hval : ∀ i v, Pv i v → ∃ t, v = .int (val i) t) (hb : n + 1 < scanBound) :
    ∀ (k i : Nat) (s : Shared), n - i = k → i ≤ n → St i s → SetR w s.heap D0 (fun j => (firstMet val i).any (· == j)) (firstMet val i).length →
      (∀ s', Moved (D0 :: wr) G s s' → SetR w s'.heap D0 (fun j => (firstMet val n).any (· == j)) (firstMet val n).length → R (.ok (.ret .none)) s') →
      codeAny (model P w) A (.builtin "set.update.loop" ⟨[.ref D0, .ref I], []⟩) R s := by
  have hDw : D0 ∉ wr := fun h => hDf (W.sub _ h)
  have sub : ∀ b ∈ wr, b ∈ D0 :: wr := fun b hb => List.mem_cons_of_mem _ hb
  intro k
  induction k with
  | zero =>
    intro i s hk hi st hS hR
    obtain rfl : i = n := by omega
    refine codeAny_builtin PyProof.Rows.F.entry_set_update_loop ?_
    rw [Around.under_plainId PyProof.Rows.F.plain_set_update_loop _]
    show wpAny _ A.in1 (pyNext (.ref I) >>= _) _ _ s
    refine wpAny_bind (W.done s _ _ st fun s' hm => ?_)
    show wpAny _ A.in1 (ret Value.none) _ _ s'
    exact wpAny_pure (hR s' (hm.mono sub) (hS.at fun o e => hm.heap D0 _ hDw e))
  | succ k ih =>
    intro i s hk hi st hS hR
    have hlt : i < n := by omega
    refine codeAny_builtin PyProof.Rows.F.entry_set_update_loop ?_
    rw [Around.under_plainId PyProof.Rows.F.plain_set_update_loop _]
    show wpAny _ A.in1 (pyNext (.ref I) >>= _) _ _ s
    refine wpAny_bind (W.item i s _ _ hlt st fun v s2 hP st2 hm => ?_)
    obtain ⟨t, rfl⟩ := hval i v hP
    have hS2 := hS.at fun o e => hm.heap D0 _ hDw e
    have room : (firstMet val i).length + 1 < scanBound := Nat.lt_of_le_of_lt (Nat.succ_le_succ (firstMet_length_le val i)) (by omega)
    show wpAny _ A.in1 (holding [Value.int (val i) t] (setAdd D0 (.int (val i) t)) >>= _) _ _ s2
    refine wpAny_bind (wpAny_holding ?_)
    unfold setAdd
    refine wpAny_holding (wpAny_bind ((intKind P w).pyHash (k := val i) (intKind_is _ _ _ _) ?_))
    refine setR_add_hashed (s := { s2 with toks := s2.toks + 1 }) hS2 room fun h' sb r => ?_
    have hSi : SetR w h' D0 (fun j => (firstMet val (i + 1)).any (· == j)) (firstMet val (i + 1)).length := setR_same r (fun j => by rw [firstMet_succ, step_any]) (by rw [firstMet_succ, step_length])
    refine wpAny_pure ⟨plainId_quiet PyProof.Rows.F.plain_set_update_loop _, ih (i + 1) _ (by omega) hlt (W.frame _ s2 _ _ st2 (Nat.le_succ _) fun b hb o e => ?_) hSi fun s3 hm3 hS3 => ?_⟩
    · exact (sb.2 b (fun z => hDf (by rw [← z]; exact hb))).trans e
    · refine hR s3 (Moved.trans W.gtrans ((hm.mono sub).then_heap (Nat.le_succ _) fun b o hb e => ?_) hm3) hS3
      exact (sb.2 b (fun z => hb (by rw [z]; exact List.mem_cons_self))).trans e
end
end Q
end
section
set_option Elab.async false
set_option linter.all false
set_option maxRecDepth 100000
set_option maxHeartbeats 3200000
namespace Q
open PySem PySem.Spec PyProof.Rows L2
section
variable {P : Program} {w : World} {A : Around} {E : Value → Shared → Prop} {s : Shared}
/-- the state behind the creation of the set, ahead of the update -/
abbrev sF (w : World) (s : Shared) : Shared := { s with heap := s.heap.push (freshS w) }
theorem call_set_listR {l : Addr} {vs : Array Value} (ns : List Int) {Qv : Value → Shared → Prop} (hn : A.handled = none) (hl : s.heap.IsList l vs) (hi : IntsAre vs.toList ns) (hb : ns.length + 1 < scanBound)
    (hQ : ∀ (s' : Shared) (c : Nat), SetR w s'.heap s.heap.objs.size (fun j => decide (j ∈ ns)) c → c ≤ ns.length → (∀ b o, s.heap.get? b = some o → s'.heap.get? b = some o) → s'.gens = s.gens → s'.os = s.os → s'.drawn = s.drawn → Qv (.ref s.heap.objs.size) s') :
    wpAny (model P w) A (call (.type "set") [.ref l]) Qv E s := by
  have hz : vs.size = ns.length := by have q := IntsAre.length hi; rwa [Array.length_toList] at q
  obtain ⟨c, tl, h0⟩ := F.called_set.mro
  have h1 := F.called_set.made
  have h2 := F.called_set.sub
  have h3 := F.called_set.notType
  have h4 := F.called_set.canCreate
  have h5 := F.typeCall_set_1 (.ref l)
  refine wpAny_call (codeAny_of_tree ?_)
  show wpAny _ _ (callAny (.type "set") _) _ _ _
  refine wpAny_pure ⟨Code.quiet_builtin _ (by decide +kernel), codeAny_builtin F.entry_type_call ?_⟩
  rw [Around.under_plain (weight_type_call_type "set" [.ref l] []) rfl]
  repeat (any_goals (first | assumption | wp_step))
  refine codeAny_mono (code_set_new1L (.ref l) (E := E) (Q1 := fun v s1 => v = .ref s.heap.objs.size ∧ s1 = sF w s) ⟨rfl, rfl⟩) ?_
  intro rr s1 hr
  rcases rr with er | fl
  · exact hr
  rcases fl with _ | v | _ | _ <;> try exact hr.elim
  obtain ⟨rfl, rfl⟩ := hr
  have gS : (s.heap.push (freshS w)).get? s.heap.objs.size = some (freshS w) := Heap.get?_push_size _ rfl
  have tS : (sF w s).TypeIs (.ref s.heap.objs.size) "set" := ⟨_, gS, rfl⟩
  have k1 := F.called_set.init.lookup
  have k2 := F.called_set.init.bind (.ref s.heap.objs.size)
  repeat (any_goals (first | assumption | wp_step))
  refine codeAny_mono (codeAny_call_builtin (R := wants (fun r s2 => r = .none ∧ ∃ c, SetR w s2.heap s.heap.objs.size (fun j => decide (j ∈ ns)) c ∧ c ≤ ns.length ∧
    (∀ b o, s.heap.get? b = some o → s2.heap.get? b = some o) ∧ s2.gens = s.gens ∧ s2.os = s.os ∧ s2.drawn = s.drawn) E) F.called_set.init.plain F.entry_set_init (check_set_init_1 tS ?_)) ?_
  · obtain ⟨lo, glo, e1, nl, e2⟩ := hl
    obtain ⟨lcls, ldict, ldata, lslots⟩ := lo
    dsimp only at e1 e2
    subst e1 e2
    have gl2 : (s.heap.push (freshS w)).get? l = some _ := Heap.get?_push_of_some _ glo
    have hl2 : (s.heap.push (freshS w)).IsList l vs := ⟨_, gl2, rfl, nl, rfl⟩
    have z1 := F.sub_list_set
    have z2 := F.sub_list_frozenset
    have z3 : (Value.type "list" == Value.type "dict") = false := by decide
    unfold Builtin.«set.__init__» noKeywords Builtin.Frozenset.updateFrom
    generalize gI : pyIter = PI
    wp_walk
    subst gI
    refine wpAny_pyIter_list hl2 ?_
    refine wpAny_bind (wpAny_runValue ?_)
    have ll : l < s.heap.objs.size := Heap.lt_size glo
    have zz : (s.heap.push (freshS w)).objs.size = s.heap.objs.size + 1 := Heap.size_push ..
    have hn3 : A.in1.in1.in1.handled = none := by simp [hn]
    have nI : l ≠ (s.heap.push (freshS w)).objs.size := by rw [zz]; exact Nat.ne_of_lt (Nat.lt_succ_of_lt ll)
    refine set_update_ints ((Walks.list hn3 _ l nI vs).toS) s.heap.objs.size ?_ ns hz hb ?_ (vs.size - 0) 0 _ (by omega) (Nat.zero_le _)
      ⟨⟨_, Heap.get?_push_size _ rfl, rfl, rfl⟩, hl2.push _⟩ ⟨0, Nat.le_refl 0, setR_new_at (Heap.get?_push_of_some _ gS)⟩ ?_
    · rw [zz]; simp only [List.mem_cons, List.not_mem_nil, or_false, not_or]; exact ⟨Nat.ne_of_lt (Nat.lt_succ_self _), Nat.ne_of_gt ll⟩
    · intro i v hv
      have hi2 : i < ns.length := by rw [← hz]; exact (Array.getElem?_eq_some_iff.mp hv).1
      obtain ⟨t, e⟩ := IntsAre.int_at hi i v (by rw [Array.getElem?_toList]; exact hv)
      exact ⟨ns[i], t, List.getElem?_eq_getElem hi2, by rw [e, List.getD_eq_getElem?_getD, List.getElem?_eq_getElem hi2]; rfl⟩
    · intro s2 c2 hm hc hS
      show wpAny _ _ _ _ _ _
      refine wpAny_pure ?_
      show wpAny _ _ (ret Value.none) _ _ _
      rw [hz] at hc
      refine wpAny_pure ⟨rfl, c2, hS, hc, fun b o e => ?_, hm.gens, hm.os, hm.drawn⟩
      have q := Heap.lt_size e
      refine hm.heap b o ?_ (Heap.get?_push_of_some _ (Heap.get?_push_of_some _ e))
      rw [zz]
      simp only [List.mem_cons, List.not_mem_nil, or_false, not_or]
      exact ⟨Nat.ne_of_lt q, Nat.ne_of_lt (Nat.lt_succ_of_lt q)⟩
  · intro r2 s2 hr2
    rcases r2 with er | f2
    · exact hr2
    rcases f2 with _ | _ | _ | v2 <;> try exact hr2.elim
    obtain ⟨rfl, c2, hS, hc, hk, hg, ho, hd⟩ := hr2
    repeat (any_goals (first | assumption | wp_step))
    exact hQ _ c2 hS hc hk hg ho hd
end
end Q
end
section
set_option Elab.async false
set_option linter.all false
set_option maxRecDepth 100000
set_option maxHeartbeats 1600000
namespace Q
open PySem PySem.Spec L2
/-- set(list of ints) -/
def rSetL (K : PySem.W.Frag) (w : World) : List V → Hp → VK → Prop := fun vs H Qv => ∃ (l : Addr) (ns : List Int), vs = [.ref l] ∧ SqL K H l (ns.map V.int) ∧ ns.length < 60 ∧
  ∀ (p : Addr) (n : Nat), n ≤ ns.length → H p = none → Qv (.ref p) (upd H p (SetO w p (fun j => decide (j ∈ ns)) n))
theorem cr_setL {X : Cx} (hc : X.calm = true) : CallR X (.type "set") (rSetL X.K X.w) := by
  intro pins s sg H xs us Qv I r h
  obtain ⟨l, ns, rfl, hl, hz, q⟩ := h
  rw [Vals.ref1 r]
  obtain ⟨its, rv, ⟨lo, ln, g1, g2, g3, g4⟩, _⟩ := I.list hl
  refine call_set_listR ns (I.ok.hd hc) ⟨lo, g1, g2, ln, g4⟩ (ints_of_vals rv) (by unfold scanBound; omega) fun s1 n R hn k eg eo ed => ?_
  have hp : H s.heap.objs.size = none := I.hok.fresh (Nat.le_refl _)
  have J : Inv X pins sg (upd H s.heap.objs.size (SetO X.w s.heap.objs.size (fun j => decide (j ∈ ns)) n)) { s with heap := s1.heap, gens := s1.gens, drawn := s1.drawn, toks := s1.toks } :=
    I.call (ch := []) (Un.laid k (Nat.le_refl _) hp) (I.hok.laid k (Nat.le_refl _) (setO_new R)) (by rw [eg]; exact I.bare) (fun _ z => nomatch z)
  have e : s1 = { s with heap := s1.heap, gens := s1.gens, drawn := s1.drawn, toks := s1.toks } := by
    cases s1
    cases s
    cases eo
    rfl
  rw [e]
  exact ⟨.ref _, _, J, rfl, q _ n hn hp⟩
variable [Tb]
def insA (x : Int) : List Int → List Int
  | [] => [x]
  | y :: ys => if x < y then x :: y :: ys else if x = y then y :: ys else y :: insA x ys
def ascI (ns : List Int) : List Int := ns.foldr insA []
theorem mem_insA {x k : Int} : ∀ {ys : List Int}, k ∈ insA x ys ↔ k = x ∨ k ∈ ys
  | [] => by simp [insA]
  | y :: ys => by
    unfold insA
    split
    · simp
    · split
      · rename_i e; subst e; simp
      · rw [List.mem_cons, List.mem_cons, mem_insA (ys := ys)]; exact or_left_comm
theorem asc_insA {x : Int} : ∀ {ys : List Int}, ys.Pairwise (· < ·) → (insA x ys).Pairwise (· < ·)
  | [], _ => by simp [insA]
  | y :: ys, h => by
    obtain ⟨h1, h2⟩ := List.pairwise_cons.mp h
    unfold insA
    split
    · rename_i lt
      refine List.pairwise_cons.mpr ⟨fun z hz => ?_, h⟩
      rcases List.mem_cons.mp hz with e | e
      · omega
      · have := h1 z e
        omega
    · split
      · exact h
      · refine List.pairwise_cons.mpr ⟨fun z hz => ?_, asc_insA h2⟩
        rcases mem_insA.mp hz with e | e
        · omega
        · exact h1 z e
theorem mem_ascI {k : Int} : ∀ {ns : List Int}, k ∈ ascI ns ↔ k ∈ ns
  | [] => by simp [ascI]
  | n :: ns => by
    have e : ascI (n :: ns) = insA n (ascI ns) := rfl
    rw [e, mem_insA, mem_ascI (ns := ns), List.mem_cons]
theorem asc_ascI : ∀ {ns : List Int}, (ascI ns).Pairwise (· < ·)
  | [] => by simp [ascI]
  | n :: ns => asc_insA (asc_ascI (ns := ns))
theorem asc_ext : ∀ {a b : List Int}, a.Pairwise (· < ·) → b.Pairwise (· < ·) → (∀ k, k ∈ a ↔ k ∈ b) → a = b
  | [], [], _, _, _ => rfl
  | [], y :: ys, _, _, h => by have := (h y).mpr (by simp); simp at this
  | x :: xs, [], _, _, h => by have := (h x).mp (by simp); simp at this
  | x :: xs, y :: ys, ha, hb, h => by
    obtain ⟨a1, a2⟩ := List.pairwise_cons.mp ha
    obtain ⟨b1, b2⟩ := List.pairwise_cons.mp hb
    have e : x = y := by
      rcases List.mem_cons.mp ((h x).mp (by simp)) with e | e
      · exact e
      · rcases List.mem_cons.mp ((h y).mpr (by simp)) with e2 | e2
        · exact e2.symm
        · have := a1 y e2; have := b1 x e; omega
    subst e
    refine congrArg _ (asc_ext a2 b2 fun k => ⟨fun hk => ?_, fun hk => ?_⟩)
    · rcases List.mem_cons.mp ((h k).mp (List.mem_cons_of_mem _ hk)) with e | e
      · have := a1 k hk; omega
      · exact e
    · rcases List.mem_cons.mp ((h k).mpr (List.mem_cons_of_mem _ hk)) with e | e
      · have := b1 k hk; omega
      · exact e
def fSortedSet (d : D) (c : Cells) : O := ((lView c d).bind intL).bind fun ns => if ns.length < 60 then some (.lst ((ascI ns).map D.int), c) else none
theorem se_sortedSet {X : Cx} {W : WX} {a : Expr} {ma : ME} {p p2 pos pos2 : Pos} (hc : X.calm = true) (hm : X.mg "sorted" = none) (hm2 : X.mg "set" = none) (ha : SE X W a ma) (hg : Gl X "sorted" := by rfl) (hg2 : Gl X "set" := by rfl)
    (hs : starEach [a] X.env = (false, eval a X.env) :: starEach [] X.env := by rfl) : SE X W (.Call (.Name "sorted" p) [.Call (.Name "set" p2) [a] [] pos2] [] pos) (m1 fSortedSet ma) := by
  obtain ⟨ta, pa, qa⟩ := ha
  refine ⟨_, pe_callB (cr_sortedSet hc) hg hm (by decide +kernel) (pa_cons (pe_callTy (cr_setL hc) hg2 hm2 PyProof.Rows.boot_set (pa_cons pa pa_nil hs) (by decide) (by decide) hs) pa_nil (by rfl)) (by decide) (by decide), fun S sg env Qv g en z => ?_⟩
  refine qa S sg env _ g en (post_bind z fun x S1 v e1 g1 x1 a1 p1 => ?_)
  obtain ⟨d, c, e, q⟩ := p1.o.some
  obtain ⟨ns, e2, e3⟩ := Option.bind_eq_some_iff.mp e
  obtain ⟨es, e4, e5⟩ := Option.bind_eq_some_iff.mp e2
  split at e3
  · rename_i hz
    cases e3
    obtain ⟨l, us, rfl, hl, al⟩ := lView_at g1 a1 e4
    have hu := intL_at e5 al
    subst hu
    refine ⟨l, ns, rfl, hl, hz, fun pA n hn hp => ?_⟩
    refine ⟨pA, _, n, rfl, upd_same, by omega, fun ms pB h1 h2 h3 h4 => ?_⟩
    have em : ms = ascI ns := asc_ext h1 asc_ascI fun k => by rw [h2, mem_ascI, decide_eq_true_eq]
    subst em
    have xp := Sta.ext_put (T := wd X) (o := SetO X.w pA (fun j => decide (j ∈ ns)) n) g1 hp
    have gp := g1.put (o := SetO X.w pA (fun j => decide (j ∈ ns)) n) hp
    exact made (t := .lst) (S := S1.put pA (SetO X.w pA (fun j => decide (j ∈ ns)) n)) gp h4 (atL_ints (ascI ns)) upd_same fun S' v' g' ec x' a' => q S' v' g' ec (xp.trans x') a'
  · cases e3
end Q
end
section
set_option Elab.async false
set_option linter.all false
set_option maxRecDepth 100000
set_option maxHeartbeats 1600000
namespace Q
open PySem PySem.Spec L2
/-- sorted(found, reverse=True), found a tracked set of ints -/
def rSortedR (w : World) : List V → List V → Hp → VK → Prop := fun vs zs H Qv => ∃ (a : Addr) (S : Int → Bool) (n : Nat), vs = [.ref a] ∧ zs = [.bl true] ∧ H a = some (SetO w a S n) ∧ n < 64 ∧
  ∀ (ns : List Int) (p : Addr), ns.Pairwise (· > ·) → (∀ k, k ∈ ns ↔ S k = true) → ns.length = n → H p = none → Qv (.ref p) (upd H p (.lst (ns.map V.int)))
theorem cr_sortedR {X : Cx} (hc : X.calm = true) : CallRK X (.builtin "sorted") [Str.ofString "reverse"] (rSortedR X.w) := by
  intro pins s sg H xs zs us ws Qv I r rz h
  obtain ⟨a, S, n, rfl, rfl, ha, h6, q⟩ := h
  rw [Vals.ref1 r]
  cases rz with
  | cons z0 z1 =>
  cases z1
  cases z0
  have line : n ≤ sizeLine := by rw [sizeLine_eq]; omega
  refine sorted_setR (setO_get I ha) (I.ok.hd hc) line fun s1 p out c ns k eg eo hp e0 hi hd hm hl => ?_
  have fr : H p = none := I.hok.fresh hp
  have len : (ns.map V.int).length ≤ sizeLine := by rw [List.length_map, hl]; exact line
  have J : Inv X pins sg (upd H p (.lst (ns.map V.int))) { s with heap := s1.heap, gens := s1.gens, drawn := s1.drawn, toks := s1.toks } :=
    I.call (ch := []) (Un.laid k hp fr) (I.hok.laid k hp ⟨len, out.toList, c, vals_of_ints hi, e0⟩) (by rw [eg]; exact I.bare) (fun _ z => nomatch z)
  have e : s1 = { s with heap := s1.heap, gens := s1.gens, drawn := s1.drawn, toks := s1.toks } := by
    cases s1
    cases s
    cases eo
    rfl
  rw [e]
  exact ⟨.ref p, _, J, rfl, q ns p hd hm hl fr⟩
/-- a member joins a tracked set -/
theorem add_setO {X : Cx} {pins : List (Addr × Obj)} {sg : St} {H : Hp} {s : Shared} {E : Value → Shared → Prop} {D : Addr} {S : Int → Bool} {n : Nat} {k : Int} {t : Tok} {Qv : Value → Shared → Prop} (I : Inv X pins sg H s) (hD : H D = some (SetO X.w D S n)) (room : n + 1 < scanBound)
    (q : ∀ s1, Inv X pins sg (upd H D (SetO X.w D (fun j => S j || decide (j = k)) (if S k = true then n else n + 1))) s1 → Qv .none s1) :
    wpAny (model X.prog X.w) X.A (call (.builtin "set.add") [.ref D, .int k t]) Qv E s := by
  refine setR_add (setO_get I hD) room fun h1 sb R => q _ ?_
  have ⟨o, _, _, _, ho, _⟩ := R
  have mu : Mut (H D) := by rw [hD]; trivial
  exact I.write (e := D) (t' := s.toks + 1) mu (.inl rfl) (fun b u hb hu => (sb.2 b hb).trans hu) ⟨o, ho⟩ (setO_new R)
end Q
end
section
set_option Elab.async false
set_option linter.all false
set_option maxRecDepth 100000
set_option maxHeartbeats 3200000
namespace Q
open PySem PySem.Spec L2
/-! ### name = {elt for tg in iter if ..}, elt an int -/
/-- the set that these ints make at D -/
abbrev setI (w : World) (D : Addr) (ks : List Int) (n : Nat) : HO := SetO w D (fun j => decide (j ∈ ks)) n
theorem mu_set {w : World} {h : Heap} {D : Addr} {ks : List Int} {n : Nat} (x : SetR w h D (fun j => decide (j ∈ ks)) n) : Mu D (some (setI w D ks n)) := by
  have ⟨o, _, _, _, ho, _, hd, _⟩ := x
  exact ⟨h, o, x, ho, fun vs e => by rw [hd] at e; cases e⟩
/-- what the turns over J want; Dn at the end -/
def TurnI (w : World) (J : It) (g : TG) (tt : TT) (te : TE) (vs : List Nat) (sg : L2.St) (D : Addr) (Dn : Hp → Prop) (Wt : Nat → Nat → Hp → Prop) : Prop :=
  ∀ i m H0, Wt i m H0 → (J.stop i H0 ∧ Dn H0) ∨ (J.go i H0 ∧ ∃ Nx : Hp → Prop, (∀ H1, Nx H1 → ∃ k, k < m ∧ Wt (i + 1) k H1) ∧
    ∀ x H1, J.yld i H0 x H1 → g x (L2.wipe sg vs) H1 fun sg2 H2 => L2.wipe sg2 vs = L2.wipe sg vs ∧ tt sg2 H2 fun b H3 => (b = false → Nx H3) ∧
      (b = true → te sg2 H3 fun y H4 => ∃ (c : Int) (ks : List Int) (n : Nat), y = .int c ∧ H4 D = some (setI w D ks n) ∧ n < 60 ∧ ∀ n', n' ≤ n + 1 → Mu D (some (setI w D (ks ++ [c]) n')) → Nx (upd H4 D (setI w D (ks ++ [c]) n'))))
def tSetI (w : World) (wi : TI) (g : TG) (tt : TT) (te : TE) (vs : List Nat) : TE := fun sg H Qv => wi sg H fun J H1 => ∀ D, H1 D = none → Mu D (some (setI w D [] 0)) →
  ∃ Wt : Nat → Nat → Hp → Prop, (∃ m, Wt 0 m (upd H1 D (setI w D [] 0))) ∧ TurnI w J g tt te vs sg D (fun H2 => Qv (.ref D) H2) Wt
abbrev emptyS (w : World) : Obj := { cls := .type "set", dict := none, data := .set #[] 0 (.fresh 0 0 (!w.params.followText "set-order")) }
theorem empty_set {h : Heap} (w : World) : SetR w (h.push (emptyS w)) h.objs.size (fun j => decide (j ∈ ([] : List Int))) 0 := by
  have z := setR_fresh (h := h) w
  have e : (fun _ => false : Int → Bool) = fun j => decide (j ∈ ([] : List Int)) := by funext j; simp
  rw [e] at z
  exact z
theorem add_setI {X : Cx} {pins : List (Addr × Obj)} {sg : St} {H : Hp} {s : Shared} {E : Value → Shared → Prop} {D : Addr} {ks : List Int} {n : Nat} {k : Int} {t : Tok} {Qv : Value → Shared → Prop} (I : Inv X pins sg H s) (hD : H D = some (setI X.w D ks n)) (room : n < 60)
    (q : ∀ s1 n', n' ≤ n + 1 → Mu D (some (setI X.w D (ks ++ [k]) n')) → Inv X pins sg (upd H D (setI X.w D (ks ++ [k]) n')) s1 → Qv .none s1) :
    wpAny (model X.prog X.w) X.A (call (.builtin "set.add") [.ref D, .int k t]) Qv E s := by
  refine add_setO I hD (by unfold scanBound; omega) fun s1 J => ?_
  have e : (fun j => (decide (j ∈ ks)) || decide (j = k)) = fun j => decide (j ∈ ks ++ [k]) := by
    funext j
    simp
  have J2 : Inv X pins sg (upd H D (setI X.w D (ks ++ [k]) (if (decide (k ∈ ks)) = true then n else n + 1))) s1 := by
    unfold setI
    rw [← e]
    exact J
  refine q s1 _ ?_ (mu_set (setO_get J2 upd_same)) J2
  split <;> omega
section
variable {X : Cx} {wi : TI} {g : TG} {tt : TT} {te : TE} {elt tg iter : Expr} {ifs : List Expr} {scope : Scope} {own : List (Str × Nat)}
/-- the comprehension's context -/
abbrev Bk (X : Cx) (scope : Scope) (s : Shared) (H : Hp) (C : Addr) (cl : List (Str × Addr)) (fp : List Addr) : Cx := X.blk s H scope (compEnvC scope cl C X.env) fp
theorem setI_core {pins : List (Addr × Obj)} {st0 : Shared} {sg : L2.St} {Hs : Hp} {Qv : VK} {pos pos2 : Pos} {use : Option (Value → Sem Unit)} {Qf : Value → Shared → Prop} (hc : X.calm = true) (hN : X.N.Nodup) (I0 : Inv X pins sg Hs st0) (hi : PI X tg iter wi) (ok : BlkOk X.N X.env.scope scope own)
    (hg : ∀ s H C cl fp, PG (Bk X scope s H C cl fp) tg g) (ht : ∀ s H C cl fp, PTs (Bk X scope s H C cl fp) ifs tt) (he : ∀ s H C cl fp, PE (Bk X scope s H C cl fp) elt te) (hf : ∀ x, foldedSetIterable iter X.env x = pure x) (wish : tSetI X.w wi g tt te (own.map (·.2)) sg Hs Qv)
    (fin : ∀ D C s' m H', Inv X pins sg H' s' → Qv (.ref D) H' → s'.heap.Ns C m → FpOk X pins H' C → compPost (model X.prog X.w) X.A X.xe use Qf (.ref D) C (.ok .next) s') :
    wpAny (model X.prog X.w) X.A (comprehension (.SetComp elt [⟨tg, iter, ifs, 0⟩] scope pos) scope X.env pos2 (newSet (.type "set")) false (eval iter X.env) use) Qf X.xe st0 := by
  have clo : ∀ y ∈ scope.names, y.2 = .free → ∃ c, X.env.cells.lookup y.1 = some c := fun y hy e => (ok.free y hy e).elim (fun k => I0.ok.has _ (.inl k)) fun k => I0.ok.has _ (.inr k)
  refine wpAny_comprehension_free (use := use) rfl hf (closure_ok clo) ok.kind (fun y hy e => by rw [ok.uniq y hy, e]) (thn (hi.run pins st0 sg Hs _ I0 wish) fun xv s1 z1 => thn z1 fun itv s2 z2 => ?_)
  obtain ⟨it, fp, tn, J, HA, rfl, IA, TT, stA, fA, wish2⟩ := z2
  refine PpSet.newSet_ok (newEnv_comp ?_)
  have fresh : HA s2.heap.objs.size = none := IA.hok.fresh (Nat.le_refl _)
  obtain ⟨Wt, ⟨m0, w0⟩, turn⟩ := wish2 _ fresh (mu_set (empty_set (h := s2.heap) X.w))
  obtain ⟨D, hD⟩ : ∃ D, D = s2.heap.objs.size := ⟨_, rfl⟩
  rw [← hD] at fresh w0 turn ⊢
  obtain ⟨sB, hB⟩ : ∃ sB : Shared, sB = { s2 with heap := s2.heap.push (emptyS X.w) } := ⟨_, rfl⟩
  obtain ⟨HB, hHB⟩ : ∃ HB, HB = upd HA D (setI X.w D [] 0) := ⟨_, rfl⟩
  have IB : Inv X pins sg HB sB := by
    rw [hB, hHB, hD]
    exact IA.laid (t' := s2.toks) (fun b o e => Heap.get?_push_of_some _ e) (Nat.le_refl _) (setO_new (empty_set X.w))
  have keepB : ∀ b o, s2.heap.get? b = some o → sB.heap.get? b = some o := fun b o e => by
    rw [hB]
    exact Heap.get?_push_of_some _ e
  have fB : ∀ b ∈ fp, FpOk X pins HB b ∧ b < sB.heap.objs.size := fun b hb => by
    obtain ⟨o, eo, _⟩ := TT.obj _ _ stA b hb
    have lt := Heap.lt_size eo
    refine ⟨⟨?_, (fA b hb).2⟩, ?_⟩
    · rw [hHB, upd_ne (by rw [hD]; exact Nat.ne_of_lt lt)]
      exact (fA b hb).1
    · rw [hB, Heap.size_push]
      exact Nat.lt_succ_of_lt lt
  have stB : tn 0 sB.heap := TT.keep _ _ _ stA fun b _ o e => keepB b o e
  rw [← hB]
  rw [← hHB] at w0
  have IC := block_start IB ok hN fB
  have gB := hg sB HB sB.heap.objs.size (cellsFrom (sB.heap.objs.size + 1) scope.names (cloFrom X.env.cells scope.names [])) fp
  have tB := ht sB HB sB.heap.objs.size (cellsFrom (sB.heap.objs.size + 1) scope.names (cloFrom X.env.cells scope.names [])) fp
  have eB := he sB HB sB.heap.objs.size (cellsFrom (sB.heap.objs.size + 1) scope.names (cloFrom X.env.cells scope.names [])) fp
  obtain ⟨ce, hce⟩ : ∃ ce, ce = compEnvC scope (cellsFrom (sB.heap.objs.size + 1) scope.names (cloFrom X.env.cells scope.names [])) sB.heap.objs.size X.env := ⟨_, rfl⟩
  obtain ⟨sC, hC⟩ : ∃ sC : Shared, sC = { sB with heap := pushCells (sB.heap.push { cls := .type "dict", data := .dict #[] }) scope.names } := ⟨_, rfl⟩
  have noneB : ∀ b ∈ fp, HB b = none := fun b hb => (fB b hb).1.1
  show codeAny _ _ (.compStart (.SetComp elt [⟨tg, iter, ifs, 0⟩] scope pos) 0 (.ref it) (.ref D) (compEnvC scope (cellsFrom (sB.heap.objs.size + 1) scope.names (cloFrom X.env.cells scope.names [])) sB.heap.objs.size X.env)) (compPost (model X.prog X.w) X.A X.xe use Qf (.ref D) sB.heap.objs.size) { sB with heap := pushCells (sB.heap.push { cls := .type "dict", data := .dict #[] }) scope.names }
  unfold Bk at gB tB eB
  rw [← hce] at IC gB tB eB ⊢
  rw [← hC] at IC ⊢
  have locals : ce.locals = sB.heap.objs.size := by rw [hce]; rfl
  have stC : tn 0 sC.heap := TT.keep _ _ _ stB fun b _ o e => by rw [hC]; exact pushCells_keeps _ _ _ _ (Heap.get?_push_of_some _ e)
  have fpC : ∀ {sg' : L2.St} {H' : Hp} {s' : Shared}, Inv (X.blk sB HB scope ce fp) [] sg' H' s' → (∀ b ∈ fp, H' b = none) → ∀ b ∈ fp, FpOk (X.blk sB HB scope ce fp) [] H' b := fun {sg' H' s'} I' hn b hb =>
    ⟨hn b hb, (I'.ok.exf b hb).1, I'.ok.exfs b hb, .inl hb, fun x c e => (I'.ok.exf b hb).2 x c e, fun p hp => by
      have z : p ∈ ([] : List (Addr × Obj)) ++ [] := hp
      simp at z⟩
  have walk : codeAny (model X.prog X.w) X.A (.compLoop (.SetComp elt [⟨tg, iter, ifs, 0⟩] scope pos) 0 (.ref it) (.ref D) ce) (compPost (model X.prog X.w) X.A X.xe use Qf (.ref D) sB.heap.objs.size) sC := by
    refine PpSet.compLoopS_any (fun n s' => ∃ i H', Inv (X.blk sB HB scope ce fp) [] (L2.wipe sg (own.map (·.2))) H' s' ∧ tn i s'.heap ∧ (∀ b ∈ fp, H' b = none) ∧ Wt i n H') ?_ m0 ⟨0, HB, IC, stC, noneB, w0⟩
    rintro n sD ⟨i, HD, ID, stD, nD, wD⟩
    rcases turn i n HD wD with ⟨stop, dn⟩ | ⟨go, Nx, hNx, step⟩
    · refine thnF (TT.done (X.blk sB HB scope ce fp) rfl rfl rfl hc i [] sD _ HD (fun _ _ => False) ID (fpC ID nD) stD stop) fun r sE ⟨hr, IE⟩ => ?_
      subst hr
      have back : Inv X pins sg HD sE := IB.call' (ch := fp) IE.os IE.base IE.hok IE.bare fun b hb => ⟨(fB b hb).1.2.2.2.1, (fB b hb).1.2.1, (fB b hb).1.2.2.2.2.1, (fB b hb).1.2.2.2.2.2⟩
      have free : HD ce.locals = none := IE.free
      obtain ⟨m, hn, _⟩ := IE.loc
      have hn : sE.heap.Ns ce.locals m := hn
      rw [locals] at hn free
      exact fin D _ sE m HD back dn hn (IB.fpOk (Nat.le_refl _) free)
    · refine thnF (TT.item (X.blk sB HB scope ce fp) rfl rfl rfl hc i [] sD _ HD (fun _ _ => False) ID (fpC ID nD) stD go) fun r sE ⟨u, hr, zE⟩ => ?_
      subst hr
      refine thnF zE fun _ sF ⟨x, HF, IF, rF, yF, stF, nF⟩ => ?_
      refine thnF (gB.run _ sF _ HF x u _ (IF.pinned (fpC IF nF) (TT.obj _ _ stF)) rF (step x HF yF)) fun _ sG ⟨sgG, HG, IG, wG, qG⟩ => ?_
      refine thnF (tB.run _ sG sgG HG _ IG qG) fun b sL ⟨HL, IL, qL⟩ => ?_
      have next : ∀ {s' : Shared} {H' : Hp}, Inv (X.blk sB HB scope ce fp) ([] ++ pinsAt fp sF.heap) sgG H' s' → Nx H' → ∃ m, m < n ∧ ∃ i H', Inv (X.blk sB HB scope ce fp) [] (L2.wipe sg (own.map (·.2))) H' s' ∧ tn i s'.heap ∧ (∀ b ∈ fp, H' b = none) ∧ Wt i m H' := fun {s' H'} I' nx => by
        obtain ⟨k, hk, wk⟩ := hNx H' nx
        have pinned : ∀ b ∈ fp, ∀ o, sF.heap.get? b = some o → s'.heap.get? b = some o ∧ H' b = none := fun b hb o e => by
          have z := I'.pin (b, o) (List.mem_append_right _ (List.mem_append_right _ (mem_pinsAt hb e)))
          exact ⟨z.1, z.2.1⟩
        refine ⟨k, hk, i + 1, H', (I'.unpinned (pins := [])).weak ?_ (fun j v e => ?_), TT.keep _ _ _ stF fun b hb o e => (pinned b hb o e).1, fun b hb => ?_, wk⟩
        · rw [← wG, L2.wipe_length]
        · rw [← wG] at e
          exact (L2.wipe_some e).1
        · obtain ⟨o, e, _⟩ := TT.obj _ _ stF b hb
          exact (pinned b hb o e).2
      obtain ⟨no, yes⟩ := qL
      cases b with
      | false =>
        simp only [Bool.false_eq_true, if_false]
        exact next IL (no rfl)
      | true =>
        simp only [if_true]
        refine thnF (eB.run _ sL sgG HL _ IL (yes rfl)) fun zv sM ⟨yv, HM, IM, rM, c, ks, n0, ey, atD, lt, nx⟩ => ?_
        subst ey
        obtain ⟨t, rfl⟩ : ∃ t, zv = Value.int c t := rM
        exact add_setI (X := X.blk sB HB scope ce fp) IM atD lt fun sN n' hn mu IN => next IN (nx n' hn mu)
  exact PpSet.codeAny_compStart_set walk (TT.self X.A 0 _ _ _ stC walk)
theorem swaps_set {pos py : Pos} {y : Str} {l : Nat} {gs : List Comprehension} {env : PySem.Env} (hk : env.scope.kind = .function) (hy : env.scope.names.lookup y = some .local) (hl : (py.line == pos.line) = true) (ha : (scope.names.any fun z => z.1 == y && (z.2 == .local || z.2 == .cell)) = false) :
    swapsWith (.SetComp elt gs scope pos) (some (.Name y py)) l env = pure true := by
  have k1 : env.kindOf y = some .local := hy
  have k2 : env.blockKind = .function := by
    unfold Env.blockKind
    rw [hk]
    rfl
  unfold swapsWith
  simp only [k2, k1, ha, Expr.pos, hl]
  rfl
theorem ps_setI {i : Nat} {y : Str} {py pos spos : Pos} (hc : X.calm = true) (hN : X.N.Nodup) (hy : X.N[i]? = some y) (hl : X.env.scope.names.lookup y = some .local) (hsw : swapsWith (.SetComp elt [⟨tg, iter, ifs, 0⟩] scope pos) (some (.Name y py)) spos.line X.env = pure true) (hi : PI X tg iter wi) (ok : BlkOk X.N X.env.scope scope own)
    (hg : ∀ s H C cl fp, PG (Bk X scope s H C cl fp) tg g) (ht : ∀ s H C cl fp, PTs (Bk X scope s H C cl fp) ifs tt) (he : ∀ s H C cl fp, PE (Bk X scope s H C cl fp) elt te) (hf : ∀ x, foldedSetIterable iter X.env x = pure x) :
    PS X (.Assign [.Name y py] (.SetComp elt [⟨tg, iter, ifs, 0⟩] scope pos) spos) (tAsg (tSetI X.w wi g tt te (own.map (·.2))) (gName i)) := by
  refine ⟨fun pins s sg H Dn I z => ?_⟩
  rw [exec_Assign_Name_used _ _ _ _ hsw]
  refine wpAny_bind (wpAny_standAt (wpAny_bind ?_))
  show wpAny _ X.A (do let _ ← comprehension (.SetComp elt [⟨tg, iter, ifs, 0⟩] scope pos) scope X.env (firstIterPos [⟨tg, iter, ifs, 0⟩] pos) (newSet (.type "set")) false (eval iter X.env) (some (assign (.Name y py) X.env))) _ _ s
  have z : tSetI X.w wi g tt te (own.map (·.2)) sg H (fun x H1 => gName i x sg H1 Dn.nx) := z
  refine wpAny_bind (thn (setI_core (Qf := fun _ s' => SP X pins Dn .next s') hc hN I hi ok hg ht he hf z fun D C s1 m H1 I1 q hn f => ?_) fun _ s2 hq => wpAny_pure (wpAny_pure hq))
  show wpAny _ _ (assign (.Name y py) X.env (.ref D)) _ _ _
  refine wpAny_assign_Name (store_ok2 (v := V.ref D) I1 hN hy (.inl hl) rfl (fun s2 I2 ⟨a, sb, ha⟩ => ?_) (.inr hl))
  obtain ⟨f0, f1, f2, f3, f4, f5⟩ := f
  have ne : C ≠ a := ha.elim (fun e => by rw [e]; exact f1) fun e z => f4 y a e z.symm
  exact ⟨m, hn.sameBut sb ne, fun h3 sb3 => ⟨_, H1, I2.turned (t' := s2.toks) (fun b o hb e => (sb3.2 b hb).trans e) f0 f1 f3 f4 f5, q⟩⟩
end
end Q
end
section
set_option Elab.async false
set_option linter.all false
set_option maxRecDepth 100000
set_option maxHeartbeats 1600000
namespace Q
open PySem PySem.Spec L2
variable [Tb]
/-! ### name = {..}; return sorted(name, reverse=True) -/
/-- the ints that join the set, in sequence -/
def siS (s : Src) (g : MG) (vs : List Nat) (mt : MB) (me : ME) (env0 : Env) : Nat → Nat → List Int → Cells → R (List Int)
  | 0, _, _, _ => .stk
  | n + 1, i, acc, c => match s.get i c with
    | none => .stk
    | some none => .ok acc c
    | some (some d) => match g d (wipeE env0 vs) c with
      | none => .stk
      | some (env1, c1) => (mt env1 c1).ne.bind fun b c2 => if b = true then ((me env1 c2).ne.bind fun y c3 => match y with
          | .int k => if acc.length < 60 then siS s g vs mt me env0 n (i + 1) (acc ++ [k]) c3 else .stk
          | _ => .stk) else siS s g vs mt me env0 n (i + 1) acc c2
def siEnd (acc : List Int) (c : Cells) : RS := .ok (.rt (.cell c.length)) (c ++ [(.lst, (ascI acc).reverse.map D.int)])
def sSetSorted (i : Nat) (mi : MI) (g : MG) (vs : List Nat) (mt : MB) (me : ME) : MS := fun env c => if i < env.length then (mi env c).st env fun s c => (siS s g vs mt me env s.fuel 0 [] c).st env siEnd else .stk
theorem ne_st {a b a2 : Type} {T : Wd} {S0 S : Sta} {rel : Sta → b → a → Prop} {r : R a} {k : a → Cells → R a2} {env : Env} {kf : a2 → Cells → RS} {Dn : Ends} {W : WX} {Q2 : b → Hp → Prop} {E2 : XK} (h : PostS T S0 ((r.ne.bind k).st env kf) Dn W)
    (h2 : ∀ d S1 v, Good T S1 → Ext T S S1 → rel S1 v d → PostS T S0 ((k d S1.c).st env kf) Dn W → Q2 v S1.H) : PostG T S rel r Q2 E2 := by
  cases r with
  | ok d c =>
    intro S1 v g hc x a
    subst hc
    exact h2 d S1 v g x a h
  | err x c => exact False.elim h
  | stk => exact False.elim h
theorem setI_run {T : Wd} {w : World} {wi : TI} {mi : MI} {g : MG} {vs : List Nat} {mt : MB} {me : ME} {Dn : Ends} {W : WX} (hi : ∀ S sg env Rv, Good T S → EnvAt T S sg env → PostG T S (fun S' J s => ItOk T S' J s) (mi env S.c) Rv (WE W sg) → wi sg S.H Rv) :
    ∀ S sg env Qv, Good T S → EnvAt T S sg env → PostS T S ((mi env S.c).st env fun s c => (siS s g vs mt me env s.fuel 0 [] c).st env siEnd) Dn W →
      (∀ D ks n S1, Good T S1 → S1.H D = some (setI w D ks n) → n < 64 → PostS T S1 (siEnd ks S1.c) Dn W → Qv (.ref D) S1.H) → tSetI w wi (tG T g vs) (tB1 T mt WF) (tE T me WF) vs sg S.H Qv := by
  intro S sg env Qv gd en z hQ
  refine hi S sg env _ gd en (post_st z en fun s S0 J e1 g0 x0 io p0 => ?_)
  intro D0 hD mu0
  let Jn (i m : Nat) (H : Hp) : Prop := ∃ S1 acc n, S1.H = H ∧ Good T S1 ∧ S1.x = D0 :: S0.x ∧ S1.H D0 = some (setI w D0 acc n) ∧ n ≤ acc.length ∧ acc.length ≤ 60 ∧ Ext0 T S0 S1 ∧ PostS T S0 ((siS s g vs mt me env m i acc S1.c).st env siEnd) Dn W
  refine ⟨fun i m H => Jn i m H, ⟨s.fuel, ?_⟩, ?_⟩
  · obtain ⟨g1, k1⟩ := g0.hide (o := setI w D0 [] 0) hD mu0
    exact ⟨S0.hide D0 (setI w D0 [] 0), [], 0, rfl, g1, rfl, upd_same, Nat.le_refl _, Nat.zero_le _, ⟨List.prefix_refl _, k1, fun a ha => ⟨List.mem_cons_of_mem _ ha, by
      obtain ⟨_, u, e, _⟩ := g0.hid a ha
      exact upd_ne (ne_of_none e hD)⟩⟩, p0⟩
  · rintro i m H ⟨S1, acc, n, rfl, g1, hx, hD1, hn, hl60, x1, p1⟩
    cases m with
    | zero => exact p1.elim
    | succ m =>
      have it := io i S1 g1 x1
      unfold siS at p1
      cases e2 : s.get i S1.c with
      | none =>
        simp only [e2] at p1
        exact p1.elim
      | some o =>
        simp only [e2] at p1 it
        cases o with
        | none =>
          refine .inl ⟨it, ?_⟩
          have sub : ∀ a ∈ S0.x, a ∈ S1.x := fun a ha => by rw [hx]; exact List.mem_cons_of_mem _ ha
          have x2 : Ext T S0 (S1.tell S0.x) := ⟨x1.pre, fun v d a => at_tell sub v d (x1.keep v d a), rfl, fun a ha => (x1.hid a ha).2⟩
          have p2 : PostS T S0 (siEnd acc S1.c) Dn W := p1
          exact hQ D0 acc n (S1.tell S0.x) (g1.tell sub) hD1 (by omega) (PostS.ext x2 p2)
        | some d =>
          obtain ⟨i1, i2⟩ := it
          refine .inr ⟨i1, fun H' => Jn (i + 1) m H', fun H' h => ⟨m, Nat.lt_succ_self m, h⟩, fun v H' hy => ?_⟩
          obtain ⟨S2, rfl, g2, ec, x2, a2⟩ := i2 v H' hy
          simp only at p1
          refine ⟨S2, d, wipeE env vs, rfl, g2, (((en.ext x0).zero x1).ext x2).wipe vs, a2, ?_⟩
          rw [ec]
          cases e3 : g d (wipeE env vs) S1.c with
          | none =>
            simp only [e3] at p1
            exact p1.elim
          | some r =>
            obtain ⟨env1, c1⟩ := r
            simp only [e3] at p1
            intro S3 sg3 g3 hc3 x3 en3 w3
            subst hc3
            refine ⟨by rw [w3]; exact wipe_twice sg vs, S3, env1, rfl, g3, en3, ?_⟩
            refine ne_st (b := Bool) p1 fun bb S4 vb g4 x4 eb p4 => ?_
            cases eb
            have hid : ∀ {S' : Sta}, Ext T S1 S' → S'.x = D0 :: S0.x ∧ S'.H D0 = some (setI w D0 acc n) ∧ Ext0 T S0 S' := fun {S'} x => ⟨x.hx.trans hx, (x.hh D0 (by rw [hx]; exact List.mem_cons_self)).trans hD1, x1.trans x.zero⟩
            refine ⟨fun e => ?_, fun e => ?_⟩
            · subst e
              simp only [Bool.false_eq_true, if_false] at p4
              obtain ⟨q1, q2, q4⟩ := hid ((x2.trans x3).trans x4)
              exact ⟨S4, acc, n, rfl, g4, q1, q2, hn, hl60, q4, p4⟩
            · subst e
              simp only [if_true] at p4
              refine ⟨S4, env1, rfl, g4, en3.ext x4, ?_⟩
              refine ne_st (b := V) p4 fun y S5 vy g5 x5 ay p5 => ?_
              obtain ⟨q1, q2, q4⟩ := hid (((x2.trans x3).trans x4).trans x5)
              cases y with
              | int k =>
                simp only at p5
                split at p5
                · rename_i lt
                  refine ⟨k, acc, n, ay, q2, by omega, fun n' hn' mu => ?_⟩
                  obtain ⟨g6, k6⟩ := g5.seth (o := setI w D0 (acc ++ [k]) n') (p := D0) (by rw [q1]; exact List.mem_cons_self) mu
                  refine ⟨S5.seth D0 (setI w D0 (acc ++ [k]) n'), acc ++ [k], n', rfl, g6, q1, upd_same, by rw [List.length_append]; simp only [List.length_cons, List.length_nil]; omega, by rw [List.length_append]; simp only [List.length_cons, List.length_nil]; omega, ⟨q4.pre, fun v d a => k6 v d (q4.keep v d a), fun a ha => ⟨(q4.hid a ha).1, ?_⟩⟩, p5⟩
                  have ne : a ≠ D0 := fun z => g0.freshX hD (by rw [← z]; exact ha)
                  exact (upd_ne ne).trans (q4.hid a ha).2
                · exact p5.elim
              | _ => exact p5.elim
section
variable {X : Cx} {W : WX} {elt tg iter : Expr} {ifs : List Expr} {scope : Scope} {own : List (Str × Nat)}
theorem sb_setSorted {i : Nat} {y : Str} {py pos spos p p2 p3 kp pos2 rpos : Pos} {j : Nat} {mi : MI} {g : MG} {mt : MB} {me : ME} (hc : X.calm = true) (hN : X.N.Nodup) (hs : X.mg "sorted" = none) (hi : SI X W tg iter mi) (ok : BlkOk X.N X.env.scope scope own)
    (hg : ∀ (s : Shared) (H : Hp) (Ca : Addr) (cl : List (Str × Addr)) (fp : List Addr), PG (X.blk s H scope (compEnvC scope cl Ca X.env) fp) tg (tG (wd X) g (own.map (·.2))))
    (ht : ∀ (s : Shared) (H : Hp) (Ca : Addr) (cl : List (Str × Addr)) (fp : List Addr), PTs (X.blk s H scope (compEnvC scope cl Ca X.env) fp) ifs (tB1 (wd X) mt WF))
    (he : ∀ (s : Shared) (H : Hp) (Ca : Addr) (cl : List (Str × Addr)) (fp : List Addr), SE (X.blk s H scope (compEnvC scope cl Ca X.env) fp) WF elt me) (hy : X.N[i]? = some y := by rfl) (hyl : X.env.scope.names.lookup y = some .local := by rfl)
    (hv : Vis X.env.scope y := by first | exact Or.inl rfl | exact Or.inr (Or.inl rfl) | exact Or.inr (Or.inr rfl)) (hd : (y == ("__debug__" : Str)) = false := by decide) (hcd : (y == ("__classdict__" : Str)) = false := by decide) (hgs : Gl X "sorted" := by rfl)
    (hsw : swapsWith (.SetComp elt [⟨tg, iter, ifs, 0⟩] scope pos) (some (.Name y py)) spos.line X.env = pure true := by exact swaps_set rfl rfl rfl (by decide +kernel)) (hf : ∀ x, foldedSetIterable iter X.env x = pure x := by intro _; rfl)
    (h1 : starEach [Expr.Name y p2] X.env = (false, eval (.Name y p2) X.env) :: starEach [] X.env := by rfl) (h2 : backTo pos2 (starEach [Expr.Name y p2] X.env) = (false, eval (.Name y p2) X.env) :: backTo pos2 (starEach [] X.env) := by rfl) (h3 : (backTo pos2 (starEach [Expr.Name y p2] X.env)).any (·.1) = false := by rfl)
    (h4 : (backToKw pos2 (keywordEach [⟨some "reverse", .Constant (.bool true) j p3, kp⟩] X.env)).all (·.1.isSome) = true := by rfl) (h5 : (backToKw pos2 (keywordEach [⟨some "reverse", .Constant (.bool true) j p3, kp⟩] X.env)).any (·.1.isNone) = false := by rfl)
    (h6 : (backToKw pos2 (keywordEach [⟨some "reverse", .Constant (.bool true) j p3, kp⟩] X.env)).filterMap (·.1) = [Str.ofString "reverse"] := by rfl) :
    SB X W [.Assign [.Name y py] (.SetComp elt [⟨tg, iter, ifs, 0⟩] scope pos) spos, .Return (some (.Call (.Name "sorted" p) [.Name y p2] [⟨some "reverse", .Constant (.bool true) j p3, kp⟩] pos2)) rpos] (sSetSorted i mi g (own.map (·.2)) mt me) := by
  obtain ⟨t, pt, qt⟩ := hi
  refine PSs.imp (pss_cons (ps_setI (te := tE (wd X) me WF) hc hN hy hyl hsw pt ok hg ht (fun s H Ca cl fp => (he s H Ca cl fp).can) hf) (pss_one (ps_ret (pe_callBK (cr_sortedR hc) hgs hs (by decide +kernel) (pa_cons (pe_var hy hv hd hcd) pa_nil h1) (pk_cons pe_bl pk_nil) (by decide) (by decide) h2 h3 h4 h5 h6)))) fun Dn sg H ⟨S, env, e, gd, en, z⟩ => ?_
  subst e
  unfold sSetSorted at z
  split at z
  · rename_i lt
    show tSetI X.w t (tG (wd X) g (own.map (·.2))) (tB1 (wd X) mt WF) (tE (wd X) me WF) (own.map (·.2)) sg S.H (fun x H1 => tRet (tCKw (rSortedR X.w) (tCons (tVar i) tNil) (tCons (tC (V.bl true)) tNil)) Dn (sg.set i (some x)) H1)
    refine setI_run qt S sg env _ gd en z fun Da ks n S1 g1 hD hn p1 => ?_
    refine ⟨.ref Da, List.getElem?_set_self (by rw [en.len]; exact lt), Da, fun q => decide (q ∈ ks), n, rfl, rfl, hD, hn, fun ns pn hdesc hm _ hp => ?_⟩
    have em : ns = (ascI ks).reverse := by
      have e : ns.reverse = ascI ks := asc_ext (List.pairwise_reverse.mpr hdesc) asc_ascI fun q => by rw [List.mem_reverse, hm, mem_ascI, decide_eq_true_eq]
      rw [← e, List.reverse_reverse]
    subst em
    have al : AtL (wd X) S1 (((ascI ks).reverse).map V.int) (((ascI ks).reverse).map D.int) := atL_ints _
    exact madeC (t := .lst) g1 hp al upd_same trivial fun S' v' g' ec x' a' => p1 S' v' g' ec x' a'
  · exact z.elim
end
end Q
end
section
set_option Elab.async false
set_option linter.all false
set_option maxRecDepth 100000
namespace Q
open PySem PySem.Spec L2
variable [Tb]
/-! ### evaluation, step by step -/
section
variable {env e1 : Env} {c c1 c2 c3 c4 : Cells} {x y z d : D} {ma mb mo : ME} {ms : ML} {f : D → D → Cells → O}
theorem eC : mC d env c = .ok d c := rfl
theorem eV {i : Nat} (h : env[i]? = some (some d)) : mVar i env c = .ok d c := by
  unfold mVar
  rw [h]
theorem e2 (h1 : ma env c = .ok x c1) (h2 : mb env c1 = .ok y c2) (h3 : f x y c2 = some (z, c3)) : m2 f ma mb env c = .ok z c3 := by
  unfold m2
  rw [h1]
  show (mb env c1).bind _ = _
  rw [h2]
  show (f x y c2).r = _
  rw [h3]
  rfl
theorem e1' {f : D → Cells → O} (h1 : ma env c = .ok x c1) (h3 : f x c1 = some (z, c3)) : m1 f ma env c = .ok z c3 := by
  unfold m1
  rw [h1]
  show (f x c1).r = _
  rw [h3]
  rfl
theorem eNil : mNil env c = .ok [] c := rfl
theorem eCons {ds : List D} (h1 : ma env c = .ok x c1) (h2 : ms env c1 = .ok ds c2) : mCons ma ms env c = .ok (x :: ds) c2 := by
  unfold mCons
  rw [h1]
  show (ms env c1).bind _ = _
  rw [h2]
  rfl
theorem eTup {ds : List D} (h : ms env c = .ok ds c1) (hl : ds.length ≤ sizeLine := by first | decide | (simp only [List.length_cons, List.length_nil]; decide)) : mTup ms env c = .ok (.tup ds) c1 := by
  unfold mTup
  rw [h]
  exact if_pos hl
theorem eLst {ds : List D} (h : ms env c = .ok ds c1) (hl : ds.length ≤ sizeLine := by first | decide | (simp only [List.length_cons, List.length_nil]; decide)) : mLst ms env c = .ok (.lst ds) c1 := by
  unfold mLst
  rw [h]
  exact if_pos hl
theorem eLstC {ds : List D} (h : ms env c = .ok ds c1) (hl : ds.length ≤ sizeLine := by first | decide | (simp only [List.length_cons, List.length_nil]; decide)) : mLstC ms env c = .ok (.cell c1.length) (c1 ++ [(.lst, ds)]) := by
  unfold mLstC
  rw [h]
  exact if_pos hl
theorem eCall {g : List D → Cells → O} {ds : List D} (h : ms env c = .ok ds c1) (h2 : g ds c1 = some (z, c2)) : mCall g ms env c = .ok z c2 := by
  unfold mCall
  rw [h]
  show (g ds c1).r = _
  rw [h2]
  rfl
theorem eFn {F : FD} {n : Nat} {ds : List D} {r : R D} (h : ms env c = .ok ds c1) (hl : ds.length = n) (h2 : F ds c1 = r) : mFn F n ms env c = r := by
  unfold mFn
  rw [h]
  show (if ds.length = n then F ds c1 else .stk) = r
  rw [if_pos hl, h2]
theorem eFnK {F : FD} {n : Nat} {ds : List D} {r : R D} (h : ms env c = .ok ds c1) (hl : ds.length = n) (h2 : F ds c1 = r) : mFnK F n false ms env c = r := by
  unfold mFnK
  rw [h]
  show (if ds.length = n then F ds c1 else .stk) = r
  rw [if_pos hl, h2]
theorem eT {m : ME} {b : Bool} (h : m env c = .ok (.bl b) c1) : mT m env c = .ok b c1 := by
  unfold mT toB
  rw [h]
  rfl
theorem eTru {m : ME} {b : Bool} (h : m env c = .ok d c1) (h2 : truth c1 d = some b) : mTru m env c = .ok b c1 := by
  unfold mTru
  rw [h]
  show (match truth c1 d with | some b => R.ok b c1 | none => .stk) = _
  rw [h2]
theorem eNot {m : MB} {b : Bool} (h : m env c = .ok b c1) : mNot m env c = .ok (!b) c1 := by
  unfold mNot
  rw [h]
  rfl
theorem eAndT {m m' : MB} {r : R Bool} (h : m env c = .ok true c1) (h2 : m' env c1 = r) : mAndT m m' env c = r := by
  unfold mAndT
  rw [h]
  exact h2
theorem eAndF {m m' : MB} (h : m env c = .ok false c1) : mAndT m m' env c = .ok false c1 := by
  unfold mAndT
  rw [h]
  rfl
theorem eOrF {m m' : MB} {r : R Bool} (h : m env c = .ok false c1) (h2 : m' env c1 = r) : mOrT m m' env c = r := by
  unfold mOrT
  rw [h]
  exact h2
theorem eOrT {m m' : MB} (h : m env c = .ok true c1) : mOrT m m' env c = .ok true c1 := by
  unfold mOrT
  rw [h]
  rfl
theorem eAndV {m m' : ME} {r : R D} (h : m env c = .ok d c1) (ht : truth c1 d = some true) (h2 : m' env c1 = r) : mAndV m m' env c = r := by
  unfold mAndV
  rw [h]
  show (match truth c1 d with | some true => m' env c1 | some false => R.ok d c1 | none => .stk) = r
  rw [ht]
  exact h2
theorem eAndVF {m m' : ME} (h : m env c = .ok d c1) (ht : truth c1 d = some false) : mAndV m m' env c = .ok d c1 := by
  unfold mAndV
  rw [h]
  show (match truth c1 d with | some true => m' env c1 | some false => R.ok d c1 | none => .stk) = _
  rw [ht]
theorem eOrV {m m' : ME} {r : R D} (h : m env c = .ok d c1) (ht : truth c1 d = some false) (h2 : m' env c1 = r) : mOrV m m' env c = r := by
  unfold mOrV
  rw [h]
  show (match truth c1 d with | some true => R.ok d c1 | some false => m' env c1 | none => .stk) = r
  rw [ht]
  exact h2
theorem eOrVT {m m' : ME} (h : m env c = .ok d c1) (ht : truth c1 d = some true) : mOrV m m' env c = .ok d c1 := by
  unfold mOrV
  rw [h]
  show (match truth c1 d with | some true => R.ok d c1 | some false => m' env c1 | none => .stk) = _
  rw [ht]
theorem eNotV {m : ME} {b : Bool} (h : m env c = .ok d c1) (ht : truth c1 d = some b) : mNotV m env c = .ok (.bl (!b)) c1 := by
  unfold mNotV
  rw [h]
  show (match truth c1 d with | some b => R.ok (D.bl (!b)) c1 | none => .stk) = _
  rw [ht]
theorem eIfT {mt : MB} {r : R D} (h : mt env c = .ok true c1) (h2 : ma env c1 = r) : mIf mt ma mb env c = r := by
  unfold mIf
  rw [h]
  exact h2
theorem eIfF {mt : MB} {r : R D} (h : mt env c = .ok false c1) (h2 : mb env c1 = r) : mIf mt ma mb env c = r := by
  unfold mIf
  rw [h]
  exact h2
theorem eMe {T : String} {f : FM} {ds : List D} (h : mo env c = .ok d c1) (ht : isTy T c1 d = true) (h2 : ms env c1 = .ok ds c2) (h3 : f d ds c2 = some (z, c3)) : mMe T f mo ms env c = .ok z c3 := by
  unfold mMe
  rw [h]
  show (if isTy T c1 d = true then (ms env c1).bind fun ds c => (f d ds c).r else .stk) = _
  rw [if_pos ht, h2]
  show (f d ds c2).r = _
  rw [h3]
  rfl
theorem eMM {fc : D → D → Cells → O} {F : FD} {r : R D} (h : ma env c = .ok x c1) (h2 : mb env c1 = .ok y c2) (h3 : mmF fc F x y c2 = r) : mMM fc F ma mb env c = r := by
  unfold mMM
  rw [h]
  show (mb env c1).bind _ = _
  rw [h2]
  exact h3
/-! statements -/
theorem sqN {k k2 : MS} {r : RS} (h : k env c = .ok (.nx e1) c1) (h2 : k2 e1 c1 = r) : sSeq k k2 env c = r := by
  unfold sSeq
  rw [h]
  exact h2
theorem sqR {k k2 : MS} (h : k env c = .ok (.rt d) c1) : sSeq k k2 env c = .ok (.rt d) c1 := by
  unfold sSeq
  rw [h]
  rfl
theorem sqE {k k2 : MS} {xn : Exn} (h : k env c = .err xn e1 c1) : sSeq k k2 env c = .err xn e1 c1 := by
  unfold sSeq
  rw [h]
  rfl
theorem stR {m : ME} (h : m env c = .ok d c1) : sRet m env c = .ok (.rt d) c1 := by
  unfold sRet
  rw [h]
  rfl
theorem stRE {m : ME} {xn : Exn} (h : m env c = .err xn c1) : sRet m env c = .err xn env c1 := by
  unfold sRet
  rw [h]
  rfl
theorem stX {m : ME} (h : m env c = .ok d c1) : sExpr m env c = .ok (.nx env) c1 := by
  unfold sExpr
  rw [h]
  rfl
theorem stXE {m : ME} {xn : Exn} (h : m env c = .err xn c1) : sExpr m env c = .err xn env c1 := by
  unfold sExpr
  rw [h]
  rfl
theorem stS {i : Nat} {m : ME} (h : m env c = .ok d c1) : sSet i m env c = .ok (.nx (env.set i (some d))) c1 := by
  unfold sSet
  rw [h]
  rfl
theorem stIT {mt : MB} {k k2 : MS} {r : RS} (h : mt env c = .ok true c1) (h2 : k env c1 = r) : sIf mt k k2 env c = r := by
  unfold sIf
  rw [h]
  exact h2
theorem stIF {mt : MB} {k k2 : MS} {r : RS} (h : mt env c = .ok false c1) (h2 : k2 env c1 = r) : sIf mt k k2 env c = r := by
  unfold sIf
  rw [h]
  exact h2
theorem stAsg {g : MG} {m : ME} (h : m env c = .ok d c1) (h2 : g d env c1 = some (e1, c2)) : sAsg g m env c = .ok (.nx e1) c2 := by
  unfold sAsg
  rw [h]
  show Oe (g d env c1) = _
  rw [h2]
  rfl
theorem stPar {i j : Nat} (h : ma env c = .ok x c1) (h2 : mb env c1 = .ok y c2) : sPar i j ma mb env c = .ok (.nx ((env.set i (some x)).set j (some y))) c2 := by
  unfold sPar
  rw [h]
  show (mb env c1).st _ _ = _
  rw [h2]
  rfl
theorem stRaise {cls : Str} {ks : List Str} {ds : List D} (h : ms env c = .ok ds c1) (hl : ds.length = ks.length) : sRaise cls ks ms env c = .err ⟨cls, ks, ds⟩ env c1 := by
  unfold sRaise
  rw [h]
  exact if_pos hl
/-! defs -/
theorem bodyR {n : Nat} {k : MS} {ds : List D} (h : k (enter n ds) c = .ok (.rt d) c1) : bodyF n k ds c = .ok d c1 := by
  unfold bodyF
  rw [h]
  rfl
theorem bodyN {n : Nat} {k : MS} {ds : List D} (h : k (enter n ds) c = .ok (.nx e1) c1) : bodyF n k ds c = .ok .non c1 := by
  unfold bodyF
  rw [h]
  rfl
theorem bodyE {n : Nat} {k : MS} {ds : List D} {xn : Exn} (h : k (enter n ds) c = .err xn e1 c1) : bodyF n k ds c = .err xn c1 := by
  unfold bodyF
  rw [h]
  rfl
end
/-! ### walks -/
theorem srcT_get {t : Tg} {d : D} {n i : Nat} {c : Cells} {ds : List D} (h : view c d = some (t, ds)) : (srcT t d n).get i c = some ds[i]? := by
  unfold srcT
  dsimp only
  rw [h]
  exact if_pos rfl
/-- lists and tuples -/
def sqTg : Tg → Bool
  | .lst => true
  | .frl => true
  | .tup => true
  | _ => false
theorem eWalk {m : ME} {env : Env} {c c1 : Cells} {d : D} {t : Tg} {ds : List D} (h : m env c = .ok d c1) (hv : view c1 d = some (t, ds)) (ht : sqTg t = true) : mWalk m env c = .ok (srcT t d (ds.length + 1)) c1 := by
  unfold mWalk
  rw [h]
  show (match view c1 d with
    | some (.lst, ds) => R.ok (srcT .lst d (ds.length + 1)) c1
    | some (.frl, ds) => .ok (srcT .frl d (ds.length + 1)) c1
    | some (.tup, ds) => .ok (srcT .tup d (ds.length + 1)) c1
    | _ => .stk) = _
  rw [hv]
  cases t <;> first | rfl | cases ht
/-- a for over a sequence that stays as it is: Jn of env and cells before the i-th turn -/
theorem for_inv {t : Tg} {d : D} {ds : List D} {g : MG} {k : MS} (Jn : Nat → Env → Cells → Prop) (hv : ∀ i env c, Jn i env c → view c d = some (t, ds))
    (step : ∀ i x env c, ds[i]? = some x → Jn i env c → ∃ e1 c1, g x env c = some (e1, c1) ∧ ((∃ e2 c2, k e1 c1 = .ok (.nx e2) c2 ∧ Jn (i + 1) e2 c2))) :
    ∀ n i env c, Jn i env c → i ≤ ds.length → ds.length < n + i → ∃ e2 c2, forS (srcT t d (ds.length + 1)) g k n i env c = .ok (.nx e2) c2 ∧ Jn ds.length e2 c2
  | 0, i, env, c, _, h1, h2 => by omega
  | n + 1, i, env, c, J, h1, h2 => by
    have e := srcT_get (n := ds.length + 1) (i := i) (hv i env c J)
    unfold forS
    rw [e]
    by_cases hi : i < ds.length
    · obtain ⟨e1, c1, q1, e2, c2, q2, J2⟩ := step i ds[i] env c (List.getElem?_eq_getElem hi) J
      rw [List.getElem?_eq_getElem hi]
      dsimp only
      rw [q1]
      dsimp only
      rw [q2]
      exact for_inv Jn hv step n (i + 1) e2 c2 J2 (by omega) (by omega)
    · rw [List.getElem?_eq_none (by omega)]
      have : i = ds.length := by omega
      subst this
      exact ⟨env, c, rfl, J⟩
/-- a comprehension over a sequence: Jn before the i-th turn, with what is there by then -/
theorem lc_inv {s : Src} {ds : List D} {g : MG} {vs : List Nat} {tt : MB} {te : ME} {env : Env} (Jn : Nat → List D → Cells → Prop) (hs : ∀ i acc c, Jn i acc c → s.get i c = some ds[i]?) (small : ∀ i acc c, Jn i acc c → acc.length < sizeLine)
    (step : ∀ i x acc c, ds[i]? = some x → Jn i acc c → ∃ e1 c1, g x (wipeE env vs) c = some (e1, c1) ∧ ((∃ c2, tt e1 c1 = .ok false c2 ∧ Jn (i + 1) acc c2) ∨ ∃ c2 y c3, tt e1 c1 = .ok true c2 ∧ te e1 c2 = .ok y c3 ∧ Jn (i + 1) (acc ++ [y]) c3)) :
    ∀ n i acc c, Jn i acc c → i ≤ ds.length → ds.length < n + i → ∃ acc2 c2, lcS s g vs tt te env n i acc c = .ok acc2 c2 ∧ Jn ds.length acc2 c2
  | 0, i, acc, c, _, h1, h2 => by omega
  | n + 1, i, acc, c, J, h1, h2 => by
    have e := hs i acc c J
    unfold lcS
    rw [e]
    by_cases hi : i < ds.length
    · obtain ⟨e1, c1, q1, q2⟩ := step i ds[i] acc c (List.getElem?_eq_getElem hi) J
      rw [List.getElem?_eq_getElem hi]
      dsimp only
      rw [q1]
      dsimp only
      rcases q2 with ⟨c2, q3, J2⟩ | ⟨c2, y, c3, q3, q4, J2⟩
      · rw [q3]
        exact lc_inv Jn hs small step n (i + 1) acc c2 J2 (by omega) (by omega)
      · rw [q3]
        show ∃ acc2 c4, ((te e1 c2).ne.bind fun y c3 => if acc.length < sizeLine then lcS s g vs tt te env n (i + 1) (acc ++ [y]) c3 else .stk) = R.ok acc2 c4 ∧ Jn ds.length acc2 c4
        rw [q4]
        show ∃ acc2 c2, (if acc.length < sizeLine then lcS s g vs tt te env n (i + 1) (acc ++ [y]) c3 else .stk) = R.ok acc2 c2 ∧ Jn ds.length acc2 c2
        rw [if_pos (small i acc c J)]
        exact lc_inv Jn hs small step n (i + 1) (acc ++ [y]) c3 J2 (by omega) (by omega)
    · rw [List.getElem?_eq_none (by omega)]
      have : i = ds.length := by omega
      subst this
      exact ⟨acc, c, rfl, J⟩
end Q
end
section
set_option Elab.async false
set_option linter.all false
set_option maxRecDepth 100000
namespace Q
open PySem PySem.Spec L2
variable [Tb]
/-! ### the head's facts of own exceptions with one field, value -/
/-- the first def within a class -/
def clsDef (s : Stmt) : Stmt := match s with
  | .ClassDef _ _ _ b _ _ _ _ _ _ _ => b.getD 0 (.Pass ⟨0, 0, 0, 0⟩)
  | s => s
structure InitS (st : Stmt) (p1 p2 p3 p4 : Pos) : Prop where
  sc : FnScope ["self", "value"] ["self", "value"] (defScope st)
  bd : defBody st = [.Assign [.Attribute (.Name "self" p1) "value" p2] (.Name "value" p3) p4]
  vs : Vis (defScope st) "self"
  vv : Vis (defScope st) "value"
  sw : ∀ env, swapsWith (.Name "value" p3) (some (.Attribute (.Name "self" p1) "value" p2)) p4.line env = pure false
  bi : ∀ (q : Str) (kV doc pm : Value) (an : Option Addr) (cdv ct : Value) (us : List Value), us.length = 2 → bindArgs (PySem.W.fnOf "__init__" q (defArgs st) (defBody st) (defScope st) .none kV doc pm an cdv ct) ⟨us, []⟩ = pure ((["self", "value"] : List Str).zip us)
section
variable {K : PySem.W.Frag} {h : Heap} {mg : Str → Option Value}
/-- what k_is tells of one class -/
structure XF (K : PySem.W.Frag) (C : Addr) : Prop where
  ga : PySem.W.findIn K (.ref C) "__getattribute__" = some (some (.builtin "BaseException.__getattribute__"))
  gg : PySem.W.findIn K (.ref C) "__getattr__" = some none
  sa : PySem.W.findIn K (.ref C) "__setattr__" = some (some (.builtin "object.__setattr__"))
  ca : PySem.W.findIn K (.ref C) "__class__" = some (some (.builtin "object.__class__"))
  nv : PySem.W.findIn K (.ref C) "value" = some none
  eC : PySem.W.subIn K (.ref C) (.type "BaseException") = some true
  tC : PySem.W.typeIn K (.ref C) = some (.type "type")
  kC : PySem.W.keepIn K (.ref C) = true
  hC : PySem.W.hasDictIn K C = true
  m : PySem.W.mroIn K C (.type "object") = some true
theorem exd_of {P : Program} {w : World} {x : Str} {st : Stmt} {p1 p2 p3 p4 : Pos} (Z : InitS st p1 p2 p3 p4) (X : K.In h) (G : h.Ns mainGlobals mg) {C fI : Addr} {nm q : Str} {N : Addr} {bs bm : List Value} {sn : List Str} {sub : List Value} {ab : Bool} {col : Option Bool} {dd : Option Addr} {m0 m1 m2 m3 m5 : Option Value}
    {qual : Str} {oc : Value} {od an : Option Addr} {osl : Array (Option Value)} {kV doc pm cdv ct : Value} (aC : PySem.W.nsIn K mainGlobals x = some (some (.ref C))) (F : XF K C)
    (xL : K.lookup C = some (excClassObj nm q C N bs bm true sn sub ab col dd m0 m1 m2 m3 m5 "ValueError.__new__")) (rv : PySem.HandSPX.refsVE bm = true)
    (iC : PySem.W.findIn K (.ref C) "__init__" = some (some (.ref fI))) (tI : PySem.W.typeIn K (.ref fI) = some (.type "function"))
    (l : K.lookup fI = some ⟨oc, od, .func (PySem.W.fnOf "__init__" qual (defArgs st) (defBody st) (defScope st) .none kV doc pm an cdv ct), osl⟩) (c : PySem.W.codeIn K cdv qual = true) (k : PySem.W.keepIn K (.ref fI) = true) : ∀ base : Heap, ExD P w K mg base x := fun base => by
  have T : OexC K C := ⟨⟨_, _, _, _, _, _, _, _, _, _, _, _, _, _, _, xL, rv⟩, F.sa, F.eC, F.tC, F.kC⟩
  exact exd_mk (nm := nm) (q := q) (N := N) (bs := bs) (bm := bm) (T := T) X G aC iC tI l c k F.nv Z.sc Z.bd Z.vs Z.vv Z.sw (fun kV doc pm an cdv ct us hu => Z.bi _ kV doc pm an cdv ct us hu) (by decide) (by decide) (by decide) (by decide)
theorem kit_ref {C B : Addr} (hB : PySem.W.hasDictIn K B = true) (tB : PySem.W.typeIn K (.ref B) = some (.type "type")) (s : PySem.W.subIn K (.ref C) (.ref B) = some true) : PySem.W.kitOne K (.ref C) (.ref B) = some true := by
  obtain ⟨cd, hc, _⟩ := PySem.W.any_some hB
  unfold PySem.W.kitOne
  split
  · rfl
  · show (if ((PySem.W.clsIn K B).isSome && PySem.W.typeIn K (.ref B) == some (.type "type")) = true then PySem.W.subIn K (.ref C) (.ref B) else none) = _
    rw [hc, tB, if_pos (by rfl)]
    exact s
theorem kit_tyV {C : Addr} (s : PySem.W.subIn K (.ref C) (.type "ValueError") = some true) : PySem.W.kitOne K (.ref C) (.type "ValueError") = some true := by
  unfold PySem.W.kitOne
  split
  · rfl
  · show (if PySem.W.kitMeta "ValueError" = true then PySem.W.subIn K (.ref C) (.type "ValueError") else none) = _
    rw [if_pos (by decide +kernel)]
    exact s
theorem XF.su {x : Str} {C : Addr} (F : XF K C) (X : K.In h) (G : h.Ns mainGlobals mg) (a : PySem.W.nsIn K mainGlobals x = some (some (.ref C))) (hn : PySem.W.specialIn K (.builtin "object.__class__") "__get__" = some (some (.builtin "getset_descriptor.__get__"))) (ht : PySem.W.takesIn K (.builtin "object.__class__") = some true) : ExSu K mg x "value" := by
  obtain ⟨cd, hc, _⟩ := PySem.W.any_some F.hC
  exact su_mk X G a ⟨F.ga, F.gg, F.eC, F.hC⟩ ⟨F.ga, F.gg, F.eC, F.hC, F.ca, hn, ht, F.m⟩ (by rw [hc]; rfl) F.nv
end
end Q
end
section
set_option Elab.async false
set_option linter.all false
set_option maxRecDepth 100000
namespace K11
open PySem PySem.Spec L2 Q
variable [Tb]
def topS (i : Nat) : Stmt := PySem.Challenge.pw_heldranks_k11_values_levels_and_extremes.main.body.getD i (.Pass ⟨0, 0, 0, 0⟩)
/-! ### _law_told -/
abbrev N__law_told : List Str := ["_law_act", "_law_told_here", "e"]
theorem sc__law_told : FnScope N__law_told ["_law_act"] (defScope (topS 34)) := ⟨rfl, rfl, rfl, by decide +kernel, rfl, by decide +kernel, by decide +kernel⟩
def exNs : List Str := ["InvalidValue", "InvalidValues", "InvalidInteger"]
noncomputable def kb_told (D0 : D) (F0 : Cells → R D) : MS := sSeq (sSet 1 (mLst (mCons (mC (.str "other")) mNil)))
  (sSeq (sTry (sSet 1 (mLst (mCons (mC (.str "done")) (mCons (mAct D0 F0) mNil)))) [⟨hitOf exNs "InvalidValue", 2, kTag 1 "value" "value"⟩, ⟨hitOf exNs "InvalidValues", 2, kTag 1 "values" "value"⟩, ⟨hitOf exNs "InvalidInteger", 2, kTag 1 "integer" "value"⟩])
  (sRet (mCall bRepr (mCons (mVar 1) mNil))))
def rep (ds : List D) (c : Cells) : R D := (bRepr [.nod .lst ds] c).r
def tagged (tag : Str) (x : Exn) (c : Cells) : R D := match lookF x.ks x.ds "value" with
  | some d => rep [.str tag, d, .bl true] c
  | none => .stk
def toldF (F0 : Cells → R D) (c : Cells) : R D := match F0 c with
  | .ok d c => rep [.str "done", d] c
  | .err x c => if x.cls = "InvalidValue" then tagged "value" x c else if x.cls = "InvalidValues" then tagged "values" x c else if x.cls = "InvalidInteger" then tagged "integer" x c else .stk
  | .stk => .stk
theorem told_ind (D0 : D) (F0 : Cells → R D) (cc : Cells) : (kb_told D0 F0 (enter N__law_told.length [D0]) cc).out = toldF F0 cc := by
  unfold kb_told toldF
  have s1 : (1 : Nat) ≤ sizeLine := by decide
  have s2 : (2 : Nat) ≤ sizeLine := by decide
  have s3 : (3 : Nat) ≤ sizeLine := by decide
  simp only [sSeq, sSet, mLst, mCons, mC, mNil, R.bind, R.st, RS.next, enter, sTry, mAct]
  cases h : F0 cc with
  | ok d c =>
    simp [s1, s2, h, R.st, RS.next, sRet, mCall, mCons, mVar, R.bind, mNil, rep, RS.out]
    rcases bRepr [D.lst [D.str "done", d]] c with _ | ⟨d', c'⟩ <;> rfl
  | stk => simp [s1, s2, h, R.st, RS.next, sRet, mCall, mCons, mVar, R.bind, mNil, rep, RS.out]
  | err x c =>
    obtain ⟨cls, ks, ds⟩ := x
    have t1 : (truth c (.bl true)) = some true := rfl
    by_cases h1 : cls = "InvalidValue"
    · subst h1
      have e1 : hitOf exNs "InvalidValue" "InvalidValue" = some true := by decide
      cases hl : lookF ks ds "value" with
      | none => simp [s1, s3, h, R.st, RS.next, sRet, mCall, mCons, mVar, R.bind, mNil, rep, RS.out, tryCl, e1, kTag, sSet, mLst, mC, mFld, hl, RS.clr, tagged]
      | some d =>
        simp [s1, s3, h, R.st, RS.next, sRet, mCall, mCons, mVar, R.bind, mNil, rep, RS.out, tryCl, e1, kTag, sSet, mLst, mC, mFld, hl, RS.clr, tagged, mAndV, truth]
        rcases bRepr _ c with _ | ⟨d', c'⟩ <;> rfl
    · by_cases h2 : cls = "InvalidValues"
      · subst h2
        have e1 : hitOf exNs "InvalidValue" "InvalidValues" = some false := by decide
        have e2 : hitOf exNs "InvalidValues" "InvalidValues" = some true := by decide
        cases hl : lookF ks ds "value" with
        | none => simp [s1, s3, h, h1, R.st, RS.next, sRet, mCall, mCons, mVar, R.bind, mNil, rep, RS.out, tryCl, e1, e2, kTag, sSet, mLst, mC, mFld, hl, RS.clr, tagged]
        | some d =>
          simp [s1, s3, h, h1, R.st, RS.next, sRet, mCall, mCons, mVar, R.bind, mNil, rep, RS.out, tryCl, e1, e2, kTag, sSet, mLst, mC, mFld, hl, RS.clr, tagged, mAndV, truth]
          rcases bRepr _ c with _ | ⟨d', c'⟩ <;> rfl
      · by_cases h3 : cls = "InvalidInteger"
        · subst h3
          have e1 : hitOf exNs "InvalidValue" "InvalidInteger" = some false := by decide
          have e2 : hitOf exNs "InvalidValues" "InvalidInteger" = some false := by decide
          have e3 : hitOf exNs "InvalidInteger" "InvalidInteger" = some true := by decide
          cases hl : lookF ks ds "value" with
          | none => simp [s1, s3, h, h1, h2, R.st, RS.next, sRet, mCall, mCons, mVar, R.bind, mNil, rep, RS.out, tryCl, e1, e2, e3, kTag, sSet, mLst, mC, mFld, hl, RS.clr, tagged]
          | some d =>
            simp [s1, s3, h, h1, h2, R.st, RS.next, sRet, mCall, mCons, mVar, R.bind, mNil, rep, RS.out, tryCl, e1, e2, e3, kTag, sSet, mLst, mC, mFld, hl, RS.clr, tagged, mAndV, truth]
            rcases bRepr _ c with _ | ⟨d', c'⟩ <;> rfl
        · have e1 : hitOf exNs "InvalidValue" cls = none := by
            unfold hitOf
            rw [if_neg]
            intro hm
            simp [exNs] at hm
            rcases hm with z | z | z
            · exact h1 z
            · exact h2 z
            · exact h3 z
          simp [s1, h, h1, h2, h3, R.st, RS.next, RS.out, tryCl, e1]
/-- what the told def wants of the classes -/
structure ToldX (K : PySem.W.Frag) (mg : Str → Option Value) : Prop where
  h1 : ExHit K mg exNs "InvalidValue"
  h2 : ExHit K mg exNs "InvalidValues"
  h3 : ExHit K mg exNs "InvalidInteger"
  s1 : ExSu K mg "InvalidValue" "value"
  s2 : ExSu K mg "InvalidValues" "value"
  s3 : ExSu K mg "InvalidInteger" "value"
  b1 : ExBase K mg "InvalidValue" "HeldError"
  b2 : ExBase K mg "InvalidValues" "HeldError"
  b3 : ExBase K mg "InvalidInteger" "HeldError"
  t1 : ExTy K mg "InvalidValue" "ValueError"
  t2 : ExTy K mg "InvalidValues" "ValueError"
  t3 : ExTy K mg "InvalidInteger" "ValueError"
  ve : mg "ValueError" = none
  is' : mg "isinstance" = none
  rp : mg "repr" = none
set_option maxHeartbeats 4000000 in
theorem told_G {X : Cx} {k : Nat} (T : ToldX X.K X.mg) (hsys : SysIn X.base) : ∀ (g : Addr) (cdv : Value) (D0 : D) (F0 : Cells → R D) (s : Shared) (H : Hp), Room (k + 1) (Zt X N__law_told "_law_told" (defScope (topS 34)) g cdv s H).A → (Zt X N__law_told "_law_told" (defScope (topS 34)) g cdv s H).A.guards = some [] →
    (∀ (Wi : WX) (pn : List (Addr × Obj)) (xe : Value → Shared → Prop) (p1 p2 : Pos), Takes ((Zt X N__law_told "_law_told" (defScope (topS 34)) g cdv s H).nox.tr pn xe) Wi → SE ((Zt X N__law_told "_law_told" (defScope (topS 34)) g cdv s H).nox.tr pn xe) Wi (.Call (.Name "_law_act" p1) [] [] p2) (mAct D0 F0)) →
    SB (Zt X N__law_told "_law_told" (defScope (topS 34)) g cdv s H).nox WF (defBody (topS 34)) (kb_told D0 F0) := by
  intro g cdv D0 F0 s H hr gd act
  have nd := sc__law_told.nd
  exact sb_cons (ss_set (i := 1) nd (se_lst (sa_cons se_str sa_nil)))
    (sb_cons (ss_try rfl rfl (fun Wi pn xe tk po => sb_one (ss_set (i := 1) nd (se_lst (sa_cons se_str (sa_cons (act Wi pn xe _ _ tk) sa_nil)))))
      (hq_tag (X := (Zt X N__law_told "_law_told" (defScope (topS 34)) g cdv s H).nox) (i := 2) (j := 1) rfl rfl nd T.h1 T.s1 T.b1 T.t1 T.ve T.is' (hq_tag (X := (Zt X N__law_told "_law_told" (defScope (topS 34)) g cdv s H).nox) (i := 2) (j := 1) rfl rfl nd T.h2 T.s2 T.b2 T.t2 T.ve T.is' (hq_tag (X := (Zt X N__law_told "_law_told" (defScope (topS 34)) g cdv s H).nox) (i := 2) (j := 1) rfl rfl nd T.h3 T.s3 T.b3 T.t3 T.ve T.is' (hq_nil (X := (Zt X N__law_told "_law_told" (defScope (topS 34)) g cdv s H).nox) rfl rfl LamX.takes0)))))
    (sb_one (ss_ret (se_callB (bRepr_ok hr gd hsys) T.rp (sa_cons (v 1) sa_nil)))))
end K11
end
section
set_option Elab.async false
set_option linter.all false
set_option maxRecDepth 100000
namespace K11
open PySem PySem.Spec L2 Q
variable [Tb]
/-! ### is_list -/
abbrev N_is_list : List Str := ["value"]
theorem sc_is_list : FnScope N_is_list ["value"] (defScope (topS 9)) := ⟨rfl, rfl, rfl, by decide +kernel, rfl, by decide +kernel, by decide +kernel⟩
def m_is_list : MS := (sRet (m1 (fIsi ["list", "tuple"]) (mVar 0)))
def F_is_list : FD := bodyF 1 m_is_list
theorem o_is_list {P : Program} {w : World} {K : PySem.W.Frag} {mg : Str → Option Value} {base : Heap} (D0 : Df K mg "is_list" (topS 9)) (n_list : mg "list" = none) (n_tuple : mg "tuple" = none) (n_isinstance : mg "isinstance" = none)  : Ok P w K mg base 3 "is_list" (topS 9) ["value"] F_is_list := by
  have nd := sc_is_list.nd
  exact ok_mk (k := 2) D0 sc_is_list (fun _ _ _ _ _ _ us hl => match us, hl with | [_], _ => rfl) fun f cdv A l s H E gd hr tk po =>
    (sb_one (ss_ret (se_isi2 (v 0) (gTy n_list) (gTy n_tuple) n_isinstance)))
/-! ### is_integer -/
abbrev N_is_integer : List Str := ["value"]
theorem sc_is_integer : FnScope N_is_integer ["value"] (defScope (topS 10)) := ⟨rfl, rfl, rfl, by decide +kernel, rfl, by decide +kernel, by decide +kernel⟩
def m_is_integer : MS := (sRet (mAndV (m1 (fIsi ["int"]) (mVar 0)) (mNotV (m1 (fIsi ["bool"]) (mVar 0)))))
def F_is_integer : FD := bodyF 1 m_is_integer
theorem o_is_integer {P : Program} {w : World} {K : PySem.W.Frag} {mg : Str → Option Value} {base : Heap} (D0 : Df K mg "is_integer" (topS 10)) (n_int : mg "int" = none) (n_isinstance : mg "isinstance" = none) (n_bool : mg "bool" = none)  : Ok P w K mg base 3 "is_integer" (topS 10) ["value"] F_is_integer := by
  have nd := sc_is_integer.nd
  exact ok_mk (k := 2) D0 sc_is_integer (fun _ _ _ _ _ _ us hl => match us, hl with | [_], _ => rfl) fun f cdv A l s H E gd hr tk po =>
    (sb_one (ss_ret (se_and (se_isi (v 0) (gTy n_int) n_isinstance) (se_one (se_not (se_isi (v 0) (gTy n_bool) n_isinstance))))))
/-! ### is_end -/
abbrev N_is_end : List Str := ["value"]
theorem sc_is_end : FnScope N_is_end ["value"] (defScope (topS 11)) := ⟨rfl, rfl, rfl, by decide +kernel, rfl, by decide +kernel, by decide +kernel⟩
def m_is_end : MS := (sRet (mAndV (m1 (fIsi ["str"]) (mVar 0)) (m2 fIn (mVar 0) (mTup (mCons (mC (.str "bottom")) (mCons (mC (.str "top")) mNil))))))
def F_is_end : FD := bodyF 1 m_is_end
theorem o_is_end {P : Program} {w : World} {K : PySem.W.Frag} {mg : Str → Option Value} {base : Heap} (D0 : Df K mg "is_end" (topS 11)) (n_str : mg "str" = none) (n_isinstance : mg "isinstance" = none) (c_TOP : ∃ t, mg "TOP" = some (.str "top" t)) (c_BOTTOM : ∃ t, mg "BOTTOM" = some (.str "bottom" t))  : Ok P w K mg base 3 "is_end" (topS 11) ["value"] F_is_end := by
  obtain ⟨_, c_TOP⟩ := c_TOP
  obtain ⟨_, c_BOTTOM⟩ := c_BOTTOM
  have nd := sc_is_end.nd
  exact ok_mk (k := 2) D0 sc_is_end (fun _ _ _ _ _ _ us hl => match us, hl with | [_], _ => rfl) fun f cdv A l s H E gd hr tk po =>
    (sb_one (ss_ret (se_and (se_isi (v 0) (gTy n_str) n_isinstance) (se_one (se_cmp fIn_ok (v 0) (se_tup (sa_cons (gStr c_BOTTOM) (sa_cons (gStr c_TOP) sa_nil))) rfl)))))
/-! ### is_value -/
abbrev N_is_value : List Str := ["value"]
theorem sc_is_value : FnScope N_is_value ["value"] (defScope (topS 12)) := ⟨rfl, rfl, rfl, by decide +kernel, rfl, by decide +kernel, by decide +kernel⟩
def m_is_value : MS := (sRet (mOrV (mFn F_is_integer 1 (mCons (mVar 0) mNil)) (mFn F_is_end 1 (mCons (mVar 0) mNil))))
def F_is_value : FD := bodyF 1 m_is_value
theorem o_is_value {P : Program} {w : World} {K : PySem.W.Frag} {mg : Str → Option Value} {base : Heap} (D0 : Df K mg "is_value" (topS 12))  (o_is_integer : Ok P w K mg base 3 "is_integer" (topS 10) ["value"] F_is_integer) (o_is_end : Ok P w K mg base 3 "is_end" (topS 11) ["value"] F_is_end) : Ok P w K mg base 5 "is_value" (topS 12) ["value"] F_is_value := by
  have nd := sc_is_value.nd
  exact ok_mk (k := 4) D0 sc_is_value (fun _ _ _ _ _ _ us hl => match us, hl with | [_], _ => rfl) fun f cdv A l s H E gd hr tk po =>
    (sb_one (ss_ret (se_or (se_ok o_is_integer hr gd tk (sa_cons (v 0) sa_nil)) (se_one (se_ok o_is_end hr gd tk (sa_cons (v 0) sa_nil))))))
/-! ### rank -/
abbrev N_rank : List Str := ["value"]
theorem sc_rank : FnScope N_rank ["value"] (defScope (topS 13)) := ⟨rfl, rfl, rfl, by decide +kernel, rfl, by decide +kernel, by decide +kernel⟩
def m_rank : MS := (sSeq (sIf (mT (m2 fEq (mVar 0) (mC (.str "bottom")))) (sRet (mTup (mCons (mC (.int 0)) (mCons (mC (.int 0)) mNil)))) sNil)
  (sSeq (sIf (mT (m2 fEq (mVar 0) (mC (.str "top")))) (sRet (mTup (mCons (mC (.int 2)) (mCons (mC (.int 0)) mNil)))) sNil)
  (sRet (mTup (mCons (mC (.int 1)) (mCons (mVar 0) mNil))))))
def F_rank : FD := bodyF 1 m_rank
theorem o_rank {P : Program} {w : World} {K : PySem.W.Frag} {mg : Str → Option Value} {base : Heap} (D0 : Df K mg "rank" (topS 13)) (c_BOTTOM : ∃ t, mg "BOTTOM" = some (.str "bottom" t)) (c_TOP : ∃ t, mg "TOP" = some (.str "top" t))  : Ok P w K mg base 3 "rank" (topS 13) ["value"] F_rank := by
  obtain ⟨_, c_BOTTOM⟩ := c_BOTTOM
  obtain ⟨_, c_TOP⟩ := c_TOP
  have nd := sc_rank.nd
  exact ok_mk (k := 2) D0 sc_rank (fun _ _ _ _ _ _ us hl => match us, hl with | [_], _ => rfl) fun f cdv A l s H E gd hr tk po =>
    (sb_cons (ss_if (st_cmp (fEq_ok hr) (v 0) (gStr c_BOTTOM) rfl) (sb_one (ss_ret (se_tup (sa_cons se_int (sa_cons se_int sa_nil))))) sb_nil)
    (sb_cons (ss_if (st_cmp (fEq_ok hr) (v 0) (gStr c_TOP) rfl) (sb_one (ss_ret (se_tup (sa_cons se_int (sa_cons se_int sa_nil))))) sb_nil)
    (sb_one (ss_ret (se_tup (sa_cons se_int (sa_cons (v 0) sa_nil)))))))
/-! ### least -/
abbrev N_least : List Str := ["values"]
theorem sc_least : FnScope N_least ["values"] (defScope (topS 14)) := ⟨rfl, rfl, rfl, by decide +kernel, rfl, by decide +kernel, by decide +kernel⟩
def m_least : MS := (sRet (mMM fLtT F_rank (mVar 0) (mC (.str "top"))))
def F_least : FD := bodyF 1 m_least
theorem o_least {P : Program} {w : World} {K : PySem.W.Frag} {mg : Str → Option Value} {base : Heap} (D0 : Df K mg "least" (topS 14)) (c_TOP : ∃ t, mg "TOP" = some (.str "top" t)) (n_min : mg "min" = none) (o_rank : Ok P w K mg base 3 "rank" (topS 13) ["value"] F_rank) : Ok P w K mg base 5 "least" (topS 14) ["values"] F_least := by
  obtain ⟨_, c_TOP⟩ := c_TOP
  have nd := sc_least.nd
  exact ok_mk (k := 4) D0 sc_least (fun _ _ _ _ _ _ us hl => match us, hl with | [_], _ => rfl) fun f cdv A l s H E gd hr tk po =>
    (sb_one (ss_ret (se_minK rfl o_rank hr gd n_min (v 0) (gStr c_TOP))))
/-! ### greatest -/
abbrev N_greatest : List Str := ["values"]
theorem sc_greatest : FnScope N_greatest ["values"] (defScope (topS 15)) := ⟨rfl, rfl, rfl, by decide +kernel, rfl, by decide +kernel, by decide +kernel⟩
def m_greatest : MS := (sRet (mMM fGtT F_rank (mVar 0) (mC (.str "bottom"))))
def F_greatest : FD := bodyF 1 m_greatest
theorem o_greatest {P : Program} {w : World} {K : PySem.W.Frag} {mg : Str → Option Value} {base : Heap} (D0 : Df K mg "greatest" (topS 15)) (c_BOTTOM : ∃ t, mg "BOTTOM" = some (.str "bottom" t)) (n_max : mg "max" = none) (o_rank : Ok P w K mg base 3 "rank" (topS 13) ["value"] F_rank) : Ok P w K mg base 5 "greatest" (topS 15) ["values"] F_greatest := by
  obtain ⟨_, c_BOTTOM⟩ := c_BOTTOM
  have nd := sc_greatest.nd
  exact ok_mk (k := 4) D0 sc_greatest (fun _ _ _ _ _ _ us hl => match us, hl with | [_], _ => rfl) fun f cdv A l s H E gd hr tk po =>
    (sb_one (ss_ret (se_maxK rfl o_rank hr gd n_max (v 0) (gStr c_BOTTOM))))
/-! ### end_at -/
abbrev N_end_at : List Str := ["value", "level"]
theorem sc_end_at : FnScope N_end_at ["value", "level"] (defScope (topS 16)) := ⟨rfl, rfl, rfl, by decide +kernel, rfl, by decide +kernel, by decide +kernel⟩
def m_end_at : MS := (sRet (mIf (mT (m2 fGeA (mFn F_rank 1 (mCons (mVar 0) mNil)) (mTup (mCons (mC (.int 1)) (mCons (mVar 1) mNil))))) (mC (.str "top")) (mC (.str "bottom"))))
def F_end_at : FD := bodyF 2 m_end_at
theorem o_end_at {P : Program} {w : World} {K : PySem.W.Frag} {mg : Str → Option Value} {base : Heap} (D0 : Df K mg "end_at" (topS 16)) (c_TOP : ∃ t, mg "TOP" = some (.str "top" t)) (c_BOTTOM : ∃ t, mg "BOTTOM" = some (.str "bottom" t)) (o_rank : Ok P w K mg base 3 "rank" (topS 13) ["value"] F_rank) : Ok P w K mg base 5 "end_at" (topS 16) ["value", "level"] F_end_at := by
  obtain ⟨_, c_TOP⟩ := c_TOP
  obtain ⟨_, c_BOTTOM⟩ := c_BOTTOM
  have nd := sc_end_at.nd
  exact ok_mk (k := 4) D0 sc_end_at (fun _ _ _ _ _ _ us hl => match us, hl with | [_, _], _ => rfl) fun f cdv A l s H E gd hr tk po =>
    (sb_one (ss_ret (se_if (st_cmp (fGeA_ok (Nat.lt_of_le_of_lt (Nat.le_add_right _ _) hr.units)) (se_ok o_rank hr gd tk (sa_cons (v 0) sa_nil)) (se_tup (sa_cons se_int (sa_cons (v 1) sa_nil))) rfl) (gStr c_TOP) (gStr c_BOTTOM))))
/-! ### integers_in -/
abbrev N_integers_in : List Str := ["values", "found", "value"]
theorem sc_integers_in : FnScope N_integers_in ["values"] (defScope (topS 17)) := ⟨rfl, rfl, rfl, by decide +kernel, rfl, by decide +kernel, by decide +kernel⟩
def m_integers_in : MS := (sSetSorted 1 (mWalk (mVar 0)) (gN 2) [2] (mTru (mFn F_is_integer 1 (mCons (mVar 2) mNil))) (mVar 2))
def F_integers_in : FD := bodyF 3 m_integers_in
theorem o_integers_in {P : Program} {w : World} {K : PySem.W.Frag} {mg : Str → Option Value} {base : Heap} (D0 : Df K mg "integers_in" (topS 17)) (n_sorted : mg "sorted" = none) (o_is_integer : Ok P w K mg base 3 "is_integer" (topS 10) ["value"] F_is_integer) : Ok P w K mg base 5 "integers_in" (topS 17) ["values"] F_integers_in := by
  have nd := sc_integers_in.nd
  exact ok_mk (k := 4) D0 sc_integers_in (fun _ _ _ _ _ _ us hl => match us, hl with | [_], _ => rfl) fun f cdv A l s H E gd hr tk po =>
    (sb_setSorted (i := 1) (own := [("value", 2)]) (g := gN 2) rfl nd n_sorted (si_walk (v 0)) (blkOk_by (N := N_integers_in) (sc := defScope (topS 17)) (own := [("value", 2)]) (by decide +kernel)) (fun _ _ _ _ _ => lg_name nd (by decide)) (fun _ _ _ _ _ => st_test (st_truth (se_ok (X := Cx.blk (Xf P w K mg base N_integers_in "integers_in" (topS 17) f cdv A l s H E) _ _ _ _ _) o_is_integer hr gd LamX.takes0 (sa_cons (v 2) sa_nil)))) (fun _ _ _ _ _ => (v 2)))
/-! ### _check_values -/
abbrev N__check_values : List Str := ["values", "value"]
theorem sc__check_values : FnScope N__check_values ["values"] (defScope (topS 18)) := ⟨rfl, rfl, rfl, by decide +kernel, rfl, by decide +kernel, by decide +kernel⟩
def m__check_values : MS := (sFor (mWalk (mVar 0)) (gN 1)
  (sIf (mNot (mTru (mFn F_is_value 1 (mCons (mVar 1) mNil)))) (sRaise "InvalidValue" ["value"] (mCons (mVar 1) mNil)) sNil))
def F__check_values : FD := bodyF 2 m__check_values
theorem o__check_values {P : Program} {w : World} {K : PySem.W.Frag} {mg : Str → Option Value} {base : Heap} (D0 : Df K mg "_check_values" (topS 18)) (x_InvalidValue : ExD P w K mg base "InvalidValue") (o_is_value : Ok P w K mg base 5 "is_value" (topS 12) ["value"] F_is_value) : Ok P w K mg base 7 "_check_values" (topS 18) ["values"] F__check_values := by
  have nd := sc__check_values.nd
  exact ok_mk (k := 6) D0 sc__check_values (fun _ _ _ _ _ _ us hl => match us, hl with | [_], _ => rfl) fun f cdv A l s H E gd hr tk po =>
    (sb_one (ss_for po rfl (si_walk (v 0)) (sg_name (i := 1) nd)
    (sb_one (ss_if (st_not (st_truth (se_ok o_is_value hr gd tk (sa_cons (v 1) sa_nil)))) (sb_one (ss_raiseX rfl tk x_InvalidValue hr (sa_cons (v 1) sa_nil))) sb_nil))))
/-! ### is_at_least -/
abbrev N_is_at_least : List Str := ["one", "other"]
theorem sc_is_at_least : FnScope N_is_at_least ["one", "other"] (defScope (topS 19)) := ⟨rfl, rfl, rfl, by decide +kernel, rfl, by decide +kernel, by decide +kernel⟩
def m_is_at_least : MS := (sSeq (sExpr (mFn F__check_values 1 (mCons (mTup (mCons (mVar 0) (mCons (mVar 1) mNil))) mNil)))
  (sRet (m2 fGeA (mFn F_rank 1 (mCons (mVar 0) mNil)) (mFn F_rank 1 (mCons (mVar 1) mNil)))))
def F_is_at_least : FD := bodyF 2 m_is_at_least
theorem o_is_at_least {P : Program} {w : World} {K : PySem.W.Frag} {mg : Str → Option Value} {base : Heap} (D0 : Df K mg "is_at_least" (topS 19))  (o__check_values : Ok P w K mg base 7 "_check_values" (topS 18) ["values"] F__check_values) (o_rank : Ok P w K mg base 3 "rank" (topS 13) ["value"] F_rank) : Ok P w K mg base 9 "is_at_least" (topS 19) ["one", "other"] F_is_at_least := by
  have nd := sc_is_at_least.nd
  exact ok_mk (k := 8) D0 sc_is_at_least (fun _ _ _ _ _ _ us hl => match us, hl with | [_, _], _ => rfl) fun f cdv A l s H E gd hr tk po =>
    (sb_cons (ss_expr (se_ok o__check_values hr gd tk (sa_cons (se_tup (sa_cons (v 0) (sa_cons (v 1) sa_nil))) sa_nil)))
    (sb_one (ss_ret (se_cmp (fGeA_ok (Nat.lt_of_le_of_lt (Nat.le_add_right _ _) hr.units)) (se_ok o_rank hr gd tk (sa_cons (v 0) sa_nil)) (se_ok o_rank hr gd tk (sa_cons (v 1) sa_nil)) rfl))))
/-! ### lesser_of -/
abbrev N_lesser_of : List Str := ["values"]
theorem sc_lesser_of : FnScope N_lesser_of ["values"] (defScope (topS 20)) := ⟨rfl, rfl, rfl, by decide +kernel, rfl, by decide +kernel, by decide +kernel⟩
def m_lesser_of : MS := (sSeq (sExpr (mFn F__check_values 1 (mCons (mVar 0) mNil)))
  (sRet (mFn F_least 1 (mCons (mVar 0) mNil))))
def F_lesser_of : FD := starF 1 m_lesser_of
theorem o_lesser_of {P : Program} {w : World} {K : PySem.W.Frag} {mg : Str → Option Value} {base : Heap} (D0 : Df K mg "lesser_of" (topS 20))  (o__check_values : Ok P w K mg base 7 "_check_values" (topS 18) ["values"] F__check_values) (o_least : Ok P w K mg base 5 "least" (topS 14) ["values"] F_least) : OkS P w K mg base 9 "lesser_of" (topS 20) F_lesser_of := by
  have nd := sc_lesser_of.nd
  exact okS_mk (k := 8) D0 sc_lesser_of (fun _ _ _ _ _ _ us => by cases us <;> rfl) fun f cdv A l s H E gd hr tk po =>
    (sb_cons (ss_expr (se_ok o__check_values hr gd tk (sa_cons (v 0) sa_nil)))
    (sb_one (ss_ret (se_ok o_least hr gd tk (sa_cons (v 0) sa_nil)))))
/-! ### greater_of -/
abbrev N_greater_of : List Str := ["values"]
theorem sc_greater_of : FnScope N_greater_of ["values"] (defScope (topS 21)) := ⟨rfl, rfl, rfl, by decide +kernel, rfl, by decide +kernel, by decide +kernel⟩
def m_greater_of : MS := (sSeq (sExpr (mFn F__check_values 1 (mCons (mVar 0) mNil)))
  (sRet (mFn F_greatest 1 (mCons (mVar 0) mNil))))
def F_greater_of : FD := starF 1 m_greater_of
theorem o_greater_of {P : Program} {w : World} {K : PySem.W.Frag} {mg : Str → Option Value} {base : Heap} (D0 : Df K mg "greater_of" (topS 21))  (o__check_values : Ok P w K mg base 7 "_check_values" (topS 18) ["values"] F__check_values) (o_greatest : Ok P w K mg base 5 "greatest" (topS 15) ["values"] F_greatest) : OkS P w K mg base 9 "greater_of" (topS 21) F_greater_of := by
  have nd := sc_greater_of.nd
  exact okS_mk (k := 8) D0 sc_greater_of (fun _ _ _ _ _ _ us => by cases us <;> rfl) fun f cdv A l s H E gd hr tk po =>
    (sb_cons (ss_expr (se_ok o__check_values hr gd tk (sa_cons (v 0) sa_nil)))
    (sb_one (ss_ret (se_ok o_greatest hr gd tk (sa_cons (v 0) sa_nil)))))
/-! ### at_level -/
abbrev N_at_level : List Str := ["value", "level"]
theorem sc_at_level : FnScope N_at_level ["value", "level"] (defScope (topS 22)) := ⟨rfl, rfl, rfl, by decide +kernel, rfl, by decide +kernel, by decide +kernel⟩
def m_at_level : MS := (sSeq (sExpr (mFn F__check_values 1 (mCons (mTup (mCons (mVar 0) mNil)) mNil)))
  (sSeq (sIf (mNot (mTru (mFn F_is_integer 1 (mCons (mVar 1) mNil)))) (sRaise "InvalidInteger" ["value"] (mCons (mVar 1) mNil)) sNil)
  (sRet (mFn F_end_at 2 (mCons (mVar 0) (mCons (mVar 1) mNil))))))
def F_at_level : FD := bodyF 2 m_at_level
theorem o_at_level {P : Program} {w : World} {K : PySem.W.Frag} {mg : Str → Option Value} {base : Heap} (D0 : Df K mg "at_level" (topS 22)) (x_InvalidInteger : ExD P w K mg base "InvalidInteger") (o__check_values : Ok P w K mg base 7 "_check_values" (topS 18) ["values"] F__check_values) (o_is_integer : Ok P w K mg base 3 "is_integer" (topS 10) ["value"] F_is_integer) (o_end_at : Ok P w K mg base 5 "end_at" (topS 16) ["value", "level"] F_end_at) : Ok P w K mg base 9 "at_level" (topS 22) ["value", "level"] F_at_level := by
  have nd := sc_at_level.nd
  exact ok_mk (k := 8) D0 sc_at_level (fun _ _ _ _ _ _ us hl => match us, hl with | [_, _], _ => rfl) fun f cdv A l s H E gd hr tk po =>
    (sb_cons (ss_expr (se_ok o__check_values hr gd tk (sa_cons (se_tup (sa_cons (v 0) sa_nil)) sa_nil)))
    (sb_cons (ss_if (st_not (st_truth (se_ok o_is_integer hr gd tk (sa_cons (v 1) sa_nil)))) (sb_one (ss_raiseX rfl tk x_InvalidInteger hr (sa_cons (v 1) sa_nil))) sb_nil)
    (sb_one (ss_ret (se_ok o_end_at hr gd tk (sa_cons (v 0) (sa_cons (v 1) sa_nil)))))))
/-! ### levels_of -/
abbrev N_levels_of : List Str := ["values", "value"]
theorem sc_levels_of : FnScope N_levels_of ["values"] (defScope (topS 23)) := ⟨rfl, rfl, rfl, by decide +kernel, rfl, by decide +kernel, by decide +kernel⟩
def m_levels_of : MS := (sSeq (sIf (mOrT (mNot (mTru (mFn F_is_list 1 (mCons (mVar 0) mNil)))) (mNot (mTru (mCall bAll (mCons (mLc false (mWalk (mVar 0)) (gN 1) [1] bYes (mFn F_is_value 1 (mCons (mVar 1) mNil))) mNil))))) (sRaise "InvalidValues" ["value"] (mCons (mVar 0) mNil)) sNil)
  (sRet (mFn F_integers_in 1 (mCons (mVar 0) mNil))))
def F_levels_of : FD := bodyF 2 m_levels_of
theorem o_levels_of {P : Program} {w : World} {K : PySem.W.Frag} {mg : Str → Option Value} {base : Heap} (D0 : Df K mg "levels_of" (topS 23)) (n_all : mg "all" = none) (x_InvalidValues : ExD P w K mg base "InvalidValues") (o_is_list : Ok P w K mg base 3 "is_list" (topS 9) ["value"] F_is_list) (o_is_value : Ok P w K mg base 5 "is_value" (topS 12) ["value"] F_is_value) (o_integers_in : Ok P w K mg base 5 "integers_in" (topS 17) ["values"] F_integers_in) : Ok P w K mg base 7 "levels_of" (topS 23) ["values"] F_levels_of := by
  have nd := sc_levels_of.nd
  exact ok_mk (k := 6) D0 sc_levels_of (fun _ _ _ _ _ _ us hl => match us, hl with | [_], _ => rfl) fun f cdv A l s H E gd hr tk po =>
    (sb_cons (ss_if (sw_pt (sw_or (st_not (st_truth (se_ok o_is_list hr gd tk (sa_cons (v 0) sa_nil)))) (sw_or1 (st_not (st_truth (se_callB (bAll_ok rfl) n_all (sa_cons (se_lc (C := false) (own := [("value", 1)]) (g := gN 1) rfl nd (si_walk (v 0)) (blkOk_by (N := N_levels_of) (sc := defScope (topS 23)) (own := [("value", 1)]) (by decide +kernel)) (fun _ _ _ _ _ => lg_name nd (by decide)) (fun _ _ _ _ _ => st_yes) (fun _ _ _ _ _ => (se_ok (X := Cx.blk (Xf P w K mg base N_levels_of "levels_of" (topS 23) f cdv A l s H E) _ _ _ _ _) o_is_value hr gd LamX.takes0 (sa_cons (v 1) sa_nil)))) sa_nil))))))) (sb_one (ss_raiseX rfl tk x_InvalidValues hr (sa_cons (v 0) sa_nil))) sb_nil)
    (sb_one (ss_ret (se_ok o_integers_in hr gd tk (sa_cons (v 0) sa_nil)))))
/-! ### _law_pot -/
abbrev N__law_pot : List Str := ["_law_script", "_law_k", "_law_cell"]
theorem sc__law_pot : FnScope N__law_pot ["_law_script", "_law_k"] (defScope (topS 25)) := ⟨rfl, rfl, rfl, by decide +kernel, rfl, by decide +kernel, by decide +kernel⟩
def m__law_pot : MS := (sSeq (sSet 2 (m2 fAdd (m2 fMul (mC (.int 23)) (mVar 1)) (mC (.int 9))))
  (sSeq (sIf (mT (m2 fLt (mVar 1) (mCall bLen (mCons (mVar 0) mNil)))) (sSet 2 (m2 fIx (mVar 0) (mVar 1))) sNil)
  (sRet (mLstC (mCons (mCall bMax2 (mCons (mC (.int 0)) (mCons (m2 fSub (mCall bAbs (mCons (mVar 2) mNil)) (m2 fPow (mC (.int 10)) (mC (.int 18)))) mNil))) (mCons (m2 fAdd (m2 fMod (m2 fMul (mCall bInt (mCons (m2 fAdd (m2 fMod (mCall bInt (mCons (mCall bAbs (mCons (mVar 2) mNil)) mNil)) (mC (.int 2147483549))) (mC (.int 3))) mNil)) (m2 fPow (m2 fAdd (m2 fMul (mC (.int 2)) (mVar 1)) (mC (.int 5))) (mC (.int 3)))) (mC (.int 2147483477))) (mC (.int 1))) mNil))))))
def F__law_pot : FD := bodyF 3 m__law_pot
theorem o__law_pot {P : Program} {w : World} {K : PySem.W.Frag} {mg : Str → Option Value} {base : Heap} (D0 : Df K mg "_law_pot" (topS 25)) (n_len : mg "len" = none) (n_abs : mg "abs" = none) (n_int : mg "int" = none) (n_max : mg "max" = none)  : Ok P w K mg base 3 "_law_pot" (topS 25) ["_law_script", "_law_k"] F__law_pot := by
  have nd := sc__law_pot.nd
  exact ok_mk (k := 2) D0 sc__law_pot (fun _ _ _ _ _ _ us hl => match us, hl with | [_, _], _ => rfl) fun f cdv A l s H E gd hr tk po =>
    (sb_cons (ss_set (i := 2) nd (se_add (se_mul se_int (v 1)) se_int))
    (sb_cons (ss_if (st_cmp fLt_ok (v 1) (se_callB bLen_ok n_len (sa_cons (v 0) sa_nil)) rfl) (sb_one (ss_set (i := 2) nd (se_ix (v 0) (v 1)))) sb_nil)
    (sb_one (ss_ret (se_lstC (sa_cons (se_callB (bMax2_ok rfl) n_max (sa_cons se_int (sa_cons (se_sub (se_callB bAbs_ok n_abs (sa_cons (v 2) sa_nil)) (se_pow se_int se_int)) sa_nil))) (sa_cons (se_add (se_mod (se_mul (se_callTy bInt_ok n_int (sa_cons (se_add (se_mod (se_callTy bInt_ok n_int (sa_cons (se_callB bAbs_ok n_abs (sa_cons (v 2) sa_nil)) sa_nil)) se_int) se_int) sa_nil)) (se_pow (se_add (se_mul se_int (v 1)) se_int) se_int)) se_int) se_int) sa_nil)))))))
/-! ### _law_draw -/
abbrev N__law_draw : List Str := ["_law_pot_here", "_law_many", "_law_digit"]
theorem sc__law_draw : FnScope N__law_draw ["_law_pot_here", "_law_many"] (defScope (topS 26)) := ⟨rfl, rfl, rfl, by decide +kernel, rfl, by decide +kernel, by decide +kernel⟩
def m__law_draw : MS := (sSeq (sIf (mT (m2 fGt (m2 fIx (mVar 0) (mC (.int 0))) (mC (.int 0)))) (sSeq (sAsg (gT (gsCons (gIx (mVar 0) (mC (.int 0))) (gsCons (gN 2) gsNil))) (mCall bDivmod (mCons (m2 fIx (mVar 0) (mC (.int 0))) (mCons (mVar 1) mNil))))
  (sRet (mVar 2))) sNil)
  (sSeq (sAsg (gIx (mVar 0) (mC (.int 1))) (m2 fMod (mCall bInt (mCons (m2 fAdd (m2 fMul (m2 fIx (mVar 0) (mC (.int 1))) (mC (.int 48271))) (mC (.int 11213))) mNil)) (mC (.int 2147483587))))
  (sRet (m2 fMod (m2 fFdiv (m2 fMod (mCall bInt (mCons (m2 fMul (m2 fIx (mVar 0) (mC (.int 1))) (m2 fIx (mVar 0) (mC (.int 1)))) mNil)) (mC (.int 2147483549))) (mC (.int 13))) (mVar 1)))))
def F__law_draw : FD := bodyF 3 m__law_draw
theorem o__law_draw {P : Program} {w : World} {K : PySem.W.Frag} {mg : Str → Option Value} {base : Heap} (D0 : Df K mg "_law_draw" (topS 26)) (n_divmod : mg "divmod" = none) (n_int : mg "int" = none)  : Ok P w K mg base 3 "_law_draw" (topS 26) ["_law_pot_here", "_law_many"] F__law_draw := by
  have nd := sc__law_draw.nd
  exact ok_mk (k := 2) D0 sc__law_draw (fun _ _ _ _ _ _ us hl => match us, hl with | [_, _], _ => rfl) fun f cdv A l s H E gd hr tk po =>
    (sb_cons (ss_if (st_cmp fGt_ok (se_ix (v 0) se_int) se_int rfl) (sb_cons (ss_asg (se_callB bDivmod_ok n_divmod (sa_cons (se_ix (v 0) se_int) (sa_cons (v 1) sa_nil))) (sg_tup rfl (sgs_cons (sg_ix (W := WOf E) (v 0) se_int) (sgs_cons (sg_name (i := 2) nd) sgs_nil)) (gs_lenS (gs_lenS gs_len0))))
    (sb_one (ss_ret (v 2)))) sb_nil)
    (sb_cons (ss_asg (se_mod (se_callTy bInt_ok n_int (sa_cons (se_add (se_mul (se_ix (v 0) se_int) se_int) se_int) sa_nil)) se_int) (sg_ix (W := WOf E) (v 0) se_int))
    (sb_one (ss_ret (se_mod (se_fdiv (se_mod (se_callTy bInt_ok n_int (sa_cons (se_mul (se_ix (v 0) se_int) (se_ix (v 0) se_int)) sa_nil)) se_int) se_int) (v 1))))))
/-! ### _law_pick -/
abbrev N__law_pick : List Str := ["_law_pot_here", "_law_some"]
theorem sc__law_pick : FnScope N__law_pick ["_law_pot_here", "_law_some"] (defScope (topS 27)) := ⟨rfl, rfl, rfl, by decide +kernel, rfl, by decide +kernel, by decide +kernel⟩
def m__law_pick : MS := (sRet (m2 fIx (mVar 1) (mFn F__law_draw 2 (mCons (mVar 0) (mCons (mCall bLen (mCons (mVar 1) mNil)) mNil)))))
def F__law_pick : FD := bodyF 2 m__law_pick
theorem o__law_pick {P : Program} {w : World} {K : PySem.W.Frag} {mg : Str → Option Value} {base : Heap} (D0 : Df K mg "_law_pick" (topS 27)) (n_len : mg "len" = none) (o__law_draw : Ok P w K mg base 3 "_law_draw" (topS 26) ["_law_pot_here", "_law_many"] F__law_draw) : Ok P w K mg base 5 "_law_pick" (topS 27) ["_law_pot_here", "_law_some"] F__law_pick := by
  have nd := sc__law_pick.nd
  exact ok_mk (k := 4) D0 sc__law_pick (fun _ _ _ _ _ _ us hl => match us, hl with | [_, _], _ => rfl) fun f cdv A l s H E gd hr tk po =>
    (sb_one (ss_ret (se_ix (v 1) (se_ok o__law_draw hr gd tk (sa_cons (v 0) (sa_cons (se_callB bLen_ok n_len (sa_cons (v 1) sa_nil)) sa_nil))))))
/-! ### _law_number -/
abbrev N__law_number : List Str := ["_law_thing_here"]
theorem sc__law_number : FnScope N__law_number ["_law_thing_here"] (defScope (topS 28)) := ⟨rfl, rfl, rfl, by decide +kernel, rfl, by decide +kernel, by decide +kernel⟩
def m__law_number : MS := (sRet (mGet2 (mDict (mPc (mC (.str "bottom")) (m1 fNeg (m2 fPow (mC (.int 10)) (mC (.int 64)))) (mPc (mC (.str "top")) (m2 fPow (mC (.int 10)) (mC (.int 64))) mPn))) (mVar 0) (mVar 0)))
def F__law_number : FD := bodyF 1 m__law_number
theorem o__law_number {P : Program} {w : World} {K : PySem.W.Frag} {mg : Str → Option Value} {base : Heap} (D0 : Df K mg "_law_number" (topS 28))   : Ok P w K mg base 3 "_law_number" (topS 28) ["_law_thing_here"] F__law_number := by
  have nd := sc__law_number.nd
  exact ok_mk (k := 2) D0 sc__law_number (fun _ _ _ _ _ _ us hl => match us, hl with | [_], _ => rfl) fun f cdv A l s H E gd hr tk po =>
    (sb_one (ss_ret (se_get2 (L2.hu_of hr) (se_dict (sp_cons se_str (se_neg (se_pow se_int se_int)) (sp_cons se_str (se_pow se_int se_int) sp_nil))) (v 0) (v 0) ⟨rfl, rfl, rfl, rfl⟩)))
/-! ### _law_shown -/
abbrev N__law_shown : List Str := ["_law_number_here"]
theorem sc__law_shown : FnScope N__law_shown ["_law_number_here"] (defScope (topS 29)) := ⟨rfl, rfl, rfl, by decide +kernel, rfl, by decide +kernel, by decide +kernel⟩
def m__law_shown : MS := (sRet (mGet2 (mDict (mPc (m1 fNeg (m2 fPow (mC (.int 10)) (mC (.int 64)))) (mC (.str "bottom")) (mPc (m2 fPow (mC (.int 10)) (mC (.int 64))) (mC (.str "top")) mPn))) (mVar 0) (mVar 0)))
def F__law_shown : FD := bodyF 1 m__law_shown
theorem o__law_shown {P : Program} {w : World} {K : PySem.W.Frag} {mg : Str → Option Value} {base : Heap} (D0 : Df K mg "_law_shown" (topS 29))   : Ok P w K mg base 3 "_law_shown" (topS 29) ["_law_number_here"] F__law_shown := by
  have nd := sc__law_shown.nd
  exact ok_mk (k := 2) D0 sc__law_shown (fun _ _ _ _ _ _ us hl => match us, hl with | [_], _ => rfl) fun f cdv A l s H E gd hr tk po =>
    (sb_one (ss_ret (se_get2 (L2.hu_of hr) (se_dict (sp_cons (se_neg (se_pow se_int se_int)) se_str (sp_cons (se_pow se_int se_int) se_str sp_nil))) (v 0) (v 0) ⟨rfl, rfl, rfl, rfl⟩)))
/-! ### _law_thing -/
abbrev N__law_thing : List Str := ["_law_pot_here", "_law_before", "_law_way", "_law_bound", "_law_near"]
theorem sc__law_thing : FnScope N__law_thing ["_law_pot_here", "_law_before"] (defScope (topS 30)) := ⟨rfl, rfl, rfl, by decide +kernel, rfl, by decide +kernel, by decide +kernel⟩
def m__law_thing : MS := (sSeq (sPar 2 3 (mFn F__law_draw 2 (mCons (mVar 0) (mCons (mC (.int 10)) mNil))) (m2 fSub (m2 fPow (mC (.int 10)) (mC (.int 60))) (mC (.int 1))))
  (sSeq (sIf (mT (m2 fLt (mVar 2) (mC (.int 2)))) (sRet (mFn F__law_pick 2 (mCons (mVar 0) (mCons (mLst (mCons (mC (.str "bottom")) (mCons (mC (.str "top")) mNil))) mNil)))) sNil)
  (sSeq (sIf (mAndT (mT (m2 fLt (mVar 2) (mC (.int 5)))) (mT (m2 fNe (mVar 1) (mLst mNil)))) (sSeq (sSet 4 (m2 fAdd (mFn F__law_pick 2 (mCons (mVar 0) (mCons (mVar 1) mNil))) (mFn F__law_pick 2 (mCons (mVar 0) (mCons (mLst (mCons (mC (.int 0)) (mCons (mC (.int 0)) (mCons (mC (.int 1)) (mCons (m1 fNeg (mC (.int 1))) mNil))))) mNil)))))
  (sRet (mCall bMax2 (mCons (m2 fSub (mC (.int 0)) (mVar 3)) (mCons (mCall bMin2 (mCons (mVar 3) (mCons (mVar 4) mNil))) mNil))))) sNil)
  (sSeq (sIf (mT (m2 fEq (mVar 2) (mC (.int 5)))) (sRet (mFn F__law_pick 2 (mCons (mVar 0) (mCons (mLst (mCons (mVar 3) (mCons (m2 fSub (mC (.int 0)) (mVar 3)) (mCons (mC (.int 0)) (mCons (mC (.int 1)) (mCons (m1 fNeg (mC (.int 1))) mNil)))))) mNil)))) sNil)
  (sSeq (sIf (mT (m2 fEq (mVar 2) (mC (.int 6)))) (sRet (m2 fAdd (m2 fMul (m2 fSub (mFn F__law_draw 2 (mCons (mVar 0) (mCons (mC (.int 19)) mNil))) (mC (.int 9))) (m2 fPow (mC (.int 10)) (mC (.int 50)))) (mFn F__law_draw 2 (mCons (mVar 0) (mCons (mC (.int 1000)) mNil))))) sNil)
  (sRet (m2 fSub (mFn F__law_draw 2 (mCons (mVar 0) (mCons (mC (.int 41)) mNil))) (mC (.int 20)))))))))
def F__law_thing : FD := bodyF 5 m__law_thing
theorem o__law_thing {P : Program} {w : World} {K : PySem.W.Frag} {mg : Str → Option Value} {base : Heap} (D0 : Df K mg "_law_thing" (topS 30)) (n_min : mg "min" = none) (n_max : mg "max" = none) (o__law_draw : Ok P w K mg base 3 "_law_draw" (topS 26) ["_law_pot_here", "_law_many"] F__law_draw) (o__law_pick : Ok P w K mg base 5 "_law_pick" (topS 27) ["_law_pot_here", "_law_some"] F__law_pick) : Ok P w K mg base 7 "_law_thing" (topS 30) ["_law_pot_here", "_law_before"] F__law_thing := by
  have nd := sc__law_thing.nd
  exact ok_mk (k := 6) D0 sc__law_thing (fun _ _ _ _ _ _ us hl => match us, hl with | [_, _], _ => rfl) fun f cdv A l s H E gd hr tk po =>
    (sb_cons (ss_par (i := 2) (j := 3) rfl nd (se_ok o__law_draw hr gd tk (sa_cons (v 0) (sa_cons se_int sa_nil))) (se_sub (se_pow se_int se_int) se_int))
    (sb_cons (ss_if (st_cmp fLt_ok (v 2) se_int rfl) (sb_one (ss_ret (se_ok o__law_pick hr gd tk (sa_cons (v 0) (sa_cons (se_lst (sa_cons se_str (sa_cons se_str sa_nil))) sa_nil))))) sb_nil)
    (sb_cons (ss_if (sw_pt (sw_and (st_cmp fLt_ok (v 2) se_int rfl) (sw_and1 (st_cmp (fNe_ok hr) (v 1) (se_lst sa_nil) rfl)))) (sb_cons (ss_set (i := 4) nd (se_add (se_ok o__law_pick hr gd tk (sa_cons (v 0) (sa_cons (v 1) sa_nil))) (se_ok o__law_pick hr gd tk (sa_cons (v 0) (sa_cons (se_lst (sa_cons se_int (sa_cons se_int (sa_cons se_int (sa_cons (se_neg se_int) sa_nil))))) sa_nil)))))
    (sb_one (ss_ret (se_callB (bMax2_ok rfl) n_max (sa_cons (se_sub se_int (v 3)) (sa_cons (se_callB (bMin2_ok rfl) n_min (sa_cons (v 3) (sa_cons (v 4) sa_nil))) sa_nil)))))) sb_nil)
    (sb_cons (ss_if (st_cmp (fEq_ok hr) (v 2) se_int rfl) (sb_one (ss_ret (se_ok o__law_pick hr gd tk (sa_cons (v 0) (sa_cons (se_lst (sa_cons (v 3) (sa_cons (se_sub se_int (v 3)) (sa_cons se_int (sa_cons se_int (sa_cons (se_neg se_int) sa_nil)))))) sa_nil))))) sb_nil)
    (sb_cons (ss_if (st_cmp (fEq_ok hr) (v 2) se_int rfl) (sb_one (ss_ret (se_add (se_mul (se_sub (se_ok o__law_draw hr gd tk (sa_cons (v 0) (sa_cons se_int sa_nil))) se_int) (se_pow se_int se_int)) (se_ok o__law_draw hr gd tk (sa_cons (v 0) (sa_cons se_int sa_nil)))))) sb_nil)
    (sb_one (ss_ret (se_sub (se_ok o__law_draw hr gd tk (sa_cons (v 0) (sa_cons se_int sa_nil))) se_int))))))))
/-! ### _law_things -/
abbrev N__law_things : List Str := ["_law_pot_here", "_law_many", "_law_found", "_law_turn", "_law_one"]
theorem sc__law_things : FnScope N__law_things ["_law_pot_here", "_law_many"] (defScope (topS 31)) := ⟨rfl, rfl, rfl, by decide +kernel, rfl, by decide +kernel, by decide +kernel⟩
def m__law_things : MS := (sSeq (sSet 2 (mLstC mNil))
  (sSeq (sFor (mRng1 (mVar 1)) (gN 3)
  (sExpr (mMe "list" fAppend (mVar 2) (mCons (mFn F__law_thing 2 (mCons (mVar 0) (mCons (mLc false (mWalk (mVar 2)) (gN 4) [4] (mT (m2 fNotIn (mVar 4) (mTup (mCons (mC (.str "bottom")) (mCons (mC (.str "top")) mNil))))) (mVar 4)) mNil))) mNil))))
  (sRet (mVar 2))))
def F__law_things : FD := bodyF 5 m__law_things
theorem o__law_things {P : Program} {w : World} {K : PySem.W.Frag} {mg : Str → Option Value} {base : Heap} (D0 : Df K mg "_law_things" (topS 31)) (n_range : mg "range" = none) (o__law_thing : Ok P w K mg base 7 "_law_thing" (topS 30) ["_law_pot_here", "_law_before"] F__law_thing) : Ok P w K mg base 9 "_law_things" (topS 31) ["_law_pot_here", "_law_many"] F__law_things := by
  have nd := sc__law_things.nd
  exact ok_mk (k := 8) D0 sc__law_things (fun _ _ _ _ _ _ us hl => match us, hl with | [_, _], _ => rfl) fun f cdv A l s H E gd hr tk po =>
    (sb_cons (ss_set (i := 2) nd (se_lstC sa_nil))
    (sb_cons (ss_for po rfl (si_range1 n_range (v 1)) (sg_name (i := 3) nd)
    (sb_one (ss_expr (se_me PySem.F.plainAttrs_list PySem.F.slot_list_append PySem.F.type_list_append fAppend_ok (v 2) (sa_cons (se_ok o__law_thing hr gd tk (sa_cons (v 0) (sa_cons (se_lc (C := false) (own := [("_law_one", 4)]) (g := gN 4) rfl nd (si_walk (v 2)) (blkOk_by (N := N__law_things) (sc := defScope (topS 31)) (own := [("_law_one", 4)]) (by decide +kernel)) (fun _ _ _ _ _ => lg_name nd (by decide)) (fun _ _ _ _ _ => st_test (st_cmp fNotIn_ok (v 4) (se_tup (sa_cons se_str (sa_cons se_str sa_nil))) rfl)) (fun _ _ _ _ _ => (v 4))) sa_nil))) sa_nil)))))
    (sb_one (ss_ret (v 2)))))
/-! ### _law_odd -/
abbrev N__law_odd : List Str := ["_law_pot_here"]
theorem sc__law_odd : FnScope N__law_odd ["_law_pot_here"] (defScope (topS 32)) := ⟨rfl, rfl, rfl, by decide +kernel, rfl, by decide +kernel, by decide +kernel⟩
def m__law_odd : MS := (sRet (mFn F__law_pick 2 (mCons (mVar 0) (mCons (mLst (mCons (mC .non) (mCons (mC (.bl true)) (mCons (mC (.bl false)) (mCons (mC (.str "")) (mCons (mC (.str "Bottom")) (mCons (mC (.str "TOP")) (mCons (mC (.str "bottom ")) (mCons (mC (.str "no bound")) (mCons (mC (.str "1")) (mCons (mLst (mCons (mC (.int 1)) mNil)) (mCons (mTup (mCons (mC (.int 1)) mNil)) (mCons mDict0 (mCons (mLst (mCons (mC (.str "top")) mNil)) mNil)))))))))))))) mNil))))
def F__law_odd : FD := bodyF 1 m__law_odd
theorem o__law_odd {P : Program} {w : World} {K : PySem.W.Frag} {mg : Str → Option Value} {base : Heap} (D0 : Df K mg "_law_odd" (topS 32))  (o__law_pick : Ok P w K mg base 5 "_law_pick" (topS 27) ["_law_pot_here", "_law_some"] F__law_pick) : Ok P w K mg base 7 "_law_odd" (topS 32) ["_law_pot_here"] F__law_odd := by
  have nd := sc__law_odd.nd
  exact ok_mk (k := 6) D0 sc__law_odd (fun _ _ _ _ _ _ us hl => match us, hl with | [_], _ => rfl) fun f cdv A l s H E gd hr tk po =>
    (sb_one (ss_ret (se_ok o__law_pick hr gd tk (sa_cons (v 0) (sa_cons (se_lst (sa_cons se_non (sa_cons se_bl (sa_cons se_bl (sa_cons se_str (sa_cons se_str (sa_cons se_str (sa_cons se_str (sa_cons se_str (sa_cons se_str (sa_cons (se_lst (sa_cons se_int sa_nil)) (sa_cons (se_tup (sa_cons se_int sa_nil)) (sa_cons se_dict0 (sa_cons (se_lst (sa_cons se_str sa_nil)) sa_nil)))))))))))))) sa_nil)))))
/-! ### _law_extreme -/
abbrev N__law_extreme : List Str := ["_law_way", "_law_some"]
theorem sc__law_extreme : FnScope N__law_extreme ["_law_way", "_law_some"] (defScope (topS 33)) := ⟨rfl, rfl, rfl, by decide +kernel, rfl, by decide +kernel, by decide +kernel⟩
def m__law_extreme : MS := (sSeq (sIf (mT (m2 fEq (mCall bLen (mCons (mVar 1) mNil)) (mC (.int 0)))) (sRet (m2 fIx (mLst (mCons (mFnS F_lesser_of mNil) (mCons (mFnS F_greater_of mNil) mNil))) (mVar 0))) sNil)
  (sSeq (sIf (mT (m2 fEq (mCall bLen (mCons (mVar 1) mNil)) (mC (.int 1)))) (sRet (mIf (mT (m2 fEq (mVar 0) (mC (.int 0)))) (mFnS F_lesser_of (mCons (m2 fIx (mVar 1) (mC (.int 0))) mNil)) (mFnS F_greater_of (mCons (m2 fIx (mVar 1) (mC (.int 0))) mNil)))) sNil)
  (sSeq (sIf (mT (m2 fEq (mCall bLen (mCons (mVar 1) mNil)) (mC (.int 2)))) (sRet (mIf (mT (m2 fEq (mVar 0) (mC (.int 0)))) (mFnS F_lesser_of (mCons (m2 fIx (mVar 1) (mC (.int 0))) (mCons (m2 fIx (mVar 1) (mC (.int 1))) mNil))) (mFnS F_greater_of (mCons (m2 fIx (mVar 1) (mC (.int 0))) (mCons (m2 fIx (mVar 1) (mC (.int 1))) mNil))))) sNil)
  (sSeq (sIf (mT (m2 fEq (mCall bLen (mCons (mVar 1) mNil)) (mC (.int 3)))) (sRet (mIf (mT (m2 fEq (mVar 0) (mC (.int 0)))) (mFnS F_lesser_of (mCons (m2 fIx (mVar 1) (mC (.int 0))) (mCons (m2 fIx (mVar 1) (mC (.int 1))) (mCons (m2 fIx (mVar 1) (mC (.int 2))) mNil)))) (mFnS F_greater_of (mCons (m2 fIx (mVar 1) (mC (.int 0))) (mCons (m2 fIx (mVar 1) (mC (.int 1))) (mCons (m2 fIx (mVar 1) (mC (.int 2))) mNil)))))) sNil)
  (sSeq (sIf (mT (m2 fEq (mVar 0) (mC (.int 0)))) (sRet (mFnS F_lesser_of (mCons (m2 fIx (mVar 1) (mC (.int 0))) (mCons (m2 fIx (mVar 1) (mC (.int 1))) (mCons (m2 fIx (mVar 1) (mC (.int 2))) (mCons (m2 fIx (mVar 1) (mC (.int 3))) mNil)))))) sNil)
  (sRet (mFnS F_greater_of (mCons (m2 fIx (mVar 1) (mC (.int 0))) (mCons (m2 fIx (mVar 1) (mC (.int 1))) (mCons (m2 fIx (mVar 1) (mC (.int 2))) (mCons (m2 fIx (mVar 1) (mC (.int 3))) mNil)))))))))))
def F__law_extreme : FD := bodyF 2 m__law_extreme
theorem o__law_extreme {P : Program} {w : World} {K : PySem.W.Frag} {mg : Str → Option Value} {base : Heap} (D0 : Df K mg "_law_extreme" (topS 33)) (n_len : mg "len" = none) (o_greater_of : OkS P w K mg base 9 "greater_of" (topS 21) F_greater_of) (o_lesser_of : OkS P w K mg base 9 "lesser_of" (topS 20) F_lesser_of) : Ok P w K mg base 11 "_law_extreme" (topS 33) ["_law_way", "_law_some"] F__law_extreme := by
  have nd := sc__law_extreme.nd
  exact ok_mk (k := 10) D0 sc__law_extreme (fun _ _ _ _ _ _ us hl => match us, hl with | [_, _], _ => rfl) fun f cdv A l s H E gd hr tk po =>
    (sb_cons (ss_if (st_cmp (fEq_ok hr) (se_callB bLen_ok n_len (sa_cons (v 1) sa_nil)) se_int rfl) (sb_one (ss_ret (se_ix (se_lst (sa_cons (se_okS0 o_lesser_of hr gd tk) (sa_cons (se_okS0 o_greater_of hr gd tk) sa_nil))) (v 0)))) sb_nil)
    (sb_cons (ss_if (st_cmp (fEq_ok hr) (se_callB bLen_ok n_len (sa_cons (v 1) sa_nil)) se_int rfl) (sb_one (ss_ret (se_if (st_cmp (fEq_ok hr) (v 0) se_int rfl) (se_okS o_lesser_of hr gd tk (sa_cons (se_ix (v 1) se_int) sa_nil)) (se_okS o_greater_of hr gd tk (sa_cons (se_ix (v 1) se_int) sa_nil))))) sb_nil)
    (sb_cons (ss_if (st_cmp (fEq_ok hr) (se_callB bLen_ok n_len (sa_cons (v 1) sa_nil)) se_int rfl) (sb_one (ss_ret (se_if (st_cmp (fEq_ok hr) (v 0) se_int rfl) (se_okS o_lesser_of hr gd tk (sa_cons (se_ix (v 1) se_int) (sa_cons (se_ix (v 1) se_int) sa_nil))) (se_okS o_greater_of hr gd tk (sa_cons (se_ix (v 1) se_int) (sa_cons (se_ix (v 1) se_int) sa_nil)))))) sb_nil)
    (sb_cons (ss_if (st_cmp (fEq_ok hr) (se_callB bLen_ok n_len (sa_cons (v 1) sa_nil)) se_int rfl) (sb_one (ss_ret (se_if (st_cmp (fEq_ok hr) (v 0) se_int rfl) (se_okS o_lesser_of hr gd tk (sa_cons (se_ix (v 1) se_int) (sa_cons (se_ix (v 1) se_int) (sa_cons (se_ix (v 1) se_int) sa_nil)))) (se_okS o_greater_of hr gd tk (sa_cons (se_ix (v 1) se_int) (sa_cons (se_ix (v 1) se_int) (sa_cons (se_ix (v 1) se_int) sa_nil))))))) sb_nil)
    (sb_cons (ss_if (st_cmp (fEq_ok hr) (v 0) se_int rfl) (sb_one (ss_ret (se_okS o_lesser_of hr gd tk (sa_cons (se_ix (v 1) se_int) (sa_cons (se_ix (v 1) se_int) (sa_cons (se_ix (v 1) se_int) (sa_cons (se_ix (v 1) se_int) sa_nil))))))) sb_nil)
    (sb_one (ss_ret (se_okS o_greater_of hr gd tk (sa_cons (se_ix (v 1) se_int) (sa_cons (se_ix (v 1) se_int) (sa_cons (se_ix (v 1) se_int) (sa_cons (se_ix (v 1) se_int) sa_nil))))))))))))
/-! ### _law_pairs_right -/
abbrev N__law_pairs_right : List Str := ["_law_things_here", "_law_one", "_law_two", "_law_marks", "_law_near", "_law_thing_here", "_law_mark", "_law_rank"]
theorem sc__law_pairs_right : FnScope N__law_pairs_right ["_law_things_here"] (defScope (topS 35)) := ⟨rfl, rfl, rfl, by decide +kernel, rfl, by decide +kernel, by decide +kernel⟩
def m__law_pairs_right : MS := (sSeq (sFor (mWalk (mVar 0)) (gN 1)
  (sFor (mWalk (mVar 0)) (gN 2)
  (sSeq (sIf (mT (m2 fNe (mCall bRepr (mCons (mFn F_is_at_least 2 (mCons (mVar 1) (mCons (mVar 2) mNil))) mNil)) (mCall bRepr (mCons (m2 fGe (mFn F__law_number 1 (mCons (mVar 1) mNil)) (mFn F__law_number 1 (mCons (mVar 2) mNil))) mNil)))) (sRet (mC (.bl false))) sNil)
  (sSeq (sSet 3 (mLc false (mWalk (mLst (mCons (mVar 1) (mCons (mVar 2) mNil)))) (gN 5) [5] (mT (m2 fNotIn (mVar 5) (mTup (mCons (mC (.str "bottom")) (mCons (mC (.str "top")) mNil))))) (mVar 5)))
  (sSeq (sSet 4 (m2 fAdd (m2 fAdd (mVar 3) (mLc false (mWalk (mVar 3)) (gN 6) [6] bYes (m2 fAdd (mVar 6) (mC (.int 1))))) (mLst (mCons (mC (.int 0)) mNil))))
  (sIf (mT (m2 fNe (mCall bAll (mCons (mLc false (mWalk (mVar 4)) (gN 7) [7] bYes (m2 fEq (mFn F_at_level 2 (mCons (mVar 1) (mCons (mVar 7) mNil))) (mFn F_at_level 2 (mCons (mVar 2) (mCons (mVar 7) mNil))))) mNil)) (m2 fEq (mVar 1) (mVar 2)))) (sRet (mC (.bl false))) sNil))))))
  (sRet (mC (.bl true))))
def F__law_pairs_right : FD := bodyF 8 m__law_pairs_right
theorem o__law_pairs_right {P : Program} {w : World} {K : PySem.W.Frag} {mg : Str → Option Value} {base : Heap} (D0 : Df K mg "_law_pairs_right" (topS 35)) (hsys : SysIn base) (n_repr : mg "repr" = none) (n_all : mg "all" = none) (o_is_at_least : Ok P w K mg base 9 "is_at_least" (topS 19) ["one", "other"] F_is_at_least) (o__law_number : Ok P w K mg base 3 "_law_number" (topS 28) ["_law_thing_here"] F__law_number) (o_at_level : Ok P w K mg base 9 "at_level" (topS 22) ["value", "level"] F_at_level) : Ok P w K mg base 11 "_law_pairs_right" (topS 35) ["_law_things_here"] F__law_pairs_right := by
  have nd := sc__law_pairs_right.nd
  exact ok_mk (k := 10) D0 sc__law_pairs_right (fun _ _ _ _ _ _ us hl => match us, hl with | [_], _ => rfl) fun f cdv A l s H E gd hr tk po =>
    (sb_cons (ss_for po rfl (si_walk (v 0)) (sg_name (i := 1) nd)
    (sb_one (ss_for po rfl (si_walk (v 0)) (sg_name (i := 2) nd)
    (sb_cons (ss_if (st_cmp (fNe_ok hr) (se_callB (bRepr_ok hr gd hsys) n_repr (sa_cons (se_ok o_is_at_least hr gd tk (sa_cons (v 1) (sa_cons (v 2) sa_nil))) sa_nil)) (se_callB (bRepr_ok hr gd hsys) n_repr (sa_cons (se_cmp fGe_ok (se_ok o__law_number hr gd tk (sa_cons (v 1) sa_nil)) (se_ok o__law_number hr gd tk (sa_cons (v 2) sa_nil)) rfl) sa_nil)) rfl) (sb_one (ss_ret se_bl)) sb_nil)
    (sb_cons (ss_setLc (i := 3) (C := false) (own := [("_law_thing_here", 5)]) (g := gN 5) rfl nd (si_walk (se_lst (sa_cons (v 1) (sa_cons (v 2) sa_nil)))) (blkOk_by (N := N__law_pairs_right) (sc := defScope (topS 35)) (own := [("_law_thing_here", 5)]) (by decide +kernel)) (fun _ _ _ _ _ => lg_name nd (by decide)) (fun _ _ _ _ _ => st_test (st_cmp fNotIn_ok (v 5) (se_tup (sa_cons se_str (sa_cons se_str sa_nil))) rfl)) (fun _ _ _ _ _ => (v 5)))
    (sb_cons (ss_set (i := 4) nd (se_add (se_add (v 3) (se_lc (C := false) (own := [("_law_mark", 6)]) (g := gN 6) rfl nd (si_walk (v 3)) (blkOk_by (N := N__law_pairs_right) (sc := defScope (topS 35)) (own := [("_law_mark", 6)]) (by decide +kernel)) (fun _ _ _ _ _ => lg_name nd (by decide)) (fun _ _ _ _ _ => st_yes) (fun _ _ _ _ _ => (se_add (v 6) se_int)))) (se_lst (sa_cons se_int sa_nil))))
    (sb_one (ss_if (st_cmp (fNe_ok hr) (se_callB (bAll_ok rfl) n_all (sa_cons (se_lc (C := false) (own := [("_law_rank", 7)]) (g := gN 7) rfl nd (si_walk (v 4)) (blkOk_by (N := N__law_pairs_right) (sc := defScope (topS 35)) (own := [("_law_rank", 7)]) (by decide +kernel)) (fun _ _ _ _ _ => lg_name nd (by decide)) (fun _ _ _ _ _ => st_yes) (fun _ _ _ _ _ => (se_cmp (fEq_ok (X := Cx.blk (Xf P w K mg base N__law_pairs_right "_law_pairs_right" (topS 35) f cdv A l s H E) _ _ _ _ _) hr) (se_ok (X := Cx.blk (Xf P w K mg base N__law_pairs_right "_law_pairs_right" (topS 35) f cdv A l s H E) _ _ _ _ _) o_at_level hr gd LamX.takes0 (sa_cons (v 1) (sa_cons (v 7) sa_nil))) (se_ok (X := Cx.blk (Xf P w K mg base N__law_pairs_right "_law_pairs_right" (topS 35) f cdv A l s H E) _ _ _ _ _) o_at_level hr gd LamX.takes0 (sa_cons (v 2) (sa_cons (v 7) sa_nil))) rfl))) sa_nil)) (se_cmp (fEq_ok hr) (v 1) (v 2) rfl) rfl) (sb_one (ss_ret se_bl)) sb_nil))))))))
    (sb_one (ss_ret se_bl)))
/-! ### _law_levels_right -/
abbrev N__law_levels_right : List Str := ["_law_pot_here", "_law_things_here", "_law_one", "_law_due", "_law_shown_here", "_law_told_here", "_law_own", "_law_rank"]
theorem sc__law_levels_right : FnScope N__law_levels_right ["_law_pot_here", "_law_things_here"] (defScope (topS 36)) := ⟨rfl, rfl, rfl, by decide +kernel, rfl, by decide +kernel, by decide +kernel⟩
def m__law_levels_right : MS := (sSeq (sFor (mWalk (m2 fAdd (mVar 1) (mLst (mCons (mC (.str "bottom")) (mCons (mC (.str "top")) mNil))))) (gN 2)
  (sSeq (sSet 6 (mIf (mT (m2 fNotIn (mVar 2) (mTup (mCons (mC (.str "bottom")) (mCons (mC (.str "top")) mNil))))) (mLst (mCons (mVar 2) (mCons (m2 fAdd (mVar 2) (mC (.int 1))) (mCons (m2 fSub (mVar 2) (mC (.int 1))) mNil)))) (mLst mNil)))
  (sFor (mWalk (m2 fAdd (mVar 6) (mLst (mCons (mC (.int 0)) (mCons (m2 fSub (mFn F__law_draw 2 (mCons (mVar 0) (mCons (mC (.int 41)) mNil))) (mC (.int 20))) (mCons (m2 fPow (mC (.int 10)) (mC (.int 60))) (mCons (m1 fNeg (m2 fPow (mC (.int 10)) (mC (.int 59)))) mNil))))))) (gN 7)
  (sSeq (sSet 3 (m2 fIx (mLst (mCons (mC (.str "bottom")) (mCons (mC (.str "top")) mNil))) (mCall bInt (mCons (m2 fGe (mFn F__law_number 1 (mCons (mVar 2) mNil)) (mVar 7)) mNil))))
  (sIf (mOrT (mT (m2 fNe (mCall bRepr (mCons (mFn F_at_level 2 (mCons (mVar 2) (mCons (mVar 7) mNil))) mNil)) (mCall bRepr (mCons (mVar 3) mNil)))) (mT (m2 fNe (mCall bRepr (mCons (mFnK F_at_level 2 false (mCons (mVar 2) (mCons (mVar 7) mNil))) mNil)) (mCall bRepr (mCons (mVar 3) mNil))))) (sRet (mC (.bl false))) sNil)))))
  (sSeq (sSet 3 (m1 fRev (m1 fSortedSet (mLc false (mWalk (mVar 1)) (gN 2) [2] (mT (m2 fNotIn (mVar 2) (mTup (mCons (mC (.str "bottom")) (mCons (mC (.str "top")) mNil))))) (mVar 2)))))
  (sSeq (sSet 4 (mCall bRepr (mCons (mVar 1) mNil)))
  (sSeq (sSet 5 (mFn F_levels_of 1 (mCons (mVar 1) mNil)))
  (sSeq (sIf (mOrT (mT (m2 fNe (mCall bRepr (mCons (mVar 5) mNil)) (mCall bRepr (mCons (mVar 3) mNil)))) (mT (m2 fNe (mCall bRepr (mCons (mFn F_levels_of 1 (mCons (mCall bTuple (mCons (mVar 1) mNil)) mNil)) mNil)) (mCall bRepr (mCons (mVar 3) mNil))))) (sRet (mC (.bl false))) sNil)
  (sSeq (sExpr (mMe "list" fAppend (mVar 5) (mCons (mC (.str "more")) mNil)))
  (sRet (mAndV (m2 fEq (mCall bRepr (mCons (mFn F_levels_of 1 (mCons (mVar 1) mNil)) mNil)) (mCall bRepr (mCons (mVar 3) mNil))) (m2 fEq (mCall bRepr (mCons (mVar 1) mNil)) (mVar 4))))))))))
def F__law_levels_right : FD := bodyF 8 m__law_levels_right
theorem o__law_levels_right {P : Program} {w : World} {K : PySem.W.Frag} {mg : Str → Option Value} {base : Heap} (D0 : Df K mg "_law_levels_right" (topS 36)) (hsys : SysIn base) (n_int : mg "int" = none) (n_repr : mg "repr" = none) (n_sorted : mg "sorted" = none) (n_set : mg "set" = none) (n_tuple : mg "tuple" = none) (o__law_draw : Ok P w K mg base 3 "_law_draw" (topS 26) ["_law_pot_here", "_law_many"] F__law_draw) (o__law_number : Ok P w K mg base 3 "_law_number" (topS 28) ["_law_thing_here"] F__law_number) (o_at_level : Ok P w K mg base 9 "at_level" (topS 22) ["value", "level"] F_at_level) (o_levels_of : Ok P w K mg base 7 "levels_of" (topS 23) ["values"] F_levels_of) : Ok P w K mg base 11 "_law_levels_right" (topS 36) ["_law_pot_here", "_law_things_here"] F__law_levels_right := by
  have nd := sc__law_levels_right.nd
  exact ok_mk (k := 10) D0 sc__law_levels_right (fun _ _ _ _ _ _ us hl => match us, hl with | [_, _], _ => rfl) fun f cdv A l s H E gd hr tk po =>
    (sb_cons (ss_for po rfl (si_walk (se_add (v 1) (se_lst (sa_cons se_str (sa_cons se_str sa_nil))))) (sg_name (i := 2) nd)
    (sb_cons (ss_set (i := 6) nd (se_if (st_cmp fNotIn_ok (v 2) (se_tup (sa_cons se_str (sa_cons se_str sa_nil))) rfl) (se_lst (sa_cons (v 2) (sa_cons (se_add (v 2) se_int) (sa_cons (se_sub (v 2) se_int) sa_nil)))) (se_lst sa_nil)))
    (sb_one (ss_for po rfl (si_walk (se_add (v 6) (se_lst (sa_cons se_int (sa_cons (se_sub (se_ok o__law_draw hr gd tk (sa_cons (v 0) (sa_cons se_int sa_nil))) se_int) (sa_cons (se_pow se_int se_int) (sa_cons (se_neg (se_pow se_int se_int)) sa_nil))))))) (sg_name (i := 7) nd)
    (sb_cons (ss_set (i := 3) nd (se_ix (se_lst (sa_cons se_str (sa_cons se_str sa_nil))) (se_callTy bInt_ok n_int (sa_cons (se_cmp fGe_ok (se_ok o__law_number hr gd tk (sa_cons (v 2) sa_nil)) (v 7) rfl) sa_nil))))
    (sb_one (ss_if (sw_pt (sw_or (st_cmp (fNe_ok hr) (se_callB (bRepr_ok hr gd hsys) n_repr (sa_cons (se_ok o_at_level hr gd tk (sa_cons (v 2) (sa_cons (v 7) sa_nil))) sa_nil)) (se_callB (bRepr_ok hr gd hsys) n_repr (sa_cons (v 3) sa_nil)) rfl) (sw_or1 (st_cmp (fNe_ok hr) (se_callB (bRepr_ok hr gd hsys) n_repr (sa_cons (se_okK (r := false) (ks := ["value", "level"]) o_at_level hr gd tk (fun _ _ _ _ _ _ us hl => match us, hl with | [_, _], _ => rfl) (sk_cons (v 2) (sk_cons (v 7) sk_nil))) sa_nil)) (se_callB (bRepr_ok hr gd hsys) n_repr (sa_cons (v 3) sa_nil)) rfl)))) (sb_one (ss_ret se_bl)) sb_nil)))))))
    (sb_cons (ss_set (i := 3) nd (se_rev (se_sortedSet rfl n_sorted n_set (se_lc (C := false) (own := [("_law_one", 2)]) (g := gN 2) rfl nd (si_walk (v 1)) (blkOk_by (N := N__law_levels_right) (sc := defScope (topS 36)) (own := [("_law_one", 2)]) (by decide +kernel)) (fun _ _ _ _ _ => lg_name nd (by decide)) (fun _ _ _ _ _ => st_test (st_cmp fNotIn_ok (v 2) (se_tup (sa_cons se_str (sa_cons se_str sa_nil))) rfl)) (fun _ _ _ _ _ => (v 2))))))
    (sb_cons (ss_set (i := 4) nd (se_callB (bRepr_ok hr gd hsys) n_repr (sa_cons (v 1) sa_nil)))
    (sb_cons (ss_set (i := 5) nd (se_ok o_levels_of hr gd tk (sa_cons (v 1) sa_nil)))
    (sb_cons (ss_if (sw_pt (sw_or (st_cmp (fNe_ok hr) (se_callB (bRepr_ok hr gd hsys) n_repr (sa_cons (v 5) sa_nil)) (se_callB (bRepr_ok hr gd hsys) n_repr (sa_cons (v 3) sa_nil)) rfl) (sw_or1 (st_cmp (fNe_ok hr) (se_callB (bRepr_ok hr gd hsys) n_repr (sa_cons (se_ok o_levels_of hr gd tk (sa_cons (se_callTy bTuple_ok n_tuple (sa_cons (v 1) sa_nil)) sa_nil)) sa_nil)) (se_callB (bRepr_ok hr gd hsys) n_repr (sa_cons (v 3) sa_nil)) rfl)))) (sb_one (ss_ret se_bl)) sb_nil)
    (sb_cons (ss_expr (se_me PySem.F.plainAttrs_list PySem.F.slot_list_append PySem.F.type_list_append fAppend_ok (v 5) (sa_cons se_str sa_nil)))
    (sb_one (ss_ret (se_and (se_cmp (fEq_ok hr) (se_callB (bRepr_ok hr gd hsys) n_repr (sa_cons (se_ok o_levels_of hr gd tk (sa_cons (v 1) sa_nil)) sa_nil)) (se_callB (bRepr_ok hr gd hsys) n_repr (sa_cons (v 3) sa_nil)) rfl) (se_one (se_cmp (fEq_ok hr) (se_callB (bRepr_ok hr gd hsys) n_repr (sa_cons (v 1) sa_nil)) (v 4) rfl)))))))))))
/-! ### _law_extremes_right -/
abbrev N__law_extremes_right : List Str := ["_law_some", "_law_numbers", "_law_due", "_law_one"]
theorem sc__law_extremes_right : FnScope N__law_extremes_right ["_law_some"] (defScope (topS 37)) := ⟨rfl, rfl, rfl, by decide +kernel, rfl, by decide +kernel, by decide +kernel⟩
def m__law_extremes_right : MS := (sSeq (sSet 1 (mLc false (mWalk (mVar 0)) (gN 3) [3] bYes (mFn F__law_number 1 (mCons (mVar 3) mNil))))
  (sSeq (sSet 2 (mIf (mT (m2 fNe (mVar 0) (mLst mNil))) (mLst (mCons (mFn F__law_shown 1 (mCons (mCall bMinL (mCons (mVar 1) mNil)) mNil)) (mCons (mFn F__law_shown 1 (mCons (mCall bMaxL (mCons (mVar 1) mNil)) mNil)) mNil))) (mLst (mCons (mC (.str "top")) (mCons (mC (.str "bottom")) mNil)))))
  (sRet (m2 fEq (mCall bRepr (mCons (mLst (mCons (mFn F__law_extreme 2 (mCons (mC (.int 0)) (mCons (mVar 0) mNil))) (mCons (mFn F__law_extreme 2 (mCons (mC (.int 1)) (mCons (mVar 0) mNil))) mNil))) mNil)) (mCall bRepr (mCons (mVar 2) mNil))))))
def F__law_extremes_right : FD := bodyF 4 m__law_extremes_right
theorem o__law_extremes_right {P : Program} {w : World} {K : PySem.W.Frag} {mg : Str → Option Value} {base : Heap} (D0 : Df K mg "_law_extremes_right" (topS 37)) (hsys : SysIn base) (n_max : mg "max" = none) (n_min : mg "min" = none) (n_repr : mg "repr" = none) (o__law_number : Ok P w K mg base 3 "_law_number" (topS 28) ["_law_thing_here"] F__law_number) (o__law_shown : Ok P w K mg base 3 "_law_shown" (topS 29) ["_law_number_here"] F__law_shown) (o__law_extreme : Ok P w K mg base 11 "_law_extreme" (topS 33) ["_law_way", "_law_some"] F__law_extreme) : Ok P w K mg base 13 "_law_extremes_right" (topS 37) ["_law_some"] F__law_extremes_right := by
  have nd := sc__law_extremes_right.nd
  exact ok_mk (k := 12) D0 sc__law_extremes_right (fun _ _ _ _ _ _ us hl => match us, hl with | [_], _ => rfl) fun f cdv A l s H E gd hr tk po =>
    (sb_cons (ss_setLc (i := 1) (C := false) (own := [("_law_one", 3)]) (g := gN 3) rfl nd (si_walk (v 0)) (blkOk_by (N := N__law_extremes_right) (sc := defScope (topS 37)) (own := [("_law_one", 3)]) (by decide +kernel)) (fun _ _ _ _ _ => lg_name nd (by decide)) (fun _ _ _ _ _ => st_yes) (fun _ _ _ _ _ => (se_ok (X := Cx.blk (Xf P w K mg base N__law_extremes_right "_law_extremes_right" (topS 37) f cdv A l s H E) _ _ _ _ _) o__law_number hr gd LamX.takes0 (sa_cons (v 3) sa_nil))))
    (sb_cons (ss_set (i := 2) nd (se_if (st_cmp (fNe_ok hr) (v 0) (se_lst sa_nil) rfl) (se_lst (sa_cons (se_ok o__law_shown hr gd tk (sa_cons (se_callB (bMinL_ok rfl) n_min (sa_cons (v 1) sa_nil)) sa_nil)) (sa_cons (se_ok o__law_shown hr gd tk (sa_cons (se_callB (bMaxL_ok rfl) n_max (sa_cons (v 1) sa_nil)) sa_nil)) sa_nil))) (se_lst (sa_cons se_str (sa_cons se_str sa_nil)))))
    (sb_one (ss_ret (se_cmp (fEq_ok hr) (se_callB (bRepr_ok hr gd hsys) n_repr (sa_cons (se_lst (sa_cons (se_ok o__law_extreme hr gd tk (sa_cons se_int (sa_cons (v 0) sa_nil))) (sa_cons (se_ok o__law_extreme hr gd tk (sa_cons se_int (sa_cons (v 0) sa_nil))) sa_nil))) sa_nil)) (se_callB (bRepr_ok hr gd hsys) n_repr (sa_cons (v 2) sa_nil)) rfl)))))
/-! ### _law_eight_right -/
abbrev N__law_eight_right : List Str := ["_law_pot_here", "_law_x", "_law_numbers", "_law_told_here", "_law_one"]
theorem sc__law_eight_right : FnScope N__law_eight_right ["_law_pot_here"] (defScope (topS 38)) := ⟨rfl, rfl, rfl, by decide +kernel, rfl, by decide +kernel, by decide +kernel⟩
def m__law_eight_right : MS := (sSeq (sSet 1 (mFn F__law_things 2 (mCons (mVar 0) (mCons (mC (.int 8)) mNil))))
  (sSeq (sSet 2 (mLc false (mWalk (mVar 1)) (gN 4) [4] bYes (mFn F__law_number 1 (mCons (mVar 4) mNil))))
  (sSeq (sSet 3 (mLstC (mCons (mFnS F_lesser_of (mCons (m2 fIx (mVar 1) (mC (.int 0))) (mCons (m2 fIx (mVar 1) (mC (.int 1))) (mCons (m2 fIx (mVar 1) (mC (.int 2))) (mCons (m2 fIx (mVar 1) (mC (.int 3))) (mCons (m2 fIx (mVar 1) (mC (.int 4))) (mCons (m2 fIx (mVar 1) (mC (.int 5))) (mCons (m2 fIx (mVar 1) (mC (.int 6))) (mCons (m2 fIx (mVar 1) (mC (.int 7))) mNil))))))))) mNil)))
  (sSeq (sExpr (mMe "list" fAppend (mVar 3) (mCons (mFnS F_greater_of (mCons (m2 fIx (mVar 1) (mC (.int 0))) (mCons (m2 fIx (mVar 1) (mC (.int 1))) (mCons (m2 fIx (mVar 1) (mC (.int 2))) (mCons (m2 fIx (mVar 1) (mC (.int 3))) (mCons (m2 fIx (mVar 1) (mC (.int 4))) (mCons (m2 fIx (mVar 1) (mC (.int 5))) (mCons (m2 fIx (mVar 1) (mC (.int 6))) (mCons (m2 fIx (mVar 1) (mC (.int 7))) mNil))))))))) mNil)))
  (sRet (m2 fEq (mCall bRepr (mCons (mVar 3) mNil)) (mCall bRepr (mCons (mLst (mCons (mFn F__law_shown 1 (mCons (mCall bMinL (mCons (mVar 2) mNil)) mNil)) (mCons (mFn F__law_shown 1 (mCons (mCall bMaxL (mCons (mVar 2) mNil)) mNil)) mNil))) mNil))))))))
def F__law_eight_right : FD := bodyF 5 m__law_eight_right
theorem o__law_eight_right {P : Program} {w : World} {K : PySem.W.Frag} {mg : Str → Option Value} {base : Heap} (D0 : Df K mg "_law_eight_right" (topS 38)) (hsys : SysIn base) (n_repr : mg "repr" = none) (n_max : mg "max" = none) (n_min : mg "min" = none) (o__law_things : Ok P w K mg base 9 "_law_things" (topS 31) ["_law_pot_here", "_law_many"] F__law_things) (o__law_number : Ok P w K mg base 3 "_law_number" (topS 28) ["_law_thing_here"] F__law_number) (o_lesser_of : OkS P w K mg base 9 "lesser_of" (topS 20) F_lesser_of) (o_greater_of : OkS P w K mg base 9 "greater_of" (topS 21) F_greater_of) (o__law_shown : Ok P w K mg base 3 "_law_shown" (topS 29) ["_law_number_here"] F__law_shown) : Ok P w K mg base 11 "_law_eight_right" (topS 38) ["_law_pot_here"] F__law_eight_right := by
  have nd := sc__law_eight_right.nd
  exact ok_mk (k := 10) D0 sc__law_eight_right (fun _ _ _ _ _ _ us hl => match us, hl with | [_], _ => rfl) fun f cdv A l s H E gd hr tk po =>
    (sb_cons (ss_set (i := 1) nd (se_ok o__law_things hr gd tk (sa_cons (v 0) (sa_cons se_int sa_nil))))
    (sb_cons (ss_setLc (i := 2) (C := false) (own := [("_law_one", 4)]) (g := gN 4) rfl nd (si_walk (v 1)) (blkOk_by (N := N__law_eight_right) (sc := defScope (topS 38)) (own := [("_law_one", 4)]) (by decide +kernel)) (fun _ _ _ _ _ => lg_name nd (by decide)) (fun _ _ _ _ _ => st_yes) (fun _ _ _ _ _ => (se_ok (X := Cx.blk (Xf P w K mg base N__law_eight_right "_law_eight_right" (topS 38) f cdv A l s H E) _ _ _ _ _) o__law_number hr gd LamX.takes0 (sa_cons (v 4) sa_nil))))
    (sb_cons (ss_set (i := 3) nd (se_lstC (sa_cons (se_okS o_lesser_of hr gd tk (sa_cons (se_ix (v 1) se_int) (sa_cons (se_ix (v 1) se_int) (sa_cons (se_ix (v 1) se_int) (sa_cons (se_ix (v 1) se_int) (sa_cons (se_ix (v 1) se_int) (sa_cons (se_ix (v 1) se_int) (sa_cons (se_ix (v 1) se_int) (sa_cons (se_ix (v 1) se_int) sa_nil))))))))) sa_nil)))
    (sb_cons (ss_expr (se_me PySem.F.plainAttrs_list PySem.F.slot_list_append PySem.F.type_list_append fAppend_ok (v 3) (sa_cons (se_okS o_greater_of hr gd tk (sa_cons (se_ix (v 1) se_int) (sa_cons (se_ix (v 1) se_int) (sa_cons (se_ix (v 1) se_int) (sa_cons (se_ix (v 1) se_int) (sa_cons (se_ix (v 1) se_int) (sa_cons (se_ix (v 1) se_int) (sa_cons (se_ix (v 1) se_int) (sa_cons (se_ix (v 1) se_int) sa_nil))))))))) sa_nil)))
    (sb_one (ss_ret (se_cmp (fEq_ok hr) (se_callB (bRepr_ok hr gd hsys) n_repr (sa_cons (v 3) sa_nil)) (se_callB (bRepr_ok hr gd hsys) n_repr (sa_cons (se_lst (sa_cons (se_ok o__law_shown hr gd tk (sa_cons (se_callB (bMinL_ok rfl) n_min (sa_cons (v 2) sa_nil)) sa_nil)) (sa_cons (se_ok o__law_shown hr gd tk (sa_cons (se_callB (bMaxL_ok rfl) n_max (sa_cons (v 2) sa_nil)) sa_nil)) sa_nil))) sa_nil)) rfl)))))))
/-! ### _law_refused_right -/
abbrev N__law_refused_right : List Str := ["_law_pot_here", "_law_things_here", "_law_odd_here", "_law_more", "_law_some", "_law_told_here", "_law_rank", "_law_wrong"]
theorem sc__law_refused_right : FnScope N__law_refused_right ["_law_pot_here", "_law_things_here"] (defScope (topS 39)) := ⟨rfl, rfl, rfl, by decide +kernel, rfl, by decide +kernel, by decide +kernel⟩
def m__law_refused_right : MS := (sSeq (sAsg (gT (gsCons (gN 2) (gsCons (gN 3) gsNil))) (mTup (mCons (mFn F__law_odd 1 (mCons (mVar 0) mNil)) (mCons (mFn F__law_odd 1 (mCons (mVar 0) mNil)) mNil))))
  (sSeq (sSet 4 (mSl true (mVar 1) (fun _ c => .ok none c) (mPart (mC (.int 2)))))
  (sSeq (sExpr (mMe "list" fInsert (mVar 4) (mCons (mFn F__law_draw 2 (mCons (mVar 0) (mCons (m2 fAdd (mCall bLen (mCons (mVar 4) mNil)) (mC (.int 1))) mNil))) (mCons (mVar 2) mNil))))
  (sSeq (sIf (mT (m2 fNe (mLam toldF (mFn F__law_extreme 2 (mCons (mC (.int 0)) (mCons (m2 fAdd (mVar 4) (mLst (mCons (mVar 3) mNil))) mNil)))) (mCall bRepr (mCons (mLst (mCons (mC (.str "value")) (mCons (mVar 2) (mCons (mC (.bl true)) mNil)))) mNil)))) (sRet (mC (.bl false))) sNil)
  (sSeq (sIf (mOrT (mT (m2 fNe (mLam toldF (mFn F__law_extreme 2 (mCons (mC (.int 1)) (mCons (mVar 4) mNil)))) (mCall bRepr (mCons (mLst (mCons (mC (.str "value")) (mCons (mVar 2) (mCons (mC (.bl true)) mNil)))) mNil)))) (mT (m2 fNe (mCall bRepr (mCons (mFn F_is_value 1 (mCons (mVar 2) mNil)) mNil)) (mC (.str "False"))))) (sRet (mC (.bl false))) sNil)
  (sSeq (sSet 5 (mLstC (mCons (mLam toldF (mFn F_is_at_least 2 (mCons (mVar 2) (mCons (mVar 3) mNil)))) mNil)))
  (sSeq (sExpr (mMe "list" fAppend (mVar 5) (mCons (mLam toldF (mFn F_is_at_least 2 (mCons (mC (.int 3)) (mCons (mVar 2) mNil)))) mNil)))
  (sSeq (sExpr (mMe "list" fAppend (mVar 5) (mCons (mLam toldF (mFn F_at_level 2 (mCons (mVar 2) (mCons (mC (.str "top")) mNil)))) mNil)))
  (sSeq (sIf (mT (m2 fNe (mVar 5) (m2 fMul (mLst (mCons (mCall bRepr (mCons (mLst (mCons (mC (.str "value")) (mCons (mVar 2) (mCons (mC (.bl true)) mNil)))) mNil)) mNil)) (mC (.int 3))))) (sRet (mC (.bl false))) sNil)
  (sSeq (sSet 6 (mFn F__law_pick 2 (mCons (mVar 0) (mCons (mLst (mCons (mC (.str "top")) (mCons (mC (.str "bottom")) (mCons (mC (.bl true)) (mCons (mC (.bl false)) (mCons (mC .non) (mCons (mC (.str "1")) (mCons (mLst (mCons (mC (.int 1)) mNil)) (mCons (mTup (mCons (mC (.int 0)) mNil)) (mCons mDict0 mNil)))))))))) mNil))))
  (sSeq (sIf (mT (m2 fNe (mLam toldF (mFn F_at_level 2 (mCons (mFn F__law_pick 2 (mCons (mVar 0) (mCons (mLst (mCons (mC (.str "top")) (mCons (mC (.int 5)) (mCons (m1 fNeg (m2 fPow (mC (.int 10)) (mC (.int 40)))) mNil)))) mNil))) (mCons (mVar 6) mNil)))) (mCall bRepr (mCons (mLst (mCons (mC (.str "integer")) (mCons (mVar 6) (mCons (mC (.bl true)) mNil)))) mNil)))) (sRet (mC (.bl false))) sNil)
  (sSeq (sSet 7 (mFn F__law_pick 2 (mCons (mVar 0) (mCons (mLst (mCons (mC .non) (mCons (mC (.int 5)) (mCons (mC (.str "ab")) (mCons mDict0 (mCons (mDict (mPc (mC (.int 1)) (mC (.int 2)) mPn)) (mCons (mC (.bl true)) (mCons (m2 fAdd (mVar 1) (mLst (mCons (mVar 2) mNil))) (mCons (mCall bTuple (mCons (m2 fAdd (mLst (mCons (mVar 2) mNil)) (mVar 1)) mNil)) (mCons (mLst (mCons (mVar 2) (mCons (mVar 3) mNil))) mNil)))))))))) mNil))))
  (sRet (m2 fEq (mLam toldF (mFn F_levels_of 1 (mCons (mVar 7) mNil))) (mCall bRepr (mCons (mLst (mCons (mC (.str "values")) (mCons (mVar 7) (mCons (mC (.bl true)) mNil)))) mNil))))))))))))))))
def F__law_refused_right : FD := bodyF 8 m__law_refused_right
theorem o__law_refused_right {c0 : Addr} {P : Program} {w : World} {K : PySem.W.Frag} {mg : Str → Option Value} {base : Heap} (D0 : DfC K mg "_law_refused_right" (topS 39) c0) (hsys : SysIn base) (n_len : mg "len" = none) (D_law_told : Df K mg "_law_told" (topS 34)) (TX_law_told : ToldX K mg) (tb0 : LamT base mg c0 ((PyProof.Rows.envOfC "_law_refused_right" (defScope (topS 39)) 0 0 .none).qual ++ "<lambda>")) (n_repr : mg "repr" = none) (n_tuple : mg "tuple" = none) (o__law_odd : Ok P w K mg base 7 "_law_odd" (topS 32) ["_law_pot_here"] F__law_odd) (o__law_draw : Ok P w K mg base 3 "_law_draw" (topS 26) ["_law_pot_here", "_law_many"] F__law_draw) (o__law_extreme : Ok P w K mg base 11 "_law_extreme" (topS 33) ["_law_way", "_law_some"] F__law_extreme) (o_is_value : Ok P w K mg base 5 "is_value" (topS 12) ["value"] F_is_value) (o_is_at_least : Ok P w K mg base 9 "is_at_least" (topS 19) ["one", "other"] F_is_at_least) (o_at_level : Ok P w K mg base 9 "at_level" (topS 22) ["value", "level"] F_at_level) (o__law_pick : Ok P w K mg base 5 "_law_pick" (topS 27) ["_law_pot_here", "_law_some"] F__law_pick) (o_levels_of : Ok P w K mg base 7 "levels_of" (topS 23) ["values"] F_levels_of) : Ok P w K mg base 23 "_law_refused_right" (topS 39) ["_law_pot_here", "_law_things_here"] F__law_refused_right := by
  have nd := sc__law_refused_right.nd
  exact ok_mkC (k := 22) D0 sc__law_refused_right (fun _ _ _ _ _ _ us hl => match us, hl with | [_, _], _ => rfl) fun f A l s H E gd hr tk po =>
    (sb_cons (ss_asg (se_tup (sa_cons (se_ok o__law_odd hr gd tk (sa_cons (v 0) sa_nil)) (sa_cons (se_ok o__law_odd hr gd tk (sa_cons (v 0) sa_nil)) sa_nil))) (sg_tup rfl (sgs_cons (sg_name (i := 2) nd) (sgs_cons (sg_name (i := 3) nd) sgs_nil)) (gs_lenS (gs_lenS gs_len0))))
    (sb_cons (ss_set (i := 4) nd (se_slice (C := true) (v 1) so_none (so_some se_int)))
    (sb_cons (ss_expr (se_me PySem.F.plainAttrs_list PySem.F.slot_list_insert PySem.F.type_list_insert fInsert_ok (v 4) (sa_cons (se_ok o__law_draw hr gd tk (sa_cons (v 0) (sa_cons (se_add (se_callB bLen_ok n_len (sa_cons (v 4) sa_nil)) se_int) sa_nil))) (sa_cons (v 2) sa_nil))))
    (sb_cons (ss_if (st_cmp (fNe_ok hr) (se_told (k := 20) D_law_told sc__law_told (fun _ _ _ _ _ _ us hl => match us, hl with | [_], _ => rfl) told_ind (told_G TX_law_told hsys) tb0 hr gd (LamX.lamS_by (sc := defScope (topS 39)) (by decide +kernel)) (fun E2 A2 l2 s2 H2 f2 c2 ga hr2 => (se_ok (X := LamX.lamCx (Xf P w K mg base N__law_refused_right "_law_refused_right" (topS 39) f (.ref c0) A l s H E) A2 l2 s2 H2 E2 _ f2 c2) o__law_extreme hr2 ga (takes_of rfl rfl rfl rfl) (sa_cons se_int (sa_cons (se_add (v 4) (se_lst (sa_cons (v 3) sa_nil))) sa_nil))))) (se_callB (bRepr_ok hr gd hsys) n_repr (sa_cons (se_lst (sa_cons se_str (sa_cons (v 2) (sa_cons se_bl sa_nil)))) sa_nil)) rfl) (sb_one (ss_ret se_bl)) sb_nil)
    (sb_cons (ss_if (sw_pt (sw_or (st_cmp (fNe_ok hr) (se_told (k := 20) D_law_told sc__law_told (fun _ _ _ _ _ _ us hl => match us, hl with | [_], _ => rfl) told_ind (told_G TX_law_told hsys) tb0 hr gd (LamX.lamS_by (sc := defScope (topS 39)) (by decide +kernel)) (fun E2 A2 l2 s2 H2 f2 c2 ga hr2 => (se_ok (X := LamX.lamCx (Xf P w K mg base N__law_refused_right "_law_refused_right" (topS 39) f (.ref c0) A l s H E) A2 l2 s2 H2 E2 _ f2 c2) o__law_extreme hr2 ga (takes_of rfl rfl rfl rfl) (sa_cons se_int (sa_cons (v 4) sa_nil))))) (se_callB (bRepr_ok hr gd hsys) n_repr (sa_cons (se_lst (sa_cons se_str (sa_cons (v 2) (sa_cons se_bl sa_nil)))) sa_nil)) rfl) (sw_or1 (st_cmp (fNe_ok hr) (se_callB (bRepr_ok hr gd hsys) n_repr (sa_cons (se_ok o_is_value hr gd tk (sa_cons (v 2) sa_nil)) sa_nil)) se_str rfl)))) (sb_one (ss_ret se_bl)) sb_nil)
    (sb_cons (ss_set (i := 5) nd (se_lstC (sa_cons (se_told (k := 20) D_law_told sc__law_told (fun _ _ _ _ _ _ us hl => match us, hl with | [_], _ => rfl) told_ind (told_G TX_law_told hsys) tb0 hr gd (LamX.lamS_by (sc := defScope (topS 39)) (by decide +kernel)) (fun E2 A2 l2 s2 H2 f2 c2 ga hr2 => (se_ok (X := LamX.lamCx (Xf P w K mg base N__law_refused_right "_law_refused_right" (topS 39) f (.ref c0) A l s H E) A2 l2 s2 H2 E2 _ f2 c2) o_is_at_least hr2 ga (takes_of rfl rfl rfl rfl) (sa_cons (v 2) (sa_cons (v 3) sa_nil))))) sa_nil)))
    (sb_cons (ss_expr (se_me PySem.F.plainAttrs_list PySem.F.slot_list_append PySem.F.type_list_append fAppend_ok (v 5) (sa_cons (se_told (k := 20) D_law_told sc__law_told (fun _ _ _ _ _ _ us hl => match us, hl with | [_], _ => rfl) told_ind (told_G TX_law_told hsys) tb0 hr gd (LamX.lamS_by (sc := defScope (topS 39)) (by decide +kernel)) (fun E2 A2 l2 s2 H2 f2 c2 ga hr2 => (se_ok (X := LamX.lamCx (Xf P w K mg base N__law_refused_right "_law_refused_right" (topS 39) f (.ref c0) A l s H E) A2 l2 s2 H2 E2 _ f2 c2) o_is_at_least hr2 ga (takes_of rfl rfl rfl rfl) (sa_cons se_int (sa_cons (v 2) sa_nil))))) sa_nil)))
    (sb_cons (ss_expr (se_me PySem.F.plainAttrs_list PySem.F.slot_list_append PySem.F.type_list_append fAppend_ok (v 5) (sa_cons (se_told (k := 20) D_law_told sc__law_told (fun _ _ _ _ _ _ us hl => match us, hl with | [_], _ => rfl) told_ind (told_G TX_law_told hsys) tb0 hr gd (LamX.lamS_by (sc := defScope (topS 39)) (by decide +kernel)) (fun E2 A2 l2 s2 H2 f2 c2 ga hr2 => (se_ok (X := LamX.lamCx (Xf P w K mg base N__law_refused_right "_law_refused_right" (topS 39) f (.ref c0) A l s H E) A2 l2 s2 H2 E2 _ f2 c2) o_at_level hr2 ga (takes_of rfl rfl rfl rfl) (sa_cons (v 2) (sa_cons se_str sa_nil))))) sa_nil)))
    (sb_cons (ss_if (st_cmp (fNe_ok hr) (v 5) (se_mul (se_lst (sa_cons (se_callB (bRepr_ok hr gd hsys) n_repr (sa_cons (se_lst (sa_cons se_str (sa_cons (v 2) (sa_cons se_bl sa_nil)))) sa_nil)) sa_nil)) se_int) rfl) (sb_one (ss_ret se_bl)) sb_nil)
    (sb_cons (ss_set (i := 6) nd (se_ok o__law_pick hr gd tk (sa_cons (v 0) (sa_cons (se_lst (sa_cons se_str (sa_cons se_str (sa_cons se_bl (sa_cons se_bl (sa_cons se_non (sa_cons se_str (sa_cons (se_lst (sa_cons se_int sa_nil)) (sa_cons (se_tup (sa_cons se_int sa_nil)) (sa_cons se_dict0 sa_nil)))))))))) sa_nil))))
    (sb_cons (ss_if (st_cmp (fNe_ok hr) (se_told (k := 20) D_law_told sc__law_told (fun _ _ _ _ _ _ us hl => match us, hl with | [_], _ => rfl) told_ind (told_G TX_law_told hsys) tb0 hr gd (LamX.lamS_by (sc := defScope (topS 39)) (by decide +kernel)) (fun E2 A2 l2 s2 H2 f2 c2 ga hr2 => (se_ok (X := LamX.lamCx (Xf P w K mg base N__law_refused_right "_law_refused_right" (topS 39) f (.ref c0) A l s H E) A2 l2 s2 H2 E2 _ f2 c2) o_at_level hr2 ga (takes_of rfl rfl rfl rfl) (sa_cons (se_ok (X := LamX.lamCx (Xf P w K mg base N__law_refused_right "_law_refused_right" (topS 39) f (.ref c0) A l s H E) A2 l2 s2 H2 E2 _ f2 c2) o__law_pick hr2 ga (takes_of rfl rfl rfl rfl) (sa_cons (v 0) (sa_cons (se_lst (sa_cons se_str (sa_cons se_int (sa_cons (se_neg (se_pow se_int se_int)) sa_nil)))) sa_nil))) (sa_cons (v 6) sa_nil))))) (se_callB (bRepr_ok hr gd hsys) n_repr (sa_cons (se_lst (sa_cons se_str (sa_cons (v 6) (sa_cons se_bl sa_nil)))) sa_nil)) rfl) (sb_one (ss_ret se_bl)) sb_nil)
    (sb_cons (ss_set (i := 7) nd (se_ok o__law_pick hr gd tk (sa_cons (v 0) (sa_cons (se_lst (sa_cons se_non (sa_cons se_int (sa_cons se_str (sa_cons se_dict0 (sa_cons (se_dict (sp_cons se_int se_int sp_nil)) (sa_cons se_bl (sa_cons (se_add (v 1) (se_lst (sa_cons (v 2) sa_nil))) (sa_cons (se_callTy bTuple_ok n_tuple (sa_cons (se_add (se_lst (sa_cons (v 2) sa_nil)) (v 1)) sa_nil)) (sa_cons (se_lst (sa_cons (v 2) (sa_cons (v 3) sa_nil))) sa_nil)))))))))) sa_nil))))
    (sb_one (ss_ret (se_cmp (fEq_ok hr) (se_told (k := 20) D_law_told sc__law_told (fun _ _ _ _ _ _ us hl => match us, hl with | [_], _ => rfl) told_ind (told_G TX_law_told hsys) tb0 hr gd (LamX.lamS_by (sc := defScope (topS 39)) (by decide +kernel)) (fun E2 A2 l2 s2 H2 f2 c2 ga hr2 => (se_ok (X := LamX.lamCx (Xf P w K mg base N__law_refused_right "_law_refused_right" (topS 39) f (.ref c0) A l s H E) A2 l2 s2 H2 E2 _ f2 c2) o_levels_of hr2 ga (takes_of rfl rfl rfl rfl) (sa_cons (v 7) sa_nil)))) (se_callB (bRepr_ok hr gd hsys) n_repr (sa_cons (se_lst (sa_cons se_str (sa_cons (v 7) (sa_cons se_bl sa_nil)))) sa_nil)) rfl)))))))))))))))
/-! ### _law_right -/
abbrev N__law_right : List Str := ["_law_pot_here", "_law_things_here", "_law_one"]
theorem sc__law_right : FnScope N__law_right ["_law_pot_here"] (defScope (topS 40)) := ⟨rfl, rfl, rfl, by decide +kernel, rfl, by decide +kernel, by decide +kernel⟩
def m__law_right : MS := (sSeq (sSet 1 (mFn F__law_things 2 (mCons (mVar 0) (mCons (mFn F__law_draw 2 (mCons (mVar 0) (mCons (mC (.int 9)) mNil))) mNil))))
  (sSeq (sIf (mOrT (mNot (mTru (mCall bAll (mCons (mLc false (mWalk (mVar 1)) (gN 2) [2] bYes (m2 fIs (mFn F_is_value 1 (mCons (mVar 2) mNil)) (mC (.bl true)))) mNil)))) (mNot (mTru (mFn F__law_pairs_right 1 (mCons (mVar 1) mNil))))) (sRet (mC (.bl false))) sNil)
  (sSeq (sIf (mOrT (mNot (mTru (mFn F__law_levels_right 2 (mCons (mVar 0) (mCons (mVar 1) mNil))))) (mNot (mTru (mFn F__law_extremes_right 1 (mCons (mSl false (mVar 1) (fun _ c => .ok none c) (mPart (mFn F__law_draw 2 (mCons (mVar 0) (mCons (mC (.int 5)) mNil))))) mNil))))) (sRet (mC (.bl false))) sNil)
  (sRet (mAndV (mFn F__law_eight_right 1 (mCons (mVar 0) mNil)) (mFn F__law_refused_right 2 (mCons (mVar 0) (mCons (mVar 1) mNil))))))))
def F__law_right : FD := bodyF 3 m__law_right
theorem o__law_right {P : Program} {w : World} {K : PySem.W.Frag} {mg : Str → Option Value} {base : Heap} (D0 : Df K mg "_law_right" (topS 40)) (n_all : mg "all" = none) (o__law_things : Ok P w K mg base 9 "_law_things" (topS 31) ["_law_pot_here", "_law_many"] F__law_things) (o__law_draw : Ok P w K mg base 3 "_law_draw" (topS 26) ["_law_pot_here", "_law_many"] F__law_draw) (o_is_value : Ok P w K mg base 5 "is_value" (topS 12) ["value"] F_is_value) (o__law_pairs_right : Ok P w K mg base 11 "_law_pairs_right" (topS 35) ["_law_things_here"] F__law_pairs_right) (o__law_levels_right : Ok P w K mg base 11 "_law_levels_right" (topS 36) ["_law_pot_here", "_law_things_here"] F__law_levels_right) (o__law_extremes_right : Ok P w K mg base 13 "_law_extremes_right" (topS 37) ["_law_some"] F__law_extremes_right) (o__law_eight_right : Ok P w K mg base 11 "_law_eight_right" (topS 38) ["_law_pot_here"] F__law_eight_right) (o__law_refused_right : Ok P w K mg base 23 "_law_refused_right" (topS 39) ["_law_pot_here", "_law_things_here"] F__law_refused_right) : Ok P w K mg base 25 "_law_right" (topS 40) ["_law_pot_here"] F__law_right := by
  have nd := sc__law_right.nd
  exact ok_mk (k := 24) D0 sc__law_right (fun _ _ _ _ _ _ us hl => match us, hl with | [_], _ => rfl) fun f cdv A l s H E gd hr tk po =>
    (sb_cons (ss_set (i := 1) nd (se_ok o__law_things hr gd tk (sa_cons (v 0) (sa_cons (se_ok o__law_draw hr gd tk (sa_cons (v 0) (sa_cons se_int sa_nil))) sa_nil))))
    (sb_cons (ss_if (sw_pt (sw_or (st_not (st_truth (se_callB (bAll_ok rfl) n_all (sa_cons (se_lc (C := false) (own := [("_law_one", 2)]) (g := gN 2) rfl nd (si_walk (v 1)) (blkOk_by (N := N__law_right) (sc := defScope (topS 40)) (own := [("_law_one", 2)]) (by decide +kernel)) (fun _ _ _ _ _ => lg_name nd (by decide)) (fun _ _ _ _ _ => st_yes) (fun _ _ _ _ _ => (se_cmp fIs_ok (se_ok (X := Cx.blk (Xf P w K mg base N__law_right "_law_right" (topS 40) f cdv A l s H E) _ _ _ _ _) o_is_value hr gd LamX.takes0 (sa_cons (v 2) sa_nil)) se_bl rfl))) sa_nil)))) (sw_or1 (st_not (st_truth (se_ok o__law_pairs_right hr gd tk (sa_cons (v 1) sa_nil))))))) (sb_one (ss_ret se_bl)) sb_nil)
    (sb_cons (ss_if (sw_pt (sw_or (st_not (st_truth (se_ok o__law_levels_right hr gd tk (sa_cons (v 0) (sa_cons (v 1) sa_nil))))) (sw_or1 (st_not (st_truth (se_ok o__law_extremes_right hr gd tk (sa_cons (se_slice (C := false) (v 1) so_none (so_some (se_ok o__law_draw hr gd tk (sa_cons (v 0) (sa_cons se_int sa_nil))))) sa_nil))))))) (sb_one (ss_ret se_bl)) sb_nil)
    (sb_one (ss_ret (se_and (se_ok o__law_eight_right hr gd tk (sa_cons (v 0) sa_nil)) (se_one (se_ok o__law_refused_right hr gd tk (sa_cons (v 0) (sa_cons (v 1) sa_nil))))))))))
/-! ### law -/
abbrev N_law : List Str := ["_law_script", "_law_k"]
theorem sc_law : FnScope N_law ["_law_script"] (defScope (topS 41)) := ⟨rfl, rfl, rfl, by decide +kernel, rfl, by decide +kernel, by decide +kernel⟩
def m_law : MS := (sSeq (sIf (mT (m2 fNe (mLst (mCons (mC (.str "bottom")) (mCons (mC (.str "top")) (mCons (mC (.str "no bound")) mNil)))) (mLst (mCons (mC (.str "bottom")) (mCons (mC (.str "top")) (mCons (mC (.str "no bound")) mNil)))))) (sRet (mC (.bl false))) sNil)
  (sRet (mCall bAll (mCons (mLc false (mRng1 (mCall bMax2 (mCons (mC (.int 1)) (mCons (mCall bMin2 (mCons (mCall bLen (mCons (mVar 0) mNil)) (mCons (mC (.int 5)) mNil))) mNil)))) (gN 1) [1] bYes (mFn F__law_right 1 (mCons (mFn F__law_pot 2 (mCons (mVar 0) (mCons (mVar 1) mNil))) mNil))) mNil))))
def F_law : FD := bodyF 2 m_law
theorem o_law {P : Program} {w : World} {K : PySem.W.Frag} {mg : Str → Option Value} {base : Heap} (D0 : Df K mg "law" (topS 41)) (c_NO_BOUND : ∃ t, mg "NO_BOUND" = some (.str "no bound" t)) (c_TOP : ∃ t, mg "TOP" = some (.str "top" t)) (c_BOTTOM : ∃ t, mg "BOTTOM" = some (.str "bottom" t)) (n_len : mg "len" = none) (n_min : mg "min" = none) (n_max : mg "max" = none) (n_range : mg "range" = none) (n_all : mg "all" = none) (o__law_right : Ok P w K mg base 25 "_law_right" (topS 40) ["_law_pot_here"] F__law_right) (o__law_pot : Ok P w K mg base 3 "_law_pot" (topS 25) ["_law_script", "_law_k"] F__law_pot) : Ok P w K mg base 27 "law" (topS 41) ["_law_script"] F_law := by
  obtain ⟨_, c_NO_BOUND⟩ := c_NO_BOUND
  obtain ⟨_, c_TOP⟩ := c_TOP
  obtain ⟨_, c_BOTTOM⟩ := c_BOTTOM
  have nd := sc_law.nd
  exact ok_mk (k := 26) D0 sc_law (fun _ _ _ _ _ _ us hl => match us, hl with | [_], _ => rfl) fun f cdv A l s H E gd hr tk po =>
    (sb_cons (ss_if (st_cmp (fNe_ok hr) (se_lst (sa_cons (gStr c_BOTTOM) (sa_cons (gStr c_TOP) (sa_cons (gStr c_NO_BOUND) sa_nil)))) (se_lst (sa_cons se_str (sa_cons se_str (sa_cons se_str sa_nil)))) rfl) (sb_one (ss_ret se_bl)) sb_nil)
    (sb_one (ss_ret (se_callB (bAll_ok rfl) n_all (sa_cons (se_lc (C := false) (own := [("_law_k", 1)]) (g := gN 1) rfl nd (si_range1 n_range (se_callB (bMax2_ok rfl) n_max (sa_cons se_int (sa_cons (se_callB (bMin2_ok rfl) n_min (sa_cons (se_callB bLen_ok n_len (sa_cons (v 0) sa_nil)) (sa_cons se_int sa_nil))) sa_nil)))) (blkOk_by (N := N_law) (sc := defScope (topS 41)) (own := [("_law_k", 1)]) (by decide +kernel)) (fun _ _ _ _ _ => lg_name nd (by decide)) (fun _ _ _ _ _ => st_yes) (fun _ _ _ _ _ => (se_ok (X := Cx.blk (Xf P w K mg base N_law "law" (topS 41) f cdv A l s H E) _ _ _ _ _) o__law_right hr gd LamX.takes0 (sa_cons (se_ok (X := Cx.blk (Xf P w K mg base N_law "law" (topS 41) f cdv A l s H E) _ _ _ _ _) o__law_pot hr gd LamX.takes0 (sa_cons (v 0) (sa_cons (v 1) sa_nil))) sa_nil)))) sa_nil)))))
end K11
-- BAD _law_told told: by hand
end
section
set_option Elab.async false
set_option linter.all false
set_option maxRecDepth 100000
namespace K11
open PySem PySem.Spec L2 Q
variable [Tb]
/-! ### ints -/
theorem bits_le {i : Int} {k : Nat} (h : i.natAbs < 2 ^ k) : Builtin.Int.intBits i ≤ k := by
  unfold Builtin.Int.intBits
  by_cases z : i = 0
  · subst z
    simp
  · have n0 : i.natAbs ≠ 0 := Int.natAbs_ne_zero.mpr z
    have : i.natAbs.log2 < k := (Nat.log2_lt n0).mpr h
    simp only [beq_iff_eq, z, if_false]
    omega
theorem mulI {i j : Int} {c : Cells} (hi : i.natAbs < 2 ^ 200) (hj : j.natAbs < 2 ^ 200) : fMul (.int i) (.int j) c = some (.int (i * j), c) := by
  have a := bits_le hi
  have b := bits_le hj
  have e : fMulI (.int i) (.int j) c = some (.int (i * j), c) := by
    unfold fMulI fI
    exact if_pos (by rw [decide_eq_true_eq]; omega)
  unfold fMul orO
  rw [e]
theorem addI {i j : Int} {c : Cells} : fAdd (.int i) (.int j) c = some (.int (i + j), c) := rfl
theorem subI {i j : Int} {c : Cells} : fSub (.int i) (.int j) c = some (.int (i - j), c) := rfl
theorem modI {i j : Int} {c : Cells} (h : 0 < j) : fMod (.int i) (.int j) c = some (.int (i % j), c) := if_pos (decide_eq_true h)
theorem fdivI {i j : Int} {c : Cells} (h : 0 < j) (h2 : j.natAbs.log2 < 9000) : fFdiv (.int i) (.int j) c = some (.int (i / j), c) := if_pos (by rw [Bool.and_eq_true]; exact ⟨decide_eq_true h, decide_eq_true h2⟩)
theorem powI {i : Int} {k : Nat} {c : Cells} (hi : i.natAbs < 2 ^ 64) (hk : k ≤ 1000000) : fPow (.int i) (.int (k : Int)) c = some (.int (i ^ k), c) := by
  have e : fPow (.int i) (.int (k : Int)) c = some (.int (i ^ (k : Int).toNat), c) := if_pos (by
    rw [Bool.and_eq_true, Bool.and_eq_true]
    exact ⟨⟨decide_eq_true (by omega), decide_eq_true (by omega)⟩, decide_eq_true hi⟩)
  rw [e, Int.toNat_natCast]
theorem negI {i : Int} {c : Cells} : fNeg (.int i) c = some (.int (-i), c) := rfl
theorem ltI {i j : Int} {c : Cells} : fLt (.int i) (.int j) c = some (.bl (decide (i < j)), c) := rfl
theorem gtI {i j : Int} {c : Cells} : fGt (.int i) (.int j) c = some (.bl (decide (j < i)), c) := rfl
theorem geI {i j : Int} {c : Cells} : fGe (.int i) (.int j) c = some (.bl (decide (j ≤ i)), c) := rfl
theorem eqI {i j : Int} {c : Cells} : fEq (.int i) (.int j) c = some (.bl (decide (i = j)), c) := by
  have e : decide (V.int i = V.int j) = decide (i = j) := decide_eq_decide.mpr ⟨fun z => V.int.inj z, fun z => congrArg _ z⟩
  have e2 : fEqS false (.int i) (.int j) c = some (.bl (decide (V.int i = V.int j)), c) := rfl
  unfold fEq orO
  rw [e2, e]
theorem neS {i j : Str} {c : Cells} : fNe (.str i) (.str j) c = some (.bl (!decide (i = j)), c) := by
  have e : decide (V.str i = V.str j) = decide (i = j) := decide_eq_decide.mpr ⟨fun z => V.str.inj z, fun z => congrArg _ z⟩
  have e2 : fEqS true (.str i) (.str j) c = some (.bl (!decide (V.str i = V.str j)), c) := rfl
  unfold fNe orO
  rw [e2, e]
theorem eqS {i j : Str} {c : Cells} : fEq (.str i) (.str j) c = some (.bl (decide (i = j)), c) := by
  have e : decide (V.str i = V.str j) = decide (i = j) := decide_eq_decide.mpr ⟨fun z => V.str.inj z, fun z => congrArg _ z⟩
  have e2 : fEqS false (.str i) (.str j) c = some (.bl (decide (V.str i = V.str j)), c) := rfl
  unfold fEq orO
  rw [e2, e]
theorem atL {α : Type} {xs : List α} {k : Int} (h0 : 0 ≤ k) (h1 : k < xs.length) : ∃ v, v ∈ xs ∧ atI xs k = some v := by
  obtain ⟨n, rfl⟩ := Int.eq_ofNat_of_zero_le h0
  have h : n < xs.length := by omega
  exact ⟨xs[n], List.getElem_mem h, atI_nat (List.getElem?_eq_getElem h)⟩
theorem ixL {ds : List D} {k : Int} {d : D} {c : Cells} (h : atI ds k = some d) : fIx (.lst ds) (.int k) c = some (d, c) := by
  show ((seqView c (.lst ds)).bind fun ds => (atI ds k).map fun d => (d, c)) = _
  show (atI ds k).map (fun d => (d, c)) = _
  rw [h]
  rfl
theorem ixC {ds : List D} {q : Nat} {k : Int} {d : D} {c : Cells} (hq : c[q]? = some (.lst, ds)) (h : atI ds k = some d) : fIx (.cell q) (.int k) c = some (d, c) := by
  show ((seqView c (.cell q)).bind fun ds => (atI ds k).map fun d => (d, c)) = _
  have e : seqView c (.cell q) = some ds := by
    unfold seqView
    rw [show view c (.cell q) = some (.lst, ds) from hq]
  rw [e]
  show (atI ds k).map (fun d => (d, c)) = _
  rw [h]
  rfl
/-! ### the pot -/
def PotC (p : Nat) (c : Cells) : Prop := ∃ a b : Int, c[p]? = some (.lst, [.int a, .int b]) ∧ 0 ≤ a ∧ 0 ≤ b ∧ b < 2147483648
structure Nxt (p : Nat) (c c' : Cells) : Prop where
  pot : PotC p c'
  len : c.length ≤ c'.length
  old : ∀ q, q < c.length → q ≠ p → c'[q]? = c[q]?
theorem Nxt.refl {p : Nat} {c : Cells} (h : PotC p c) : Nxt p c c := ⟨h, Nat.le_refl _, fun _ _ _ => rfl⟩
theorem Nxt.trans {p : Nat} {c c1 c2 : Cells} (h : Nxt p c c1) (h2 : Nxt p c1 c2) : Nxt p c c2 :=
  ⟨h2.pot, Nat.le_trans h.len h2.len, fun q hq hn => (h2.old q (Nat.lt_of_lt_of_le hq h.len) hn).trans (h.old q hq hn)⟩
theorem PotC.lt {p : Nat} {c : Cells} (h : PotC p c) : p < c.length := by
  obtain ⟨a, b, e, _⟩ := h
  exact (List.getElem?_eq_some_iff.mp e).1
theorem Nxt.app {p : Nat} {c : Cells} (h : PotC p c) (l : Cells) : Nxt p c (c ++ l) := by
  have lt := h.lt
  obtain ⟨a, b, e, r⟩ := h
  exact ⟨⟨a, b, by rw [List.getElem?_append_left lt]; exact e, r⟩, by simp, fun q hq _ => List.getElem?_append_left hq⟩
theorem noPylong {i j : Int} (h : j.natAbs < 2 ^ 31) : Builtin.divisionGoesByPylong i j = false := by
  have e : (if (j == 0) = true then 0 else j.natAbs.log2 / 30 + 1) ≤ 2 := by
    split
    · omega
    · rename_i z
      have n0 : j.natAbs ≠ 0 := fun q => z (by rw [Int.natAbs_eq_zero.mp q]; rfl)
      have : j.natAbs.log2 < 31 := (Nat.log2_lt n0).mpr h
      omega
  unfold Builtin.divisionGoesByPylong
  dsimp only
  have : decide ((if (j == 0) = true then 0 else j.natAbs.log2 / 30 + 1) > 300) = false := decide_eq_false (by omega)
  rw [this]
  rfl
theorem draw {p : Nat} {c : Cells} (h : PotC p c) {n : Int} (hn : 0 < n) (hb : n < 2147483648) : ∃ k c', F__law_draw [.cell p, .int n] c = .ok (.int k) c' ∧ 0 ≤ k ∧ k < n ∧ Nxt p c c' := by
  have lt := h.lt
  obtain ⟨a, b, e, ha, hb0, hb1⟩ := h
  have x0 : fIx (.cell p) (.int 0) c = some (.int a, c) := ixC e rfl
  have x1 : fIx (.cell p) (.int 1) c = some (.int b, c) := ixC e rfl
  have nx : ∀ a' b' : Int, 0 ≤ a' → 0 ≤ b' → b' < 2147483648 → Nxt p c (c.set p (.lst, [.int a', .int b'])) := fun a' b' q1 q2 q3 =>
    ⟨⟨a', b', by rw [List.getElem?_set_self lt], q1, q2, q3⟩, by simp, fun q _ hq => List.getElem?_set_ne (Ne.symm hq)⟩
  by_cases h0 : 0 < a
  · have dm : bDivmod [.int a, .int n] c = some (.tup [.int (a / n), .int (a % n)], c) := if_pos ⟨hn, noPylong (by omega)⟩
    have asg : gT (gsCons (gIx (mVar 0) (mC (.int 0))) (gsCons (gN 2) gsNil)) (.tup [.int (a / n), .int (a % n)]) [some (D.cell p), some (D.int n), none] c = some ([some (D.cell p), some (D.int n), some (D.int (a % n))], c.set p (.lst, [.int (a / n), .int b])) := by
      have e0 : gIx (mVar 0) (mC (.int 0)) (.int (a / n)) [some (D.cell p), some (D.int n), none] c = some ([some (D.cell p), some (D.int n), none], c.set p (.lst, [.int (a / n), .int b])) := by
        unfold gIx
        show (match c[p]? with
          | some (.lst, xs) => (ixN xs.length (0 : Int)).bind fun j => if j < xs.length then some ([some (D.cell p), some (D.int n), none], c.set p (.lst, xs.set j (.int (a / n)))) else none
          | _ => none) = _
        rw [e]
        rfl
      show ((gIx (mVar 0) (mC (.int 0)) (.int (a / n)) [some (D.cell p), some (D.int n), none] c).bind fun q => gsCons (gN 2) gsNil [.int (a % n)] q.1 q.2) = _
      rw [e0]
      rfl
    refine ⟨a % n, _, bodyR (sqR (stIT (eT (e2 (e2 (eV rfl) eC x0) eC (gtI.trans (by rw [decide_eq_true h0])))) (sqN (stAsg (eCall (eCons (e2 (eV rfl) eC x0) (eCons (eV rfl) eNil)) dm) asg) (stR (eV rfl))))), Int.emod_nonneg _ (by omega), Int.emod_lt_of_pos _ hn, nx _ _ (Int.ediv_nonneg ha (by omega)) hb0 hb1⟩
  · obtain ⟨b', hb'⟩ : ∃ b', b' = (b * 48271 + 11213) % 2147483587 := ⟨_, rfl⟩
    have b0 : 0 ≤ b' := by rw [hb']; exact Int.emod_nonneg _ (by omega)
    have b1 : b' < 2147483587 := by rw [hb']; exact Int.emod_lt_of_pos _ (by omega)
    have big : (2147483648 : Nat) < 2 ^ 200 := by decide
    have asg : gIx (mVar 0) (mC (.int 1)) (.int b') [some (D.cell p), some (D.int n), none] c = some ([some (D.cell p), some (D.int n), none], c.set p (.lst, [.int a, .int b'])) := by
      unfold gIx
      show (match c[p]? with
        | some (.lst, xs) => (ixN xs.length (1 : Int)).bind fun j => if j < xs.length then some ([some (D.cell p), some (D.int n), none], c.set p (.lst, xs.set j (.int b'))) else none
        | _ => none) = _
      rw [e]
      rfl
    have y1 : fIx (.cell p) (.int 1) (c.set p (.lst, [.int a, .int b'])) = some (.int b', c.set p (.lst, [.int a, .int b'])) := ixC (by rw [List.getElem?_set_self lt]) rfl
    refine ⟨b' * b' % 2147483549 / 13 % n, _, bodyR (sqN (stIF (eT (e2 (e2 (eV rfl) eC x0) eC (gtI.trans (by rw [decide_eq_false h0])))) rfl) (sqN (stAsg (e2 (eCall (eCons (e2 (e2 (e2 (eV rfl) eC x1) eC (mulI (by omega) (by have : (48271 : Int).natAbs = 48271 := rfl; omega))) eC addI) eNil) rfl) eC ((modI (by decide)).trans (by rw [← hb']))) asg)
      (stR (e2 (e2 (e2 (eCall (eCons (e2 (e2 (eV rfl) eC y1) (e2 (eV rfl) eC y1) (mulI (by omega) (by omega))) eNil) rfl) eC (modI (by decide))) eC (fdivI (by decide) (by decide))) (eV rfl) (modI hn))))), Int.emod_nonneg _ (by omega), Int.emod_lt_of_pos _ hn, nx _ _ ha b0 (by omega)⟩
theorem pick {p : Nat} {c : Cells} (h : PotC p c) {ds : List D} (hd : ds ≠ []) (hl : ds.length ≤ 1000) : ∃ d c', F__law_pick [.cell p, .lst ds] c = .ok d c' ∧ d ∈ ds ∧ Nxt p c c' := by
  have l0 : 0 < ds.length := List.length_pos_iff.mpr hd
  obtain ⟨k, c', e, k0, k1, n⟩ := draw h (n := ds.length) (by omega) (by omega)
  obtain ⟨d, hm, hx⟩ := atL k0 k1
  exact ⟨d, c', bodyR (stR (e2 (eV rfl) (eFn (eCons (eV rfl) (eCons (eCall (eCons (eV rfl) eNil) rfl) eNil)) rfl e) (ixL hx))), hm, n⟩
end K11
end
section
set_option Elab.async false
set_option linter.all false
set_option maxRecDepth 100000
namespace K11
open PySem PySem.Spec L2 Q
variable [Tb]
/-! ### more of evaluation -/
section
variable {env e1 : Q.Env} {c c1 c2 : Cells}
theorem ePc {mk mv : ME} {mr : MP} {x y : D} {kl vl : List D} {c3 : Cells} (h1 : mk env c = .ok x c1) (h2 : mv env c1 = .ok y c2) (h3 : mr env c2 = .ok (kl, vl) c3) : mPc mk mv mr env c = .ok (x :: kl, y :: vl) c3 := by
  unfold mPc
  rw [h1]
  show (mv env c1).bind _ = _
  rw [h2]
  show (mr env c2).bind _ = _
  rw [h3]
  rfl
theorem ePn : mPn env c = .ok ([], []) c := rfl
theorem eDict {mp : MP} {kl vl : List D} {kk : List Key} (h : mp env c = .ok (kl, vl) c1) (hk : keysOf kl = some kk) (hn : kk.Nodup) (hl : kk.length ≤ 15) : mDict mp env c = .ok (.nod (.dic kk) vl) c1 := by
  unfold mDict
  rw [h]
  show mDictE (kl, vl) c1 = _
  unfold mDictE
  rw [show keysOf (kl, vl).1 = some kk from hk]
  exact if_pos ⟨hn, hl⟩
theorem eGet2 {md mk mx : ME} {ks : List Key} {ds : List D} {k x z : D} {kk : Key} {c3 : Cells} (h : md env c = .ok (.nod (.dic ks) ds) c1) (h1 : mk env c1 = .ok k c2) (h2 : mx env c2 = .ok x c3) (hk : keyOf k = some kk) (hz : (lookD ks ds kk).getD x = z) : mGet2 md mk mx env c = .ok z c3 := by
  subst hz
  unfold mGet2
  rw [h]
  show ((mk env c1).bind fun k c => (mx env c).bind fun x c => (fGet (.nod (.dic ks) ds) k x c).r) = _
  rw [h1]
  show ((mx env c2).bind fun x c => (fGet (.nod (.dic ks) ds) k x c).r) = _
  rw [h2]
  show (fGet (.nod (.dic ks) ds) k x c3).r = _
  unfold fGet
  rw [hk]
  rfl
theorem retOut {m : ME} : (sRet m env c).out = m env c := by
  unfold sRet
  cases m env c <;> rfl
theorem retFin {m : ME} (e : Q.Env) (c' : Cells) : sRet m env c ≠ .ok (.nx e) c' := by
  unfold sRet
  cases m env c <;> intro z <;> cases z
theorem sqF {k k2 : MS} {r : RS} (h : k env c = r) (hr : ∀ e c', r ≠ .ok (.nx e) c') : sSeq k k2 env c = r := by
  unfold sSeq
  rw [h]
  cases r with
  | ok f c' =>
    cases f with
    | nx e => exact absurd rfl (hr e c')
    | _ => rfl
  | _ => rfl
theorem eFnS {F : FD} {ms : ML} {ds : List D} {r : R D} (h : ms env c = .ok ds c1) (h2 : F ds c1 = r) : mFnS F ms env c = r := by
  unfold mFnS
  rw [h]
  exact h2
theorem eLam {t : (Cells → R D) → Cells → R D} {m : ME} {d : D} (h : t (m env) c = .ok d c1) : mLam t m env c = .ok d c1 := by
  unfold mLam
  rw [h]
/-- a for whose k-th turn raises -/
theorem for_err {t : Tg} {d : D} {ds : List D} {g : MG} {b : MS} {xn : Exn} {k : Nat} {x0 : D} (Jn : Nat → Q.Env → Cells → Prop) (Er : Cells → Prop) (hv : ∀ i env c, Jn i env c → view c d = some (t, ds)) (hk : ds[k]? = some x0)
    (step : ∀ i x env c, i < k → ds[i]? = some x → Jn i env c → ∃ e1 c1, g x env c = some (e1, c1) ∧ ((∃ e2 c2, b e1 c1 = .ok (.nx e2) c2 ∧ Jn (i + 1) e2 c2)))
    (last : ∀ env c, Jn k env c → ∃ e1 c1, g x0 env c = some (e1, c1) ∧ ∃ e2 c2, b e1 c1 = .err xn e2 c2 ∧ Er c2) :
    ∀ n i env c, Jn i env c → i ≤ k → ds.length < n + i → ∃ e2 c2, forS (srcT t d (ds.length + 1)) g b n i env c = .err xn e2 c2 ∧ Er c2
  | 0, i, env, c, _, h1, h2 => by have := (List.getElem?_eq_some_iff.mp hk).1; omega
  | n + 1, i, env, c, J, h1, h2 => by
    have hkl := (List.getElem?_eq_some_iff.mp hk).1
    have e := srcT_get (n := ds.length + 1) (i := i) (hv i env c J)
    unfold forS
    rw [e]
    by_cases hi : i < k
    · obtain ⟨e1, c1, q1, e2, c2, q2, J2⟩ := step i ds[i] env c hi (List.getElem?_eq_getElem (by omega)) J
      rw [List.getElem?_eq_getElem (by omega)]
      dsimp only
      rw [q1]
      dsimp only
      rw [q2]
      exact for_err Jn Er hv hk step last n (i + 1) e2 c2 J2 (by omega) (by omega)
    · have : i = k := by omega
      subst this
      obtain ⟨e1, c1, q1, e2, c2, q2, J2⟩ := last env c J
      rw [hk]
      dsimp only
      rw [q1]
      dsimp only
      rw [q2]
      exact ⟨e2, c2, rfl, J2⟩
end
/-! ### values -/
inductive Vl where
  | bot | top | i (n : Int)
def Vl.d : Vl → D
  | .bot => .str "bottom"
  | .top => .str "top"
  | .i n => .int n
def Vl.num : Vl → Int
  | .bot => -(10 ^ 64)
  | .top => 10 ^ 64
  | .i n => n
def Vl.ok : Vl → Prop
  | .i n => -(10 ^ 60) < n ∧ n < 10 ^ 60
  | _ => True
def Vl.rk : Vl → D
  | .bot => .tup [.int 0, .int 0]
  | .top => .tup [.int 2, .int 0]
  | .i n => .tup [.int 1, .int n]
theorem p64 {c : Cells} : fPow (.int 10) (.int 64) c = some (.int (10 ^ 64), c) := powI (i := 10) (k := 64) (by decide) (by decide)
theorem p60 {c : Cells} : fPow (.int 10) (.int 60) c = some (.int (10 ^ 60), c) := powI (i := 10) (k := 60) (by decide) (by decide)
theorem p59 {c : Cells} : fPow (.int 10) (.int 59) c = some (.int (10 ^ 59), c) := powI (i := 10) (k := 59) (by decide) (by decide)
theorem p50 {c : Cells} : fPow (.int 10) (.int 50) c = some (.int (10 ^ 50), c) := powI (i := 10) (k := 50) (by decide) (by decide)
theorem p40 {c : Cells} : fPow (.int 10) (.int 40) c = some (.int (10 ^ 40), c) := powI (i := 10) (k := 40) (by decide) (by decide)
theorem p18 {c : Cells} : fPow (.int 10) (.int 18) c = some (.int (10 ^ 18), c) := powI (i := 10) (k := 18) (by decide) (by decide)
theorem F_number (v : Vl) (c : Cells) : F__law_number [v.d] c = .ok (.int v.num) c := by
  have dict : ∀ env : Q.Env, mDict (mPc (mC (.str "bottom")) (m1 fNeg (m2 fPow (mC (.int 10)) (mC (.int 64)))) (mPc (mC (.str "top")) (m2 fPow (mC (.int 10)) (mC (.int 64))) mPn)) env c = .ok (.nod (.dic [.inr "bottom", .inr "top"]) [.int (-(10 ^ 64)), .int (10 ^ 64)]) c := fun env =>
    eDict (kk := [.inr "bottom", .inr "top"]) (ePc eC (e1' (e2 eC eC p64) negI) (ePc eC (e2 eC eC p64) ePn)) rfl (by decide) (by decide)
  cases v with
  | bot => exact bodyR (stR (eGet2 (dict _) (eV rfl) (eV rfl) rfl rfl))
  | top => exact bodyR (stR (eGet2 (dict _) (eV rfl) (eV rfl) rfl rfl))
  | i n => exact bodyR (stR (eGet2 (dict _) (eV rfl) (eV rfl) rfl rfl))
theorem F_shown (v : Vl) (h : v.ok) (c : Cells) : F__law_shown [.int v.num] c = .ok v.d c := by
  have dict : ∀ env : Q.Env, mDict (mPc (m1 fNeg (m2 fPow (mC (.int 10)) (mC (.int 64)))) (mC (.str "bottom")) (mPc (m2 fPow (mC (.int 10)) (mC (.int 64))) (mC (.str "top")) mPn)) env c = .ok (.nod (.dic [.inl (-(10 ^ 64)), .inl (10 ^ 64)]) [.str "bottom", .str "top"]) c := fun env =>
    eDict (kk := [.inl (-(10 ^ 64)), .inl (10 ^ 64)]) (ePc (e1' (e2 eC eC p64) negI) eC (ePc (e2 eC eC p64) eC ePn)) rfl (by decide) (by decide)
  have e : F__law_shown [.int v.num] c = .ok ((lookD [.inl (-(10 ^ 64)), .inl (10 ^ 64)] [.str "bottom", .str "top"] (.inl v.num)).getD (.int v.num)) c := bodyR (stR (eGet2 (dict _) (eV rfl) (eV rfl) rfl rfl))
  rw [e]
  cases v with
  | bot => rfl
  | top => rfl
  | i n =>
    obtain ⟨h1, h2⟩ := h
    have n1 : ¬ ((Sum.inl (-(10 ^ 64)) : Key) = .inl n) := fun z => by
      have := Sum.inl.inj z
      omega
    have n2 : ¬ ((Sum.inl (10 ^ 64) : Key) = .inl n) := fun z => by
      have := Sum.inl.inj z
      omega
    show R.ok ((if (Sum.inl (-(10 ^ 64)) : Key) = .inl n then some (D.str "bottom") else if (Sum.inl (10 ^ 64) : Key) = .inl n then some (D.str "top") else none).getD (.int n)) c = _
    rw [if_neg n1, if_neg n2]
    rfl
theorem eqDS {v : Vl} {z : Str} {c : Cells} : fEq v.d (.str z) c = some (.bl (match v with | .bot => decide (("bottom" : Str) = z) | .top => decide (("top" : Str) = z) | .i _ => false), c) := by
  cases v with
  | bot => exact eqS
  | top => exact eqS
  | i n => rfl
theorem F_rank_v (v : Vl) (c : Cells) : F_rank [v.d] c = .ok v.rk c := by
  cases v with
  | bot => exact bodyR (sqR (stIT (eT (e2 (eV rfl) eC (eqDS (v := .bot)))) (stR (eTup (eCons eC (eCons eC eNil))))))
  | top => exact bodyR (sqN (stIF (eT (e2 (eV rfl) eC (eqDS (v := .top)))) rfl) (sqR (stIT (eT (e2 (eV rfl) eC (eqDS (v := .top)))) (stR (eTup (eCons eC (eCons eC eNil)))))))
  | i n => exact bodyR (sqN (stIF (eT (e2 (eV rfl) eC (eqDS (v := .i n)))) rfl) (sqN (stIF (eT (e2 (eV rfl) eC (eqDS (v := .i n)))) rfl) (stR (eTup (eCons eC (eCons (eV rfl) eNil))))))
def Vl.okw : Vl → Prop
  | .i n => -(10 ^ 62) < n ∧ n < 10 ^ 62
  | _ => True
theorem Vl.ok.w {v : Vl} (h : v.ok) : v.okw := by
  cases v with
  | i n => exact ⟨by have := h.1; omega, by have := h.2; omega⟩
  | _ => trivial
theorem isdec {b : Bool} {p : Prop} [Decidable p] (h : b = true ↔ p) : b = decide p := by
  cases b
  · exact (decide_eq_false fun z => by have := h.mpr z; cases this).symm
  · exact (decide_eq_true (h.mp rfl)).symm
theorem ge_rk {v u : Vl} {c : Cells} (hv : v.okw) (hu : u.okw) : fGeA v.rk u.rk c = some (.bl (decide (u.num ≤ v.num)), c) := by
  have key : ∀ a b a' b' : Int, fGeA (.tup [.int a, .int b]) (.tup [.int a', .int b']) c = some (.bl (if a = a' then (if b = b' then true else decide (b ≥ b')) else decide (a ≥ a')), c) := fun a b a' b' => rfl
  cases v <;> cases u <;> simp only [Vl.rk, key, Vl.num, Vl.okw] at * <;> congr 3
  all_goals refine isdec ?_
  all_goals simp only [Int.reduceEq, if_false, if_true, decide_eq_true_eq, Bool.ite_eq_true_distrib]
  all_goals first | omega | (split <;> (try simp only [true_iff]) <;> omega)
theorem lt_rk {v u : Vl} {c : Cells} (hv : v.okw) (hu : u.okw) : fLtT v.rk u.rk c = some (.bl (decide (v.num < u.num)), c) := by
  have key : ∀ a b a' b' : Int, fLtT (.tup [.int a, .int b]) (.tup [.int a', .int b']) c = some (.bl (if a = a' then (if b = b' then false else decide (b < b')) else decide (a < a')), c) := fun a b a' b' => rfl
  cases v <;> cases u <;> simp only [Vl.rk, key, Vl.num, Vl.okw] at * <;> congr 3
  all_goals refine isdec ?_
  all_goals simp only [Int.reduceEq, if_false, if_true, decide_eq_true_eq, Bool.ite_eq_true_distrib]
  all_goals first | omega | (split <;> (try simp only [true_iff, Bool.false_eq_true, false_iff]) <;> omega)
theorem gt_rk {v u : Vl} {c : Cells} (hv : v.okw) (hu : u.okw) : fGtT v.rk u.rk c = some (.bl (decide (u.num < v.num)), c) := by
  have key : ∀ a b a' b' : Int, fGtT (.tup [.int a, .int b]) (.tup [.int a', .int b']) c = some (.bl (if a = a' then (if b = b' then false else decide (b' < b)) else decide (a' < a)), c) := fun a b a' b' => rfl
  cases v <;> cases u <;> simp only [Vl.rk, key, Vl.num, Vl.okw] at * <;> congr 3
  all_goals refine isdec ?_
  all_goals simp only [Int.reduceEq, if_false, if_true, decide_eq_true_eq, Bool.ite_eq_true_distrib]
  all_goals first | omega | (split <;> (try simp only [true_iff, Bool.false_eq_true, false_iff]) <;> omega)
end K11
end
section
set_option Elab.async false
set_option linter.all false
set_option maxRecDepth 100000
namespace K11
open PySem PySem.Spec L2 Q
variable [Tb]
def endD (b : Bool) : D := .str (if b then "top" else "bottom")
theorem F_end {v : Vl} {l : Int} (hv : v.okw) (hl : -(10 ^ 62) < l ∧ l < 10 ^ 62) (c : Cells) : F_end_at [v.d, .int l] c = .ok (endD (decide (l ≤ v.num))) c := by
  have g : fGeA v.rk (.tup [.int 1, .int l]) c = some (.bl (decide (l ≤ v.num)), c) := ge_rk (u := .i l) hv hl
  have t : mT (m2 fGeA (mFn F_rank 1 (mCons (mVar 0) mNil)) (mTup (mCons (mC (.int 1)) (mCons (mVar 1) mNil)))) [some v.d, some (D.int l)] c = .ok (decide (l ≤ v.num)) c :=
    eT (e2 (eFn (eCons (eV rfl) eNil) rfl (F_rank_v v c)) (eTup (eCons eC (eCons (eV rfl) eNil))) g)
  by_cases h : l ≤ v.num
  · rw [decide_eq_true h] at t ⊢
    exact bodyR (stR (eIfT t rfl))
  · rw [decide_eq_false h] at t ⊢
    exact bodyR (stR (eIfF t rfl))
/-! ### what is no value -/
inductive Od : D → Prop where
  | non : Od .non
  | bl (b : Bool) : Od (.bl b)
  | str (s : Str) (h1 : s ≠ "bottom") (h2 : s ≠ "top") : Od (.str s)
  | lst (ds : List D) : Od (.lst ds)
  | tup (ds : List D) : Od (.tup ds)
  | dic (ks : List Key) (ds : List D) : Od (.nod (.dic ks) ds)
theorem isi {Ts : List String} {d : D} {c : Cells} {t : String} {b : Bool} (h1 : tyD c d = some t) (h2 : isAny t Ts = some b) : fIsi Ts d c = some (.bl b, c) := by
  unfold fIsi
  rw [h1]
  show (isAny t Ts).map _ = _
  rw [h2]
  rfl
theorem isInt_int (n : Int) (c : Cells) : F_is_integer [.int n] c = .ok (.bl true) c :=
  bodyR (stR (eAndV (e1' (eV rfl) (isi (b := true) rfl (by decide))) rfl (eNotV (b := false) (e1' (eV rfl) (isi (b := false) rfl (by decide))) rfl)))
theorem isInt_str (s : Str) (c : Cells) : F_is_integer [.str s] c = .ok (.bl false) c :=
  bodyR (stR (eAndVF (e1' (eV rfl) (isi (b := false) rfl (by decide))) rfl))
theorem isInt_od {d : D} (h : Od d) (c : Cells) : F_is_integer [d] c = .ok (.bl false) c := by
  cases h with
  | non => exact bodyR (stR (eAndVF (e1' (eV rfl) (isi (b := false) rfl (by decide))) rfl))
  | bl b => exact bodyR (stR (eAndV (e1' (eV rfl) (isi (b := true) rfl (by decide))) rfl (eNotV (b := true) (e1' (eV rfl) (isi (b := true) rfl (by decide))) rfl)))
  | str s _ _ => exact isInt_str s c
  | lst ds => exact bodyR (stR (eAndVF (e1' (eV rfl) (isi (b := false) rfl (by decide))) rfl))
  | tup ds => exact bodyR (stR (eAndVF (e1' (eV rfl) (isi (b := false) rfl (by decide))) rfl))
  | dic ks ds => exact bodyR (stR (eAndVF (e1' (eV rfl) (isi (b := false) rfl (by decide))) rfl))
theorem inS {s : Str} {c : Cells} : fIn (.str s) (.tup [.str "bottom", .str "top"]) c = some (.bl (decide (s = "bottom") || decide (s = "top")), c) := by
  have e : fInF false (.str s) (.tup [.str "bottom", .str "top"]) c = some (.bl (inV (.str s) [.str "bottom", .str "top"]), c) := rfl
  unfold fIn orO
  rw [e]
  have k : ∀ z : Str, (z == s) = decide (s = z) := fun z => by
    by_cases h : s = z
    · rw [h, beq_self_eq_true]
      exact (decide_eq_true rfl).symm
    · rw [decide_eq_false h]
      exact beq_eq_false_iff_ne.mpr fun q => h q.symm
  have e2 : inV (.str s) [.str "bottom", .str "top"] = ((("bottom" : Str) == s) || ((("top" : Str) == s) || false)) := rfl
  rw [e2, k, k, Bool.or_false]
theorem isEnd_str (s : Str) (c : Cells) : F_is_end [.str s] c = .ok (.bl (decide (s = "bottom") || decide (s = "top"))) c :=
  bodyR (stR (eAndV (e1' (eV rfl) (isi (b := true) rfl (by decide))) rfl (e2 (eV rfl) (eTup (eCons eC (eCons eC eNil))) inS)))
theorem isEnd_od {d : D} (h : Od d) (c : Cells) : F_is_end [d] c = .ok (.bl false) c := by
  cases h with
  | non => exact bodyR (stR (eAndVF (e1' (eV rfl) (isi (b := false) rfl (by decide))) rfl))
  | bl b => exact bodyR (stR (eAndVF (e1' (eV rfl) (isi (b := false) rfl (by decide))) rfl))
  | str s h1 h2 =>
    have e := isEnd_str s c
    rw [decide_eq_false h1, decide_eq_false h2] at e
    exact e
  | lst ds => exact bodyR (stR (eAndVF (e1' (eV rfl) (isi (b := false) rfl (by decide))) rfl))
  | tup ds => exact bodyR (stR (eAndVF (e1' (eV rfl) (isi (b := false) rfl (by decide))) rfl))
  | dic ks ds => exact bodyR (stR (eAndVF (e1' (eV rfl) (isi (b := false) rfl (by decide))) rfl))
theorem isVal (v : Vl) (c : Cells) : F_is_value [v.d] c = .ok (.bl true) c := by
  cases v with
  | bot => exact bodyR (stR (eOrV (eFn (eCons (eV rfl) eNil) rfl (isInt_str _ c)) rfl (eFn (eCons (eV rfl) eNil) rfl (isEnd_str _ c))))
  | top => exact bodyR (stR (eOrV (eFn (eCons (eV rfl) eNil) rfl (isInt_str _ c)) rfl (eFn (eCons (eV rfl) eNil) rfl (isEnd_str _ c))))
  | i n => exact bodyR (stR (eOrVT (eFn (eCons (eV rfl) eNil) rfl (isInt_int n c)) rfl))
theorem isVal_od {d : D} (h : Od d) (c : Cells) : F_is_value [d] c = .ok (.bl false) c :=
  bodyR (stR (eOrV (eFn (eCons (eV rfl) eNil) rfl (isInt_od h c)) rfl (eFn (eCons (eV rfl) eNil) rfl (isEnd_od h c))))
/-! ### checks -/
abbrev xVal (cls : Str) (d : D) : Exn := ⟨cls, ["value"], [d]⟩
theorem chk_ok {L : D} {t : Tg} {c : Cells} (vs : List Vl) (hv : view c L = some (t, vs.map Vl.d)) (ht : sqTg t = true) : F__check_values [L] c = .ok .non c := by
  have w : mWalk (mVar 0) [some L, none] c = .ok (srcT t L ((vs.map Vl.d).length + 1)) c := eWalk (eV rfl) hv ht
  obtain ⟨e2, c2, q, o, he, hc⟩ := for_inv (g := gN 1) (k := sIf (mNot (mTru (mFn F_is_value 1 (mCons (mVar 1) mNil)))) (sRaise "InvalidValue" ["value"] (mCons (mVar 1) mNil)) sNil) (d := L) (fun _ env c' => ∃ o : Option D, env = [some L, o] ∧ c' = c) (fun i env c' ⟨_, _, h⟩ => by rw [h]; exact hv)
    (fun i x env c' hx ⟨o, he, h⟩ => by
      subst he h
      obtain ⟨v, _, rfl⟩ := List.mem_map.mp (List.mem_of_getElem? hx)
      exact ⟨[some L, some v.d], c', rfl, [some L, some v.d], c', stIF (eNot (b := true) (eTru (eFn (eCons (eV rfl) eNil) rfl (isVal v c')) rfl)) rfl, _, rfl, rfl⟩)
    ((vs.map Vl.d).length + 1) 0 [some L, none] c ⟨none, rfl, rfl⟩ (Nat.zero_le _) (by omega)
  rw [he, hc] at q
  refine bodyN (e1 := [some L, o]) ?_
  show sFor _ _ _ _ _ = _
  unfold sFor
  show (mWalk (mVar 0) [some L, none] c).st _ _ = _
  rw [w]
  exact q
theorem chk_err {L x : D} {t : Tg} {c : Cells} (vs : List Vl) (r : List D) (hx : Od x) (hv : view c L = some (t, vs.map Vl.d ++ x :: r)) (ht : sqTg t = true) : F__check_values [L] c = .err (xVal "InvalidValue" x) c := by
  have w : mWalk (mVar 0) [some L, none] c = .ok (srcT t L ((vs.map Vl.d ++ x :: r).length + 1)) c := eWalk (eV rfl) hv ht
  obtain ⟨e2, c2, q, hc⟩ := for_err (g := gN 1) (b := sIf (mNot (mTru (mFn F_is_value 1 (mCons (mVar 1) mNil)))) (sRaise "InvalidValue" ["value"] (mCons (mVar 1) mNil)) sNil) (d := L) (xn := xVal "InvalidValue" x) (k := vs.length) (x0 := x) (ds := vs.map Vl.d ++ x :: r) (fun _ env c' => ∃ o : Option D, env = [some L, o] ∧ c' = c) (fun c' => c' = c) (fun i env c' ⟨_, _, h⟩ => by rw [h]; exact hv)
    (by rw [List.getElem?_append_right (by simp)]; simp)
    (fun i y env c' hi hy ⟨o, he, h⟩ => by
      subst he h
      rw [List.getElem?_append_left (by simpa using hi)] at hy
      obtain ⟨v, _, rfl⟩ := List.mem_map.mp (List.mem_of_getElem? hy)
      exact ⟨[some L, some v.d], c', rfl, [some L, some v.d], c', stIF (eNot (b := true) (eTru (eFn (eCons (eV rfl) eNil) rfl (isVal v c')) rfl)) rfl, _, rfl, rfl⟩)
    (fun env c' ⟨o, he, h⟩ => by
      subst he h
      exact ⟨[some L, some x], c', rfl, [some L, some x], c', stIT (eNot (b := false) (eTru (eFn (eCons (eV rfl) eNil) rfl (isVal_od hx c')) rfl)) (stRaise (eCons (eV rfl) eNil) rfl), rfl⟩)
    ((vs.map Vl.d ++ x :: r).length + 1) 0 [some L, none] c ⟨none, rfl, rfl⟩ (Nat.zero_le _) (by omega)
  rw [hc] at q
  refine bodyE (e1 := e2) ?_
  show sFor _ _ _ _ _ = _
  unfold sFor
  show (mWalk (mVar 0) [some L, none] c).st _ _ = _
  rw [w]
  exact q
end K11
end
section
set_option Elab.async false
set_option linter.all false
set_option maxRecDepth 100000
namespace K11
open PySem PySem.Spec L2 Q
variable [Tb]
/-! ### least and greatest -/
def minV (b : Vl) : List Vl → Vl
  | [] => b
  | v :: vs => minV (if v.num < b.num then v else b) vs
def maxV (b : Vl) : List Vl → Vl
  | [] => b
  | v :: vs => maxV (if b.num < v.num then v else b) vs
theorem minV_mem : ∀ (vs : List Vl) (b : Vl), minV b vs ∈ b :: vs
  | [], b => by simp [minV]
  | v :: vs, b => by
    unfold minV
    have := minV_mem vs (if v.num < b.num then v else b)
    rcases List.mem_cons.mp this with e | e
    · rw [e]
      split <;> simp
    · simp [e]
theorem maxV_mem : ∀ (vs : List Vl) (b : Vl), maxV b vs ∈ b :: vs
  | [], b => by simp [maxV]
  | v :: vs, b => by
    unfold maxV
    have := maxV_mem vs (if b.num < v.num then v else b)
    rcases List.mem_cons.mp this with e | e
    · rw [e]
      split <;> simp
    · simp [e]
theorem minV_num : ∀ (vs : List Vl) (b : Vl), (minV b vs).num = minI (b.num :: vs.map Vl.num)
  | [], b => rfl
  | v :: vs, b => by
    unfold minV
    rw [minV_num vs]
    cases vs with
    | nil =>
      show (if v.num < b.num then v else b).num = min b.num v.num
      split <;> omega
    | cons w ws =>
      show min (if v.num < b.num then v else b).num (minI (w.num :: ws.map Vl.num)) = min b.num (min v.num (minI (w.num :: ws.map Vl.num)))
      split <;> omega
theorem maxV_num : ∀ (vs : List Vl) (b : Vl), (maxV b vs).num = maxI (b.num :: vs.map Vl.num)
  | [], b => rfl
  | v :: vs, b => by
    unfold maxV
    rw [maxV_num vs]
    cases vs with
    | nil =>
      show (if b.num < v.num then v else b).num = max b.num v.num
      split <;> omega
    | cons w ws =>
      show max (if b.num < v.num then v else b).num (maxI (w.num :: ws.map Vl.num)) = max b.num (max v.num (maxI (w.num :: ws.map Vl.num)))
      split <;> omega
def OkL (vs : List Vl) : Prop := ∀ v ∈ vs, v.ok
theorem mmL_min : ∀ (vs : List Vl) (b : Vl) (c : Cells), OkL (b :: vs) → mmL fLtT F_rank (vs.map Vl.d) (some (b.d, b.rk)) c = .ok (some ((minV b vs).d, (minV b vs).rk)) c
  | [], b, c, _ => rfl
  | v :: vs, b, c, h => by
    have hv : v.ok := h v (by simp)
    have hb : b.ok := h b (by simp)
    show (match F_rank [v.d] c with
      | .ok k c => (match fLtT k b.rk c with
        | some (.bl true, c') => mmL fLtT F_rank (vs.map Vl.d) (some (v.d, k)) c'
        | some (.bl false, c') => mmL fLtT F_rank (vs.map Vl.d) (some (b.d, b.rk)) c'
        | _ => .stk)
      | _ => .stk) = _
    rw [F_rank_v]
    dsimp only
    rw [lt_rk hv.w hb.w]
    unfold minV
    by_cases lt : v.num < b.num
    · rw [decide_eq_true lt, if_pos lt]
      exact mmL_min vs v c fun u hu => h u (by simp at hu ⊢; rcases hu with e | e <;> simp [e])
    · rw [decide_eq_false lt, if_neg lt]
      exact mmL_min vs b c fun u hu => h u (by simp at hu ⊢; rcases hu with e | e <;> simp [e])
theorem mmL_max : ∀ (vs : List Vl) (b : Vl) (c : Cells), OkL (b :: vs) → mmL fGtT F_rank (vs.map Vl.d) (some (b.d, b.rk)) c = .ok (some ((maxV b vs).d, (maxV b vs).rk)) c
  | [], b, c, _ => rfl
  | v :: vs, b, c, h => by
    have hv : v.ok := h v (by simp)
    have hb : b.ok := h b (by simp)
    show (match F_rank [v.d] c with
      | .ok k c => (match fGtT k b.rk c with
        | some (.bl true, c') => mmL fGtT F_rank (vs.map Vl.d) (some (v.d, k)) c'
        | some (.bl false, c') => mmL fGtT F_rank (vs.map Vl.d) (some (b.d, b.rk)) c'
        | _ => .stk)
      | _ => .stk) = _
    rw [F_rank_v]
    dsimp only
    rw [gt_rk hv.w hb.w]
    unfold maxV
    by_cases lt : b.num < v.num
    · rw [decide_eq_true lt, if_pos lt]
      exact mmL_max vs v c fun u hu => h u (by simp at hu ⊢; rcases hu with e | e <;> simp [e])
    · rw [decide_eq_false lt, if_neg lt]
      exact mmL_max vs b c fun u hu => h u (by simp at hu ⊢; rcases hu with e | e <;> simp [e])
def leastD : List Vl → D
  | [] => .str "top"
  | v :: vs => (minV v vs).d
def greatD : List Vl → D
  | [] => .str "bottom"
  | v :: vs => (maxV v vs).d
theorem F_least_v {vs : List Vl} (h : OkL vs) (c : Cells) : F_least [.tup (vs.map Vl.d)] c = .ok (leastD vs) c := by
  refine bodyR (stR (eMM (eV rfl) eC ?_))
  show (match mmL fLtT F_rank (vs.map Vl.d) none c with
    | .ok (some (x, _)) c => R.ok x c
    | .ok none c => .ok (.str "top") c
    | _ => .stk) = _
  cases vs with
  | nil => rfl
  | cons v vs =>
    have e : mmL fLtT F_rank ((v :: vs).map Vl.d) none c = mmL fLtT F_rank (vs.map Vl.d) (some (v.d, v.rk)) c := by
      show (match F_rank [v.d] c with
        | .ok k c => mmL fLtT F_rank (vs.map Vl.d) (some (v.d, k)) c
        | _ => .stk) = _
      rw [F_rank_v]
    rw [e, mmL_min vs v c h]
    rfl
theorem F_great_v {vs : List Vl} (h : OkL vs) (c : Cells) : F_greatest [.tup (vs.map Vl.d)] c = .ok (greatD vs) c := by
  refine bodyR (stR (eMM (eV rfl) eC ?_))
  show (match mmL fGtT F_rank (vs.map Vl.d) none c with
    | .ok (some (x, _)) c => R.ok x c
    | .ok none c => .ok (.str "bottom") c
    | _ => .stk) = _
  cases vs with
  | nil => rfl
  | cons v vs =>
    have e : mmL fGtT F_rank ((v :: vs).map Vl.d) none c = mmL fGtT F_rank (vs.map Vl.d) (some (v.d, v.rk)) c := by
      show (match F_rank [v.d] c with
        | .ok k c => mmL fGtT F_rank (vs.map Vl.d) (some (v.d, k)) c
        | _ => .stk) = _
      rw [F_rank_v]
    rw [e, mmL_max vs v c h]
    rfl
theorem starE {n : Nat} {k : MS} {ds : List D} {c : Cells} {r : R D} (hl : ds.length ≤ sizeLine) (h : (k (enter n [.tup ds]) c).out = r) : starF n k ds c = r := by
  unfold starF
  rw [if_pos hl]
  exact h
theorem F_lesser {vs : List Vl} (h : OkL vs) (hl : vs.length ≤ 100) (c : Cells) : F_lesser_of (vs.map Vl.d) c = .ok (leastD vs) c := by
  refine starE (by rw [List.length_map]; exact Nat.le_trans hl (by decide)) ?_
  rw [show m_lesser_of (enter 1 [.tup (vs.map Vl.d)]) c = .ok (.rt (leastD vs)) c from sqN (stX (eFn (eCons (eV rfl) eNil) rfl (chk_ok vs (t := .tup) rfl rfl))) (stR (eFn (eCons (eV rfl) eNil) rfl (F_least_v h c)))]
  rfl
theorem F_greater {vs : List Vl} (h : OkL vs) (hl : vs.length ≤ 100) (c : Cells) : F_greater_of (vs.map Vl.d) c = .ok (greatD vs) c := by
  refine starE (by rw [List.length_map]; exact Nat.le_trans hl (by decide)) ?_
  rw [show m_greater_of (enter 1 [.tup (vs.map Vl.d)]) c = .ok (.rt (greatD vs)) c from sqN (stX (eFn (eCons (eV rfl) eNil) rfl (chk_ok vs (t := .tup) rfl rfl))) (stR (eFn (eCons (eV rfl) eNil) rfl (F_great_v h c)))]
  rfl
theorem F_lesser_x {vs : List Vl} {x : D} {r : List D} (hx : Od x) (hl : (vs.map Vl.d ++ x :: r).length ≤ 100) (c : Cells) : F_lesser_of (vs.map Vl.d ++ x :: r) c = .err (xVal "InvalidValue" x) c := by
  refine starE (Nat.le_trans hl (by decide)) ?_
  rw [show m_lesser_of (enter 1 [.tup (vs.map Vl.d ++ x :: r)]) c = .err (xVal "InvalidValue" x) _ c from sqE (stXE (eFn (eCons (eV rfl) eNil) rfl (chk_err vs r hx (t := .tup) rfl rfl)))]
  rfl
theorem F_greater_x {vs : List Vl} {x : D} {r : List D} (hx : Od x) (hl : (vs.map Vl.d ++ x :: r).length ≤ 100) (c : Cells) : F_greater_of (vs.map Vl.d ++ x :: r) c = .err (xVal "InvalidValue" x) c := by
  refine starE (Nat.le_trans hl (by decide)) ?_
  rw [show m_greater_of (enter 1 [.tup (vs.map Vl.d ++ x :: r)]) c = .err (xVal "InvalidValue" x) _ c from sqE (stXE (eFn (eCons (eV rfl) eNil) rfl (chk_err vs r hx (t := .tup) rfl rfl)))]
  rfl
/-! ### at a level, at least -/
theorem F_at {v : Vl} {l : Int} (hv : v.okw) (hl : -(10 ^ 62) < l ∧ l < 10 ^ 62) (c : Cells) : F_at_level [v.d, .int l] c = .ok (endD (decide (l ≤ v.num))) c :=
  bodyR (sqN (stX (eFn (eCons (eTup (eCons (eV rfl) eNil)) eNil) rfl (chk_ok [v] (t := .tup) rfl rfl))) (sqN (stIF (eNot (b := true) (eTru (eFn (eCons (eV rfl) eNil) rfl (isInt_int l c)) rfl)) rfl) (stR (eFn (eCons (eV rfl) (eCons (eV rfl) eNil)) rfl (F_end hv hl c)))))
theorem F_at_x {x l : D} (hx : Od x) (c : Cells) : F_at_level [x, l] c = .err (xVal "InvalidValue" x) c :=
  bodyE (sqE (stXE (eFn (eCons (eTup (eCons (eV rfl) eNil)) eNil) rfl (chk_err [] [] hx (t := .tup) rfl rfl))))
theorem F_at_l {v : Vl} {l : D} (hl : F_is_integer [l] = fun c => .ok (.bl false) c) (c : Cells) : F_at_level [v.d, l] c = .err (xVal "InvalidInteger" l) c :=
  bodyE (sqN (stX (eFn (eCons (eTup (eCons (eV rfl) eNil)) eNil) rfl (chk_ok [v] (t := .tup) rfl rfl))) (sqE (stIT (eNot (b := false) (eTru (eFn (eCons (eV rfl) eNil) rfl (congrFun hl c)) rfl)) (stRaise (eCons (eV rfl) eNil) rfl))))
theorem F_ge {v u : Vl} (hv : v.okw) (hu : u.okw) (c : Cells) : F_is_at_least [v.d, u.d] c = .ok (.bl (decide (u.num ≤ v.num))) c :=
  bodyR (sqN (stX (eFn (eCons (eTup (eCons (eV rfl) (eCons (eV rfl) eNil))) eNil) rfl (chk_ok [v, u] (t := .tup) rfl rfl))) (stR (e2 (eFn (eCons (eV rfl) eNil) rfl (F_rank_v v c)) (eFn (eCons (eV rfl) eNil) rfl (F_rank_v u c)) (ge_rk hv hu))))
theorem F_ge_x {x y : D} (hx : Od x) (c : Cells) : F_is_at_least [x, y] c = .err (xVal "InvalidValue" x) c :=
  bodyE (sqE (stXE (eFn (eCons (eTup (eCons (eV rfl) (eCons (eV rfl) eNil))) eNil) rfl (chk_err [] [y] hx (t := .tup) rfl rfl))))
theorem F_ge_y {v : Vl} {x : D} (hx : Od x) (c : Cells) : F_is_at_least [v.d, x] c = .err (xVal "InvalidValue" x) c :=
  bodyE (sqE (stXE (eFn (eCons (eTup (eCons (eV rfl) (eCons (eV rfl) eNil))) eNil) rfl (chk_err [v] [] hx (t := .tup) rfl rfl))))
end K11
end
section
set_option Elab.async false
set_option linter.all false
set_option maxRecDepth 100000
namespace K11
open PySem PySem.Spec L2 Q
variable [Tb]
/-! ### walks over any source -/
theorem for_invS {s : Src} {ds : List D} {g : MG} {k : MS} (Jn : Nat → Q.Env → Cells → Prop) (hs : ∀ i env c, Jn i env c → s.get i c = some ds[i]?)
    (step : ∀ i x env c, ds[i]? = some x → Jn i env c → ∃ e1 c1, g x env c = some (e1, c1) ∧ ((∃ e2 c2, k e1 c1 = .ok (.nx e2) c2 ∧ Jn (i + 1) e2 c2))) :
    ∀ n i env c, Jn i env c → i ≤ ds.length → ds.length < n + i → ∃ e2 c2, forS s g k n i env c = .ok (.nx e2) c2 ∧ Jn ds.length e2 c2
  | 0, i, env, c, _, h1, h2 => by omega
  | n + 1, i, env, c, J, h1, h2 => by
    unfold forS
    rw [hs i env c J]
    by_cases hi : i < ds.length
    · obtain ⟨e1, c1, q1, e2, c2, q2, J2⟩ := step i ds[i] env c (List.getElem?_eq_getElem hi) J
      rw [List.getElem?_eq_getElem hi]
      dsimp only
      rw [q1]
      dsimp only
      rw [q2]
      exact for_invS Jn hs step n (i + 1) e2 c2 J2 (by omega) (by omega)
    · rw [List.getElem?_eq_none (by omega)]
      have : i = ds.length := by omega
      subst this
      exact ⟨env, c, rfl, J⟩
/-- a sequence walked by a for -/
theorem stFor {m : ME} {g : MG} {k : MS} {env : Q.Env} {c c1 : Cells} {L : D} {t : Tg} {ds : List D} (Jn : Nat → Q.Env → Cells → Prop) (h : m env c = .ok L c1) (hv0 : view c1 L = some (t, ds)) (ht : sqTg t = true) (hv : ∀ i env c, Jn i env c → view c L = some (t, ds)) (h0 : Jn 0 env c1)
    (step : ∀ i x env c, ds[i]? = some x → Jn i env c → ∃ e1 c1, g x env c = some (e1, c1) ∧ ((∃ e2 c2, k e1 c1 = .ok (.nx e2) c2 ∧ Jn (i + 1) e2 c2))) : ∃ e2 c2, sFor (mWalk m) g k env c = .ok (.nx e2) c2 ∧ Jn ds.length e2 c2 := by
  have w : mWalk m env c = .ok (srcT t L (ds.length + 1)) c1 := eWalk h hv0 ht
  obtain ⟨e2, c2, q, J⟩ := for_inv (g := g) (k := k) (d := L) Jn hv step (ds.length + 1) 0 env c1 h0 (Nat.zero_le _) (by omega)
  refine ⟨e2, c2, ?_, J⟩
  unfold sFor
  rw [w]
  exact q
def rngK : D → Cells → R Src := fun d c => match d with
  | .int j => if -(2 ^ 62) ≤ j ∧ j < 2 ^ 62 then .ok (srcR 0 j.toNat) c else .stk
  | _ => .stk
theorem rngK_int {j : Int} {c : Cells} (z : -(2 ^ 62) ≤ j ∧ j < 2 ^ 62) : rngK (.int j) c = .ok (srcR 0 j.toNat) c := if_pos z
theorem bind_ok {a b : Type} {x : a} {c : Cells} {k : a → Cells → R b} : (R.ok x c).bind k = k x c := rfl
theorem eRng {m : ME} {env : Q.Env} {c c1 : Cells} {n : Nat} (h : m env c = .ok (.int (n : Int)) c1) (hn : n < 1000) : mRng1 m env c = .ok (srcR 0 n) c1 := by
  have z : -(2 ^ 62) ≤ (n : Int) ∧ (n : Int) < 2 ^ 62 := ⟨by omega, by omega⟩
  have e1 : mRng1 m env c = (m env c).bind rngK := rfl
  rw [e1, h, bind_ok, rngK_int z, Int.toNat_natCast]
/-- a range walked by a for -/
theorem stForR {m : ME} {g : MG} {k : MS} {env : Q.Env} {c c1 : Cells} {n : Nat} (Jn : Nat → Q.Env → Cells → Prop) (h : m env c = .ok (.int (n : Int)) c1) (hn : n < 1000) (h0 : Jn 0 env c1)
    (step : ∀ i env c, i < n → Jn i env c → ∃ e1 c1, g (.int (0 + (i : Int))) env c = some (e1, c1) ∧ ((∃ e2 c2, k e1 c1 = .ok (.nx e2) c2 ∧ Jn (i + 1) e2 c2))) : ∃ e2 c2, sFor (mRng1 m) g k env c = .ok (.nx e2) c2 ∧ Jn n e2 c2 := by
  have w : mRng1 m env c = .ok (srcR 0 n) c1 := eRng h hn
  have e : ∀ i : Nat, ((List.range n).map fun j : Nat => D.int (0 + (j : Int)))[i]? = if i < n then some (.int (0 + (i : Int))) else none := fun i => by
    rw [List.getElem?_map]
    by_cases hi : i < n
    · rw [if_pos hi, List.getElem?_range hi]
      rfl
    · rw [if_neg hi, List.getElem?_eq_none (by simp; omega)]
      rfl
  obtain ⟨e2, c2, q, J⟩ := for_invS (s := srcR 0 n) (ds := (List.range n).map fun j : Nat => D.int (0 + (j : Int))) (g := g) (k := k) Jn (fun i env c _ => by rw [e]; rfl)
    (fun i x env c hx J => by
      rw [e] at hx
      split at hx
      · rename_i hi
        cases hx
        exact step i env c hi J
      · cases hx) (n + 1) 0 env c1 h0 (Nat.zero_le _) (by simp)
  rw [List.length_map, List.length_range] at J
  refine ⟨e2, c2, ?_, J⟩
  unfold sFor
  rw [w]
  exact q
/-- a comprehension that changes nothing -/
theorem lcPure {m : ME} {tt : MB} {te : ME} {env : Q.Env} {c : Cells} {i : Nat} {L : D} {t : Tg} {ds : List D} (p : D → Bool) (f : D → D) (h : m env c = .ok L c) (hv : view c L = some (t, ds)) (ht : sqTg t = true) (hl : ds.length < 1000)
    (h1 : ∀ x ∈ ds, tt (env.set i (some x)) c = .ok (p x) c) (h2 : ∀ x ∈ ds, p x = true → te (env.set i (some x)) c = .ok (f x) c) : mLc false (mWalk m) (gN i) [i] tt te env c = .ok (.lst ((ds.filter p).map f)) c := by
  have w : mWalk m env c = .ok (srcT t L (ds.length + 1)) c := eWalk h hv ht
  have sm : (1000 : Nat) < sizeLine := by decide
  obtain ⟨acc2, c2, q, e1, e2⟩ := lc_inv (s := srcT t L (ds.length + 1)) (ds := ds) (g := gN i) (vs := [i]) (tt := tt) (te := te) (env := env) (fun k acc c' => c' = c ∧ acc = ((ds.take k).filter p).map f) (fun k acc c' ⟨e, _⟩ => by rw [e]; exact srcT_get hv)
    (fun k acc c' ⟨_, e⟩ => by
      rw [e, List.length_map]
      have := List.length_filter_le p (ds.take k)
      have := List.length_take_le k ds
      have := List.length_take_le' k ds
      omega)
    (fun k x acc c' hx ⟨e1, e2⟩ => by
      subst e1
      have hm := List.mem_of_getElem? hx
      have tk : ds.take (k + 1) = ds.take k ++ [x] := by
        rw [List.take_add_one, hx]
        rfl
      have se : (wipeE env [i]).set i (some x) = env.set i (some x) := by
        show ((wipeE env []).set i none).set i (some x) = _
        rw [List.set_set]
        rfl
      refine ⟨_, _, rfl, ?_⟩
      rw [se]
      cases hp : p x with
      | false =>
        refine .inl ⟨c', by rw [h1 x hm, hp], rfl, ?_⟩
        rw [e2, tk, List.filter_append]
        simp [hp]
      | true =>
        refine .inr ⟨c', f x, c', by rw [h1 x hm, hp], h2 x hm hp, rfl, ?_⟩
        rw [e2, tk, List.filter_append]
        simp [hp])
    (ds.length + 1) 0 [] c ⟨rfl, by simp⟩ (Nat.zero_le _) (by omega)
  rw [e1, e2, List.take_length] at q
  unfold mLc
  rw [w]
  show (lcS (srcT t L (ds.length + 1)) (gN i) [i] tt te env (ds.length + 1) 0 [] c).bind (lcEnd false) = _
  rw [q]
  rfl
/-- without a test -/
theorem lcMap {m : ME} {te : ME} {env : Q.Env} {c : Cells} {i : Nat} {L : D} {t : Tg} {ds : List D} (f : D → D) (h : m env c = .ok L c) (hv : view c L = some (t, ds)) (ht : sqTg t = true) (hl : ds.length < 1000)
    (h2 : ∀ x ∈ ds, te (env.set i (some x)) c = .ok (f x) c) : mLc false (mWalk m) (gN i) [i] bYes te env c = .ok (.lst (ds.map f)) c := by
  have e := lcPure (tt := bYes) (te := te) (fun _ => true) f h hv ht hl (fun _ _ => rfl) (fun x hx _ => h2 x hx)
  rw [e, List.filter_eq_self.mpr fun _ _ => rfl]
/-! ### numbers among values -/
def nums : List Vl → List Int
  | [] => []
  | .i n :: vs => n :: nums vs
  | _ :: vs => nums vs
theorem ints_ok : ∀ {vs : List Vl}, OkL vs → ∀ n ∈ nums vs, -(10 ^ 60) < n ∧ n < 10 ^ 60
  | .i m :: vs, h, n, hn => by
    rcases List.mem_cons.mp (show n ∈ m :: nums vs from hn) with e | e
    · rw [e]
      exact h (.i m) (by simp)
    · exact ints_ok (fun v hv => h v (List.mem_cons_of_mem _ hv)) n e
  | .bot :: vs, h, n, hn => ints_ok (vs := vs) (fun v hv => h v (List.mem_cons_of_mem _ hv)) n hn
  | .top :: vs, h, n, hn => ints_ok (vs := vs) (fun v hv => h v (List.mem_cons_of_mem _ hv)) n hn
theorem ints_len : ∀ vs : List Vl, (nums vs).length ≤ vs.length
  | [] => Nat.le_refl _
  | .i m :: vs => Nat.succ_le_succ (ints_len vs)
  | .bot :: vs => Nat.le_succ_of_le (ints_len vs)
  | .top :: vs => Nat.le_succ_of_le (ints_len vs)
def isI : D → Bool
  | .int _ => true
  | _ => false
theorem ints_filter : ∀ vs : List Vl, (vs.map Vl.d).filter isI = (nums vs).map D.int
  | [] => rfl
  | .i m :: vs => by
    show D.int m :: (vs.map Vl.d).filter isI = _
    rw [ints_filter vs]
    rfl
  | .bot :: vs => ints_filter vs
  | .top :: vs => ints_filter vs
theorem notIn {v : Vl} {c : Cells} : fNotIn v.d (.tup [.str "bottom", .str "top"]) c = some (.bl (isI v.d), c) := by
  cases v with
  | bot => rfl
  | top => rfl
  | i n => rfl
/-- [v for v in L if v not in ("bottom", "top")] -/
theorem lcInts {m : ME} {env : Q.Env} {c : Cells} {i : Nat} {L : D} {t : Tg} {vs : List Vl} (h : m env c = .ok L c) (hi : i < env.length) (hv : view c L = some (t, vs.map Vl.d)) (ht : sqTg t = true) (hl : vs.length < 1000) :
    mLc false (mWalk m) (gN i) [i] (mT (m2 fNotIn (mVar i) (mTup (mCons (mC (.str "bottom")) (mCons (mC (.str "top")) mNil))))) (mVar i) env c = .ok (.lst ((nums vs).map D.int)) c := by
  have get : ∀ x : D, (env.set i (some x))[i]? = some (some x) := fun x => List.getElem?_set_self hi
  have e := lcPure (env := env) (i := i) (tt := mT (m2 fNotIn (mVar i) (mTup (mCons (mC (.str "bottom")) (mCons (mC (.str "top")) mNil))))) (te := mVar i) isI (fun x => x) h hv ht (by simpa using hl)
    (fun x hx => by
      obtain ⟨v, _, rfl⟩ := List.mem_map.mp hx
      exact eT (e2 (eV (get _)) (eTup (eCons eC (eCons eC eNil))) notIn)) (fun x hx _ => eV (get x))
  rw [e, ints_filter]
  simp
end K11
end
section
set_option Elab.async false
set_option linter.all false
set_option maxRecDepth 100000
namespace K11
open PySem PySem.Spec L2 Q
variable [Tb]
/-! ### the pot -/
theorem maxI2 {i j : Int} {c : Cells} : bMax2 [.int i, .int j] c = some (.int (if j > i then j else i), c) := rfl
theorem minI2 {i j : Int} {c : Cells} : bMin2 [.int i, .int j] c = some (.int (if j < i then j else i), c) := rfl
theorem lenL {t : Tg} {ds : List D} {L : D} {c : Cells} (hv : view c L = some (t, ds)) (ht : sqTg t = true) : bLen [L] c = some (.int ds.length, c) := by
  have e : seqView c L = some ds := by
    unfold seqView
    rw [hv]
    cases t <;> first | rfl | cases ht
  have h : bLen [L] c = (seqView c L).map fun ds => (.int ds.length, c) := by
    cases L <;> first | rfl | cases hv
  rw [h, e]
  rfl
theorem F_pot {ns : List Int} {k : Nat} (hk : k < 10) (c : Cells) : ∃ a b : Int, F__law_pot [.nod .frl (ns.map D.int), .int (k : Int)] c = .ok (.cell c.length) (c ++ [(.lst, [.int a, .int b])]) ∧ 0 ≤ a ∧ 0 ≤ b ∧ b < 2147483648 := by
  -- the cell's number
  have cell : ∃ z : Int, sSeq (sSet 2 (m2 fAdd (m2 fMul (mC (.int 23)) (mVar 1)) (mC (.int 9)))) (sIf (mT (m2 fLt (mVar 1) (mCall bLen (mCons (mVar 0) mNil)))) (sSet 2 (m2 fIx (mVar 0) (mVar 1))) sNil) [some (D.nod .frl (ns.map D.int)), some (D.int (k : Int)), none] c = .ok (.nx [some (D.nod .frl (ns.map D.int)), some (D.int (k : Int)), some (D.int z)]) c := by
    have m : fMul (.int 23) (.int (k : Int)) c = some (.int (23 * (k : Int)), c) := mulI (by decide) (by rw [Int.natAbs_natCast]; exact Nat.lt_of_lt_of_le hk (by decide))
    have ln : bLen [.nod .frl (ns.map D.int)] c = some (.int (ns.map D.int).length, c) := lenL (t := .frl) rfl rfl
    by_cases h : (k : Int) < (ns.map D.int).length
    · obtain ⟨d, hd, ha⟩ := atL (xs := ns.map D.int) (k := (k : Int)) (by omega) h
      obtain ⟨z, _, rfl⟩ := List.mem_map.mp hd
      refine ⟨z, sqN (stS (e2 (e2 eC (eV rfl) m) eC addI)) (stIT (eT (e2 (eV rfl) (eCall (eCons (eV rfl) eNil) ln) (ltI.trans (by rw [decide_eq_true h])))) (stS (e2 (eV rfl) (eV rfl) ?_)))⟩
      show ((seqView c (.nod .frl (ns.map D.int))).bind fun ds => (atI ds (k : Int)).map fun d => (d, c)) = _
      show (atI (ns.map D.int) (k : Int)).map (fun d => (d, c)) = _
      rw [ha]
      rfl
    · exact ⟨_, sqN (stS (e2 (e2 eC (eV rfl) m) eC addI)) (stIF (eT (e2 (eV rfl) (eCall (eCons (eV rfl) eNil) ln) (ltI.trans (by rw [decide_eq_false h])))) rfl)⟩
  obtain ⟨z, hz⟩ := cell
  obtain ⟨y, hy⟩ : ∃ y : Int, y = (if z < 0 then -z else z) := ⟨_, rfl⟩
  have ab : bAbs [.int z] c = some (.int y, c) := by rw [hy]; rfl
  obtain ⟨g, hg⟩ : ∃ g : Int, g = y % 2147483549 := ⟨_, rfl⟩
  have g0 : 0 ≤ g := by rw [hg]; exact Int.emod_nonneg _ (by decide)
  have g1 : g < 2147483549 := by rw [hg]; exact Int.emod_lt_of_pos _ (by decide)
  have cube : fPow (.int (2 * (k : Int) + 5)) (.int 3) c = some (.int ((2 * (k : Int) + 5) ^ 3), c) := powI (k := 3) (Nat.lt_of_lt_of_le (show (2 * (k : Int) + 5).natAbs < 30 by omega) (by decide)) (by decide)
  have cb : ((2 * (k : Int) + 5) ^ 3).natAbs < 2 ^ 200 := by
    rw [Int.natAbs_pow]
    have : (2 * (k : Int) + 5).natAbs ≤ 25 := by omega
    exact Nat.lt_of_le_of_lt (Nat.pow_le_pow_left this 3) (by decide)
  obtain ⟨q, hq⟩ : ∃ q : Int, q = (g + 3) * (2 * (k : Int) + 5) ^ 3 := ⟨_, rfl⟩
  have m1 : fMul (.int (g + 3)) (.int ((2 * (k : Int) + 5) ^ 3)) c = some (.int q, c) := by
    rw [hq]
    refine mulI ?_ cb
    have : (2147483648 : Nat) < 2 ^ 200 := by decide
    omega
  have m0 : fMul (.int 2) (.int (k : Int)) c = some (.int (2 * (k : Int)), c) := mulI (by decide) (by rw [Int.natAbs_natCast]; exact Nat.lt_of_lt_of_le hk (by decide))
  have md : fMod (.int y) (.int 2147483549) c = some (.int g, c) := by rw [hg]; exact modI (by decide)
  have md2 : fMod (.int q) (.int 2147483477) c = some (.int (q % 2147483477), c) := modI (by decide)
  have r0 := Int.emod_nonneg q (by decide : (2147483477 : Int) ≠ 0)
  have r1 := Int.emod_lt_of_pos q (by decide : (0 : Int) < 2147483477)
  have split : ∀ (k1 k2 k3 : MS) (env : Q.Env) (c : Cells), sSeq k1 (sSeq k2 k3) env c = sSeq (sSeq k1 k2) k3 env c := fun k1 k2 k3 env c => by
    unfold sSeq
    cases k1 env c with
    | ok f c' => cases f <;> rfl
    | _ => rfl
  refine ⟨if y - 10 ^ 18 > 0 then y - 10 ^ 18 else 0, q % 2147483477 + 1, bodyR (d := .cell c.length) ?_, ?_, ?_, ?_⟩
  · unfold m__law_pot
    rw [split]
    exact sqN hz (stR (eLstC (eCons (eCall (eCons eC (eCons (e2 (eCall (eCons (eV rfl) eNil) ab) (e2 eC eC p18) subI) eNil)) maxI2) (eCons (e2 (e2 (e2 (eCall (eCons (e2 (e2 (eCall (eCons (eCall (eCons (eV rfl) eNil) ab) eNil) rfl) eC md) eC addI) eNil) rfl) (e2 (e2 (e2 eC (eV rfl) m0) eC addI) eC cube) m1) eC md2) eC addI) eNil))))
  · split <;> omega
  · omega
  · omega
/-! ### one thing -/
theorem eqvInts {ns : List Int} {c : Cells} (h : ns.length < 1000) : fNe (.lst (ns.map D.int)) (.lst []) c = some (.bl (!decide (ns = [])), c) := by
  have pl : ∀ (f : Nat → Option PyData) (ms : List Int), pydL f (ms.map D.int) = some (ms.map PyData.int) := fun f ms => by
    induction ms with
    | nil => rfl
    | cons m ms ih =>
      show (match pydW f (D.int m), pydL f (ms.map D.int) with
        | some p, some ps => some (p :: ps)
        | _, _ => none) = _
      rw [ih]
      rfl
  have cl : ∀ ms : List Int, PyData.canLayAll0 (ms.map PyData.int) = true := fun ms => by
    induction ms with
    | nil => rfl
    | cons m ms ih =>
      show (PyData.canLay0 (.int m) && PyData.canLayAll0 (ms.map PyData.int)) = true
      rw [ih]
      rfl
  have dp : ∀ ms : List Int, PyData.depthAll (ms.map PyData.int) ≤ 1 := fun ms => by
    induction ms with
    | nil => decide
    | cons m ms ih =>
      show max (PyData.depth (.int m)) (PyData.depthAll (ms.map PyData.int)) ≤ 1
      have : PyData.depth (.int m) ≤ 1 := by simp [PyData.depth]
      omega
  have sh : SeqAt.shaped (.list (ns.map PyData.int)) = true := by
    unfold SeqAt.shaped
    rw [Bool.and_eq_true]
    refine ⟨?_, decide_eq_true ?_⟩
    · show PyData.canLayAll0 (ns.map PyData.int) = true
      exact cl ns
    · show PyData.depthAll (ns.map PyData.int) + 1 ≤ 64
      have := dp ns
      omega
  have e1 : pyd c (.lst (ns.map D.int)) = some (.list (ns.map PyData.int)) := by
    show (pydL (pydC c 6) (ns.map D.int)).map PyData.list = _
    rw [pl]
    rfl
  have e2 : pyd c (.lst []) = some (.list []) := rfl
  have e : fEqP true (.lst (ns.map D.int)) (.lst []) c = some (.bl (!PyData.eqv (.list (ns.map PyData.int)) (.list [])), c) := by
    unfold fEqP
    rw [e1, e2]
    dsimp only
    rw [sh]
    rfl
  show (match fEqS true (.lst (ns.map D.int)) (.lst []) c with
    | some q => some q
    | none => fEqP true (.lst (ns.map D.int)) (.lst []) c) = _
  show fEqP true (.lst (ns.map D.int)) (.lst []) c = _
  rw [e]
  cases ns <;> rfl
end K11
end
section
set_option Elab.async false
set_option linter.all false
set_option maxRecDepth 100000
namespace K11
open PySem PySem.Spec L2 Q
variable [Tb]
theorem F_thing {p : Nat} {c : Cells} (h : PotC p c) {ns : List Int} (hn : ∀ n ∈ ns, -(10 ^ 60) < n ∧ n < 10 ^ 60) (hl : ns.length < 500) : ∃ v c', F__law_thing [.cell p, .lst (ns.map D.int)] c = .ok (Vl.d v) c' ∧ v.ok ∧ Nxt p c c' := by
  obtain ⟨w, c1, ew, w0, w1, n1⟩ := draw h (n := 10) (by decide) (by decide)
  obtain ⟨En, hEn⟩ : ∃ En : Q.Env, En = [some (D.cell p), some (D.lst (ns.map D.int)), some (D.int w), some (D.int (10 ^ 60 - 1)), none] := ⟨_, rfl⟩
  have s0 : sPar 2 3 (mFn F__law_draw 2 (mCons (mVar 0) (mCons (mC (.int 10)) mNil))) (m2 fSub (m2 fPow (mC (.int 10)) (mC (.int 60))) (mC (.int 1))) (enter 5 [.cell p, .lst (ns.map D.int)]) c = .ok (.nx En) c1 := by
    rw [hEn]
    exact stPar (eFn (eCons (eV rfl) (eCons eC eNil)) rfl ew) (e2 (e2 eC eC p60) eC subI)
  have g0 : En[0]? = some (some (D.cell p)) := by rw [hEn]; rfl
  have g1 : En[1]? = some (some (D.lst (ns.map D.int))) := by rw [hEn]; rfl
  have g2 : En[2]? = some (some (D.int w)) := by rw [hEn]; rfl
  have g3 : En[3]? = some (some (D.int (10 ^ 60 - 1))) := by rw [hEn]; rfl
  by_cases a1 : w < 2
  · obtain ⟨d, c2, ep, hm, n2⟩ := pick n1.pot (ds := [.str "bottom", .str "top"]) (by simp) (by simp)
    have r : F__law_thing [.cell p, .lst (ns.map D.int)] c = .ok d c2 := bodyR (sqN s0 (sqR (stIT (eT (e2 (eV g2) eC (ltI.trans (by rw [decide_eq_true a1])))) (stR (eFn (eCons (eV g0) (eCons (eLst (eCons eC (eCons eC eNil))) eNil)) rfl ep)))))
    rcases List.mem_cons.mp hm with e | hm
    · exact ⟨.bot, c2, by rw [r, e]; rfl, trivial, n1.trans n2⟩
    · rw [List.mem_singleton.mp hm] at r
      exact ⟨.top, c2, r, trivial, n1.trans n2⟩
  have f1 : sIf (mT (m2 fLt (mVar 2) (mC (.int 2)))) (sRet (mFn F__law_pick 2 (mCons (mVar 0) (mCons (mLst (mCons (mC (.str "bottom")) (mCons (mC (.str "top")) mNil))) mNil)))) sNil En c1 = .ok (.nx En) c1 := stIF (eT (e2 (eV g2) eC (ltI.trans (by rw [decide_eq_false a1])))) rfl
  have cnd : mAndT (mT (m2 fLt (mVar 2) (mC (.int 5)))) (mT (m2 fNe (mVar 1) (mLst mNil))) En c1 = .ok (decide (w < 5) && !decide (ns = [])) c1 := by
    by_cases a2 : w < 5
    · rw [decide_eq_true a2]
      exact eAndT (eT (e2 (eV g2) eC (ltI.trans (by rw [decide_eq_true a2])))) (eT (e2 (eV g1) (eLst eNil) (eqvInts (by omega))))
    · rw [decide_eq_false a2]
      exact eAndF (eT (e2 (eV g2) eC (ltI.trans (by rw [decide_eq_false a2]))))
  by_cases a2 : (decide (w < 5) && !decide (ns = [])) = true
  · rw [a2] at cnd
    have ne : ns ≠ [] := fun z => by rw [z] at a2; simp at a2
    obtain ⟨d, c2, ep, hm, n2⟩ := pick n1.pot (ds := ns.map D.int) (by simp [ne]) (by simp; omega)
    obtain ⟨i, hi, rfl⟩ := List.mem_map.mp hm
    obtain ⟨i0, i1⟩ := hn i hi
    obtain ⟨d, c3, eq, hm3, n3⟩ := pick n2.pot (ds := [.int 0, .int 0, .int 1, .int (-1)]) (by simp) (by simp)
    obtain ⟨j, rfl⟩ : ∃ j, d = .int j := by
      simp only [List.mem_cons, List.not_mem_nil, or_false] at hm3
      rcases hm3 with e | e | e | e <;> exact ⟨_, e⟩
    have g0' : ∀ x, (En.set 4 x)[3]? = some (some (D.int (10 ^ 60 - 1))) := fun x => by rw [hEn]; rfl
    have g4' : ∀ x, (En.set 4 x)[4]? = some x := fun x => by rw [hEn]; rfl
    obtain ⟨z, hz⟩ : ∃ z : Int, z = (if (if i + j < 10 ^ 60 - 1 then i + j else 10 ^ 60 - 1) > 0 - (10 ^ 60 - 1) then (if i + j < 10 ^ 60 - 1 then i + j else 10 ^ 60 - 1) else 0 - (10 ^ 60 - 1)) := ⟨_, rfl⟩
    have r : F__law_thing [.cell p, .lst (ns.map D.int)] c = .ok (.int z) c3 := by
      rw [hz]
      exact bodyR (sqN s0 (sqN f1 (sqR (stIT cnd (sqN (stS (e2 (eFn (eCons (eV g0) (eCons (eV g1) eNil)) rfl ep) (eFn (eCons (eV g0) (eCons (eLst (eCons eC (eCons eC (eCons eC (eCons (e1' eC negI) eNil))))) eNil)) rfl eq) addI))
        (stR (eCall (eCons (e2 eC (eV (g0' _)) subI) (eCons (eCall (eCons (eV (g0' _)) (eCons (eV (g4' _)) eNil)) minI2) eNil)) maxI2)))))))
    refine ⟨.i z, c3, r, ?_, (n1.trans n2).trans n3⟩
    show -(10 ^ 60) < z ∧ z < 10 ^ 60
    rw [hz]
    constructor <;> (split <;> (try split) <;> omega)
  rw [Bool.not_eq_true] at a2
  rw [a2] at cnd
  by_cases a3 : w = 5
  · obtain ⟨d, c2, ep, hm, n2⟩ := pick n1.pot (ds := [.int (10 ^ 60 - 1), .int (0 - (10 ^ 60 - 1)), .int 0, .int 1, .int (-1)]) (by simp) (by simp)
    have r : F__law_thing [.cell p, .lst (ns.map D.int)] c = .ok d c2 := bodyR (sqN s0 (sqN f1 (sqN (stIF cnd rfl) (sqR (stIT (eT (e2 (eV g2) eC (eqI.trans (by rw [decide_eq_true a3])))) (stR (eFn (eCons (eV g0) (eCons (eLst (eCons (eV g3) (eCons (e2 eC (eV g3) subI) (eCons eC (eCons eC (eCons (e1' eC negI) eNil)))))) eNil)) rfl ep)))))))
    obtain ⟨z, rfl, hz⟩ : ∃ z : Int, d = .int z ∧ -(10 ^ 60) < z ∧ z < 10 ^ 60 := by
      simp only [List.mem_cons, List.not_mem_nil, or_false] at hm
      rcases hm with e | e | e | e | e <;> exact ⟨_, e, by omega, by omega⟩
    exact ⟨.i z, c2, r, hz, n1.trans n2⟩
  have f3 : sIf (mT (m2 fEq (mVar 2) (mC (.int 5)))) (sRet (mFn F__law_pick 2 (mCons (mVar 0) (mCons (mLst (mCons (mVar 3) (mCons (m2 fSub (mC (.int 0)) (mVar 3)) (mCons (mC (.int 0)) (mCons (mC (.int 1)) (mCons (m1 fNeg (mC (.int 1))) mNil)))))) mNil)))) sNil En c1 = .ok (.nx En) c1 := stIF (eT (e2 (eV g2) eC (eqI.trans (by rw [decide_eq_false a3])))) rfl
  by_cases a4 : w = 6
  · obtain ⟨x, c2, ex, x0, x1, n2⟩ := draw n1.pot (n := 19) (by decide) (by decide)
    obtain ⟨y, c3, ey, y0, y1, n3⟩ := draw n2.pot (n := 1000) (by decide) (by decide)
    have xs : (x - 9).natAbs < 2 ^ 200 := Nat.lt_of_lt_of_le (show (x - 9).natAbs < 1000 by omega) (by decide)
    have b50 : ((10 : Int) ^ 50).natAbs < 2 ^ 200 := by decide
    have r : F__law_thing [.cell p, .lst (ns.map D.int)] c = .ok (.int ((x - 9) * 10 ^ 50 + y)) c3 := bodyR (sqN s0 (sqN f1 (sqN (stIF cnd rfl) (sqN f3 (sqR (stIT (eT (e2 (eV g2) eC (eqI.trans (by rw [decide_eq_true a4])))) (stR (e2 (e2 (e2 (eFn (eCons (eV g0) (eCons eC eNil)) rfl ex) eC subI) (e2 eC eC p50) (mulI xs b50)) (eFn (eCons (eV g0) (eCons eC eNil)) rfl ey) addI))))))))
    exact ⟨.i _, c3, r, ⟨by omega, by omega⟩, (n1.trans n2).trans n3⟩
  · obtain ⟨x, c2, ex, x0, x1, n2⟩ := draw n1.pot (n := 41) (by decide) (by decide)
    have r : F__law_thing [.cell p, .lst (ns.map D.int)] c = .ok (.int (x - 20)) c2 := bodyR (sqN s0 (sqN f1 (sqN (stIF cnd rfl) (sqN f3 (sqN (stIF (eT (e2 (eV g2) eC (eqI.trans (by rw [decide_eq_false a4])))) rfl) (stR (e2 (eFn (eCons (eV g0) (eCons eC eNil)) rfl ex) eC subI)))))))
    exact ⟨.i _, c2, r, ⟨by omega, by omega⟩, n1.trans n2⟩
/-! ### several things -/
theorem viewC {q : Nat} {c : Cells} : view c (.cell q) = c[q]? := rfl
theorem F_things {p : Nat} {c : Cells} (h : PotC p c) {m : Nat} (hm : m ≤ 100) : ∃ vs c', F__law_things [.cell p, .int (m : Int)] c = .ok (.cell c.length) c' ∧ c'[c.length]? = some (.lst, vs.map Vl.d) ∧ vs.length = m ∧ OkL vs ∧ Nxt p c c' := by
  have lt := h.lt
  have sm : (1000 : Nat) < sizeLine := by decide
  obtain ⟨e2', c2, q, vs, o1, o2, he, hv, hlen, hok, hn⟩ := stForR (g := gN 3) (n := m) (m := mVar 1) (env := [some (D.cell p), some (D.int (m : Int)), some (D.cell c.length), none, none]) (c := c ++ [(.lst, [])]) (c1 := c ++ [(.lst, [])])
    (k := sExpr (mMe "list" fAppend (mVar 2) (mCons (mFn F__law_thing 2 (mCons (mVar 0) (mCons (mLc false (mWalk (mVar 2)) (gN 4) [4] (mT (m2 fNotIn (mVar 4) (mTup (mCons (mC (.str "bottom")) (mCons (mC (.str "top")) mNil))))) (mVar 4)) mNil))) mNil)))
    (fun i env c' => ∃ (vs : List Vl) (o1 o2 : Option D), env = [some (D.cell p), some (D.int (m : Int)), some (D.cell c.length), o1, o2] ∧ c'[c.length]? = some (.lst, vs.map Vl.d) ∧ vs.length = i ∧ OkL vs ∧ Nxt p c c')
    (eV rfl) (by omega) ⟨[], none, none, rfl, by rw [List.getElem?_append_right (Nat.le_refl _), Nat.sub_self]; rfl, rfl, fun v hv => (by cases hv), Nxt.app h _⟩
    (fun i env c' hi ⟨vs, o1, o2, he, hv, hl, hok, hn⟩ => by
      subst he
      have wv : view c' (.cell c.length) = some (.lst, vs.map Vl.d) := hv
      have li := lcInts (m := mVar 2) (env := [some (D.cell p), some (D.int (m : Int)), some (D.cell c.length), some (D.int (0 + (i : Int))), o2]) (c := c') (i := 4) (eV rfl) (by simp) wv rfl (by omega)
      have il := ints_len vs
      obtain ⟨v, c2, et, hvo, n2⟩ := F_thing hn.pot (ints_ok hok) (by omega)
      have lt2 : c.length < c'.length := (List.getElem?_eq_some_iff.mp hv).1
      have hv2 : c2[c.length]? = some (.lst, vs.map Vl.d) := (n2.old _ lt2 (by omega)).trans hv
      have lt3 : c.length < c2.length := (List.getElem?_eq_some_iff.mp hv2).1
      have ap : fAppend (.cell c.length) [v.d] c2 = some (.non, c2.set c.length (.lst, vs.map Vl.d ++ [v.d])) := by
        show (match c2[c.length]? with
          | some (.lst, xs) => if xs.length < sizeLine then some (D.non, c2.set c.length (.lst, xs ++ [v.d])) else none
          | _ => none) = _
        rw [hv2]
        exact if_pos (by rw [List.length_map]; omega)
      have ty : isTy "list" c' (.cell c.length) = true := by
        unfold isTy
        dsimp only
        rw [wv]
        rfl
      refine ⟨[some (D.cell p), some (D.int (m : Int)), some (D.cell c.length), some (D.int (0 + (i : Int))), o2], c', rfl, _, _, stX (eMe (eV rfl) ty (eCons (eFn (eCons (eV rfl) (eCons li eNil)) rfl et) eNil) ap), vs ++ [v], _, _, rfl, ?_, by rw [List.length_append, hl]; rfl, fun u hu => ?_, ?_⟩
      · rw [List.getElem?_set_self lt3, List.map_append]
        rfl
      · rcases List.mem_append.mp hu with z | z
        · exact hok u z
        · rw [List.mem_singleton.mp z]
          exact hvo
      · have n3 := hn.trans n2
        obtain ⟨a, b, ea, r⟩ := n3.pot
        exact ⟨⟨a, b, by rw [List.getElem?_set_ne (by omega)]; exact ea, r⟩, by rw [List.length_set]; exact n3.len, fun q hq hqp => by rw [List.getElem?_set_ne (by omega)]; exact n3.old q hq hqp⟩)
  refine ⟨vs, c2, bodyR (sqN (stS (eLstC eNil)) (sqN q (stR (eV ?_)))), hv, hlen, hok, hn⟩
  rw [he]
  rfl
end K11
end
section
set_option Elab.async false
set_option linter.all false
set_option maxRecDepth 100000
namespace K11
open PySem PySem.Spec L2 Q
variable [Tb]
/-! ### what repr shows -/
structure Si (k w : Nat) (p : PyData) : Prop where
  s : p.showable = true
  d : p.depth ≤ k
  l : p.leavesShort 70 = true
  w : p.weight ≤ w
theorem Si.mono {k w k' w' : Nat} {p : PyData} (h : Si k w p) (hk : k ≤ k') (hw : w ≤ w') : Si k' w' p := ⟨h.s, Nat.le_trans h.d hk, h.l, Nat.le_trans h.w hw⟩
theorem rOk {k w : Nat} {p : PyData} (h : Si k w p) {d : D} {c : Cells} (e : pyr c d = some p) (hk : k ≤ 60 := by decide) (hw : w ≤ 100000 := by decide) : bRepr [d] c = some (.str p.shown, c) := by
  have l := PyData.shown_le 70 (by decide) p h.l
  have sz : (16777216 : Nat) ≤ sizeLine := by decide
  have := h.w
  have z : (p.showable && decide (p.depth ≤ 60) && decide (p.shown.length ≤ sizeLine)) = true := by
    rw [h.s, decide_eq_true (Nat.le_trans h.d hk), decide_eq_true (by omega)]
    rfl
  unfold bRepr
  dsimp only
  rw [e]
  exact if_pos z
theorem siL {k w n : Nat} : ∀ {ps : List PyData}, (∀ p ∈ ps, Si k w p) → ps.length ≤ n → PyData.showableAll ps = true ∧ PyData.depthAll ps ≤ k ∧ PyData.leavesShortAll 70 ps = true ∧ PyData.weightAll ps ≤ ps.length * (w + 1)
  | [], _, _ => ⟨rfl, Nat.zero_le _, rfl, Nat.zero_le _⟩
  | p :: ps, h, hn => by
    obtain ⟨a, b, e, f⟩ := siL (k := k) (w := w) (n := n) (ps := ps) (fun q hq => h q (List.mem_cons_of_mem _ hq)) (by simp at hn; omega)
    obtain ⟨a1, b1, e1, f1⟩ := h p List.mem_cons_self
    refine ⟨?_, ?_, ?_, ?_⟩
    · show (p.showable && PyData.showableAll ps) = true
      rw [a1, a]
      rfl
    · show max p.depth (PyData.depthAll ps) ≤ k
      omega
    · show (p.leavesShort 70 && PyData.leavesShortAll 70 ps) = true
      rw [e1, e]
      rfl
    · show p.weight + 1 + PyData.weightAll ps ≤ (ps.length + 1) * (w + 1)
      rw [Nat.add_mul]
      omega
theorem siList {k w n : Nat} {ps : List PyData} (h : ∀ p ∈ ps, Si k w p) (hn : ps.length ≤ n) : Si (k + 1) (n * (w + 1)) (.list ps) := by
  obtain ⟨a, b, e, f⟩ := siL h hn
  refine ⟨a, ?_, e, ?_⟩
  · show PyData.depthAll ps + 1 ≤ k + 1
    omega
  · show PyData.weightAll ps ≤ _
    exact Nat.le_trans f (Nat.mul_le_mul_right _ hn)
theorem siTup {k w n : Nat} {ps : List PyData} (h : ∀ p ∈ ps, Si k w p) (hn : ps.length ≤ n) : Si (k + 1) (n * (w + 1)) (.tuple ps) := by
  obtain ⟨a, b, e, f⟩ := siL h hn
  refine ⟨a, ?_, e, ?_⟩
  · show PyData.depthAll ps + 1 ≤ k + 1
    omega
  · show PyData.weightAll ps ≤ _
    exact Nat.le_trans f (Nat.mul_le_mul_right _ hn)
theorem siInt {i : Int} (h : i.natAbs < 10 ^ 64) : Si 1 300 (.int i) := by
  have lg : i.natAbs.log2 < 250 := by
    by_cases z : i.natAbs = 0
    · rw [z]
      decide
    · exact (Nat.log2_lt z).mpr (Nat.lt_of_lt_of_le h (by decide))
  have ln := PySem.int_text_length_le10 (k := 64) (by decide) h
  refine ⟨?_, ?_, ?_, ?_⟩
  · show decide (i.natAbs.log2 < 1920) = true
    exact decide_eq_true (by omega)
  · simp [PyData.depth]
  · show decide ((PyData.shown (.int i)).length ≤ 70) = true
    refine decide_eq_true ?_
    show (Str.ofString (toString i)).length ≤ 70
    rw [ofString_length]
    omega
  · show (if (i == 0) = true then 0 else i.natAbs.log2 + 1) ≤ 300
    split <;> omega
def Vl.p : Vl → PyData
  | .bot => .str "bottom"
  | .top => .str "top"
  | .i n => .int n
theorem Vl.si {v : Vl} (h : v.ok) : Si 1 300 v.p := by
  cases v with
  | bot => exact ⟨rfl, by simp [Vl.p, PyData.depth], by decide, by decide⟩
  | top => exact ⟨rfl, by simp [Vl.p, PyData.depth], by decide, by decide⟩
  | i n => exact siInt (by have := h.1; have := h.2; omega)
theorem pyrV {f : Nat → Option PyData} {v : Vl} : pyrW f v.d = some v.p := by cases v <;> rfl
theorem pyrLs {f : Nat → Option PyData} : ∀ {ds : List D} {ps : List PyData}, ds.length = ps.length → (∀ (i : Nat) (d : D) (p : PyData), ds[i]? = some d → ps[i]? = some p → pyrW f d = some p) → pyrL f ds = some ps
  | [], [], _, _ => rfl
  | d :: ds, p :: ps, hl, h => by
    show (match pyrW f d, pyrL f ds with
      | some p, some ps => some (p :: ps)
      | _, _ => none) = _
    rw [h 0 d p rfl rfl, pyrLs (ds := ds) (ps := ps) (by simpa using hl) fun i d' p' h1 h2 => h (i + 1) d' p' (by simpa using h1) (by simpa using h2)]
  | [], _ :: _, hl, _ => by simp at hl
  | _ :: _, [], hl, _ => by simp at hl
theorem pyrVs {f : Nat → Option PyData} (vs : List Vl) : pyrL f (vs.map Vl.d) = some (vs.map Vl.p) := by
  refine pyrLs (by simp) fun i d p h1 h2 => ?_
  rw [List.getElem?_map] at h1 h2
  obtain ⟨v, e, rfl⟩ := Option.map_eq_some_iff.mp h1
  rw [e] at h2
  cases h2
  exact pyrV
theorem pyrIs {f : Nat → Option PyData} (ns : List Int) : pyrL f (ns.map D.int) = some (ns.map PyData.int) := by
  have e := pyrVs (f := f) (ns.map Vl.i)
  rw [List.map_map, List.map_map] at e
  exact e
theorem siVs {vs : List Vl} (h : OkL vs) (hl : vs.length ≤ 20) : Si 2 (20 * 301) (.list (vs.map Vl.p)) := siList (k := 1) (w := 300) (fun p hp => by
  obtain ⟨v, hv, rfl⟩ := List.mem_map.mp hp
  exact Vl.si (h v hv)) (by simpa using hl)
theorem siIs {ns : List Int} (h : ∀ n ∈ ns, -(10 ^ 60) < n ∧ n < 10 ^ 60) (hl : ns.length ≤ 20) : Si 2 (20 * 301) (.list (ns.map PyData.int)) := siList (k := 1) (w := 300) (fun p hp => by
  obtain ⟨n, hn, rfl⟩ := List.mem_map.mp hp
  exact siInt (by have := h n hn; omega)) (by simpa using hl)
/-- repr of a list, whatever it is -/
theorem rView {d : D} {ds : List D} {ps : List PyData} {c : Cells} (hv : view c d = some (.lst, ds)) (h : ∀ f, pyrL f ds = some ps) : pyr c d = some (.list ps) := by
  cases d with
  | nod t xs =>
    cases hv
    show (pyrL (pyrC c 6) ds).map PyData.list = _
    rw [h]
    rfl
  | cell i =>
    have hv : c[i]? = some (.lst, ds) := hv
    show pyrC c 6 i = _
    unfold pyrC
    rw [hv]
    show (pyrL (pyrC c 5) ds).map PyData.list = _
    rw [h]
    rfl
  | _ => cases hv
/-! ### bools -/
theorem boolsM {α : Type} (f : α → Bool) : ∀ xs : List α, bools (xs.map fun x => D.bl (f x)) = some (xs.map f)
  | [] => rfl
  | x :: xs => by
    show (bools (xs.map fun x => D.bl (f x))).map (f x :: ·) = _
    rw [boolsM f xs]
    rfl
theorem allM {α : Type} (f : α → Bool) (xs : List α) (c : Cells) : bAll [.lst (xs.map fun x => D.bl (f x))] c = some (.bl (xs.all f), c) := by
  show ((lstView c (.lst (xs.map fun x => D.bl (f x)))).bind bools).map (fun bs => (D.bl (bs.all id), c)) = _
  show (bools (xs.map fun x => D.bl (f x))).map (fun bs => (D.bl (bs.all id), c)) = _
  rw [boolsM]
  simp [List.all_map]
end K11
end
section
set_option Elab.async false
set_option linter.all false
set_option maxRecDepth 100000
namespace K11
open PySem PySem.Spec L2 Q
variable [Tb]
/-! ### integers_in, levels_of -/
theorem si_run {L : D} {t : Tg} {vs : List Vl} {c : Cells} {env : Q.Env} (hi : 2 < env.length) (hv : view c L = some (t, vs.map Vl.d)) (hl : vs.length ≤ 20) :
    ∀ (n i : Nat) (acc : List Int), acc.length ≤ i → i ≤ vs.length → vs.length < n + i → siS (srcT t L ((vs.map Vl.d).length + 1)) (gN 2) [2] (mTru (mFn F_is_integer 1 (mCons (mVar 2) mNil))) (mVar 2) env n i acc c = .ok (acc ++ nums (vs.drop i)) c
  | 0, i, acc, _, h1, h2 => by omega
  | n + 1, i, acc, ha, h1, h2 => by
    have e := srcT_get (n := (vs.map Vl.d).length + 1) (i := i) hv
    unfold siS
    rw [e, List.getElem?_map]
    by_cases h : i < vs.length
    · rw [List.getElem?_eq_getElem h]
      have dr : vs.drop i = vs[i] :: vs.drop (i + 1) := (List.drop_eq_getElem_cons h)
      obtain ⟨v, hvv⟩ : ∃ v, v = vs[i] := ⟨_, rfl⟩
      rw [← hvv] at dr ⊢
      obtain ⟨E2, hE⟩ : ∃ E2 : Q.Env, E2 = (wipeE env [2]).set 2 (some v.d) := ⟨_, rfl⟩
      have get : E2[2]? = some (some v.d) := by
        rw [hE]
        exact List.getElem?_set_self (by show 2 < ((wipeE env []).set 2 none).length; rw [List.length_set]; exact hi)
      show ((mTru (mFn F_is_integer 1 (mCons (mVar 2) mNil)) ((wipeE env [2]).set 2 (some v.d)) c).ne.bind _) = _
      rw [← hE]
      cases v with
      | i k =>
        rw [show mTru (mFn F_is_integer 1 (mCons (mVar 2) mNil)) E2 c = .ok true c from eTru (eFn (eCons (eV get) eNil) rfl (isInt_int k c)) rfl]
        show ((mVar 2 E2 c).ne.bind fun y c3 => match y with
          | .int k => if acc.length < 60 then siS (srcT t L ((vs.map Vl.d).length + 1)) (gN 2) [2] (mTru (mFn F_is_integer 1 (mCons (mVar 2) mNil))) (mVar 2) env n (i + 1) (acc ++ [k]) c3 else .stk
          | _ => .stk) = _
        rw [show mVar 2 E2 c = .ok (.int k) c from eV get]
        show (if acc.length < 60 then siS (srcT t L ((vs.map Vl.d).length + 1)) (gN 2) [2] (mTru (mFn F_is_integer 1 (mCons (mVar 2) mNil))) (mVar 2) env n (i + 1) (acc ++ [k]) c else .stk) = _
        rw [if_pos (by omega), si_run hi hv hl n (i + 1) (acc ++ [k]) (by rw [List.length_append]; show acc.length + 1 ≤ i + 1; omega) (by omega) (by omega), dr, List.append_assoc]
        rfl
      | bot =>
        rw [show mTru (mFn F_is_integer 1 (mCons (mVar 2) mNil)) E2 c = .ok false c from eTru (eFn (eCons (eV get) eNil) rfl (isInt_str _ c)) rfl]
        show siS (srcT t L ((vs.map Vl.d).length + 1)) (gN 2) [2] (mTru (mFn F_is_integer 1 (mCons (mVar 2) mNil))) (mVar 2) env n (i + 1) acc c = _
        rw [si_run hi hv hl n (i + 1) acc (by omega) (by omega) (by omega), dr]
        rfl
      | top =>
        rw [show mTru (mFn F_is_integer 1 (mCons (mVar 2) mNil)) E2 c = .ok false c from eTru (eFn (eCons (eV get) eNil) rfl (isInt_str _ c)) rfl]
        show siS (srcT t L ((vs.map Vl.d).length + 1)) (gN 2) [2] (mTru (mFn F_is_integer 1 (mCons (mVar 2) mNil))) (mVar 2) env n (i + 1) acc c = _
        rw [si_run hi hv hl n (i + 1) acc (by omega) (by omega) (by omega), dr]
        rfl
    · have : i = vs.length := by omega
      subst this
      rw [List.getElem?_eq_none (Nat.le_refl _), List.drop_length]
      show R.ok acc c = _
      rw [show nums [] = [] from rfl, List.append_nil]
def due (vs : List Vl) : List D := (ascI (nums vs)).reverse.map D.int
theorem F_ints {L : D} {t : Tg} {vs : List Vl} {c : Cells} (hv : view c L = some (t, vs.map Vl.d)) (ht : sqTg t = true) (hl : vs.length ≤ 20) : F_integers_in [L] c = .ok (.cell c.length) (c ++ [(.lst, due vs)]) := by
  refine bodyR ?_
  unfold m_integers_in sSetSorted
  rw [if_pos (show 1 < (enter 3 [L]).length from (by decide : 1 < 3))]
  rw [show mWalk (mVar 0) (enter 3 [L]) c = .ok (srcT t L ((vs.map Vl.d).length + 1)) c from eWalk (eV rfl) hv ht]
  show (siS (srcT t L ((vs.map Vl.d).length + 1)) (gN 2) [2] (mTru (mFn F_is_integer 1 (mCons (mVar 2) mNil))) (mVar 2) (enter 3 [L]) ((vs.map Vl.d).length + 1) 0 [] c).st _ siEnd = _
  rw [si_run (by show 2 < 3; decide) hv hl _ 0 [] (Nat.zero_le _) (Nat.zero_le _) (by simp)]
  rfl
theorem isList {L : D} {t : Tg} {ds : List D} {c : Cells} (hv : view c L = some (t, ds)) (ht : sqTg t = true) : F_is_list [L] c = .ok (.bl true) c := by
  have ty : ∃ T, tyD c L = some T ∧ isAny T ["list", "tuple"] = some true := by
    have e : tyD c L = (match view c L with
      | some (.lst, _) => some "list"
      | some (.frl, _) => some "list"
      | some (.tup, _) => some "tuple"
      | some (.dic _, _) => some "dict"
      | some (.dit _, _) => some "dict"
      | _ => none) := by
      cases L <;> first | rfl | cases hv
    rw [e, hv]
    cases t <;> first | exact ⟨_, rfl, by decide⟩ | cases ht
  obtain ⟨T, h1, h2⟩ := ty
  exact bodyR (stR (e1' (eV rfl) (isi h1 h2)))
theorem F_levels {L : D} {t : Tg} {vs : List Vl} {c : Cells} (hv : view c L = some (t, vs.map Vl.d)) (ht : sqTg t = true) (hl : vs.length ≤ 20) : F_levels_of [L] c = .ok (.cell c.length) (c ++ [(.lst, due vs)]) := by
  have al : mLc false (mWalk (mVar 0)) (gN 1) [1] bYes (mFn F_is_value 1 (mCons (mVar 1) mNil)) (enter 2 [L]) c = .ok (.lst ((vs.map Vl.d).map fun _ => D.bl true)) c :=
    lcMap (fun _ => .bl true) (eV rfl) hv ht (by rw [List.length_map]; omega) fun x hx => by
      obtain ⟨v, _, rfl⟩ := List.mem_map.mp hx
      exact eFn (eCons (eV rfl) eNil) rfl (isVal v c)
  have a2 : bAll [.lst ((vs.map Vl.d).map fun _ => D.bl true)] c = some (.bl true, c) := by
    rw [allM (fun _ => true)]
    simp
  exact bodyR (sqN (stIF (eOrF (eNot (b := true) (eTru (eFn (eCons (eV rfl) eNil) rfl (isList hv ht)) rfl)) (eNot (b := true) (eTru (eCall (eCons al eNil) a2) rfl))) rfl) (stR (eFn (eCons (eV rfl) eNil) rfl (F_ints hv ht hl))))
/-- what is no list -/
theorem F_levels_x {x : D} {c : Cells} (h : F_is_list [x] c = .ok (.bl false) c) : F_levels_of [x] c = .err (xVal "InvalidValues" x) c :=
  bodyE (sqE (stIT (eOrT (eNot (b := false) (eTru (eFn (eCons (eV rfl) eNil) rfl h) rfl))) (stRaise (eCons (eV rfl) eNil) rfl)))
/-- a list with something that is no value -/
theorem F_levels_y {L x : D} {t : Tg} {ds : List D} {c : Cells} (hv : view c L = some (t, ds)) (ht : sqTg t = true) (hl : ds.length ≤ 20) (b : D → Bool) (hb : ∀ d ∈ ds, F_is_value [d] c = .ok (.bl (b d)) c) (hx : x ∈ ds) (hbx : b x = false) : F_levels_of [L] c = .err (xVal "InvalidValues" L) c := by
  have al : mLc false (mWalk (mVar 0)) (gN 1) [1] bYes (mFn F_is_value 1 (mCons (mVar 1) mNil)) (enter 2 [L]) c = .ok (.lst (ds.map fun d => D.bl (b d))) c :=
    lcMap (fun d => .bl (b d)) (eV rfl) hv ht (by omega) fun x hx => eFn (eCons (eV rfl) eNil) rfl (hb x hx)
  have a2 : bAll [.lst (ds.map fun d => D.bl (b d))] c = some (.bl false, c) := by
    rw [allM b]
    have : ds.all b = false := by
      rw [List.all_eq_false]
      exact ⟨x, hx, by rw [hbx]; decide⟩
    rw [this]
  exact bodyE (sqE (stIT (eOrF (eNot (b := true) (eTru (eFn (eCons (eV rfl) eNil) rfl (isList hv ht)) rfl)) (eNot (b := false) (eTru (eCall (eCons al eNil) a2) rfl))) (stRaise (eCons (eV rfl) eNil) rfl)))
/-! ### extremes -/
theorem F_ext0 {L : D} {t : Tg} {ds : List D} {c : Cells} {r : R D} (hv : view c L = some (t, ds)) (ht : sqTg t = true) (h1 : 0 < ds.length) (h4 : ds.length ≤ 4) (hr : F_lesser_of ds c = r) : F__law_extreme [.int 0, L] c = r := by
  have ln : ∀ e : Q.Env, e[1]? = some (some L) → mCall bLen (mCons (mVar 1) mNil) e c = .ok (.int ds.length) c := fun e he => eCall (eCons (eV he) eNil) (lenL hv ht)
  have ix : ∀ {k : Int} {d : D}, atI ds k = some d → ∀ e : Q.Env, e[1]? = some (some L) → m2 fIx (mVar 1) (mC (.int k)) e c = .ok d c := fun {k d} ha e he => e2 (eV he) eC (by
    have sv : seqView c L = some ds := by
      unfold seqView
      rw [hv]
      cases t <;> first | rfl | cases ht
    have : fIx L (.int k) c = (seqView c L).bind fun ds => (atI ds k).map fun d => (d, c) := by
      cases L <;> first | rfl | cases hv
    rw [this, sv]
    show (atI ds k).map _ = _
    rw [ha]
    rfl)
  unfold F__law_extreme bodyF m__law_extreme
  have E : ∀ (k : Int) (K : MS), (ds.length : Int) ≠ k → sIf (mT (m2 fEq (mCall bLen (mCons (mVar 1) mNil)) (mC (.int k)))) K sNil (enter 2 [.int 0, L]) c = .ok (.nx (enter 2 [.int 0, L])) c := fun k K hne =>
    stIF (eT (e2 (ln _ rfl) eC (eqI.trans (by rw [decide_eq_false hne])))) rfl
  have Y : ∀ (k : Int) (K : MS), (ds.length : Int) = k → sIf (mT (m2 fEq (mCall bLen (mCons (mVar 1) mNil)) (mC (.int k)))) K sNil (enter 2 [.int 0, L]) c = K (enter 2 [.int 0, L]) c := fun k K hn =>
    stIT (eT (e2 (ln _ rfl) eC (eqI.trans (by rw [decide_eq_true hn])))) rfl
  have z0 : mT (m2 fEq (mVar 0) (mC (.int 0))) (enter 2 [.int 0, L]) c = .ok true c := eT (e2 (eV rfl) eC (eqI.trans rfl))
  rcases ds with _ | ⟨a, _ | ⟨b, _ | ⟨d, _ | ⟨f, _ | ⟨g, ds⟩⟩⟩⟩⟩
  · simp at h1
  · rw [sqN (E 0 _ (by simp)) rfl, sqF (Y 1 _ (by simp)) (fun e c' => retFin e c'), retOut]
    exact eIfT z0 (eFnS (eCons (ix rfl _ rfl) eNil) hr)
  · rw [sqN (E 0 _ (by simp)) rfl, sqN (E 1 _ (by simp)) rfl, sqF (Y 2 _ (by simp)) (fun e c' => retFin e c'), retOut]
    exact eIfT z0 (eFnS (eCons (ix rfl _ rfl) (eCons (ix rfl _ rfl) eNil)) hr)
  · rw [sqN (E 0 _ (by simp)) rfl, sqN (E 1 _ (by simp)) rfl, sqN (E 2 _ (by simp)) rfl, sqF (Y 3 _ (by simp)) (fun e c' => retFin e c'), retOut]
    exact eIfT z0 (eFnS (eCons (ix rfl _ rfl) (eCons (ix rfl _ rfl) (eCons (ix rfl _ rfl) eNil))) hr)
  · rw [sqN (E 0 _ (by simp)) rfl, sqN (E 1 _ (by simp)) rfl, sqN (E 2 _ (by simp)) rfl, sqN (E 3 _ (by simp)) rfl]
    rw [sqF (k2 := _) (stIT z0 rfl) (fun e c' => retFin e c'), retOut]
    exact eFnS (eCons (ix rfl _ rfl) (eCons (ix rfl _ rfl) (eCons (ix rfl _ rfl) (eCons (ix rfl _ rfl) eNil)))) hr
  · simp at h4
theorem F_ext1 {L : D} {t : Tg} {ds : List D} {c : Cells} {r : R D} (hv : view c L = some (t, ds)) (ht : sqTg t = true) (h1 : 0 < ds.length) (h4 : ds.length ≤ 4) (hr : F_greater_of ds c = r) : F__law_extreme [.int 1, L] c = r := by
  have ln : ∀ e : Q.Env, e[1]? = some (some L) → mCall bLen (mCons (mVar 1) mNil) e c = .ok (.int ds.length) c := fun e he => eCall (eCons (eV he) eNil) (lenL hv ht)
  have ix : ∀ {k : Int} {d : D}, atI ds k = some d → ∀ e : Q.Env, e[1]? = some (some L) → m2 fIx (mVar 1) (mC (.int k)) e c = .ok d c := fun {k d} ha e he => e2 (eV he) eC (by
    have sv : seqView c L = some ds := by
      unfold seqView
      rw [hv]
      cases t <;> first | rfl | cases ht
    have : fIx L (.int k) c = (seqView c L).bind fun ds => (atI ds k).map fun d => (d, c) := by
      cases L <;> first | rfl | cases hv
    rw [this, sv]
    show (atI ds k).map _ = _
    rw [ha]
    rfl)
  unfold F__law_extreme bodyF m__law_extreme
  have E : ∀ (k : Int) (K : MS), (ds.length : Int) ≠ k → sIf (mT (m2 fEq (mCall bLen (mCons (mVar 1) mNil)) (mC (.int k)))) K sNil (enter 2 [.int 1, L]) c = .ok (.nx (enter 2 [.int 1, L])) c := fun k K hne =>
    stIF (eT (e2 (ln _ rfl) eC (eqI.trans (by rw [decide_eq_false hne])))) rfl
  have Y : ∀ (k : Int) (K : MS), (ds.length : Int) = k → sIf (mT (m2 fEq (mCall bLen (mCons (mVar 1) mNil)) (mC (.int k)))) K sNil (enter 2 [.int 1, L]) c = K (enter 2 [.int 1, L]) c := fun k K hn =>
    stIT (eT (e2 (ln _ rfl) eC (eqI.trans (by rw [decide_eq_true hn])))) rfl
  have z0 : mT (m2 fEq (mVar 0) (mC (.int 0))) (enter 2 [.int 1, L]) c = .ok false c := eT (e2 (eV rfl) eC (eqI.trans rfl))
  rcases ds with _ | ⟨a, _ | ⟨b, _ | ⟨d, _ | ⟨f, _ | ⟨g, ds⟩⟩⟩⟩⟩
  · simp at h1
  · rw [sqN (E 0 _ (by simp)) rfl, sqF (Y 1 _ (by simp)) (fun e c' => retFin e c'), retOut]
    exact eIfF z0 (eFnS (eCons (ix rfl _ rfl) eNil) hr)
  · rw [sqN (E 0 _ (by simp)) rfl, sqN (E 1 _ (by simp)) rfl, sqF (Y 2 _ (by simp)) (fun e c' => retFin e c'), retOut]
    exact eIfF z0 (eFnS (eCons (ix rfl _ rfl) (eCons (ix rfl _ rfl) eNil)) hr)
  · rw [sqN (E 0 _ (by simp)) rfl, sqN (E 1 _ (by simp)) rfl, sqN (E 2 _ (by simp)) rfl, sqF (Y 3 _ (by simp)) (fun e c' => retFin e c'), retOut]
    exact eIfF z0 (eFnS (eCons (ix rfl _ rfl) (eCons (ix rfl _ rfl) (eCons (ix rfl _ rfl) eNil))) hr)
  · rw [sqN (E 0 _ (by simp)) rfl, sqN (E 1 _ (by simp)) rfl, sqN (E 2 _ (by simp)) rfl, sqN (E 3 _ (by simp)) rfl]
    rw [sqN (stIF z0 rfl) rfl, retOut]
    exact eFnS (eCons (ix rfl _ rfl) (eCons (ix rfl _ rfl) (eCons (ix rfl _ rfl) (eCons (ix rfl _ rfl) eNil)))) hr
  · simp at h4
theorem F_ext_nil {L : D} {t : Tg} {c : Cells} (hv : view c L = some (t, [])) (ht : sqTg t = true) (w : Bool) : F__law_extreme [.int (if w then 1 else 0), L] c = .ok (if w then .str "bottom" else .str "top") c := by
  have l0 : F_lesser_of [] c = .ok (.str "top") c := F_lesser (vs := []) (fun v hv => by cases hv) (by decide) c
  have l1 : F_greater_of [] c = .ok (.str "bottom") c := F_greater (vs := []) (fun v hv => by cases hv) (by decide) c
  have ln : ∀ e : Q.Env, e[1]? = some (some L) → mCall bLen (mCons (mVar 1) mNil) e c = .ok (.int 0) c := fun e he => eCall (eCons (eV he) eNil) (lenL hv ht)
  cases w with
  | false => exact bodyR (sqR (stIT (eT (e2 (ln _ rfl) eC (eqI.trans rfl))) (stR (e2 (eLst (eCons (eFnS eNil l0) (eCons (eFnS eNil l1) eNil))) (eV rfl) (ixL rfl)))))
  | true => exact bodyR (sqR (stIT (eT (e2 (ln _ rfl) eC (eqI.trans rfl))) (stR (e2 (eLst (eCons (eFnS eNil l0) (eCons (eFnS eNil l1) eNil))) (eV rfl) (ixL rfl)))))
end K11
end
section
set_option Elab.async false
set_option linter.all false
set_option maxRecDepth 100000
namespace K11
open PySem PySem.Spec L2 Q
variable [Tb]
theorem siB (b : Bool) : Si 1 300 (.bool b) := ⟨rfl, by simp [PyData.depth], rfl, Nat.zero_le _⟩
theorem neSame {s : Str} {c : Cells} : fNe (.str s) (.str s) c = some (.bl false, c) := by
  rw [neS, decide_eq_true rfl]
  rfl
theorem eqSame {s : Str} {c : Cells} : fEq (.str s) (.str s) c = some (.bl true, c) := by
  rw [eqS, decide_eq_true rfl]
theorem neBl {a b : Bool} {c : Cells} (h : a = b) : fNe (.bl a) (.bl b) c = some (.bl false, c) := by
  subst h
  have e2 : fEqS true (.bl a) (.bl a) c = some (.bl (!decide (V.bl a = V.bl a)), c) := rfl
  unfold fNe orO
  rw [e2, decide_eq_true rfl]
  rfl
theorem catD {xs ys : List D} {x y : D} {c : Cells} (hx : view c x = some (.lst, xs)) (hy : view c y = some (.lst, ys)) (hl : xs.length + ys.length ≤ 1000) : fAdd x y c = some (.lst (xs ++ ys), c) := by
  have sm : (1000 : Nat) ≤ sizeLine := by decide
  have h1 : fAddI x y c = none := by
    cases x <;> first | rfl | cases hx
  have h2 : fAddS x y c = none := by
    cases x <;> first | rfl | cases hx
  have h3 : fCatL x y c = some (.lst (xs ++ ys), c) := by
    unfold fCatL
    rw [hx, hy]
    exact if_pos (by omega)
  unfold fAdd orO
  rw [h1]
  dsimp only
  rw [h2]
  dsimp only
  rw [h3]
def eqb : Vl → Vl → Bool
  | .bot, .bot => true
  | .top, .top => true
  | .i a, .i b => decide (a = b)
  | _, _ => false
theorem eqVl {v u : Vl} {c : Cells} : fEq v.d u.d c = some (.bl (eqb v u), c) := by
  cases v with
  | bot =>
    cases u with
    | bot => exact eqS
    | top => exact eqS
    | i n => rfl
  | top =>
    cases u with
    | bot => exact eqS
    | top => exact eqS
    | i n => rfl
  | i m =>
    cases u with
    | bot => rfl
    | top => rfl
    | i n => exact eqI
theorem eqEnd {a b : Bool} {c : Cells} : fEq (endD a) (endD b) c = some (.bl (decide (a = b)), c) := by
  cases a <;> cases b <;> exact eqS
def near (v u : Vl) : List Int := nums [v, u] ++ (nums [v, u]).map (· + 1) ++ [0]
theorem near_iff {v u : Vl} (hv : v.ok) (hu : u.ok) : (∀ r ∈ near v u, (r ≤ v.num ↔ r ≤ u.num)) ↔ eqb v u = true := by
  have key : ∀ (f : Int → Prop) (xs : List Int) (y : Int), (∀ r ∈ xs ++ xs.map (· + 1) ++ [y], f r) ↔ (∀ x ∈ xs, f x ∧ f (x + 1)) ∧ f y := fun f xs y => by
    constructor
    · intro h
      refine ⟨fun x hx => ⟨h x (by simp [hx]), h (x + 1) (by simp [hx])⟩, h y (by simp)⟩
    · rintro ⟨h1, h2⟩ r hr
      rcases List.mem_append.mp hr with hr | hr
      · rcases List.mem_append.mp hr with hr | hr
        · exact (h1 r hr).1
        · obtain ⟨x, hx, rfl⟩ := List.mem_map.mp hr
          exact (h1 x hx).2
      · rw [List.mem_singleton.mp hr]
        exact h2
  unfold near
  rw [key]
  have p : (0 : Int) ≤ 10 ^ 64 := by decide
  cases v <;> cases u <;> simp only [nums, Vl.num, eqb, Vl.ok, List.mem_cons, List.not_mem_nil, or_false, forall_eq_or_imp, forall_eq, false_imp_iff, implies_true, true_and, decide_eq_true_eq, Bool.false_eq_true, iff_false, iff_true] at * <;> omega
theorem near_all {v u : Vl} (hv : v.ok) (hu : u.ok) : (near v u).all (fun r => decide (decide (r ≤ v.num) = decide (r ≤ u.num))) = eqb v u := by
  rw [Bool.eq_iff_iff, List.all_eq_true, ← near_iff hv hu]
  exact ⟨fun h r hr => decide_eq_decide.mp (of_decide_eq_true (h r hr)), fun h r hr => decide_eq_true (decide_eq_decide.mpr (h r hr))⟩
theorem near_ok {v u : Vl} (hv : v.ok) (hu : u.ok) : ∀ r ∈ near v u, -(10 ^ 62) < r ∧ r < 10 ^ 62 := by
  intro r hr
  have ok : OkL [v, u] := fun x hx => by
    rcases List.mem_cons.mp hx with e | e
    · rw [e]; exact hv
    · rw [List.mem_singleton.mp e]; exact hu
  have k := ints_ok ok
  rcases List.mem_append.mp hr with h | h
  · rcases List.mem_append.mp h with h | h
    · have := k r h
      omega
    · obtain ⟨n, hn, rfl⟩ := List.mem_map.mp h
      have := k n hn
      omega
  · rw [List.mem_singleton.mp h]
    omega
theorem near_len (v u : Vl) : (near v u).length ≤ 5 := by
  have := ints_len [v, u]
  simp [near] at *
  omega
theorem F_pairs {L : D} {vs : List Vl} {c : Cells} (hv : view c L = some (.lst, vs.map Vl.d)) (hok : OkL vs) (hl : vs.length ≤ 20) : F__law_pairs_right [L] c = .ok (.bl true) c := by
  -- one pair
  have one : ∀ (v u : Vl) (o3 o4 o5 o6 o7 : Option D), v.ok → u.ok → ∃ o3' o4', (sSeq (sIf (mT (m2 fNe (mCall bRepr (mCons (mFn F_is_at_least 2 (mCons (mVar 1) (mCons (mVar 2) mNil))) mNil)) (mCall bRepr (mCons (m2 fGe (mFn F__law_number 1 (mCons (mVar 1) mNil)) (mFn F__law_number 1 (mCons (mVar 2) mNil))) mNil)))) (sRet (mC (.bl false))) sNil)
      (sSeq (sSet 3 (mLc false (mWalk (mLst (mCons (mVar 1) (mCons (mVar 2) mNil)))) (gN 5) [5] (mT (m2 fNotIn (mVar 5) (mTup (mCons (mC (.str "bottom")) (mCons (mC (.str "top")) mNil))))) (mVar 5)))
      (sSeq (sSet 4 (m2 fAdd (m2 fAdd (mVar 3) (mLc false (mWalk (mVar 3)) (gN 6) [6] bYes (m2 fAdd (mVar 6) (mC (.int 1))))) (mLst (mCons (mC (.int 0)) mNil))))
      (sIf (mT (m2 fNe (mCall bAll (mCons (mLc false (mWalk (mVar 4)) (gN 7) [7] bYes (m2 fEq (mFn F_at_level 2 (mCons (mVar 1) (mCons (mVar 7) mNil))) (mFn F_at_level 2 (mCons (mVar 2) (mCons (mVar 7) mNil))))) mNil)) (m2 fEq (mVar 1) (mVar 2)))) (sRet (mC (.bl false))) sNil))))
      [some L, some v.d, some u.d, o3, o4, o5, o6, o7] c = .ok (.nx [some L, some v.d, some u.d, o3', o4', o5, o6, o7]) c := fun v u o3 o4 o5 o6 o7 hv hu => by
    have r : ∀ b : Bool, bRepr [.bl b] c = some (.str (PyData.bool b).shown, c) := fun b => rOk (siB b) rfl
    obtain ⟨ms, hms⟩ : ∃ ms, ms = nums [v, u] := ⟨_, rfl⟩
    have ml : ms.length ≤ 2 := by rw [hms]; exact ints_len [v, u]
    have lc1 : mLc false (mWalk (mLst (mCons (mVar 1) (mCons (mVar 2) mNil)))) (gN 5) [5] (mT (m2 fNotIn (mVar 5) (mTup (mCons (mC (.str "bottom")) (mCons (mC (.str "top")) mNil))))) (mVar 5) [some L, some v.d, some u.d, o3, o4, o5, o6, o7] c = .ok (.lst (ms.map D.int)) c := by
      rw [hms]
      exact lcInts (vs := [v, u]) (eLst (eCons (eV rfl) (eCons (eV rfl) eNil))) (by simp) (show view c (.lst [v.d, u.d]) = _ from rfl) rfl (by simp)
    have lc2 : mLc false (mWalk (mVar 3)) (gN 6) [6] bYes (m2 fAdd (mVar 6) (mC (.int 1))) [some L, some v.d, some u.d, some (.lst (ms.map D.int)), o4, o5, o6, o7] c = .ok (.lst ((ms.map (· + 1)).map D.int)) c := by
      have e := lcMap (m := mVar 3) (te := m2 fAdd (mVar 6) (mC (.int 1))) (env := [some L, some v.d, some u.d, some (.lst (ms.map D.int)), o4, o5, o6, o7]) (c := c) (i := 6) (L := .lst (ms.map D.int)) (t := .lst) (ds := ms.map D.int) (fun d => match d with | .int n => .int (n + 1) | d => d) (eV rfl) rfl rfl (by rw [List.length_map]; omega) (fun x hx => by
        obtain ⟨n, _, rfl⟩ := List.mem_map.mp hx
        exact e2 (eV rfl) eC addI)
      rw [e, List.map_map, List.map_map]
      rfl
    obtain ⟨nr, hnr⟩ : ∃ nr, nr = near v u := ⟨_, rfl⟩
    have en : (.lst (ms.map D.int ++ (ms.map (· + 1)).map D.int ++ [.int 0]) : D) = .lst (nr.map D.int) := by
      rw [hnr, hms]
      simp [near]
    have lc3 : mLc false (mWalk (mVar 4)) (gN 7) [7] bYes (m2 fEq (mFn F_at_level 2 (mCons (mVar 1) (mCons (mVar 7) mNil))) (mFn F_at_level 2 (mCons (mVar 2) (mCons (mVar 7) mNil)))) [some L, some v.d, some u.d, some (.lst (ms.map D.int)), some (.lst (nr.map D.int)), o5, o6, o7] c = .ok (.lst (nr.map fun r => .bl (decide (decide (r ≤ v.num) = decide (r ≤ u.num))))) c := by
      have nl := near_len v u
      have e := lcMap (m := mVar 4) (te := m2 fEq (mFn F_at_level 2 (mCons (mVar 1) (mCons (mVar 7) mNil))) (mFn F_at_level 2 (mCons (mVar 2) (mCons (mVar 7) mNil)))) (env := [some L, some v.d, some u.d, some (.lst (ms.map D.int)), some (.lst (nr.map D.int)), o5, o6, o7]) (c := c) (i := 7) (L := .lst (nr.map D.int)) (t := .lst) (ds := nr.map D.int)
        (fun d => match d with | .int r => .bl (decide (decide (r ≤ v.num) = decide (r ≤ u.num))) | d => d) (eV rfl) rfl rfl (by rw [List.length_map, hnr]; omega) (fun x hx => by
        obtain ⟨n, hn, rfl⟩ := List.mem_map.mp hx
        rw [hnr] at hn
        have b := near_ok hv hu n hn
        exact e2 (eFn (eCons (eV rfl) (eCons (eV rfl) eNil)) rfl (F_at hv.w b c)) (eFn (eCons (eV rfl) (eCons (eV rfl) eNil)) rfl (F_at hu.w b c)) eqEnd)
      rw [e, List.map_map]
      rfl
    have al := allM (fun r => decide (decide (r ≤ v.num) = decide (r ≤ u.num))) nr c
    have na : nr.all (fun r => decide (decide (r ≤ v.num) = decide (r ≤ u.num))) = eqb v u := by rw [hnr]; exact near_all hv hu
    refine ⟨some (.lst (ms.map D.int)), some (.lst (nr.map D.int)), ?_⟩
    refine sqN (stIF (eT (e2 (eCall (eCons (eFn (eCons (eV rfl) (eCons (eV rfl) eNil)) rfl (F_ge hv.w hu.w c)) eNil) (r _)) (eCall (eCons (e2 (eFn (eCons (eV rfl) eNil) rfl (F_number v c)) (eFn (eCons (eV rfl) eNil) rfl (F_number u c)) geI) eNil) (r _)) neSame)) rfl) ?_
    refine sqN (stS lc1) (sqN (stS (e2 (e2 (eV rfl) lc2 (catD (xs := ms.map D.int) (ys := (ms.map (· + 1)).map D.int) rfl rfl (by rw [List.length_map, List.length_map, List.length_map]; omega))) (eLst (eCons eC eNil)) ((catD (ys := [.int 0]) rfl rfl (by rw [List.length_append, List.length_map, List.length_map, List.length_map]; show _ + 1 ≤ 1000; omega)).trans (by rw [en])))) ?_)
    exact stIF (eT (e2 (eCall (eCons lc3 eNil) al) (e2 (eV rfl) (eV rfl) eqVl) (neBl na))) rfl
  -- the walks
  obtain ⟨E3, c3, q, _, hc⟩ := stFor (m := mVar 0) (g := gN 1) (env := enter 8 [L]) (c := c) (c1 := c) (L := L) (ds := vs.map Vl.d) (k := sFor (mWalk (mVar 0)) (gN 2) _) (fun i env c' => (∃ o1 o2 o3 o4 o5 o6 o7 : Option D, env = [some L, o1, o2, o3, o4, o5, o6, o7]) ∧ c' = c) (eV rfl) hv rfl (fun _ _ c' h => by rw [h.2]; exact hv) ⟨⟨none, none, none, none, none, none, none, rfl⟩, rfl⟩
    (fun i x env c' hx ⟨⟨o1, o2, o3, o4, o5, o6, o7, he⟩, hc⟩ => by
      subst he hc
      obtain ⟨v, hvm, rfl⟩ := List.mem_map.mp (List.mem_of_getElem? hx)
      obtain ⟨E2, c2, q, ⟨p2, p3, p4, p5, p6, p7, he⟩, hc⟩ := stFor (m := mVar 0) (g := gN 2) (env := [some L, some v.d, o2, o3, o4, o5, o6, o7]) (c := c') (c1 := c') (L := L) (ds := vs.map Vl.d) (fun i env c2 => (∃ o2 o3 o4 o5 o6 o7 : Option D, env = [some L, some v.d, o2, o3, o4, o5, o6, o7]) ∧ c2 = c') (eV rfl) hv rfl (fun _ _ c' h => by rw [h.2]; exact hv) ⟨⟨o2, o3, o4, o5, o6, o7, rfl⟩, rfl⟩
        (fun i x env c2 hx ⟨⟨o2, o3, o4, o5, o6, o7, he⟩, hc⟩ => by
          subst he hc
          obtain ⟨u, hum, rfl⟩ := List.mem_map.mp (List.mem_of_getElem? hx)
          obtain ⟨o3', o4', h⟩ := one v u o3 o4 o5 o6 o7 (hok v hvm) (hok u hum)
          exact ⟨[some L, some v.d, some u.d, o3, o4, o5, o6, o7], c2, rfl, _, c2, h, ⟨_, _, _, _, _, _, rfl⟩, rfl⟩)
      exact ⟨[some L, some v.d, o2, o3, o4, o5, o6, o7], c', rfl, E2, c2, q, ⟨some v.d, p2, p3, p4, p5, p6, p7, he⟩, hc⟩)
  rw [hc] at q
  exact bodyR (sqN q (stR eC))
end K11
end
section
set_option Elab.async false
set_option linter.all false
set_option maxRecDepth 100000
namespace K11
open PySem PySem.Spec L2 Q
variable [Tb]
theorem ixEnd {b : Bool} {c : Cells} : fIx (.lst [.str "bottom", .str "top"]) (.int (if b then 1 else 0)) c = some (endD b, c) := by cases b <;> exact ixL rfl
theorem siEnd {b : Bool} {c : Cells} : bRepr [endD b] c = some (.str (PyData.str (if b then "top" else "bottom")).shown, c) := by
  cases b
  · exact rOk (k := 1) (w := 300) (p := .str "bottom") ⟨rfl, by simp [PyData.depth], by decide, by decide⟩ rfl
  · exact rOk (k := 1) (w := 300) (p := .str "top") ⟨rfl, by simp [PyData.depth], by decide, by decide⟩ rfl
def own (v : Vl) : List Int := match v with
  | .i n => [n, n + 1, n - 1]
  | _ => []
theorem siDue {vs : List Vl} (hok : OkL vs) (hl : vs.length ≤ 20) : Si 2 (20 * 301) (.list ((ascI (nums vs)).reverse.map PyData.int)) := by
  refine siIs (fun n hn => ints_ok hok n (mem_ascI.mp (List.mem_reverse.mp hn))) ?_
  have e : ∀ ns : List Int, (ascI ns).length ≤ ns.length := fun ns => by
    have ins : ∀ (x : Int) (ys : List Int), (insA x ys).length ≤ ys.length + 1 := fun x ys => by
      induction ys with
      | nil => simp [insA]
      | cons y ys ih =>
        unfold insA
        split
        · simp
        · split
          · simp
          · simp only [List.length_cons]
            omega
    induction ns with
    | nil => simp [ascI]
    | cons n ns ih =>
      have : ascI (n :: ns) = insA n (ascI ns) := rfl
      rw [this]
      have := ins n (ascI ns)
      simp only [List.length_cons]
      omega
  rw [List.length_reverse]
  have := e (nums vs)
  have := ints_len vs
  omega
/-- the walks over levels -/
theorem lev_walk {p q : Nat} {vs : List Vl} {c : Cells} {o2 o3 o4 o5 o6 o7 : Option D} (h : PotC p c) (hq : c[q]? = some (.lst, vs.map Vl.d)) (hqp : q ≠ p) (hok : OkL vs) (hl : vs.length ≤ 20) : ∃ E2 c2 r2 r3 r4 r5 r6 r7, sFor (mWalk (m2 fAdd (mVar 1) (mLst (mCons (mC (.str "bottom")) (mCons (mC (.str "top")) mNil))))) (gN 2)
  (sSeq (sSet 6 (mIf (mT (m2 fNotIn (mVar 2) (mTup (mCons (mC (.str "bottom")) (mCons (mC (.str "top")) mNil))))) (mLst (mCons (mVar 2) (mCons (m2 fAdd (mVar 2) (mC (.int 1))) (mCons (m2 fSub (mVar 2) (mC (.int 1))) mNil)))) (mLst mNil)))
  (sFor (mWalk (m2 fAdd (mVar 6) (mLst (mCons (mC (.int 0)) (mCons (m2 fSub (mFn F__law_draw 2 (mCons (mVar 0) (mCons (mC (.int 41)) mNil))) (mC (.int 20))) (mCons (m2 fPow (mC (.int 10)) (mC (.int 60))) (mCons (m1 fNeg (m2 fPow (mC (.int 10)) (mC (.int 59)))) mNil))))))) (gN 7)
  (sSeq (sSet 3 (m2 fIx (mLst (mCons (mC (.str "bottom")) (mCons (mC (.str "top")) mNil))) (mCall bInt (mCons (m2 fGe (mFn F__law_number 1 (mCons (mVar 2) mNil)) (mVar 7)) mNil))))
  (sIf (mOrT (mT (m2 fNe (mCall bRepr (mCons (mFn F_at_level 2 (mCons (mVar 2) (mCons (mVar 7) mNil))) mNil)) (mCall bRepr (mCons (mVar 3) mNil)))) (mT (m2 fNe (mCall bRepr (mCons (mFnK F_at_level 2 false (mCons (mVar 2) (mCons (mVar 7) mNil))) mNil)) (mCall bRepr (mCons (mVar 3) mNil))))) (sRet (mC (.bl false))) sNil)))) [some (D.cell p), some (D.cell q), o2, o3, o4, o5, o6, o7] c = .ok (.nx E2) c2 ∧ E2 = [some (D.cell p), some (D.cell q), r2, r3, r4, r5, r6, r7] ∧ Nxt p c c2 := by
  have ok2 : OkL (vs ++ [Vl.bot, Vl.top]) := fun v hv => by
    rcases List.mem_append.mp hv with z | z
    · exact hok v z
    · simp at z
      rcases z with e | e <;> rw [e] <;> trivial
  have src : m2 fAdd (mVar 1) (mLst (mCons (mC (.str "bottom")) (mCons (mC (.str "top")) mNil))) [some (D.cell p), some (D.cell q), o2, o3, o4, o5, o6, o7] c = .ok (.lst ((vs ++ [Vl.bot, Vl.top]).map Vl.d)) c := by
    rw [List.map_append]
    exact e2 (eV rfl) (eLst (eCons eC (eCons eC eNil))) (catD (ys := [.str "bottom", .str "top"]) (show view c (.cell q) = some (.lst, vs.map Vl.d) from hq) rfl (by rw [List.length_map]; show vs.length + 2 ≤ 1000; omega))
  obtain ⟨E2, c2, w, ⟨r2, r3, r4, r5, r6, r7, he⟩, hn⟩ := stFor (g := gN 2) (k := sSeq (sSet 6 _) (sFor _ (gN 7) _)) (L := .lst ((vs ++ [Vl.bot, Vl.top]).map Vl.d)) (ds := (vs ++ [Vl.bot, Vl.top]).map Vl.d) (t := .lst) (fun i env c' => (∃ o2 o3 o4 o5 o6 o7 : Option D, env = [some (D.cell p), some (D.cell q), o2, o3, o4, o5, o6, o7]) ∧ Nxt p c c') src rfl rfl (fun _ _ _ _ => rfl) ⟨⟨o2, o3, o4, o5, o6, o7, rfl⟩, Nxt.refl h⟩
    (fun i x env c' hx ⟨⟨o2, o3, o4, o5, o6, o7, he⟩, hn⟩ => by
      subst he
      obtain ⟨v, hvm, rfl⟩ := List.mem_map.mp (List.mem_of_getElem? hx)
      have hv := ok2 v hvm
      obtain ⟨x, c2, ex, x0, x1, n2⟩ := draw hn.pot (n := 41) (by decide) (by decide)
      obtain ⟨ls, hls⟩ : ∃ ls, ls = own v ++ [0, x - 20, 10 ^ 60, -(10 ^ 59)] := ⟨_, rfl⟩
      have lb : ∀ l ∈ ls, -(10 ^ 62) < l ∧ l < 10 ^ 62 := fun l hl => by
        rw [hls] at hl
        rcases List.mem_append.mp hl with z | z
        · cases v with
          | i n =>
            have h1 := hv.1
            have h2 := hv.2
            simp only [own, List.mem_cons, List.not_mem_nil, or_false] at z
            rcases z with e | e | e <;> rw [e] <;> omega
          | _ => cases z
        · simp only [List.mem_cons, List.not_mem_nil, or_false] at z
          rcases z with e | e | e | e <;> rw [e] <;> omega
      have ll : ls.length ≤ 7 := by
        rw [hls]
        cases v <;> simp [own]
      have so : mIf (mT (m2 fNotIn (mVar 2) (mTup (mCons (mC (.str "bottom")) (mCons (mC (.str "top")) mNil))))) (mLst (mCons (mVar 2) (mCons (m2 fAdd (mVar 2) (mC (.int 1))) (mCons (m2 fSub (mVar 2) (mC (.int 1))) mNil)))) (mLst mNil) [some (D.cell p), some (D.cell q), some v.d, o3, o4, o5, o6, o7] c' = .ok (.lst ((own v).map D.int)) c' := by
        have t : mT (m2 fNotIn (mVar 2) (mTup (mCons (mC (.str "bottom")) (mCons (mC (.str "top")) mNil)))) [some (D.cell p), some (D.cell q), some v.d, o3, o4, o5, o6, o7] c' = .ok (isI v.d) c' := eT (e2 (eV rfl) (eTup (eCons eC (eCons eC eNil))) notIn)
        cases v with
        | i n => exact eIfT t (eLst (eCons (eV rfl) (eCons (e2 (eV rfl) eC addI) (eCons (e2 (eV rfl) eC subI) eNil))) (by show 3 ≤ sizeLine; decide))
        | bot => exact eIfF t (eLst eNil)
        | top => exact eIfF t (eLst eNil)
      have src2 : m2 fAdd (mVar 6) (mLst (mCons (mC (.int 0)) (mCons (m2 fSub (mFn F__law_draw 2 (mCons (mVar 0) (mCons (mC (.int 41)) mNil))) (mC (.int 20))) (mCons (m2 fPow (mC (.int 10)) (mC (.int 60))) (mCons (m1 fNeg (m2 fPow (mC (.int 10)) (mC (.int 59)))) mNil))))) [some (D.cell p), some (D.cell q), some v.d, o3, o4, o5, some (.lst ((own v).map D.int)), o7] c' = .ok (.lst (ls.map D.int)) c2 := by
        have e : (.lst (ls.map D.int) : D) = .lst ((own v).map D.int ++ [.int 0, .int (x - 20), .int (10 ^ 60), .int (-(10 ^ 59))]) := by
          rw [hls, List.map_append]
          rfl
        rw [e]
        exact e2 (eV rfl) (eLst (eCons eC (eCons (e2 (eFn (eCons (eV rfl) (eCons eC eNil)) rfl ex) eC subI) (eCons (e2 eC eC p60) (eCons (e1' (e2 eC eC p59) negI) eNil))))) (catD rfl rfl (by
          have : ((own v).map D.int).length + 4 ≤ 1000 := by cases v <;> simp [own]
          exact this))
      obtain ⟨E3, c3, w, ⟨p3, p7, he⟩, hc⟩ := stFor (g := gN 7) (k := sSeq (sSet 3 (m2 fIx (mLst (mCons (mC (.str "bottom")) (mCons (mC (.str "top")) mNil))) (mCall bInt (mCons (m2 fGe (mFn F__law_number 1 (mCons (mVar 2) mNil)) (mVar 7)) mNil)))) (sIf (mOrT (mT (m2 fNe (mCall bRepr (mCons (mFn F_at_level 2 (mCons (mVar 2) (mCons (mVar 7) mNil))) mNil)) (mCall bRepr (mCons (mVar 3) mNil)))) (mT (m2 fNe (mCall bRepr (mCons (mFnK F_at_level 2 false (mCons (mVar 2) (mCons (mVar 7) mNil))) mNil)) (mCall bRepr (mCons (mVar 3) mNil))))) (sRet (mC (.bl false))) sNil)) (L := .lst (ls.map D.int)) (ds := ls.map D.int) (t := .lst)
        (fun i env c3 => (∃ o3 o7 : Option D, env = [some (D.cell p), some (D.cell q), some v.d, o3, o4, o5, some (.lst ((own v).map D.int)), o7]) ∧ c3 = c2) src2 rfl rfl (fun _ _ _ _ => rfl) ⟨⟨o3, o7, rfl⟩, rfl⟩
        (fun i y env c3 hy ⟨⟨o3, o7, he⟩, hc⟩ => by
          subst he hc
          obtain ⟨l, hlm, rfl⟩ := List.mem_map.mp (List.mem_of_getElem? hy)
          have b := lb l hlm
          have at1 := F_at hv.w b c3
          refine ⟨[some (D.cell p), some (D.cell q), some v.d, o3, o4, o5, some (.lst ((own v).map D.int)), some (.int l)], c3, rfl, [some (D.cell p), some (D.cell q), some v.d, some (endD (decide (l ≤ v.num))), o4, o5, some (.lst ((own v).map D.int)), some (.int l)], c3, ?_, ⟨_, _, rfl⟩, rfl⟩
          exact sqN (stS (e2 (eLst (eCons eC (eCons eC eNil))) (eCall (eCons (e2 (eFn (eCons (eV rfl) eNil) rfl (F_number v c3)) (eV rfl) geI) eNil) rfl) ixEnd)) (stIF (eOrF (eT (e2 (eCall (eCons (eFn (eCons (eV rfl) (eCons (eV rfl) eNil)) rfl at1) eNil) siEnd) (eCall (eCons (eV rfl) eNil) siEnd) neSame)) (eT (e2 (eCall (eCons (eFnK (eCons (eV rfl) (eCons (eV rfl) eNil)) rfl at1) eNil) siEnd) (eCall (eCons (eV rfl) eNil) siEnd) neSame))) rfl))
      exact ⟨[some (D.cell p), some (D.cell q), some v.d, o3, o4, o5, o6, o7], c', rfl, E3, c3, sqN (stS so) w, ⟨_, _, _, _, _, _, he⟩, by rw [hc]; exact hn.trans n2⟩)
  exact ⟨E2, c2, r2, r3, r4, r5, r6, r7, w, he, hn⟩
end K11
end
section
set_option Elab.async false
set_option linter.all false
set_option maxRecDepth 100000
namespace K11
open PySem PySem.Spec L2 Q
variable [Tb]
theorem intLs : ∀ ns : List Int, intL (ns.map D.int) = some ns
  | [] => rfl
  | n :: ns => by
    show (intL (ns.map D.int)).map (n :: ·) = _
    rw [intLs ns]
    rfl
theorem lv {L : D} {ds : List D} {c : Cells} (hv : view c L = some (.lst, ds)) : lView c L = some ds := by
  unfold lView
  rw [hv]
theorem F_levR {p q : Nat} {vs : List Vl} {c : Cells} (h : PotC p c) (hq : c[q]? = some (.lst, vs.map Vl.d)) (hqp : q ≠ p) (hok : OkL vs) (hl : vs.length ≤ 20) : ∃ c', F__law_levels_right [.cell p, .cell q] c = .ok (.bl true) c' ∧ Nxt p c c' := by
  obtain ⟨E1, c1, r2, r3, r4, r5, r6, r7, w, he, n1⟩ := lev_walk (o2 := none) (o3 := none) (o4 := none) (o5 := none) (o6 := none) (o7 := none) h hq hqp hok hl
  subst he
  have qlt : q < c.length := (List.getElem?_eq_some_iff.mp hq).1
  have hq1 : view c1 (.cell q) = some (.lst, vs.map Vl.d) := (n1.old q qlt hqp).trans hq
  have qlt1 : q < c1.length := Nat.lt_of_lt_of_le qlt n1.len
  have nl := ints_len vs
  -- what is due
  have li := lcInts (m := mVar 1) (env := [some (D.cell p), some (D.cell q), r2, r3, r4, r5, r6, r7]) (c := c1) (i := 2) (eV rfl) (by simp) hq1 rfl (by omega)
  have ss : fSortedSet (.lst ((nums vs).map D.int)) c1 = some (.lst ((ascI (nums vs)).map D.int), c1) := by
    unfold fSortedSet
    show ((some ((nums vs).map D.int)).bind intL).bind _ = _
    show (intL ((nums vs).map D.int)).bind _ = _
    rw [intLs]
    exact if_pos (by omega)
  have rv : fRev (.lst ((ascI (nums vs)).map D.int)) c1 = some (.lst (due vs), c1) := by
    show some (D.lst ((ascI (nums vs)).map D.int).reverse, c1) = _
    rw [← List.map_reverse]
    rfl
  have siD := siDue hok hl
  have siV := siVs hok hl
  have pd : ∀ {c : Cells} {d : D}, view c d = some (.lst, due vs) → bRepr [d] c = some (.str (PyData.list ((ascI (nums vs)).reverse.map PyData.int)).shown, c) := fun {c d} e => rOk siD (rView e fun f => pyrIs _)
  have pv : ∀ {c : Cells} {d : D}, view c d = some (.lst, vs.map Vl.d) → bRepr [d] c = some (.str (PyData.list (vs.map Vl.p)).shown, c) := fun {c d} e => rOk siV (rView e fun f => pyrVs _)
  -- the cells
  obtain ⟨k1, hk1⟩ : ∃ k1, k1 = c1.length := ⟨_, rfl⟩
  obtain ⟨c2, hc2⟩ : ∃ c2 : Cells, c2 = c1 ++ [(.lst, due vs)] := ⟨_, rfl⟩
  have l2 : c2.length = k1 + 1 := by rw [hc2, hk1]; simp
  have hq2 : view c2 (.cell q) = some (.lst, vs.map Vl.d) := by
    show c2[q]? = _
    rw [hc2, List.getElem?_append_left qlt1]
    exact hq1
  have hk2 : view c2 (.cell k1) = some (.lst, due vs) := by
    show c2[k1]? = _
    rw [hc2, hk1, List.getElem?_append_right (Nat.le_refl _), Nat.sub_self]
    rfl
  have lev1 : F_levels_of [.cell q] c1 = .ok (.cell k1) c2 := by
    rw [hk1, hc2]
    exact F_levels hq1 rfl hl
  obtain ⟨k2, hkk2⟩ : ∃ k2, k2 = c2.length := ⟨_, rfl⟩
  obtain ⟨c3, hc3⟩ : ∃ c3 : Cells, c3 = c2 ++ [(.lst, due vs)] := ⟨_, rfl⟩
  have l3 : c3.length = k1 + 2 := by rw [hc3]; simp [l2]
  have lev2 : F_levels_of [.tup (vs.map Vl.d)] c2 = .ok (.cell k2) c3 := by
    rw [hkk2, hc3]
    exact F_levels (t := .tup) rfl rfl hl
  have up3 : ∀ i, i < c2.length → c3[i]? = c2[i]? := fun i hi => by rw [hc3, List.getElem?_append_left hi]
  have hk3 : view c3 (.cell k2) = some (.lst, due vs) := by
    show c3[k2]? = _
    rw [hc3, hkk2, List.getElem?_append_right (Nat.le_refl _), Nat.sub_self]
    rfl
  have hk13 : c3[k1]? = some (.lst, due vs) := (up3 k1 (by omega)).trans hk2
  have tp : bTuple [.cell q] c2 = some (.tup (vs.map Vl.d), c2) := by
    show (match view c2 (.cell q) with
      | some (.lst, ds) => some (D.tup ds, c2)
      | some (.tup, _) => some (D.cell q, c2)
      | _ => none) = _
    rw [hq2]
  have dl : (due vs).length ≤ 20 := by
    have := siD
    have e : ∀ ns : List Int, (ascI ns).length ≤ ns.length := fun ns => by
      have ins : ∀ (x : Int) (ys : List Int), (insA x ys).length ≤ ys.length + 1 := fun x ys => by
        induction ys with
        | nil => simp [insA]
        | cons y ys ih =>
          unfold insA
          split
          · simp
          · split
            · simp
            · simp only [List.length_cons]
              omega
      induction ns with
      | nil => simp [ascI]
      | cons n ns ih =>
        have z : ascI (n :: ns) = insA n (ascI ns) := rfl
        rw [z]
        have := ins n (ascI ns)
        simp only [List.length_cons]
        omega
    unfold due
    rw [List.length_map, List.length_reverse]
    have := e (nums vs)
    omega
  obtain ⟨c4, hc4⟩ : ∃ c4 : Cells, c4 = c3.set k1 (Tg.lst, due vs ++ [D.str "more"]) := ⟨_, rfl⟩
  have sm : (1000 : Nat) < sizeLine := by decide
  have ap : fAppend (.cell k1) [.str "more"] c3 = some (.non, c4) := by
    show (match c3[k1]? with
      | some (.lst, xs) => if xs.length < sizeLine then some (D.non, c3.set k1 (.lst, xs ++ [D.str "more"])) else none
      | _ => none) = _
    rw [hk13, hc4]
    exact if_pos (by omega)
  have ty : isTy "list" c3 (.cell k1) = true := by
    unfold isTy
    dsimp only
    rw [show view c3 (.cell k1) = some (.lst, due vs) from hk13]
    rfl
  have l4 : c4.length = k1 + 2 := by rw [hc4, List.length_set]; exact l3
  have hq4 : view c4 (.cell q) = some (.lst, vs.map Vl.d) := by
    show c4[q]? = _
    rw [hc4, List.getElem?_set_ne (by omega), up3 q (by omega)]
    exact hq2
  obtain ⟨k3, hk3'⟩ : ∃ k3, k3 = c4.length := ⟨_, rfl⟩
  obtain ⟨c5, hc5⟩ : ∃ c5 : Cells, c5 = c4 ++ [(.lst, due vs)] := ⟨_, rfl⟩
  have lev3 : F_levels_of [.cell q] c4 = .ok (.cell k3) c5 := by
    rw [hk3', hc5]
    exact F_levels hq4 rfl hl
  have hk5 : view c5 (.cell k3) = some (.lst, due vs) := by
    show c5[k3]? = _
    rw [hc5, hk3', List.getElem?_append_right (Nat.le_refl _), Nat.sub_self]
    rfl
  have hq5 : view c5 (.cell q) = some (.lst, vs.map Vl.d) := by
    show c5[q]? = _
    rw [hc5, List.getElem?_append_left (by omega)]
    exact hq4
  have n2 : Nxt p c1 c5 := by
    obtain ⟨a, b, ea, r⟩ := n1.pot
    have plt : p < c1.length := n1.pot.lt
    have all : ∀ i, i < c1.length → c5[i]? = c1[i]? := fun i hi => by
      rw [hc5, List.getElem?_append_left (by omega), hc4, List.getElem?_set_ne (by omega), up3 i (by omega), hc2, List.getElem?_append_left hi]
    exact ⟨⟨a, b, (all p plt).trans ea, r⟩, by rw [hc5]; simp; omega, fun i hi _ => all i hi⟩
  refine ⟨c5, ?_, n1.trans n2⟩
  refine bodyR (sqN w (sqN (stS (e1' (e1' li ss) rv)) (sqN (stS (eCall (eCons (eV rfl) eNil) (pv hq1))) (sqN (stS (eFn (eCons (eV rfl) eNil) rfl lev1)) ?_))))
  refine sqN (stIF (eOrF (eT (e2 (eCall (eCons (eV rfl) eNil) (pd hk2)) (eCall (eCons (eV rfl) eNil) (pd (d := .lst (due vs)) rfl)) neSame)) (eT (e2 (eCall (eCons (eFn (eCons (eCall (eCons (eV rfl) eNil) tp) eNil) rfl lev2) eNil) (pd hk3)) (eCall (eCons (eV rfl) eNil) (pd (d := .lst (due vs)) rfl)) neSame))) rfl) ?_
  exact sqN (stX (eMe (eV rfl) ty (eCons eC eNil) ap)) (stR (eAndV (e2 (eCall (eCons (eFn (eCons (eV rfl) eNil) rfl lev3) eNil) (pd hk5)) (eCall (eCons (eV rfl) eNil) (pd (d := .lst (due vs)) rfl)) eqSame) rfl (e2 (eCall (eCons (eV rfl) eNil) (pv hq5)) (eV rfl) eqSame)))
/-! ### extremes -/
theorem neNil {vs : List Vl} {c : Cells} : fNe (.lst (vs.map Vl.d)) (.lst []) c = some (.bl (!decide (vs = [])), c) := by
  have pl : ∀ (f : Nat → Option PyData) (vs : List Vl), pydL f (vs.map Vl.d) = some (vs.map Vl.p) := fun f vs => by
    induction vs with
    | nil => rfl
    | cons v vs ih =>
      show (match pydW f v.d, pydL f (vs.map Vl.d) with
        | some p, some ps => some (p :: ps)
        | _, _ => none) = _
      rw [ih]
      cases v <;> rfl
  have cl : ∀ vs : List Vl, PyData.canLayAll0 (vs.map Vl.p) = true := fun vs => by
    induction vs with
    | nil => rfl
    | cons v vs ih =>
      show (PyData.canLay0 v.p && PyData.canLayAll0 (vs.map Vl.p)) = true
      rw [ih]
      cases v
      · simp only [Vl.p, PyData.canLay0, Bool.and_true]
        decide +kernel
      · simp only [Vl.p, PyData.canLay0, Bool.and_true]
        decide +kernel
      · rfl
  have dp : ∀ vs : List Vl, PyData.depthAll (vs.map Vl.p) ≤ 1 := fun vs => by
    induction vs with
    | nil => decide
    | cons v vs ih =>
      show max (PyData.depth v.p) (PyData.depthAll (vs.map Vl.p)) ≤ 1
      have : PyData.depth v.p ≤ 1 := by cases v <;> simp [PyData.depth, Vl.p]
      omega
  have sh : SeqAt.shaped (.list (vs.map Vl.p)) = true := by
    unfold SeqAt.shaped
    rw [Bool.and_eq_true]
    refine ⟨?_, decide_eq_true ?_⟩
    · show PyData.canLayAll0 (vs.map Vl.p) = true
      exact cl vs
    · show PyData.depthAll (vs.map Vl.p) + 1 ≤ 64
      have := dp vs
      omega
  have e1 : pyd c (.lst (vs.map Vl.d)) = some (.list (vs.map Vl.p)) := by
    show (pydL (pydC c 6) (vs.map Vl.d)).map PyData.list = _
    rw [pl]
    rfl
  have e2 : pyd c (.lst []) = some (.list []) := rfl
  have e : fEqP true (.lst (vs.map Vl.d)) (.lst []) c = some (.bl (!PyData.eqv (.list (vs.map Vl.p)) (.list [])), c) := by
    unfold fEqP
    rw [e1, e2]
    dsimp only
    rw [sh]
    rfl
  show fEqP true (.lst (vs.map Vl.d)) (.lst []) c = _
  rw [e]
  cases vs <;> rfl
theorem minMax {v : Vl} {r : List Vl} (hok : OkL (v :: r)) (c : Cells) : bMinL [.lst ((v :: r).map fun x => D.int x.num)] c = some (.int (minV v r).num, c) ∧ bMaxL [.lst ((v :: r).map fun x => D.int x.num)] c = some (.int (maxV v r).num, c) := by
  have e : ((v :: r).map fun x => D.int x.num) = ((v :: r).map Vl.num).map D.int := by rw [List.map_map]; rfl
  constructor
  · show ((lView c (.lst ((v :: r).map fun x => D.int x.num))).bind intL).bind _ = _
    show (intL ((v :: r).map fun x => D.int x.num)).bind _ = _
    rw [e, intLs, minV_num]
    rfl
  · show (intL ((v :: r).map fun x => D.int x.num)).bind _ = _
    rw [e, intLs, maxV_num]
    rfl
theorem lcNum {m : ME} {env : Q.Env} {c : Cells} {i : Nat} {L : D} {t : Tg} {vs : List Vl} (h : m env c = .ok L c) (hi : i < env.length) (hv : view c L = some (t, vs.map Vl.d)) (ht : sqTg t = true) (hl : vs.length < 1000) :
    mLc false (mWalk m) (gN i) [i] bYes (mFn F__law_number 1 (mCons (mVar i) mNil)) env c = .ok (.lst (vs.map fun x => D.int x.num)) c := by
  have get : ∀ x : D, (env.set i (some x))[i]? = some (some x) := fun x => List.getElem?_set_self hi
  have e := lcMap (env := env) (i := i) (te := mFn F__law_number 1 (mCons (mVar i) mNil)) (fun d => match d with | .int n => .int n | .str s => if s = "bottom" then .int (-(10 ^ 64)) else .int (10 ^ 64) | d => d) h hv ht (by rw [List.length_map]; exact hl) (fun x hx => by
    obtain ⟨v, _, rfl⟩ := List.mem_map.mp hx
    refine eFn (eCons (eV (get _)) eNil) rfl ((F_number v c).trans ?_)
    cases v <;> rfl)
  rw [e, List.map_map]
  congr 2
  refine List.map_congr_left fun v _ => ?_
  cases v <;> rfl
theorem F_extR {L : D} {vs : List Vl} {c : Cells} (hL : L = .lst (vs.map Vl.d)) (hok : OkL vs) (hl : vs.length ≤ 4) : F__law_extremes_right [L] c = .ok (.bl true) c := by
  subst hL
  have s1 := lcNum (m := mVar 0) (env := enter 4 [.lst (vs.map Vl.d)]) (c := c) (i := 3) (eV rfl) (by show 3 < 4; decide) (t := .lst) rfl rfl (by omega)
  have si2 : ∀ (a b : Vl), a.ok → b.ok → bRepr [.lst [a.d, b.d]] c = some (.str (PyData.list [a.p, b.p]).shown, c) := fun a b ha hb => rOk (siVs (vs := [a, b]) (fun v hv => by
    rcases List.mem_cons.mp hv with e | e
    · rw [e]; exact ha
    · rw [List.mem_singleton.mp e]; exact hb) (by simp)) (rView (ds := [a.d, b.d]) rfl fun f => pyrVs [a, b])
  cases vs with
  | nil =>
    have x0 : F__law_extreme [.int 0, .lst []] c = .ok (.str "top") c := F_ext_nil (t := .lst) rfl rfl false
    have x1 : F__law_extreme [.int 1, .lst []] c = .ok (.str "bottom") c := F_ext_nil (t := .lst) rfl rfl true
    exact bodyR (sqN (stS s1) (sqN (stS (eIfF (eT (e2 (eV rfl) (eLst eNil) (neNil (vs := [])))) (eLst (eCons eC (eCons eC eNil))))) (stR (e2 (eCall (eCons (eLst (eCons (eFn (eCons eC (eCons (eV rfl) eNil)) rfl x0) (eCons (eFn (eCons eC (eCons (eV rfl) eNil)) rfl x1) eNil))) eNil) (si2 .top .bot trivial trivial)) (eCall (eCons (eV rfl) eNil) (si2 .top .bot trivial trivial)) eqSame))))
  | cons v r =>
    obtain ⟨mn, mx⟩ := minMax hok c
    have h0 : (minV v r).ok := hok _ (minV_mem r v)
    have h1 : (maxV v r).ok := hok _ (maxV_mem r v)
    have x0 : F__law_extreme [.int 0, .lst ((v :: r).map Vl.d)] c = .ok (minV v r).d c := F_ext0 (t := .lst) rfl rfl (by simp) (by simpa using hl) (F_lesser hok (by omega) c)
    have x1 : F__law_extreme [.int 1, .lst ((v :: r).map Vl.d)] c = .ok (maxV v r).d c := F_ext1 (t := .lst) rfl rfl (by simp) (by simpa using hl) (F_greater hok (by omega) c)
    exact bodyR (sqN (stS s1) (sqN (stS (eIfT (eT (e2 (eV rfl) (eLst eNil) (neNil (vs := v :: r)))) (eLst (eCons (eFn (eCons (eCall (eCons (eV rfl) eNil) mn) eNil) rfl (F_shown _ h0 c)) (eCons (eFn (eCons (eCall (eCons (eV rfl) eNil) mx) eNil) rfl (F_shown _ h1 c)) eNil))))) (stR (e2 (eCall (eCons (eLst (eCons (eFn (eCons eC (eCons (eV rfl) eNil)) rfl x0) (eCons (eFn (eCons eC (eCons (eV rfl) eNil)) rfl x1) eNil))) eNil) (si2 _ _ h0 h1)) (eCall (eCons (eV rfl) eNil) (si2 _ _ h0 h1)) eqSame))))
end K11
end
section
set_option Elab.async false
set_option linter.all false
set_option maxRecDepth 100000
namespace K11
open PySem PySem.Spec L2 Q
variable [Tb]
theorem ixV {q : Nat} {ds : List D} {k : Int} {d : D} {env : Q.Env} {c : Cells} {i : Nat} (he : env[i]? = some (some (.cell q))) (hq : view c (.cell q) = some (.lst, ds)) (ha : atI ds k = some d) : m2 fIx (mVar i) (mC (.int k)) env c = .ok d c := e2 (eV he) eC (ixC hq ha)
theorem F_eight {p : Nat} {c : Cells} (h : PotC p c) : ∃ c', F__law_eight_right [.cell p] c = .ok (.bl true) c' ∧ Nxt p c c' := by
  obtain ⟨vs, c1, et, hq, hl, hok, n1⟩ := F_things h (m := 8) (by decide)
  obtain ⟨q, hqq⟩ : ∃ q, q = c.length := ⟨_, rfl⟩
  rw [← hqq] at et hq
  rcases vs with _ | ⟨x0, _ | ⟨x1, _ | ⟨x2, _ | ⟨x3, _ | ⟨x4, _ | ⟨x5, _ | ⟨x6, _ | ⟨x7, _ | ⟨x8, xs⟩⟩⟩⟩⟩⟩⟩⟩⟩
  all_goals first | (simp at hl; done) | skip
  obtain ⟨r, hr⟩ : ∃ r, r = [x1, x2, x3, x4, x5, x6, x7] := ⟨_, rfl⟩
  have hq1 : view c1 (.cell q) = some (.lst, (x0 :: r).map Vl.d) := by rw [hr]; exact hq
  have hokr : OkL (x0 :: r) := by rw [hr]; exact hok
  have qlt : q < c1.length := (List.getElem?_eq_some_iff.mp hq1).1
  have mn := fun c => (minMax hokr c).1
  have mx := fun c => (minMax hokr c).2
  have h0 : (minV x0 r).ok := hokr _ (minV_mem r x0)
  have h1 : (maxV x0 r).ok := hokr _ (maxV_mem r x0)
  have s1 := lcNum (m := mVar 1) (env := [some (D.cell p), some (D.cell q), none, none, none]) (c := c1) (i := 4) (eV rfl) (by simp) hq1 rfl (by rw [hr]; simp)
  obtain ⟨k, hk⟩ : ∃ k, k = c1.length := ⟨_, rfl⟩
  obtain ⟨c2, hc2⟩ : ∃ c2 : Cells, c2 = c1 ++ [(.lst, [(minV x0 r).d])] := ⟨_, rfl⟩
  have hq2 : view c2 (.cell q) = some (.lst, (x0 :: r).map Vl.d) := by
    show c2[q]? = _
    rw [hc2, List.getElem?_append_left qlt]
    exact hq1
  have hk2 : c2[k]? = some (.lst, [(minV x0 r).d]) := by
    rw [hc2, hk, List.getElem?_append_right (Nat.le_refl _), Nat.sub_self]
    rfl
  have sm : (1000 : Nat) < sizeLine := by decide
  obtain ⟨c3, hc3⟩ : ∃ c3 : Cells, c3 = c2.set k (.lst, [(minV x0 r).d, (maxV x0 r).d]) := ⟨_, rfl⟩
  have ap : fAppend (.cell k) [(maxV x0 r).d] c2 = some (.non, c3) := by
    show (match c2[k]? with
      | some (.lst, xs) => if xs.length < sizeLine then some (D.non, c2.set k (.lst, xs ++ [(maxV x0 r).d])) else none
      | _ => none) = _
    rw [hk2, hc3]
    exact if_pos (by show 1 < sizeLine; omega)
  have ty : isTy "list" c2 (.cell k) = true := by
    unfold isTy
    dsimp only
    rw [show view c2 (.cell k) = some (.lst, [(minV x0 r).d]) from hk2]
    rfl
  have klt2 : k < c2.length := (List.getElem?_eq_some_iff.mp hk2).1
  have hk3 : view c3 (.cell k) = some (.lst, [(minV x0 r).d, (maxV x0 r).d]) := by
    show c3[k]? = _
    rw [hc3, List.getElem?_set_self klt2]
  have si2 : ∀ (c : Cells) (d : D), view c d = some (.lst, [(minV x0 r).d, (maxV x0 r).d]) → bRepr [d] c = some (.str (PyData.list [(minV x0 r).p, (maxV x0 r).p]).shown, c) := fun c d e => rOk (siVs (vs := [minV x0 r, maxV x0 r]) (fun v hv => by
    rcases List.mem_cons.mp hv with e | e
    · rw [e]; exact h0
    · rw [List.mem_singleton.mp e]; exact h1) (by simp)) (rView e fun f => pyrVs [minV x0 r, maxV x0 r])
  have n2 : Nxt p c1 c3 := by
    have pl := n1.pot.lt
    obtain ⟨a, b, ea, rr⟩ := n1.pot
    have all : ∀ i, i < c1.length → c3[i]? = c1[i]? := fun i hi => by rw [hc3, List.getElem?_set_ne (by omega), hc2, List.getElem?_append_left hi]
    exact ⟨⟨a, b, (all p pl).trans ea, rr⟩, by rw [hc3, hc2]; simp, fun i hi _ => all i hi⟩
  have ls : F_lesser_of [x0.d, x1.d, x2.d, x3.d, x4.d, x5.d, x6.d, x7.d] c1 = .ok (minV x0 r).d c1 := by
    rw [hr]
    exact F_lesser (vs := [x0, x1, x2, x3, x4, x5, x6, x7]) hok (by simp) c1
  have gs : F_greater_of [x0.d, x1.d, x2.d, x3.d, x4.d, x5.d, x6.d, x7.d] c2 = .ok (maxV x0 r).d c2 := by
    rw [hr]
    exact F_greater (vs := [x0, x1, x2, x3, x4, x5, x6, x7]) hok (by simp) c2
  have v1 : view c1 (.cell q) = some (.lst, [x0.d, x1.d, x2.d, x3.d, x4.d, x5.d, x6.d, x7.d]) := hq
  have v2 : view c2 (.cell q) = some (.lst, [x0.d, x1.d, x2.d, x3.d, x4.d, x5.d, x6.d, x7.d]) := by rw [hq2, hr]; rfl
  refine ⟨c3, ?_, n1.trans n2⟩
  refine bodyR (sqN (stS (eFn (eCons (eV rfl) (eCons eC eNil)) rfl et)) (sqN (stS s1) ?_))
  refine sqN (stS (d := .cell k) (c1 := c2) (by rw [hk, hc2]; exact eLstC (eCons (eFnS (eCons (ixV rfl v1 rfl) (eCons (ixV rfl v1 rfl) (eCons (ixV rfl v1 rfl) (eCons (ixV rfl v1 rfl) (eCons (ixV rfl v1 rfl) (eCons (ixV rfl v1 rfl) (eCons (ixV rfl v1 rfl) (eCons (ixV rfl v1 rfl) eNil)))))))) ls) eNil))) ?_
  refine sqN (stX (eMe (eV rfl) ty (eCons (eFnS (eCons (ixV rfl v2 rfl) (eCons (ixV rfl v2 rfl) (eCons (ixV rfl v2 rfl) (eCons (ixV rfl v2 rfl) (eCons (ixV rfl v2 rfl) (eCons (ixV rfl v2 rfl) (eCons (ixV rfl v2 rfl) (eCons (ixV rfl v2 rfl) eNil)))))))) gs) eNil) ap)) ?_
  exact stR (e2 (eCall (eCons (eV rfl) eNil) (si2 _ _ hk3)) (eCall (eCons (eLst (eCons (eFn (eCons (eCall (eCons (eV rfl) eNil) (mn c3)) eNil) rfl (F_shown _ h0 c3)) (eCons (eFn (eCons (eCall (eCons (eV rfl) eNil) (mx c3)) eNil) rfl (F_shown _ h1 c3)) eNil))) eNil) (si2 c3 _ rfl)) eqSame)
/-! ### what is refused -/
def PyS (x : D) (pd : PyData) : Prop := (∀ f, pyrW f x = some pd) ∧ Si 4 10010 pd
def tagS (tag : Str) (pd : PyData) : Str := (PyData.list [.str tag, pd, .bool true]).shown
theorem siTag {tag : Str} (h : tag = "value" ∨ tag = "values" ∨ tag = "integer") : Si 4 10010 (.str tag) := by
  rcases h with e | e | e <;> subst e <;> exact ⟨rfl, by simp [PyData.depth], by decide, by decide⟩
theorem tagOk {tag : Str} {pd : PyData} {x : D} {c : Cells} (ht : tag = "value" ∨ tag = "values" ∨ tag = "integer") (hx : PyS x pd) : bRepr [.lst [.str tag, x, .bl true]] c = some (.str (tagS tag pd), c) := by
  refine rOk (k := 5) (w := 3 * 10011) (p := .list [.str tag, pd, .bool true]) (siList (k := 4) (w := 10010) (n := 3) (fun p hp => ?_) (by simp)) (rView (ds := [.str tag, x, .bl true]) rfl fun f => ?_)
  · simp only [List.mem_cons, List.not_mem_nil, or_false] at hp
    rcases hp with e | e | e
    · rw [e]; exact siTag ht
    · rw [e]; exact hx.2
    · rw [e]; exact (siB true).mono (by decide) (by decide)
  · show (match pyrW f (.str tag), pyrL f [x, .bl true] with
      | some p, some ps => some (p :: ps)
      | _, _ => none) = _
    have e : pyrL f [x, .bl true] = some [pd, .bool true] := by
      show (match pyrW f x, pyrL f [.bl true] with
        | some p, some ps => some (p :: ps)
        | _, _ => none) = _
      rw [hx.1 f]
      rfl
    rw [e]
    rfl
theorem told_v {F0 : Cells → R D} {x : D} {pd : PyData} {c c' : Cells} (h : F0 c = .err (xVal "InvalidValue" x) c') (hx : PyS x pd) : toldF F0 c = .ok (.str (tagS "value" pd)) c' := by
  unfold toldF
  rw [h]
  show (bRepr [.lst [.str "value", x, .bl true]] c').r = _
  rw [tagOk (.inl rfl) hx]
  rfl
theorem told_vs {F0 : Cells → R D} {x : D} {pd : PyData} {c c' : Cells} (h : F0 c = .err (xVal "InvalidValues" x) c') (hx : PyS x pd) : toldF F0 c = .ok (.str (tagS "values" pd)) c' := by
  unfold toldF
  rw [h]
  show (bRepr [.lst [.str "values", x, .bl true]] c').r = _
  rw [tagOk (.inr (.inl rfl)) hx]
  rfl
theorem told_i {F0 : Cells → R D} {x : D} {pd : PyData} {c c' : Cells} (h : F0 c = .err (xVal "InvalidInteger" x) c') (hx : PyS x pd) : toldF F0 c = .ok (.str (tagS "integer" pd)) c' := by
  unfold toldF
  rw [h]
  show (bRepr [.lst [.str "integer", x, .bl true]] c').r = _
  rw [tagOk (.inr (.inr rfl)) hx]
  rfl
structure OdD (d : D) : Prop where
  od : Od d
  py : ∃ pd, (∀ f, pyrW f d = some pd) ∧ Si 3 1000 pd ∧ PyData.strOk (tagS "value" pd) = true
def oddL : List D := [.non, .bl true, .bl false, .str "", .str "Bottom", .str "TOP", .str "bottom ", .str "no bound", .str "1", .lst [.int 1], .tup [.int 1], .nod (.dic []) [], .lst [.str "top"]]
theorem oddOk : ∀ d ∈ oddL, OdD d := by
  intro d hd
  simp only [oddL, List.mem_cons, List.not_mem_nil, or_false] at hd
  have s1 : ∀ s : Str, (s.cps.toList.all fun c => decide (c < 16 ^ 8)) = true → s.cps.size ≤ 1000 → Si 3 1000 (.str s) := fun s h1 h2 => ⟨rfl, by simp [PyData.depth], h1, h2⟩
  rcases hd with e | e | e | e | e | e | e | e | e | e | e | e | e <;> subst e
  · exact ⟨.non, .none, fun _ => rfl, ⟨rfl, by simp [PyData.depth], rfl, Nat.zero_le _⟩, by decide +kernel⟩
  · exact ⟨.bl _, .bool true, fun _ => rfl, ⟨rfl, by simp [PyData.depth], rfl, Nat.zero_le _⟩, by decide +kernel⟩
  · exact ⟨.bl _, .bool false, fun _ => rfl, ⟨rfl, by simp [PyData.depth], rfl, Nat.zero_le _⟩, by decide +kernel⟩
  · exact ⟨.str _ (by decide) (by decide), .str "", fun _ => rfl, s1 _ (by decide) (by decide), by decide +kernel⟩
  · exact ⟨.str _ (by decide) (by decide), .str "Bottom", fun _ => rfl, s1 _ (by decide) (by decide), by decide +kernel⟩
  · exact ⟨.str _ (by decide) (by decide), .str "TOP", fun _ => rfl, s1 _ (by decide) (by decide), by decide +kernel⟩
  · exact ⟨.str _ (by decide) (by decide), .str "bottom ", fun _ => rfl, s1 _ (by decide) (by decide), by decide +kernel⟩
  · exact ⟨.str _ (by decide) (by decide), .str "no bound", fun _ => rfl, s1 _ (by decide) (by decide), by decide +kernel⟩
  · exact ⟨.str _ (by decide) (by decide), .str "1", fun _ => rfl, s1 _ (by decide) (by decide), by decide +kernel⟩
  · exact ⟨.lst _, .list [.int 1], fun _ => rfl, ⟨by decide, by decide, by decide +kernel, by decide⟩, by decide +kernel⟩
  · exact ⟨.tup _, .tuple [.int 1], fun _ => rfl, ⟨by decide, by decide, by decide +kernel, by decide⟩, by decide +kernel⟩
  · exact ⟨.dic _ _, .dict [], fun _ => rfl, ⟨by decide, by decide, by decide +kernel, by decide⟩, by decide +kernel⟩
  · exact ⟨.lst _, .list [.str "top"], fun _ => rfl, ⟨by decide, by decide, by decide +kernel, by decide⟩, by decide +kernel⟩
theorem OdD.pys {d : D} (h : OdD d) : ∃ pd, PyS d pd ∧ PyData.strOk (tagS "value" pd) = true := by
  obtain ⟨pd, h1, h2, h3⟩ := h.py
  exact ⟨pd, ⟨h1, h2.mono (by decide) (by decide)⟩, h3⟩
theorem F_odd {p : Nat} {c : Cells} (h : PotC p c) : ∃ d c', F__law_odd [.cell p] c = .ok d c' ∧ OdD d ∧ Nxt p c c' := by
  obtain ⟨d, c', e, hm, n⟩ := pick h (ds := oddL) (by simp [oddL]) (by simp [oddL])
  refine ⟨d, c', bodyR (stR (eFn (eCons (eV rfl) (eCons (eLst (ds := oddL) ?_ (by simp only [oddL, List.length_cons, List.length_nil]; decide)) eNil)) rfl e)), oddOk d hm, n⟩
  exact eCons eC (eCons eC (eCons eC (eCons eC (eCons eC (eCons eC (eCons eC (eCons eC (eCons eC (eCons (eLst (eCons eC eNil)) (eCons (eTup (eCons eC eNil)) (eCons rfl (eCons (eLst (eCons eC eNil)) eNil))))))))))))
end K11
end
section
set_option Elab.async false
set_option linter.all false
set_option maxRecDepth 100000
namespace K11
open PySem PySem.Spec L2 Q
variable [Tb]
/-! ### ranks that are none, lists that are none -/
def rankL : List D := [.str "top", .str "bottom", .bl true, .bl false, .non, .str "1", .lst [.int 1], .tup [.int 0], .nod (.dic []) []]
theorem rankOk : ∀ d ∈ rankL, (∀ c, F_is_integer [d] c = .ok (.bl false) c) ∧ ∃ pd, PyS d pd := by
  intro d hd
  simp only [rankL, List.mem_cons, List.not_mem_nil, or_false] at hd
  have st : ∀ s : Str, (s.cps.toList.all fun c => decide (c < 16 ^ 8)) = true → s.cps.size ≤ 1000 → PyS (.str s) (.str s) := fun s h1 h2 => ⟨fun _ => rfl, rfl, by simp [PyData.depth], h1, Nat.le_trans h2 (by decide)⟩
  rcases hd with e | e | e | e | e | e | e | e | e <;> subst e
  · exact ⟨isInt_str _, _, st _ (by decide) (by decide)⟩
  · exact ⟨isInt_str _, _, st _ (by decide) (by decide)⟩
  · exact ⟨isInt_od (.bl _), .bool true, fun _ => rfl, (siB _).mono (by decide) (by decide)⟩
  · exact ⟨isInt_od (.bl _), .bool false, fun _ => rfl, (siB _).mono (by decide) (by decide)⟩
  · exact ⟨isInt_od .non, .none, fun _ => rfl, ⟨rfl, by simp [PyData.depth], rfl, Nat.zero_le _⟩⟩
  · exact ⟨isInt_str _, _, st _ (by decide) (by decide)⟩
  · exact ⟨isInt_od (.lst _), .list [.int 1], fun _ => rfl, ⟨by decide, by decide, by decide +kernel, by decide⟩⟩
  · exact ⟨isInt_od (.tup _), .tuple [.int 0], fun _ => rfl, ⟨by decide, by decide, by decide +kernel, by decide⟩⟩
  · exact ⟨isInt_od (.dic _ _), .dict [], fun _ => rfl, ⟨by decide, by decide, by decide +kernel, by decide⟩⟩
/-- a wrong parameter of levels_of -/
def Wr (w : D) : Prop := (∀ c, F_levels_of [w] c = .err (xVal "InvalidValues" w) c) ∧ ∃ pd, PyS w pd
def itemP (d : D) (pd : PyData) : Prop := (∀ f, pyrW f d = some pd) ∧ Si 3 1000 pd
theorem itemsP : ∀ {ds : List D}, (∀ d ∈ ds, ∃ pd, itemP d pd) → ∃ ps, ps.length = ds.length ∧ (∀ f, pyrL f ds = some ps) ∧ ∀ p ∈ ps, Si 3 1000 p
  | [], _ => ⟨[], rfl, fun _ => rfl, fun p hp => by cases hp⟩
  | d :: ds, h => by
    obtain ⟨pd, h1, h2⟩ := h d List.mem_cons_self
    obtain ⟨ps, l, h3, h4⟩ := itemsP (ds := ds) fun d hd => h d (List.mem_cons_of_mem _ hd)
    refine ⟨pd :: ps, by simp [l], fun f => ?_, fun p hp => ?_⟩
    · show (match pyrW f d, pyrL f ds with
        | some p, some ps => some (p :: ps)
        | _, _ => none) = _
      rw [h1, h3]
    · rcases List.mem_cons.mp hp with e | e
      · rw [e]; exact h2
      · exact h4 p e
theorem vlItem {v : Vl} (h : v.ok) : ∃ pd, itemP v.d pd := ⟨v.p, fun _ => pyrV, (Vl.si h).mono (by decide) (by decide)⟩
theorem odItem {d : D} (h : OdD d) : ∃ pd, itemP d pd := by
  obtain ⟨pd, h1, h2, _⟩ := h.py
  exact ⟨pd, h1, h2⟩
/-- is_value of any item -/
def isV : D → Bool
  | .int _ => true
  | .str s => decide (s = "bottom") || decide (s = "top")
  | _ => false
theorem isV_vl (v : Vl) (c : Cells) : F_is_value [v.d] c = .ok (.bl (isV v.d)) c := by
  rw [isVal]
  cases v <;> rfl
theorem isV_od {d : D} (h : Od d) (c : Cells) : F_is_value [d] c = .ok (.bl (isV d)) c ∧ isV d = false := by
  have e : isV d = false := by
    cases h with
    | str s h1 h2 =>
      show (decide (s = "bottom") || decide (s = "top")) = false
      rw [decide_eq_false h1, decide_eq_false h2]
      rfl
    | _ => rfl
  rw [e]
  exact ⟨isVal_od h c, rfl⟩
theorem wrL {t : Tg} {ds : List D} {x : D} (ht : t = .lst ∨ t = .tup) (hl : ds.length ≤ 10) (hb : ∀ d ∈ ds, ∀ c, F_is_value [d] c = .ok (.bl (isV d)) c) (hx : x ∈ ds) (hbx : isV x = false) (hp : ∀ d ∈ ds, ∃ pd, itemP d pd) : Wr (.nod t ds) := by
  obtain ⟨ps, l, h3, h4⟩ := itemsP hp
  rcases ht with e | e <;> subst e
  · refine ⟨fun c => F_levels_y (t := .lst) rfl rfl (by omega) isV (fun d hd => hb d hd c) hx hbx, .list ps, fun f => ?_, (siList (n := 10) h4 (by omega)).mono (by decide) (by decide)⟩
    show (pyrL f ds).map PyData.list = _
    rw [h3]
    rfl
  · refine ⟨fun c => F_levels_y (t := .tup) rfl rfl (by omega) isV (fun d hd => hb d hd c) hx hbx, .tuple ps, fun f => ?_, (siTup (n := 10) h4 (by omega)).mono (by decide) (by decide)⟩
    show (pyrL f ds).map PyData.tuple = _
    rw [h3]
    rfl
theorem wrongs {vs : List Vl} {x y : D} (hok : OkL vs) (hl : vs.length ≤ 8) (hx : OdD x) (hy : OdD y) : ∀ w ∈ ([.non, .int 5, .str "ab", .nod (.dic []) [], .nod (.dic [.inl 1]) [.int 2], .bl true, .lst (vs.map Vl.d ++ [x]), .tup ([x] ++ vs.map Vl.d), .lst [x, y]] : List D), Wr w := by
  have xv := fun c => (isV_od hx.od c).1
  have xf := (isV_od hx.od []).2
  have yv := fun c => (isV_od hy.od c).1
  intro w hw
  simp only [List.mem_cons, List.not_mem_nil, or_false] at hw
  rcases hw with e | e | e | e | e | e | e | e | e <;> subst e
  · exact ⟨fun c => F_levels_x (bodyR (stR (e1' (eV rfl) (isi rfl (by decide))))), .none, fun _ => rfl, ⟨rfl, by simp [PyData.depth], rfl, Nat.zero_le _⟩⟩
  · exact ⟨fun c => F_levels_x (bodyR (stR (e1' (eV rfl) (isi rfl (by decide))))), .int 5, fun _ => rfl, (siInt (by decide)).mono (by decide) (by decide)⟩
  · exact ⟨fun c => F_levels_x (bodyR (stR (e1' (eV rfl) (isi rfl (by decide))))), .str "ab", fun _ => rfl, ⟨rfl, by simp [PyData.depth], by decide, by decide⟩⟩
  · exact ⟨fun c => F_levels_x (bodyR (stR (e1' (eV rfl) (isi rfl (by decide))))), .dict [], fun _ => rfl, ⟨by decide, by decide, by decide +kernel, by decide⟩⟩
  · exact ⟨fun c => F_levels_x (bodyR (stR (e1' (eV rfl) (isi rfl (by decide))))), .dict [(.int 1, .int 2)], fun _ => rfl, ⟨by decide, by decide, by decide +kernel, by decide⟩⟩
  · exact ⟨fun c => F_levels_x (bodyR (stR (e1' (eV rfl) (isi rfl (by decide))))), .bool true, fun _ => rfl, (siB _).mono (by decide) (by decide)⟩
  · refine wrL (x := x) (.inl rfl) (by simp; omega) (fun d hd c => ?_) (by simp) xf fun d hd => ?_
    · rcases List.mem_append.mp hd with z | z
      · obtain ⟨v, _, rfl⟩ := List.mem_map.mp z
        exact isV_vl v c
      · rw [List.mem_singleton.mp z]; exact xv c
    · rcases List.mem_append.mp hd with z | z
      · obtain ⟨v, hv, rfl⟩ := List.mem_map.mp z
        exact vlItem (hok v hv)
      · rw [List.mem_singleton.mp z]; exact odItem hx
  · refine wrL (x := x) (.inr rfl) (by simp; omega) (fun d hd c => ?_) (by simp) xf fun d hd => ?_
    · rcases List.mem_append.mp hd with z | z
      · rw [List.mem_singleton.mp z]; exact xv c
      · obtain ⟨v, _, rfl⟩ := List.mem_map.mp z
        exact isV_vl v c
    · rcases List.mem_append.mp hd with z | z
      · rw [List.mem_singleton.mp z]; exact odItem hx
      · obtain ⟨v, hv, rfl⟩ := List.mem_map.mp z
        exact vlItem (hok v hv)
  · refine wrL (x := x) (.inl rfl) (by simp) (fun d hd c => ?_) (by simp) xf fun d hd => ?_
    · simp only [List.mem_cons, List.not_mem_nil, or_false] at hd
      rcases hd with e | e <;> rw [e]
      · exact xv c
      · exact yv c
    · simp only [List.mem_cons, List.not_mem_nil, or_false] at hd
      rcases hd with e | e <;> rw [e]
      · exact odItem hx
      · exact odItem hy
/-- three equal texts -/
theorem three {t : Nat} {S : Str} {c : Cells} (hS : PyData.strOk S = true) (ht : view c (.cell t) = some (.lst, [.str S, .str S, .str S])) : fNe (.cell t) (.lst [.str S, .str S, .str S]) c = some (.bl false, c) := by
  have cl : PyData.canLay0 (.list [.str S, .str S, .str S]) = true := by
    simp only [PyData.canLay0, PyData.canLayAll0, hS, Bool.and_true]
  have sh : SeqAt.shaped (.list [.str S, .str S, .str S]) = true := by
    unfold SeqAt.shaped
    rw [cl]
    simp [PyData.depth, PyData.depthAll]
  have e1 : pyd c (.lst [.str S, .str S, .str S]) = some (.list [.str S, .str S, .str S]) := rfl
  have e2 : pyd c (.cell t) = some (.list [.str S, .str S, .str S]) := by
    have ht : c[t]? = some (.lst, [.str S, .str S, .str S]) := ht
    show pydC c 6 t = _
    unfold pydC
    rw [ht]
    rfl
  have ev : PyData.eqv (.list [.str S, .str S, .str S]) (.list [.str S, .str S, .str S]) = true := SeqAt.eqv_refl _ cl
  show fEqP true (.cell t) (.lst [.str S, .str S, .str S]) c = _
  unfold fEqP
  rw [e1, e2]
  dsimp only
  rw [sh, ev]
  rfl
theorem mul3 {S : Str} {c : Cells} : fMul (.lst [.str S]) (.int 3) c = some (.lst [.str S, .str S, .str S], c) := by
  have z : -(2 ^ 63) ≤ (3 : Int) ∧ (3 : Int) < 2 ^ 63 ∧ [D.str S].length * (3 : Int).toNat ≤ sizeLine := ⟨by decide, by decide, by show 1 * 3 ≤ sizeLine; decide⟩
  have e : fRepL (.lst [.str S]) (.int 3) c = some (.lst (List.replicate (3 : Int).toNat [D.str S]).flatten, c) := @if_pos _ _ z O (some (.lst (List.replicate (3 : Int).toNat [D.str S]).flatten, c)) none
  show fRepL (.lst [.str S]) (.int 3) c = _
  rw [e]
  rfl
end K11
end
section
set_option Elab.async false
set_option linter.all false
set_option maxRecDepth 100000
namespace K11
open PySem PySem.Spec L2 Q
variable [Tb]
theorem Nxt.set {p s : Nat} {c c' : Cells} (h : Nxt p c c') (hs : c.length ≤ s) (hsp : s ≠ p) (v : Cl) : Nxt p c (c'.set s v) := by
  obtain ⟨⟨a, b, ea, r⟩, l, o⟩ := h
  exact ⟨⟨a, b, by rw [List.getElem?_set_ne hsp]; exact ea, r⟩, by rw [List.length_set]; exact l, fun q hq hqp => by rw [List.getElem?_set_ne (by omega)]; exact o q hq hqp⟩
theorem Nxt.app2 {p : Nat} {c c' : Cells} (h : Nxt p c c') (l : Cells) : Nxt p c (c' ++ l) := h.trans (Nxt.app h.pot l)
theorem eSl {C : Bool} {m : ME} {ml mh : MO} {env : Q.Env} {c c1 c2 c3 c4 : Cells} {d z : D} {lo hi : Option Int} (h1 : m env c = .ok d c1) (h2 : ml env c1 = .ok lo c2) (h3 : mh env c2 = .ok hi c3) (h4 : fSl C d lo hi c3 = some (z, c4)) : mSl C m ml mh env c = .ok z c4 := by
  unfold mSl
  rw [h1]
  show (ml env c1).bind _ = _
  rw [h2]
  show (mh env c2).bind _ = _
  rw [h3]
  show (fSl C d lo hi c3).r = _
  rw [h4]
  rfl
theorem cutV {vs : List Vl} {k : Nat} : cutD (vs.map Vl.d) none (some (k : Int)) = (vs.take k).map Vl.d := by
  unfold cutD
  rw [HT.sIx_none, HT.sIx_nat, List.drop_zero, Nat.sub_zero, List.length_map, List.map_take]
  by_cases h : k ≤ vs.length
  · rw [Nat.min_eq_left h]
  · rw [Nat.min_eq_right (by omega), List.take_of_length_le (by rw [List.length_map]; exact Nat.le_refl _), List.take_of_length_le (by rw [List.length_map]; omega)]
theorem eIns {s : Nat} {k : Int} {x : D} {xs : List D} {c : Cells} (hs : c[s]? = some (.lst, xs)) (h0 : 0 ≤ k) (h1 : k < 100) (hl : xs.length < 1000) : fInsert (.cell s) [.int k, x] c = some (.non, c.set s (.lst, xs.take k.toNat ++ [x] ++ xs.drop k.toNat)) := by
  have sm : (1000 : Nat) < sizeLine := by decide
  have z : xs.length < sizeLine ∧ 0 ≤ k ∧ k < 2 ^ 63 := ⟨by omega, h0, by omega⟩
  show (match c[s]? with
    | some (.lst, xs) => if xs.length < sizeLine ∧ 0 ≤ k ∧ k < 2 ^ 63 then some (D.non, c.set s (.lst, xs.take k.toNat ++ [x] ++ xs.drop k.toNat)) else none
    | _ => none) = _
  rw [hs]
  exact if_pos z
theorem eApp {s : Nat} {x : D} {xs : List D} {c : Cells} (hs : c[s]? = some (.lst, xs)) (hl : xs.length < 1000) : fAppend (.cell s) [x] c = some (.non, c.set s (.lst, xs ++ [x])) := by
  have sm : (1000 : Nat) < sizeLine := by decide
  show (match c[s]? with
    | some (.lst, xs) => if xs.length < sizeLine then some (D.non, c.set s (.lst, xs ++ [x])) else none
    | _ => none) = _
  rw [hs]
  exact if_pos (by omega)
theorem tyL {s : Nat} {xs : List D} {c : Cells} (hs : c[s]? = some (.lst, xs)) : isTy "list" c (.cell s) = true := by
  unfold isTy
  dsimp only
  rw [show view c (.cell s) = some (.lst, xs) from hs]
  rfl
theorem F_refused {p q : Nat} {vs : List Vl} {c : Cells} (h : PotC p c) (hq : c[q]? = some (.lst, vs.map Vl.d)) (hqp : q ≠ p) (hok : OkL vs) (hl : vs.length ≤ 8) : ∃ c', F__law_refused_right [.cell p, .cell q] c = .ok (.bl true) c' ∧ Nxt p c c' := by
  have qlt : q < c.length := (List.getElem?_eq_some_iff.mp hq).1
  have plt := h.lt
  obtain ⟨x, c1, ex, ox, n1⟩ := F_odd h
  obtain ⟨y, c2, ey, oy, n2⟩ := F_odd n1.pot
  obtain ⟨pd, px, sok⟩ := ox.pys
  have m2' : Nxt p c c2 := n1.trans n2
  have hq2 : view c2 (.cell q) = some (.lst, vs.map Vl.d) := (m2'.old q qlt hqp).trans hq
  obtain ⟨S, hS⟩ : ∃ S, S = tagS "value" pd := ⟨_, rfl⟩
  -- the slice
  obtain ⟨s, hs⟩ : ∃ s, s = c2.length := ⟨_, rfl⟩
  obtain ⟨ws, hws⟩ : ∃ ws, ws = vs.take 2 := ⟨_, rfl⟩
  have wl : ws.length ≤ 2 := by rw [hws]; exact List.length_take_le _ _
  have wok : OkL ws := fun v hv => hok v (by rw [hws] at hv; exact List.mem_of_mem_take hv)
  obtain ⟨c3, hc3⟩ : ∃ c3 : Cells, c3 = c2 ++ [(Tg.lst, ws.map Vl.d)] := ⟨_, rfl⟩
  have sl : fSl true (.cell q) none (some 2) c2 = some (.cell s, c3) := by
    unfold fSl
    rw [hq2]
    dsimp only
    rw [if_pos rfl, hs, hc3, hws, show (some (2 : Int)) = some ((2 : Nat) : Int) from rfl, cutV]
  have hs3 : c3[s]? = some (.lst, ws.map Vl.d) := by
    rw [hc3, hs, List.getElem?_append_right (Nat.le_refl _), Nat.sub_self]
    rfl
  have m3 : Nxt p c c3 := by rw [hc3]; exact m2'.app2 _
  have scl : c.length ≤ s := by rw [hs]; exact m2'.len
  have sp : s ≠ p := by omega
  -- the insertion
  obtain ⟨k, c4, ek, k0, k1, n4⟩ := draw m3.pot (n := (ws.length : Int) + 1) (by omega) (by omega)
  have s3lt : s < c3.length := (List.getElem?_eq_some_iff.mp hs3).1
  have hs4 : c4[s]? = some (.lst, ws.map Vl.d) := (n4.old s s3lt sp).trans hs3
  obtain ⟨A, hA⟩ : ∃ A, A = ws.take k.toNat := ⟨_, rfl⟩
  obtain ⟨B, hB⟩ : ∃ B, B = (ws.drop k.toNat).map Vl.d := ⟨_, rfl⟩
  have AB : A.length + B.length = ws.length := by
    rw [hA, hB, List.length_map, List.length_take, List.length_drop]
    omega
  have el : (ws.map Vl.d).take k.toNat ++ [x] ++ (ws.map Vl.d).drop k.toNat = A.map Vl.d ++ x :: B := by
    rw [hA, hB, List.map_take, List.map_drop, List.append_assoc]
    rfl
  obtain ⟨c5, hc5⟩ : ∃ c5 : Cells, c5 = c4.set s (Tg.lst, A.map Vl.d ++ x :: B) := ⟨_, rfl⟩
  have ins : fInsert (.cell s) [.int k, x] c4 = some (.non, c5) := by
    rw [eIns hs4 k0 (by omega) (by rw [List.length_map]; omega), el, hc5]
  have s4lt : s < c4.length := (List.getElem?_eq_some_iff.mp hs4).1
  have hs5 : view c5 (.cell s) = some (.lst, A.map Vl.d ++ x :: B) := by
    show c5[s]? = _
    rw [hc5, List.getElem?_set_self s4lt]
  have m5 : Nxt p c c5 := by rw [hc5]; exact (m3.trans n4).set scl sp _
  have len5 : (A.map Vl.d ++ x :: B).length ≤ 3 := by
    rw [List.length_append, List.length_map, List.length_cons]
    omega
  -- what the extremes tell
  have tag : ∀ {env : Q.Env} {c : Cells}, env[2]? = some (some x) → mCall bRepr (mCons (mLst (mCons (mC (.str "value")) (mCons (mVar 2) (mCons (mC (.bl true)) mNil)))) mNil) env c = .ok (.str S) c := fun {env c} he => by
    rw [hS]
    exact eCall (eCons (eLst (eCons eC (eCons (eV he) (eCons eC eNil)))) eNil) (tagOk (.inl rfl) px)
  obtain ⟨E5, hE5⟩ : ∃ E5 : Q.Env, E5 = [some (D.cell p), some (D.cell q), some x, some y, some (D.cell s), none, none, none] := ⟨_, rfl⟩
  have g0 : E5[0]? = some (some (D.cell p)) := by rw [hE5]; rfl
  have g1 : E5[1]? = some (some (D.cell q)) := by rw [hE5]; rfl
  have g2 : E5[2]? = some (some x) := by rw [hE5]; rfl
  have g3 : E5[3]? = some (some y) := by rw [hE5]; rfl
  have g4 : E5[4]? = some (some (D.cell s)) := by rw [hE5]; rfl
  have t0 : mLam toldF (mFn F__law_extreme 2 (mCons (mC (.int 0)) (mCons (m2 fAdd (mVar 4) (mLst (mCons (mVar 3) mNil))) mNil))) E5 c5 = .ok (.str S) c5 := by
    rw [hS]
    refine eLam (told_v (x := x) (eFn (eCons eC (eCons (e2 (eV g4) (eLst (eCons (eV g3) eNil)) (catD hs5 (ys := [y]) rfl (by show _ + 1 ≤ 1000; omega))) eNil)) rfl ?_) px)
    have e : A.map Vl.d ++ x :: B ++ [y] = A.map Vl.d ++ x :: (B ++ [y]) := by rw [List.append_assoc]; rfl
    rw [e]
    have l4 : (A.map Vl.d ++ x :: (B ++ [y])).length ≤ 4 := by
      rw [List.length_append, List.length_map, List.length_cons, List.length_append]
      show A.length + (B.length + 1 + 1) ≤ 4
      omega
    exact F_ext0 (t := .lst) rfl rfl (by rw [List.length_append, List.length_cons]; omega) l4 (F_lesser_x ox.od (by omega) c5)
  have t1 : mLam toldF (mFn F__law_extreme 2 (mCons (mC (.int 1)) (mCons (mVar 4) mNil))) E5 c5 = .ok (.str S) c5 := by
    rw [hS]
    exact eLam (told_v (x := x) (eFn (eCons eC (eCons (eV g4) eNil)) rfl (F_ext1 hs5 rfl (by rw [List.length_append, List.length_cons]; omega) (by omega) (F_greater_x ox.od (by omega) c5))) px)
  have fs : (PyData.bool false).shown = ("False" : Str) := by simp [PyData.shown]
  have rF : bRepr [.bl false] c5 = some (.str "False", c5) := by
    rw [← fs]
    exact rOk (siB false) rfl
  -- the list told
  obtain ⟨t, ht⟩ : ∃ t, t = c5.length := ⟨_, rfl⟩
  have tcl : c.length ≤ t := by rw [ht]; exact m5.len
  have tp : t ≠ p := by omega
  obtain ⟨c6, hc6⟩ : ∃ c6 : Cells, c6 = c5 ++ [(Tg.lst, [D.str S])] := ⟨_, rfl⟩
  have ht6 : c6[t]? = some (.lst, [D.str S]) := by
    rw [hc6, ht, List.getElem?_append_right (Nat.le_refl _), Nat.sub_self]
    rfl
  have t6lt : t < c6.length := (List.getElem?_eq_some_iff.mp ht6).1
  obtain ⟨c7, hc7⟩ : ∃ c7 : Cells, c7 = c6.set t (Tg.lst, [D.str S] ++ [D.str S]) := ⟨_, rfl⟩
  have ht7 : c7[t]? = some (.lst, [D.str S] ++ [D.str S]) := by rw [hc7, List.getElem?_set_self t6lt]
  have t7lt : t < c7.length := (List.getElem?_eq_some_iff.mp ht7).1
  obtain ⟨c8, hc8⟩ : ∃ c8 : Cells, c8 = c7.set t (Tg.lst, [D.str S] ++ [D.str S] ++ [D.str S]) := ⟨_, rfl⟩
  have ht8 : view c8 (.cell t) = some (.lst, [.str S, .str S, .str S]) := by
    show c8[t]? = _
    rw [hc8, List.getElem?_set_self t7lt]
    rfl
  have m6 : Nxt p c c6 := by rw [hc6]; exact m5.app2 _
  have m7 : Nxt p c c7 := by rw [hc7]; exact m6.set tcl tp _
  have m8 : Nxt p c c8 := by rw [hc8]; exact m7.set tcl tp _
  have a1 : fAppend (.cell t) [.str S] c6 = some (.non, c7) := by rw [eApp ht6 (by show 1 < 1000; decide), hc7]
  have a2 : fAppend (.cell t) [.str S] c7 = some (.non, c8) := by rw [eApp ht7 (by show 2 < 1000; decide), hc8]
  obtain ⟨E6, hE6⟩ : ∃ E6 : Q.Env, E6 = [some (D.cell p), some (D.cell q), some x, some y, some (D.cell s), some (D.cell t), none, none] := ⟨_, rfl⟩
  have f0 : E6[0]? = some (some (D.cell p)) := by rw [hE6]; rfl
  have f2 : E6[2]? = some (some x) := by rw [hE6]; rfl
  have f5 : E6[5]? = some (some (D.cell t)) := by rw [hE6]; rfl
  have u0 : mLam toldF (mFn F_is_at_least 2 (mCons (mVar 2) (mCons (mVar 3) mNil))) E5 c5 = .ok (.str S) c5 := by
    rw [hS]
    exact eLam (told_v (x := x) (eFn (eCons (eV g2) (eCons (eV g3) eNil)) rfl (F_ge_x ox.od c5)) px)
  have u1 : mLam toldF (mFn F_is_at_least 2 (mCons (mC (.int 3)) (mCons (mVar 2) mNil))) E6 c6 = .ok (.str S) c6 := by
    rw [hS]
    exact eLam (told_v (x := x) (eFn (eCons eC (eCons (eV f2) eNil)) rfl (F_ge_y (v := .i 3) ox.od c6)) px)
  have u2 : mLam toldF (mFn F_at_level 2 (mCons (mVar 2) (mCons (mC (.str "top")) mNil))) E6 c7 = .ok (.str S) c7 := by
    rw [hS]
    exact eLam (told_v (x := x) (eFn (eCons (eV f2) (eCons eC eNil)) rfl (F_at_x ox.od c7)) px)
  -- a rank
  obtain ⟨rk, c9, er, hrk, n9⟩ := pick m8.pot (ds := rankL) (by simp [rankL]) (by simp [rankL])
  obtain ⟨rint, prd, prk⟩ := rankOk rk hrk
  obtain ⟨z, c10, ez, hz, n10⟩ := pick n9.pot (ds := [Vl.top, Vl.i 5, Vl.i (-(10 ^ 40))].map Vl.d) (by simp) (by simp)
  obtain ⟨v, _, rfl⟩ := List.mem_map.mp hz
  have m10 : Nxt p c c10 := (m8.trans n9).trans n10
  have hq10 : view c10 (.cell q) = some (.lst, vs.map Vl.d) := (m10.old q qlt hqp).trans hq
  -- a wrong list
  obtain ⟨w, c11, ew, hw, n11⟩ := pick m10.pot (ds := [.non, .int 5, .str "ab", .nod (.dic []) [], .nod (.dic [.inl 1]) [.int 2], .bl true, .lst (vs.map Vl.d ++ [x]), .tup ([x] ++ vs.map Vl.d), .lst [x, y]]) (by simp) (by simp)
  obtain ⟨lw, pdw, pw⟩ := wrongs hok hl ox oy w hw
  refine ⟨c11, ?_, m10.trans n11⟩
  refine bodyR (sqN (e1 := [some (D.cell p), some (D.cell q), some x, some y, none, none, none, none]) (stAsg (eTup (eCons (eFn (eCons (eV rfl) eNil) rfl ex) (eCons (eFn (eCons (eV rfl) eNil) rfl ey) eNil))) rfl) ?_)
  refine sqN (e1 := E5) (by rw [hE5]; exact stS (eSl (eV rfl) rfl rfl sl)) ?_
  refine sqN (stX (eMe (eV g4) (tyL hs3) (eCons (eFn (eCons (eV g0) (eCons (e2 (eCall (eCons (eV g4) eNil) ((lenL (show view c3 (.cell s) = some (.lst, ws.map Vl.d) from hs3) rfl).trans (by rw [List.length_map]))) eC addI) eNil)) rfl ek) (eCons (eV g2) eNil)) ins)) ?_
  refine sqN (stIF (eT (e2 t0 (tag g2) neSame)) rfl) ?_
  refine sqN (stIF (eOrF (eT (e2 t1 (tag g2) neSame)) (eT (e2 (eCall (eCons (eFn (eCons (eV g2) eNil) rfl (isVal_od ox.od c5)) eNil) rF) eC neSame))) rfl) ?_
  refine sqN (e1 := E6) (c1 := c6) (by rw [hc6, hE6]; exact (stS (d := .cell t) (by rw [ht]; exact eLstC (eCons u0 eNil))).trans (by rw [hE5]; rfl)) ?_
  refine sqN (stX (eMe (eV f5) (tyL ht6) (eCons u1 eNil) a1)) (sqN (stX (eMe (eV f5) (tyL ht7) (eCons u2 eNil) a2)) ?_)
  refine sqN (stIF (eT (e2 (eV f5) (e2 (eLst (eCons (tag f2) eNil)) eC mul3) (three (by rw [hS]; exact sok) ht8))) rfl) ?_
  have E7g : ∀ i j : Nat, i ≠ 6 → (E6.set 6 (some rk))[i]? = E6[i]? := fun i j hi => List.getElem?_set_ne (Ne.symm hi)
  have l6 : 6 < E6.length := by rw [hE6]; simp
  have g6 : (E6.set 6 (some rk))[6]? = some (some rk) := List.getElem?_set_self l6
  refine sqN (stS (d := rk) (c1 := c9) (eFn (eCons (eV f0) (eCons (eLst (ds := rankL) (eCons eC (eCons eC (eCons eC (eCons eC (eCons eC (eCons eC (eCons (eLst (eCons eC eNil)) (eCons (eTup (eCons eC eNil)) (eCons rfl eNil))))))))) (by simp only [rankL, List.length_cons, List.length_nil]; decide)) eNil)) rfl er)) ?_
  have h0 : (E6.set 6 (some rk))[0]? = some (some (D.cell p)) := (E7g 0 0 (by decide)).trans f0
  have h1 : (E6.set 6 (some rk))[1]? = some (some (D.cell q)) := (E7g 1 0 (by decide)).trans (by rw [hE6]; rfl)
  have h2 : (E6.set 6 (some rk))[2]? = some (some x) := (E7g 2 0 (by decide)).trans f2
  have h3 : (E6.set 6 (some rk))[3]? = some (some y) := (E7g 3 0 (by decide)).trans (by rw [hE6]; rfl)
  have tI : mLam toldF (mFn F_at_level 2 (mCons (mFn F__law_pick 2 (mCons (mVar 0) (mCons (mLst (mCons (mC (.str "top")) (mCons (mC (.int 5)) (mCons (m1 fNeg (m2 fPow (mC (.int 10)) (mC (.int 40)))) mNil)))) mNil))) (mCons (mVar 6) mNil))) (E6.set 6 (some rk)) c9 = .ok (.str (tagS "integer" prd)) c10 :=
    eLam (told_i (x := rk) (eFn (eCons (eFn (eCons (eV h0) (eCons (eLst (ds := [Vl.top, Vl.i 5, Vl.i (-(10 ^ 40))].map Vl.d) (eCons eC (eCons eC (eCons (e1' (e2 eC eC p40) negI) eNil))) (by show 3 ≤ sizeLine; decide)) eNil)) rfl ez) (eCons (eV g6) eNil)) rfl (F_at_l (funext rint) c10)) prk)
  refine sqN (stIF (eT (e2 tI (eCall (eCons (eLst (eCons eC (eCons (eV g6) (eCons eC eNil)))) eNil) (tagOk (.inr (.inr rfl)) prk)) neSame)) rfl) ?_
  have l7 : 7 < (E6.set 6 (some rk)).length := by rw [hE6]; simp
  have g7 : ((E6.set 6 (some rk)).set 7 (some w))[7]? = some (some w) := List.getElem?_set_self l7
  have dic1 : ∀ (env : Q.Env) (c : Cells), mDict (mPc (mC (.int 1)) (mC (.int 2)) mPn) env c = .ok (.nod (.dic [.inl 1]) [.int 2]) c := fun env c => eDict (kk := [.inl 1]) (ePc eC eC ePn) rfl (by decide) (by decide)
  refine sqN (stS (d := w) (c1 := c11) (eFn (eCons (eV h0) (eCons (eLst (ds := [.non, .int 5, .str "ab", .nod (.dic []) [], .nod (.dic [.inl 1]) [.int 2], .bl true, .lst (vs.map Vl.d ++ [x]), .tup ([x] ++ vs.map Vl.d), .lst [x, y]]) ?_ (by simp only [List.length_cons, List.length_nil]; decide)) eNil)) rfl ew)) ?_
  · exact eCons eC (eCons eC (eCons eC (eCons rfl (eCons (dic1 _ _) (eCons eC (eCons (e2 (eV h1) (eLst (eCons (eV h2) eNil)) (catD hq10 rfl (by rw [List.length_map]; show vs.length + 1 ≤ 1000; omega))) (eCons (eCall (eCons (e2 (eLst (eCons (eV h2) eNil)) (eV h1) (catD rfl hq10 (by rw [List.length_map]; show 1 + vs.length ≤ 1000; omega))) eNil) rfl) (eCons (eLst (eCons (eV h2) (eCons (eV h3) eNil))) eNil))))))))
  · exact stR (e2 (eLam (told_vs (x := w) (eFn (eCons (eV g7) eNil) rfl (lw c11)) pw)) (eCall (eCons (eLst (eCons eC (eCons (eV g7) (eCons eC eNil)))) eNil) (tagOk (.inr (.inl rfl)) pw)) eqSame)
end K11
end
section
set_option Elab.async false
set_option linter.all false
set_option maxRecDepth 100000
namespace K11
open PySem PySem.Spec L2 Q
variable [Tb]
theorem F_right {p : Nat} {c : Cells} (h : PotC p c) : ∃ c', F__law_right [.cell p] c = .ok (.bl true) c' ∧ Nxt p c c' := by
  obtain ⟨k, c1, ek, k0, k1, n1⟩ := draw h (n := 9) (by decide) (by decide)
  obtain ⟨m, rfl⟩ := Int.eq_ofNat_of_zero_le k0
  obtain ⟨vs, c2, et, hq, hl, hok, n2⟩ := F_things n1.pot (m := m) (by omega)
  obtain ⟨q, hqq⟩ : ∃ q, q = c1.length := ⟨_, rfl⟩
  rw [← hqq] at et hq
  have qp : q ≠ p := by
    have := n1.pot.lt
    omega
  have vq : view c2 (.cell q) = some (.lst, vs.map Vl.d) := hq
  have al : mLc false (mWalk (mVar 1)) (gN 2) [2] bYes (m2 fIs (mFn F_is_value 1 (mCons (mVar 2) mNil)) (mC (.bl true))) [some (D.cell p), some (D.cell q), none] c2 = .ok (.lst ((vs.map Vl.d).map fun _ => D.bl true)) c2 :=
    lcMap (fun _ => .bl true) (eV rfl) vq rfl (by rw [List.length_map]; omega) fun x hx => by
      obtain ⟨v, _, rfl⟩ := List.mem_map.mp hx
      exact e2 (eFn (eCons (eV rfl) eNil) rfl (isVal v c2)) eC rfl
  have a2 : bAll [.lst ((vs.map Vl.d).map fun _ => D.bl true)] c2 = some (.bl true, c2) := by
    rw [allM (fun _ => true)]
    simp
  obtain ⟨c3, e3, n3⟩ := F_levR n2.pot hq qp hok (by omega)
  have q2lt : q < c2.length := (List.getElem?_eq_some_iff.mp hq).1
  obtain ⟨j, c4, ej, j0, j1, n4⟩ := draw n3.pot (n := 5) (by decide) (by decide)
  obtain ⟨i, rfl⟩ := Int.eq_ofNat_of_zero_le j0
  have q3 : c3[q]? = some (.lst, vs.map Vl.d) := (n3.old q q2lt qp).trans hq
  have q3lt : q < c3.length := (List.getElem?_eq_some_iff.mp q3).1
  have q4 : c4[q]? = some (.lst, vs.map Vl.d) := (n4.old q q3lt qp).trans q3
  have sl : fSl false (.cell q) none (some ((i : Nat) : Int)) c4 = some (.lst ((vs.take i).map Vl.d), c4) := by
    unfold fSl
    rw [show view c4 (.cell q) = some (.lst, vs.map Vl.d) from q4]
    dsimp only
    rw [if_neg (by decide), cutV]
  have ms : mSl false (mVar 1) (fun _ c => .ok none c) (mPart (mFn F__law_draw 2 (mCons (mVar 0) (mCons (mC (.int 5)) mNil)))) [some (D.cell p), some (D.cell q), none] c3 = .ok (.lst ((vs.take i).map Vl.d)) c4 := by
    refine eSl (eV rfl) rfl (hi := some ((i : Nat) : Int)) (c3 := c4) ?_ sl
    unfold mPart
    rw [show mFn F__law_draw 2 (mCons (mVar 0) (mCons (mC (.int 5)) mNil)) [some (D.cell p), some (D.cell q), none] c3 = .ok (.int ((i : Nat) : Int)) c4 from eFn (eCons (eV rfl) (eCons eC eNil)) rfl ej]
    rfl
  have ext : F__law_extremes_right [.lst ((vs.take i).map Vl.d)] c4 = .ok (.bl true) c4 := F_extR rfl (fun v hv => hok v (List.mem_of_mem_take hv)) (by
    have := List.length_take_le i vs
    omega)
  obtain ⟨c5, e5, n5⟩ := F_eight n4.pot
  have q4lt : q < c4.length := (List.getElem?_eq_some_iff.mp q4).1
  have q5 : c5[q]? = some (.lst, vs.map Vl.d) := (n5.old q q4lt qp).trans q4
  obtain ⟨c6, e6, n6⟩ := F_refused n5.pot q5 qp hok (by omega)
  refine ⟨c6, ?_, ((((n1.trans n2).trans n3).trans n4).trans n5).trans n6⟩
  refine bodyR (sqN (stS (eFn (eCons (eV rfl) (eCons (eFn (eCons (eV rfl) (eCons eC eNil)) rfl ek) eNil)) rfl et)) ?_)
  refine sqN (stIF (eOrF (eNot (b := true) (eTru (eCall (eCons al eNil) a2) rfl)) (eNot (b := true) (eTru (eFn (eCons (eV rfl) eNil) rfl (F_pairs vq hok (by omega))) rfl))) rfl) ?_
  refine sqN (stIF (eOrF (eNot (b := true) (eTru (eFn (eCons (eV rfl) (eCons (eV rfl) eNil)) rfl e3) rfl)) (eNot (b := true) (eTru (eFn (eCons ms eNil) rfl ext) rfl))) rfl) ?_
  exact stR (eAndV (eFn (eCons (eV rfl) eNil) rfl e5) rfl (eFn (eCons (eV rfl) (eCons (eV rfl) eNil)) rfl e6))
theorem F_law_true (ns : List Int) (hl : ns.length ≤ 63) : ∃ c, F_law [.nod .frl (ns.map D.int)] [] = .ok (.bl true) c := by
  have s0 : fNe (.lst [.str "bottom", .str "top", .str "no bound"]) (.lst [.str "bottom", .str "top", .str "no bound"]) ([] : Cells) = some (.bl false, []) := by
    have cl : PyData.canLay0 (.list [.str "bottom", .str "top", .str "no bound"]) = true := by
      simp only [PyData.canLay0, PyData.canLayAll0, Bool.and_true]
      decide +kernel
    have sh : SeqAt.shaped (.list [.str "bottom", .str "top", .str "no bound"]) = true := by
      unfold SeqAt.shaped
      rw [cl]
      simp [PyData.depth, PyData.depthAll]
    have ev : PyData.eqv (.list [.str "bottom", .str "top", .str "no bound"]) (.list [.str "bottom", .str "top", .str "no bound"]) = true := SeqAt.eqv_refl _ cl
    have e1 : pyd [] (.lst [.str "bottom", .str "top", .str "no bound"]) = some (.list [.str "bottom", .str "top", .str "no bound"]) := rfl
    have key : ∀ X : List D, fNe (.lst X) (.lst X) ([] : Cells) = fEqP true (.lst X) (.lst X) [] := fun X => rfl
    rw [key]
    unfold fEqP
    rw [e1]
    dsimp only
    rw [sh, ev]
    rfl
  obtain ⟨n, hn⟩ : ∃ n : Nat, (n : Int) = (if (if (5 : Int) < ((ns.map D.int).length : Int) then 5 else ((ns.map D.int).length : Int)) > 1 then (if (5 : Int) < ((ns.map D.int).length : Int) then 5 else ((ns.map D.int).length : Int)) else 1) := by
    refine ⟨(if (if (5 : Int) < ((ns.map D.int).length : Int) then 5 else ((ns.map D.int).length : Int)) > 1 then (if (5 : Int) < ((ns.map D.int).length : Int) then 5 else ((ns.map D.int).length : Int)) else 1).toNat, Int.toNat_of_nonneg ?_⟩
    split <;> (try split) <;> omega
  have n5 : n ≤ 5 := by
    have : (n : Int) ≤ 5 := by
      rw [hn]
      split <;> (try split) <;> omega
    omega
  have ln : bLen [.nod .frl (ns.map D.int)] [] = some (.int ((ns.map D.int).length : Int), []) := lenL (t := .frl) rfl rfl
  have rg : mRng1 (mCall bMax2 (mCons (mC (.int 1)) (mCons (mCall bMin2 (mCons (mCall bLen (mCons (mVar 0) mNil)) (mCons (mC (.int 5)) mNil))) mNil))) (enter 2 [.nod .frl (ns.map D.int)]) [] = .ok (srcR 0 n) [] := by
    refine eRng ?_ (by omega)
    rw [hn]
    exact eCall (eCons eC (eCons (eCall (eCons (eCall (eCons (eV rfl) eNil) ln) (eCons eC eNil)) minI2) eNil)) maxI2
  have e : ∀ i : Nat, ((List.range n).map fun j : Nat => D.int (0 + (j : Int)))[i]? = if i < n then some (.int (0 + (i : Int))) else none := fun i => by
    rw [List.getElem?_map]
    by_cases hi : i < n
    · rw [if_pos hi, List.getElem?_range hi]
      rfl
    · rw [if_neg hi, List.getElem?_eq_none (by simp; omega)]
      rfl
  have sm : (1000 : Nat) < sizeLine := by decide
  obtain ⟨acc, c2, w, ha⟩ := lc_inv (s := srcR 0 n) (ds := (List.range n).map fun j : Nat => D.int (0 + (j : Int))) (g := gN 1) (vs := [1]) (tt := bYes) (te := mFn F__law_right 1 (mCons (mFn F__law_pot 2 (mCons (mVar 0) (mCons (mVar 1) mNil))) mNil)) (env := enter 2 [.nod .frl (ns.map D.int)])
    (fun i acc _ => acc = (List.range i).map (fun _ => D.bl ((fun _ => true) ())) ∧ i ≤ n) (fun i acc c _ => by rw [e]; rfl) (fun i acc c ⟨h, hi⟩ => by rw [h]; simp; omega)
    (fun i x acc c hx ⟨ha, hi⟩ => by
      rw [e] at hx
      split at hx
      · rename_i lt
        cases hx
        obtain ⟨a, b, ep, a0, b0, b1⟩ := F_pot (ns := ns) (k := i) (by omega) c
        have pc : PotC c.length (c ++ [(.lst, [.int a, .int b])]) := ⟨a, b, by rw [List.getElem?_append_right (Nat.le_refl _), Nat.sub_self]; rfl, a0, b0, b1⟩
        obtain ⟨c', er, _⟩ := F_right pc
        refine ⟨[some (.nod .frl (ns.map D.int)), some (.int (0 + (i : Int)))], c, rfl, .inr ⟨c, .bl true, c', rfl, ?_, ?_, lt⟩⟩
        · exact eFn (eCons (eFn (eCons (eV rfl) (eCons (eV rfl) eNil)) rfl (by rw [Int.zero_add]; exact ep)) eNil) rfl er
        · rw [ha, List.range_succ, List.map_append]
          rfl
      · cases hx)
    (n + 1) 0 [] [] ⟨rfl, Nat.zero_le _⟩ (Nat.zero_le _) (by simp)
  have lc : mLc false (mRng1 (mCall bMax2 (mCons (mC (.int 1)) (mCons (mCall bMin2 (mCons (mCall bLen (mCons (mVar 0) mNil)) (mCons (mC (.int 5)) mNil))) mNil)))) (gN 1) [1] bYes (mFn F__law_right 1 (mCons (mFn F__law_pot 2 (mCons (mVar 0) (mCons (mVar 1) mNil))) mNil)) (enter 2 [.nod .frl (ns.map D.int)]) [] = .ok (.lst acc) c2 := by
    unfold mLc
    rw [rg]
    show (lcS (srcR 0 n) (gN 1) [1] bYes _ _ (n + 1) 0 [] []).bind (lcEnd false) = _
    rw [w]
    rfl
  have al : bAll [.lst acc] c2 = some (.bl true, c2) := by
    rw [ha.1, allM (fun _ => true)]
    simp
  exact ⟨c2, bodyR (sqN (stIF (eT (e2 (eLst (eCons eC (eCons eC (eCons eC eNil)))) (eLst (eCons eC (eCons eC (eCons eC eNil)))) s0)) rfl) (stR (eCall (eCons lc eNil) al)))⟩
end K11
end
section
set_option Elab.async false
set_option linter.all false
set_option maxRecDepth 100000
namespace K11
open PySem PySem.Spec L2 Q
section
variable [Tb]
/-- all defs, over any base -/
theorem all_ok {c0 : Addr} {P : Program} {w : World} {K : PySem.W.Frag} {mg : Str → Option Value} {base : Heap} (hsys : SysIn base)
    (D_is_list : Df K mg "is_list" (topS 9))
    (D_is_integer : Df K mg "is_integer" (topS 10))
    (D_is_end : Df K mg "is_end" (topS 11))
    (D_is_value : Df K mg "is_value" (topS 12))
    (D_rank : Df K mg "rank" (topS 13))
    (D_least : Df K mg "least" (topS 14))
    (D_greatest : Df K mg "greatest" (topS 15))
    (D_end_at : Df K mg "end_at" (topS 16))
    (D_integers_in : Df K mg "integers_in" (topS 17))
    (D__check_values : Df K mg "_check_values" (topS 18))
    (D_is_at_least : Df K mg "is_at_least" (topS 19))
    (D_lesser_of : Df K mg "lesser_of" (topS 20))
    (D_greater_of : Df K mg "greater_of" (topS 21))
    (D_at_level : Df K mg "at_level" (topS 22))
    (D_levels_of : Df K mg "levels_of" (topS 23))
    (D__law_pot : Df K mg "_law_pot" (topS 25))
    (D__law_draw : Df K mg "_law_draw" (topS 26))
    (D__law_pick : Df K mg "_law_pick" (topS 27))
    (D__law_number : Df K mg "_law_number" (topS 28))
    (D__law_shown : Df K mg "_law_shown" (topS 29))
    (D__law_thing : Df K mg "_law_thing" (topS 30))
    (D__law_things : Df K mg "_law_things" (topS 31))
    (D__law_odd : Df K mg "_law_odd" (topS 32))
    (D__law_extreme : Df K mg "_law_extreme" (topS 33))
    (D__law_pairs_right : Df K mg "_law_pairs_right" (topS 35))
    (D__law_levels_right : Df K mg "_law_levels_right" (topS 36))
    (D__law_extremes_right : Df K mg "_law_extremes_right" (topS 37))
    (D__law_eight_right : Df K mg "_law_eight_right" (topS 38))
    (D__law_refused_right : DfC K mg "_law_refused_right" (topS 39) c0)
    (D__law_right : Df K mg "_law_right" (topS 40))
    (D_law : Df K mg "law" (topS 41))
    (D_law_told : Df K mg "_law_told" (topS 34)) (TX_law_told : ToldX K mg)
    (n_list : mg "list" = none)
    (n_tuple : mg "tuple" = none)
    (n_isinstance : mg "isinstance" = none)
    (n_int : mg "int" = none)
    (n_bool : mg "bool" = none)
    (n_str : mg "str" = none)
    (n_min : mg "min" = none)
    (n_max : mg "max" = none)
    (n_sorted : mg "sorted" = none)
    (n_all : mg "all" = none)
    (n_len : mg "len" = none)
    (n_abs : mg "abs" = none)
    (n_divmod : mg "divmod" = none)
    (n_range : mg "range" = none)
    (n_repr : mg "repr" = none)
    (n_set : mg "set" = none)
    (c_TOP : ∃ t, mg "TOP" = some (.str "top" t))
    (c_BOTTOM : ∃ t, mg "BOTTOM" = some (.str "bottom" t))
    (c_NO_BOUND : ∃ t, mg "NO_BOUND" = some (.str "no bound" t))
    (x_InvalidValue : ExD P w K mg base "InvalidValue")
    (x_InvalidInteger : ExD P w K mg base "InvalidInteger")
    (x_InvalidValues : ExD P w K mg base "InvalidValues")
    (tb0 : LamT base mg c0 ((PyProof.Rows.envOfC "_law_refused_right" (defScope (topS 39)) 0 0 .none).qual ++ "<lambda>")) : Ok P w K mg base 27 "law" (topS 41) ["_law_script"] F_law := by
  have o_is_list := o_is_list (P := P) (w := w) (base := base) D_is_list n_list n_tuple n_isinstance
  have o_is_integer := o_is_integer (P := P) (w := w) (base := base) D_is_integer n_int n_isinstance n_bool
  have o_is_end := o_is_end (P := P) (w := w) (base := base) D_is_end n_str n_isinstance c_TOP c_BOTTOM
  have o_is_value := o_is_value (P := P) (w := w) (base := base) D_is_value o_is_integer o_is_end
  have o_rank := o_rank (P := P) (w := w) (base := base) D_rank c_BOTTOM c_TOP
  have o_least := o_least (P := P) (w := w) (base := base) D_least c_TOP n_min o_rank
  have o_greatest := o_greatest (P := P) (w := w) (base := base) D_greatest c_BOTTOM n_max o_rank
  have o_end_at := o_end_at (P := P) (w := w) (base := base) D_end_at c_TOP c_BOTTOM o_rank
  have o_integers_in := o_integers_in (P := P) (w := w) (base := base) D_integers_in n_sorted o_is_integer
  have o__check_values := o__check_values (P := P) (w := w) (base := base) D__check_values x_InvalidValue o_is_value
  have o_is_at_least := o_is_at_least (P := P) (w := w) (base := base) D_is_at_least o__check_values o_rank
  have o_lesser_of := o_lesser_of (P := P) (w := w) (base := base) D_lesser_of o__check_values o_least
  have o_greater_of := o_greater_of (P := P) (w := w) (base := base) D_greater_of o__check_values o_greatest
  have o_at_level := o_at_level (P := P) (w := w) (base := base) D_at_level x_InvalidInteger o__check_values o_is_integer o_end_at
  have o_levels_of := o_levels_of (P := P) (w := w) (base := base) D_levels_of n_all x_InvalidValues o_is_list o_is_value o_integers_in
  have o__law_pot := o__law_pot (P := P) (w := w) (base := base) D__law_pot n_len n_abs n_int n_max
  have o__law_draw := o__law_draw (P := P) (w := w) (base := base) D__law_draw n_divmod n_int
  have o__law_pick := o__law_pick (P := P) (w := w) (base := base) D__law_pick n_len o__law_draw
  have o__law_number := o__law_number (P := P) (w := w) (base := base) D__law_number
  have o__law_shown := o__law_shown (P := P) (w := w) (base := base) D__law_shown
  have o__law_thing := o__law_thing (P := P) (w := w) (base := base) D__law_thing n_min n_max o__law_draw o__law_pick
  have o__law_things := o__law_things (P := P) (w := w) (base := base) D__law_things n_range o__law_thing
  have o__law_odd := o__law_odd (P := P) (w := w) (base := base) D__law_odd o__law_pick
  have o__law_extreme := o__law_extreme (P := P) (w := w) (base := base) D__law_extreme n_len o_greater_of o_lesser_of
  have o__law_pairs_right := o__law_pairs_right (P := P) (w := w) (base := base) D__law_pairs_right hsys n_repr n_all o_is_at_least o__law_number o_at_level
  have o__law_levels_right := o__law_levels_right (P := P) (w := w) (base := base) D__law_levels_right hsys n_int n_repr n_sorted n_set n_tuple o__law_draw o__law_number o_at_level o_levels_of
  have o__law_extremes_right := o__law_extremes_right (P := P) (w := w) (base := base) D__law_extremes_right hsys n_max n_min n_repr o__law_number o__law_shown o__law_extreme
  have o__law_eight_right := o__law_eight_right (P := P) (w := w) (base := base) D__law_eight_right hsys n_repr n_max n_min o__law_things o__law_number o_lesser_of o_greater_of o__law_shown
  have o__law_refused_right := o__law_refused_right (P := P) (w := w) (base := base) D__law_refused_right hsys n_len D_law_told TX_law_told tb0 n_repr n_tuple o__law_odd o__law_draw o__law_extreme o_is_value o_is_at_least o_at_level o__law_pick o_levels_of
  have o__law_right := o__law_right (P := P) (w := w) (base := base) D__law_right n_all o__law_things o__law_draw o_is_value o__law_pairs_right o__law_levels_right o__law_extremes_right o__law_eight_right o__law_refused_right
  have o_law := o_law (P := P) (w := w) (base := base) D_law c_NO_BOUND c_TOP c_BOTTOM n_len n_min n_max n_range n_all o__law_right o__law_pot
  exact o_law
end
theorem head_G {c0 P0 fM : Addr} {P : Program} {w : World} {K : PySem.W.Frag} {mg : Str → Option Value} {h : Heap} {ocM : Value} {odM anM : Option Addr} {oslM : Array (Option Value)} {kVM docM pmM ctM : Value} (X : K.In h) (G : h.Ns mainGlobals mg) (l : PySem.W.OpenLaw) (hl : l.prog = P)
    (D_is_list : Df K mg "is_list" (topS 9))
    (D_is_integer : Df K mg "is_integer" (topS 10))
    (D_is_end : Df K mg "is_end" (topS 11))
    (D_is_value : Df K mg "is_value" (topS 12))
    (D_rank : Df K mg "rank" (topS 13))
    (D_least : Df K mg "least" (topS 14))
    (D_greatest : Df K mg "greatest" (topS 15))
    (D_end_at : Df K mg "end_at" (topS 16))
    (D_integers_in : Df K mg "integers_in" (topS 17))
    (D__check_values : Df K mg "_check_values" (topS 18))
    (D_is_at_least : Df K mg "is_at_least" (topS 19))
    (D_lesser_of : Df K mg "lesser_of" (topS 20))
    (D_greater_of : Df K mg "greater_of" (topS 21))
    (D_at_level : Df K mg "at_level" (topS 22))
    (D_levels_of : Df K mg "levels_of" (topS 23))
    (D__law_pot : Df K mg "_law_pot" (topS 25))
    (D__law_draw : Df K mg "_law_draw" (topS 26))
    (D__law_pick : Df K mg "_law_pick" (topS 27))
    (D__law_number : Df K mg "_law_number" (topS 28))
    (D__law_shown : Df K mg "_law_shown" (topS 29))
    (D__law_thing : Df K mg "_law_thing" (topS 30))
    (D__law_things : Df K mg "_law_things" (topS 31))
    (D__law_odd : Df K mg "_law_odd" (topS 32))
    (D__law_extreme : Df K mg "_law_extreme" (topS 33))
    (D__law_pairs_right : Df K mg "_law_pairs_right" (topS 35))
    (D__law_levels_right : Df K mg "_law_levels_right" (topS 36))
    (D__law_extremes_right : Df K mg "_law_extremes_right" (topS 37))
    (D__law_eight_right : Df K mg "_law_eight_right" (topS 38))
    (aM : PySem.W.nsIn K mainGlobals "_law_refused_right" = some (some (.ref fM))) (lM : K.lookup fM = some ⟨ocM, odM, .func (PySem.W.fnOf "_law_refused_right" "_law_refused_right" (defArgs (topS 39)) (defBody (topS 39)) (defScope (topS 39)) .none kVM docM pmM anM (.ref c0) ctM), oslM⟩) (cM : PySem.W.codeIn K (.ref c0) "_law_refused_right" = true) (kM : PySem.W.keepIn K (.ref fM) = true)
    (D__law_right : Df K mg "_law_right" (topS 40))
    (D_law : Df K mg "law" (topS 41))
    (D_law_told : Df K mg "_law_told" (topS 34)) (TX_law_told : ToldX K mg)
    (n_list : mg "list" = none)
    (n_tuple : mg "tuple" = none)
    (n_isinstance : mg "isinstance" = none)
    (n_int : mg "int" = none)
    (n_bool : mg "bool" = none)
    (n_str : mg "str" = none)
    (n_min : mg "min" = none)
    (n_max : mg "max" = none)
    (n_sorted : mg "sorted" = none)
    (n_all : mg "all" = none)
    (n_len : mg "len" = none)
    (n_abs : mg "abs" = none)
    (n_divmod : mg "divmod" = none)
    (n_range : mg "range" = none)
    (n_repr : mg "repr" = none)
    (n_set : mg "set" = none)
    (c_TOP : ∃ t, mg "TOP" = some (.str "top" t))
    (c_BOTTOM : ∃ t, mg "BOTTOM" = some (.str "bottom" t))
    (c_NO_BOUND : ∃ t, mg "NO_BOUND" = some (.str "no bound" t))
    (x_InvalidValue : ∀ base : Heap, ExD P w K mg base "InvalidValue")
    (x_InvalidInteger : ∀ base : Heap, ExD P w K mg base "InvalidInteger")
    (x_InvalidValues : ∀ base : Heap, ExD P w K mg base "InvalidValues")
    (tE : ∀ P ∈ [P0], h.get? P = some (PySem.W.tabObj #[])) (tK : K.lookup P0 = none) (cH : PySem.W.codeHdIn K c0 P0 = true) : LawG l w K 27 63 "law" "_law_script" (topS 41) mg h := by
  subst hl
  have D__law_refused_right := @dfC_mk ⟨[]⟩ _ _ _ _ _ _ _ _ _ _ _ _ _ _ _ X G aM lM cM kM
  refine ⟨⟨[(P0, ((PyProof.Rows.envOfC "_law_refused_right" (defScope (topS 39)) 0 0 .none).qual ++ "<lambda>"))]⟩, [(c0, P0)], F_law, fun p hp => ⟨(c0, P0), List.mem_cons_self, ?_⟩, fun p hp => ?_, fun p hp => ?_, fun p hp => ?_, fun ns hn _ => ?_, fun base hK hN hT hS => ?_⟩
  · rw [List.mem_singleton.mp hp]
  · rw [List.mem_singleton.mp hp]
    exact tE P0 List.mem_cons_self
  · rw [List.mem_singleton.mp hp]
    exact tK
  · rw [List.mem_singleton.mp hp]
    exact PySem.W.codeHd_of_K X cH
  · letI : Tb := ⟨[(P0, ((PyProof.Rows.envOfC "_law_refused_right" (defScope (topS 39)) 0 0 .none).qual ++ "<lambda>"))]⟩
    exact F_law_true ns hn
  · letI : Tb := ⟨[(P0, ((PyProof.Rows.envOfC "_law_refused_right" (defScope (topS 39)) 0 0 .none).qual ++ "<lambda>"))]⟩
    exact all_ok hS D_is_list D_is_integer D_is_end D_is_value D_rank D_least D_greatest D_end_at D_integers_in D__check_values D_is_at_least D_lesser_of D_greater_of D_at_level D_levels_of D__law_pot D__law_draw D__law_pick D__law_number D__law_shown D__law_thing D__law_things D__law_odd D__law_extreme D__law_pairs_right D__law_levels_right D__law_extremes_right D__law_eight_right D__law_refused_right D__law_right D_law D_law_told TX_law_told n_list n_tuple n_isinstance n_int n_bool n_str n_min n_max n_sorted n_all n_len n_abs n_divmod n_range n_repr n_set c_TOP c_BOTTOM c_NO_BOUND (x_InvalidValue base) (x_InvalidInteger base) (x_InvalidValues base) (lam_mk (hT (c0, P0) List.mem_cons_self) rfl)
abbrev initS_InvalidValue : Stmt := clsDef (topS 2)
theorem init_InvalidValue : ∃ p1 p2 p3 p4, InitS initS_InvalidValue p1 p2 p3 p4 := ⟨_, _, _, _, ⟨rfl, rfl, rfl, by decide +kernel, rfl, by decide +kernel, by decide +kernel⟩, rfl, .inl rfl, .inl rfl, fun _ => rfl, fun _ _ _ _ _ _ _ us hl => match us, hl with | [_, _], _ => rfl⟩
abbrev initS_InvalidInteger : Stmt := clsDef (topS 3)
theorem init_InvalidInteger : ∃ p1 p2 p3 p4, InitS initS_InvalidInteger p1 p2 p3 p4 := ⟨_, _, _, _, ⟨rfl, rfl, rfl, by decide +kernel, rfl, by decide +kernel, by decide +kernel⟩, rfl, .inl rfl, .inl rfl, fun _ => rfl, fun _ _ _ _ _ _ _ us hl => match us, hl with | [_, _], _ => rfl⟩
abbrev initS_InvalidValues : Stmt := clsDef (topS 4)
theorem init_InvalidValues : ∃ p1 p2 p3 p4, InitS initS_InvalidValues p1 p2 p3 p4 := ⟨_, _, _, _, ⟨rfl, rfl, rfl, by decide +kernel, rfl, by decide +kernel, by decide +kernel⟩, rfl, .inl rfl, .inl rfl, fun _ => rfl, fun _ _ _ _ _ _ _ us hl => match us, hl with | [_, _], _ => rfl⟩
theorem told_of {K : PySem.W.Frag} {h : Heap} {mg : Str → Option Value} (X : K.In h) (G : h.Ns mainGlobals mg) {CH C0 C1 C2 : Addr}
    (aH : PySem.W.nsIn K mainGlobals "HeldError" = some (some (.ref CH))) (hH : PySem.W.hasDictIn K CH = true) (tH : PySem.W.typeIn K (.ref CH) = some (.type "type"))
    (a0 : PySem.W.nsIn K mainGlobals "InvalidValue" = some (some (.ref C0))) (F0 : XF K C0) (sH0 : PySem.W.subIn K (.ref C0) (.ref CH) = some true) (sV0 : PySem.W.subIn K (.ref C0) (.type "ValueError") = some true)
    (a1 : PySem.W.nsIn K mainGlobals "InvalidInteger" = some (some (.ref C1))) (F1 : XF K C1) (sH1 : PySem.W.subIn K (.ref C1) (.ref CH) = some true) (sV1 : PySem.W.subIn K (.ref C1) (.type "ValueError") = some true)
    (a2 : PySem.W.nsIn K mainGlobals "InvalidValues" = some (some (.ref C2))) (F2 : XF K C2) (sH2 : PySem.W.subIn K (.ref C2) (.ref CH) = some true) (sV2 : PySem.W.subIn K (.ref C2) (.type "ValueError") = some true)
    (s00 : PySem.W.subIn K (.ref C0) (.ref C0) = some true)
    (s01 : PySem.W.subIn K (.ref C0) (.ref C1) = some false)
    (s02 : PySem.W.subIn K (.ref C0) (.ref C2) = some false)
    (s10 : PySem.W.subIn K (.ref C1) (.ref C0) = some false)
    (s11 : PySem.W.subIn K (.ref C1) (.ref C1) = some true)
    (s12 : PySem.W.subIn K (.ref C1) (.ref C2) = some false)
    (s20 : PySem.W.subIn K (.ref C2) (.ref C0) = some false)
    (s21 : PySem.W.subIn K (.ref C2) (.ref C1) = some false)
    (s22 : PySem.W.subIn K (.ref C2) (.ref C2) = some true)
    (hn : PySem.W.specialIn K (.builtin "object.__class__") "__get__" = some (some (.builtin "getset_descriptor.__get__"))) (ht : PySem.W.takesIn K (.builtin "object.__class__") = some true) (v1 : mg "ValueError" = none) (v2 : mg "isinstance" = none) (v3 : mg "repr" = none) : ToldX K mg := by
  letI : Tb := ⟨[]⟩
  have h_InvalidValue : ExHit K mg exNs "InvalidValue" := hit_mk X G a0 fun n hn => by
    simp only [exNs, List.mem_cons, List.not_mem_nil, or_false] at hn
    rcases hn with e | e | e <;> subst e
    · exact ⟨C0, a0, (PySem.W.exm_ref F0.eC F0.hC F0.tC s00).trans (congrArg some (by decide))⟩
    · exact ⟨C2, a2, (PySem.W.exm_ref F0.eC F0.hC F0.tC s20).trans (congrArg some (by decide))⟩
    · exact ⟨C1, a1, (PySem.W.exm_ref F0.eC F0.hC F0.tC s10).trans (congrArg some (by decide))⟩
  have h_InvalidValues : ExHit K mg exNs "InvalidValues" := hit_mk X G a2 fun n hn => by
    simp only [exNs, List.mem_cons, List.not_mem_nil, or_false] at hn
    rcases hn with e | e | e <;> subst e
    · exact ⟨C0, a0, (PySem.W.exm_ref F2.eC F2.hC F2.tC s02).trans (congrArg some (by decide))⟩
    · exact ⟨C2, a2, (PySem.W.exm_ref F2.eC F2.hC F2.tC s22).trans (congrArg some (by decide))⟩
    · exact ⟨C1, a1, (PySem.W.exm_ref F2.eC F2.hC F2.tC s12).trans (congrArg some (by decide))⟩
  have h_InvalidInteger : ExHit K mg exNs "InvalidInteger" := hit_mk X G a1 fun n hn => by
    simp only [exNs, List.mem_cons, List.not_mem_nil, or_false] at hn
    rcases hn with e | e | e <;> subst e
    · exact ⟨C0, a0, (PySem.W.exm_ref F1.eC F1.hC F1.tC s01).trans (congrArg some (by decide))⟩
    · exact ⟨C2, a2, (PySem.W.exm_ref F1.eC F1.hC F1.tC s21).trans (congrArg some (by decide))⟩
    · exact ⟨C1, a1, (PySem.W.exm_ref F1.eC F1.hC F1.tC s11).trans (congrArg some (by decide))⟩
  exact ⟨h_InvalidValue, h_InvalidValues, h_InvalidInteger, F0.su X G a0 hn ht, F2.su X G a2 hn ht, F1.su X G a1 hn ht, base_mk X G a0 aH (kit_ref hH tH sH0), base_mk X G a2 aH (kit_ref hH tH sH2), base_mk X G a1 aH (kit_ref hH tH sH1), ty_mk X G a0 (kit_tyV sV0), ty_mk X G a2 (kit_tyV sV2), ty_mk X G a1 (kit_tyV sV1), v1, v2, v3⟩
theorem exc_all {P : Program} {w : World} {K : PySem.W.Frag} {h : Heap} {mg : Str → Option Value} (X : K.In h) (G : h.Ns mainGlobals mg) {CH : Addr}
    (aH : PySem.W.nsIn K mainGlobals "HeldError" = some (some (.ref CH))) (hH : PySem.W.hasDictIn K CH = true) (tH : PySem.W.typeIn K (.ref CH) = some (.type "type"))
    {C0 fI0 N0 : Addr} {nm0 q0 qual0 : Str} {bs0 bm0 sub0 : List Value} {sn0 : List Str} {ab0 : Bool} {col0 : Option Bool} {dd0 od0 an0 : Option Addr} {m00 m10 m20 m30 m50 : Option Value} {oc0 kV0 doc0 pm0 cdv0 ct0 : Value} {osl0 : Array (Option Value)}
    (a0 : PySem.W.nsIn K mainGlobals "InvalidValue" = some (some (.ref C0)))
    (ga0 : PySem.W.findIn K (.ref C0) "__getattribute__" = some (some (.builtin "BaseException.__getattribute__")))
    (gg0 : PySem.W.findIn K (.ref C0) "__getattr__" = some none)
    (sa0 : PySem.W.findIn K (.ref C0) "__setattr__" = some (some (.builtin "object.__setattr__")))
    (ca0 : PySem.W.findIn K (.ref C0) "__class__" = some (some (.builtin "object.__class__")))
    (nv0 : PySem.W.findIn K (.ref C0) "value" = some none)
    (eC0 : PySem.W.subIn K (.ref C0) (.type "BaseException") = some true)
    (tC0 : PySem.W.typeIn K (.ref C0) = some (.type "type"))
    (kC0 : PySem.W.keepIn K (.ref C0) = true)
    (hC0 : PySem.W.hasDictIn K C0 = true)
    (m0 : PySem.W.mroIn K C0 (.type "object") = some true)
    (xL0 : K.lookup C0 = some (excClassObj nm0 q0 C0 N0 bs0 bm0 true sn0 sub0 ab0 col0 dd0 m00 m10 m20 m30 m50 "ValueError.__new__")) (rv0 : PySem.HandSPX.refsVE bm0 = true)
    (iC0 : PySem.W.findIn K (.ref C0) "__init__" = some (some (.ref fI0))) (tI0 : PySem.W.typeIn K (.ref fI0) = some (.type "function"))
    (l0 : K.lookup fI0 = some ⟨oc0, od0, .func (PySem.W.fnOf "__init__" qual0 (defArgs initS_InvalidValue) (defBody initS_InvalidValue) (defScope initS_InvalidValue) .none kV0 doc0 pm0 an0 cdv0 ct0), osl0⟩) (c0 : PySem.W.codeIn K cdv0 qual0 = true) (k0 : PySem.W.keepIn K (.ref fI0) = true)
    (sH0 : PySem.W.subIn K (.ref C0) (.ref CH) = some true) (sV0 : PySem.W.subIn K (.ref C0) (.type "ValueError") = some true)
    {C1 fI1 N1 : Addr} {nm1 q1 qual1 : Str} {bs1 bm1 sub1 : List Value} {sn1 : List Str} {ab1 : Bool} {col1 : Option Bool} {dd1 od1 an1 : Option Addr} {m01 m11 m21 m31 m51 : Option Value} {oc1 kV1 doc1 pm1 cdv1 ct1 : Value} {osl1 : Array (Option Value)}
    (a1 : PySem.W.nsIn K mainGlobals "InvalidInteger" = some (some (.ref C1)))
    (ga1 : PySem.W.findIn K (.ref C1) "__getattribute__" = some (some (.builtin "BaseException.__getattribute__")))
    (gg1 : PySem.W.findIn K (.ref C1) "__getattr__" = some none)
    (sa1 : PySem.W.findIn K (.ref C1) "__setattr__" = some (some (.builtin "object.__setattr__")))
    (ca1 : PySem.W.findIn K (.ref C1) "__class__" = some (some (.builtin "object.__class__")))
    (nv1 : PySem.W.findIn K (.ref C1) "value" = some none)
    (eC1 : PySem.W.subIn K (.ref C1) (.type "BaseException") = some true)
    (tC1 : PySem.W.typeIn K (.ref C1) = some (.type "type"))
    (kC1 : PySem.W.keepIn K (.ref C1) = true)
    (hC1 : PySem.W.hasDictIn K C1 = true)
    (m1 : PySem.W.mroIn K C1 (.type "object") = some true)
    (xL1 : K.lookup C1 = some (excClassObj nm1 q1 C1 N1 bs1 bm1 true sn1 sub1 ab1 col1 dd1 m01 m11 m21 m31 m51 "ValueError.__new__")) (rv1 : PySem.HandSPX.refsVE bm1 = true)
    (iC1 : PySem.W.findIn K (.ref C1) "__init__" = some (some (.ref fI1))) (tI1 : PySem.W.typeIn K (.ref fI1) = some (.type "function"))
    (l1 : K.lookup fI1 = some ⟨oc1, od1, .func (PySem.W.fnOf "__init__" qual1 (defArgs initS_InvalidInteger) (defBody initS_InvalidInteger) (defScope initS_InvalidInteger) .none kV1 doc1 pm1 an1 cdv1 ct1), osl1⟩) (c1 : PySem.W.codeIn K cdv1 qual1 = true) (k1 : PySem.W.keepIn K (.ref fI1) = true)
    (sH1 : PySem.W.subIn K (.ref C1) (.ref CH) = some true) (sV1 : PySem.W.subIn K (.ref C1) (.type "ValueError") = some true)
    {C2 fI2 N2 : Addr} {nm2 q2 qual2 : Str} {bs2 bm2 sub2 : List Value} {sn2 : List Str} {ab2 : Bool} {col2 : Option Bool} {dd2 od2 an2 : Option Addr} {m02 m12 m22 m32 m52 : Option Value} {oc2 kV2 doc2 pm2 cdv2 ct2 : Value} {osl2 : Array (Option Value)}
    (a2 : PySem.W.nsIn K mainGlobals "InvalidValues" = some (some (.ref C2)))
    (ga2 : PySem.W.findIn K (.ref C2) "__getattribute__" = some (some (.builtin "BaseException.__getattribute__")))
    (gg2 : PySem.W.findIn K (.ref C2) "__getattr__" = some none)
    (sa2 : PySem.W.findIn K (.ref C2) "__setattr__" = some (some (.builtin "object.__setattr__")))
    (ca2 : PySem.W.findIn K (.ref C2) "__class__" = some (some (.builtin "object.__class__")))
    (nv2 : PySem.W.findIn K (.ref C2) "value" = some none)
    (eC2 : PySem.W.subIn K (.ref C2) (.type "BaseException") = some true)
    (tC2 : PySem.W.typeIn K (.ref C2) = some (.type "type"))
    (kC2 : PySem.W.keepIn K (.ref C2) = true)
    (hC2 : PySem.W.hasDictIn K C2 = true)
    (m2 : PySem.W.mroIn K C2 (.type "object") = some true)
    (xL2 : K.lookup C2 = some (excClassObj nm2 q2 C2 N2 bs2 bm2 true sn2 sub2 ab2 col2 dd2 m02 m12 m22 m32 m52 "ValueError.__new__")) (rv2 : PySem.HandSPX.refsVE bm2 = true)
    (iC2 : PySem.W.findIn K (.ref C2) "__init__" = some (some (.ref fI2))) (tI2 : PySem.W.typeIn K (.ref fI2) = some (.type "function"))
    (l2 : K.lookup fI2 = some ⟨oc2, od2, .func (PySem.W.fnOf "__init__" qual2 (defArgs initS_InvalidValues) (defBody initS_InvalidValues) (defScope initS_InvalidValues) .none kV2 doc2 pm2 an2 cdv2 ct2), osl2⟩) (c2 : PySem.W.codeIn K cdv2 qual2 = true) (k2 : PySem.W.keepIn K (.ref fI2) = true)
    (sH2 : PySem.W.subIn K (.ref C2) (.ref CH) = some true) (sV2 : PySem.W.subIn K (.ref C2) (.type "ValueError") = some true)
    (s00 : PySem.W.subIn K (.ref C0) (.ref C0) = some true)
    (s01 : PySem.W.subIn K (.ref C0) (.ref C1) = some false)
    (s02 : PySem.W.subIn K (.ref C0) (.ref C2) = some false)
    (s10 : PySem.W.subIn K (.ref C1) (.ref C0) = some false)
    (s11 : PySem.W.subIn K (.ref C1) (.ref C1) = some true)
    (s12 : PySem.W.subIn K (.ref C1) (.ref C2) = some false)
    (s20 : PySem.W.subIn K (.ref C2) (.ref C0) = some false)
    (s21 : PySem.W.subIn K (.ref C2) (.ref C1) = some false)
    (s22 : PySem.W.subIn K (.ref C2) (.ref C2) = some true)
    (hn : PySem.W.specialIn K (.builtin "object.__class__") "__get__" = some (some (.builtin "getset_descriptor.__get__"))) (ht : PySem.W.takesIn K (.builtin "object.__class__") = some true) (v1 : mg "ValueError" = none) (v2 : mg "isinstance" = none) (v3 : mg "repr" = none) : (∀ base : Heap, ExD P w K mg base "InvalidValue") ∧ (∀ base : Heap, ExD P w K mg base "InvalidInteger") ∧ (∀ base : Heap, ExD P w K mg base "InvalidValues") ∧ ToldX K mg := by
  letI : Tb := ⟨[]⟩
  obtain ⟨_, _, _, _, Z0⟩ := init_InvalidValue
  have F0 : XF K C0 := ⟨ga0, gg0, sa0, ca0, nv0, eC0, tC0, kC0, hC0, m0⟩
  obtain ⟨_, _, _, _, Z1⟩ := init_InvalidInteger
  have F1 : XF K C1 := ⟨ga1, gg1, sa1, ca1, nv1, eC1, tC1, kC1, hC1, m1⟩
  obtain ⟨_, _, _, _, Z2⟩ := init_InvalidValues
  have F2 : XF K C2 := ⟨ga2, gg2, sa2, ca2, nv2, eC2, tC2, kC2, hC2, m2⟩
  exact ⟨exd_of Z0 X G a0 F0 xL0 rv0 iC0 tI0 l0 c0 k0, exd_of Z1 X G a1 F1 xL1 rv1 iC1 tI1 l1 c1 k1, exd_of Z2 X G a2 F2 xL2 rv2 iC2 tI2 l2 c2 k2, told_of X G aH hH tH a0 F0 sH0 sV0 a1 F1 sH1 sV1 a2 F2 sH2 sV2 s00 s01 s02 s10 s11 s12 s20 s21 s22 hn ht v1 v2 v3⟩
theorem room : Room 27 callerA := ⟨rfl, by decide, by decide⟩
theorem head_all {P : Program} {w : World} {K : PySem.W.Frag} {h : Heap} {mg : Str → Option Value} (X : K.In h) (G : h.Ns mainGlobals mg) (lw : PySem.W.OpenLaw) (hl : lw.prog = P) {cA P0 CH : Addr}
    {f_is_list : Addr} {oc_is_list kV_is_list dc_is_list pm_is_list ct_is_list : Value} {od_is_list an_is_list : Option Addr} {sl_is_list : Array (Option Value)} {cd_is_list : Value}
    (a_is_list : PySem.W.nsIn K mainGlobals "is_list" = some (some (.ref f_is_list))) (l_is_list : K.lookup f_is_list = some ⟨oc_is_list, od_is_list, .func (PySem.W.fnOf "is_list" "is_list" (defArgs (topS 9)) (defBody (topS 9)) (defScope (topS 9)) .none kV_is_list dc_is_list pm_is_list an_is_list cd_is_list ct_is_list), sl_is_list⟩) (e_is_list : PySem.W.codeIn K cd_is_list "is_list" = true) (k_is_list : PySem.W.keepIn K (.ref f_is_list) = true)
    {f_is_integer : Addr} {oc_is_integer kV_is_integer dc_is_integer pm_is_integer ct_is_integer : Value} {od_is_integer an_is_integer : Option Addr} {sl_is_integer : Array (Option Value)} {cd_is_integer : Value}
    (a_is_integer : PySem.W.nsIn K mainGlobals "is_integer" = some (some (.ref f_is_integer))) (l_is_integer : K.lookup f_is_integer = some ⟨oc_is_integer, od_is_integer, .func (PySem.W.fnOf "is_integer" "is_integer" (defArgs (topS 10)) (defBody (topS 10)) (defScope (topS 10)) .none kV_is_integer dc_is_integer pm_is_integer an_is_integer cd_is_integer ct_is_integer), sl_is_integer⟩) (e_is_integer : PySem.W.codeIn K cd_is_integer "is_integer" = true) (k_is_integer : PySem.W.keepIn K (.ref f_is_integer) = true)
    {f_is_end : Addr} {oc_is_end kV_is_end dc_is_end pm_is_end ct_is_end : Value} {od_is_end an_is_end : Option Addr} {sl_is_end : Array (Option Value)} {cd_is_end : Value}
    (a_is_end : PySem.W.nsIn K mainGlobals "is_end" = some (some (.ref f_is_end))) (l_is_end : K.lookup f_is_end = some ⟨oc_is_end, od_is_end, .func (PySem.W.fnOf "is_end" "is_end" (defArgs (topS 11)) (defBody (topS 11)) (defScope (topS 11)) .none kV_is_end dc_is_end pm_is_end an_is_end cd_is_end ct_is_end), sl_is_end⟩) (e_is_end : PySem.W.codeIn K cd_is_end "is_end" = true) (k_is_end : PySem.W.keepIn K (.ref f_is_end) = true)
    {f_is_value : Addr} {oc_is_value kV_is_value dc_is_value pm_is_value ct_is_value : Value} {od_is_value an_is_value : Option Addr} {sl_is_value : Array (Option Value)} {cd_is_value : Value}
    (a_is_value : PySem.W.nsIn K mainGlobals "is_value" = some (some (.ref f_is_value))) (l_is_value : K.lookup f_is_value = some ⟨oc_is_value, od_is_value, .func (PySem.W.fnOf "is_value" "is_value" (defArgs (topS 12)) (defBody (topS 12)) (defScope (topS 12)) .none kV_is_value dc_is_value pm_is_value an_is_value cd_is_value ct_is_value), sl_is_value⟩) (e_is_value : PySem.W.codeIn K cd_is_value "is_value" = true) (k_is_value : PySem.W.keepIn K (.ref f_is_value) = true)
    {f_rank : Addr} {oc_rank kV_rank dc_rank pm_rank ct_rank : Value} {od_rank an_rank : Option Addr} {sl_rank : Array (Option Value)} {cd_rank : Value}
    (a_rank : PySem.W.nsIn K mainGlobals "rank" = some (some (.ref f_rank))) (l_rank : K.lookup f_rank = some ⟨oc_rank, od_rank, .func (PySem.W.fnOf "rank" "rank" (defArgs (topS 13)) (defBody (topS 13)) (defScope (topS 13)) .none kV_rank dc_rank pm_rank an_rank cd_rank ct_rank), sl_rank⟩) (e_rank : PySem.W.codeIn K cd_rank "rank" = true) (k_rank : PySem.W.keepIn K (.ref f_rank) = true)
    {f_least : Addr} {oc_least kV_least dc_least pm_least ct_least : Value} {od_least an_least : Option Addr} {sl_least : Array (Option Value)} {cd_least : Value}
    (a_least : PySem.W.nsIn K mainGlobals "least" = some (some (.ref f_least))) (l_least : K.lookup f_least = some ⟨oc_least, od_least, .func (PySem.W.fnOf "least" "least" (defArgs (topS 14)) (defBody (topS 14)) (defScope (topS 14)) .none kV_least dc_least pm_least an_least cd_least ct_least), sl_least⟩) (e_least : PySem.W.codeIn K cd_least "least" = true) (k_least : PySem.W.keepIn K (.ref f_least) = true)
    {f_greatest : Addr} {oc_greatest kV_greatest dc_greatest pm_greatest ct_greatest : Value} {od_greatest an_greatest : Option Addr} {sl_greatest : Array (Option Value)} {cd_greatest : Value}
    (a_greatest : PySem.W.nsIn K mainGlobals "greatest" = some (some (.ref f_greatest))) (l_greatest : K.lookup f_greatest = some ⟨oc_greatest, od_greatest, .func (PySem.W.fnOf "greatest" "greatest" (defArgs (topS 15)) (defBody (topS 15)) (defScope (topS 15)) .none kV_greatest dc_greatest pm_greatest an_greatest cd_greatest ct_greatest), sl_greatest⟩) (e_greatest : PySem.W.codeIn K cd_greatest "greatest" = true) (k_greatest : PySem.W.keepIn K (.ref f_greatest) = true)
    {f_end_at : Addr} {oc_end_at kV_end_at dc_end_at pm_end_at ct_end_at : Value} {od_end_at an_end_at : Option Addr} {sl_end_at : Array (Option Value)} {cd_end_at : Value}
    (a_end_at : PySem.W.nsIn K mainGlobals "end_at" = some (some (.ref f_end_at))) (l_end_at : K.lookup f_end_at = some ⟨oc_end_at, od_end_at, .func (PySem.W.fnOf "end_at" "end_at" (defArgs (topS 16)) (defBody (topS 16)) (defScope (topS 16)) .none kV_end_at dc_end_at pm_end_at an_end_at cd_end_at ct_end_at), sl_end_at⟩) (e_end_at : PySem.W.codeIn K cd_end_at "end_at" = true) (k_end_at : PySem.W.keepIn K (.ref f_end_at) = true)
    {f_integers_in : Addr} {oc_integers_in kV_integers_in dc_integers_in pm_integers_in ct_integers_in : Value} {od_integers_in an_integers_in : Option Addr} {sl_integers_in : Array (Option Value)} {cd_integers_in : Value}
    (a_integers_in : PySem.W.nsIn K mainGlobals "integers_in" = some (some (.ref f_integers_in))) (l_integers_in : K.lookup f_integers_in = some ⟨oc_integers_in, od_integers_in, .func (PySem.W.fnOf "integers_in" "integers_in" (defArgs (topS 17)) (defBody (topS 17)) (defScope (topS 17)) .none kV_integers_in dc_integers_in pm_integers_in an_integers_in cd_integers_in ct_integers_in), sl_integers_in⟩) (e_integers_in : PySem.W.codeIn K cd_integers_in "integers_in" = true) (k_integers_in : PySem.W.keepIn K (.ref f_integers_in) = true)
    {f__check_values : Addr} {oc__check_values kV__check_values dc__check_values pm__check_values ct__check_values : Value} {od__check_values an__check_values : Option Addr} {sl__check_values : Array (Option Value)} {cd__check_values : Value}
    (a__check_values : PySem.W.nsIn K mainGlobals "_check_values" = some (some (.ref f__check_values))) (l__check_values : K.lookup f__check_values = some ⟨oc__check_values, od__check_values, .func (PySem.W.fnOf "_check_values" "_check_values" (defArgs (topS 18)) (defBody (topS 18)) (defScope (topS 18)) .none kV__check_values dc__check_values pm__check_values an__check_values cd__check_values ct__check_values), sl__check_values⟩) (e__check_values : PySem.W.codeIn K cd__check_values "_check_values" = true) (k__check_values : PySem.W.keepIn K (.ref f__check_values) = true)
    {f_is_at_least : Addr} {oc_is_at_least kV_is_at_least dc_is_at_least pm_is_at_least ct_is_at_least : Value} {od_is_at_least an_is_at_least : Option Addr} {sl_is_at_least : Array (Option Value)} {cd_is_at_least : Value}
    (a_is_at_least : PySem.W.nsIn K mainGlobals "is_at_least" = some (some (.ref f_is_at_least))) (l_is_at_least : K.lookup f_is_at_least = some ⟨oc_is_at_least, od_is_at_least, .func (PySem.W.fnOf "is_at_least" "is_at_least" (defArgs (topS 19)) (defBody (topS 19)) (defScope (topS 19)) .none kV_is_at_least dc_is_at_least pm_is_at_least an_is_at_least cd_is_at_least ct_is_at_least), sl_is_at_least⟩) (e_is_at_least : PySem.W.codeIn K cd_is_at_least "is_at_least" = true) (k_is_at_least : PySem.W.keepIn K (.ref f_is_at_least) = true)
    {f_lesser_of : Addr} {oc_lesser_of kV_lesser_of dc_lesser_of pm_lesser_of ct_lesser_of : Value} {od_lesser_of an_lesser_of : Option Addr} {sl_lesser_of : Array (Option Value)} {cd_lesser_of : Value}
    (a_lesser_of : PySem.W.nsIn K mainGlobals "lesser_of" = some (some (.ref f_lesser_of))) (l_lesser_of : K.lookup f_lesser_of = some ⟨oc_lesser_of, od_lesser_of, .func (PySem.W.fnOf "lesser_of" "lesser_of" (defArgs (topS 20)) (defBody (topS 20)) (defScope (topS 20)) .none kV_lesser_of dc_lesser_of pm_lesser_of an_lesser_of cd_lesser_of ct_lesser_of), sl_lesser_of⟩) (e_lesser_of : PySem.W.codeIn K cd_lesser_of "lesser_of" = true) (k_lesser_of : PySem.W.keepIn K (.ref f_lesser_of) = true)
    {f_greater_of : Addr} {oc_greater_of kV_greater_of dc_greater_of pm_greater_of ct_greater_of : Value} {od_greater_of an_greater_of : Option Addr} {sl_greater_of : Array (Option Value)} {cd_greater_of : Value}
    (a_greater_of : PySem.W.nsIn K mainGlobals "greater_of" = some (some (.ref f_greater_of))) (l_greater_of : K.lookup f_greater_of = some ⟨oc_greater_of, od_greater_of, .func (PySem.W.fnOf "greater_of" "greater_of" (defArgs (topS 21)) (defBody (topS 21)) (defScope (topS 21)) .none kV_greater_of dc_greater_of pm_greater_of an_greater_of cd_greater_of ct_greater_of), sl_greater_of⟩) (e_greater_of : PySem.W.codeIn K cd_greater_of "greater_of" = true) (k_greater_of : PySem.W.keepIn K (.ref f_greater_of) = true)
    {f_at_level : Addr} {oc_at_level kV_at_level dc_at_level pm_at_level ct_at_level : Value} {od_at_level an_at_level : Option Addr} {sl_at_level : Array (Option Value)} {cd_at_level : Value}
    (a_at_level : PySem.W.nsIn K mainGlobals "at_level" = some (some (.ref f_at_level))) (l_at_level : K.lookup f_at_level = some ⟨oc_at_level, od_at_level, .func (PySem.W.fnOf "at_level" "at_level" (defArgs (topS 22)) (defBody (topS 22)) (defScope (topS 22)) .none kV_at_level dc_at_level pm_at_level an_at_level cd_at_level ct_at_level), sl_at_level⟩) (e_at_level : PySem.W.codeIn K cd_at_level "at_level" = true) (k_at_level : PySem.W.keepIn K (.ref f_at_level) = true)
    {f_levels_of : Addr} {oc_levels_of kV_levels_of dc_levels_of pm_levels_of ct_levels_of : Value} {od_levels_of an_levels_of : Option Addr} {sl_levels_of : Array (Option Value)} {cd_levels_of : Value}
    (a_levels_of : PySem.W.nsIn K mainGlobals "levels_of" = some (some (.ref f_levels_of))) (l_levels_of : K.lookup f_levels_of = some ⟨oc_levels_of, od_levels_of, .func (PySem.W.fnOf "levels_of" "levels_of" (defArgs (topS 23)) (defBody (topS 23)) (defScope (topS 23)) .none kV_levels_of dc_levels_of pm_levels_of an_levels_of cd_levels_of ct_levels_of), sl_levels_of⟩) (e_levels_of : PySem.W.codeIn K cd_levels_of "levels_of" = true) (k_levels_of : PySem.W.keepIn K (.ref f_levels_of) = true)
    {f__law_pot : Addr} {oc__law_pot kV__law_pot dc__law_pot pm__law_pot ct__law_pot : Value} {od__law_pot an__law_pot : Option Addr} {sl__law_pot : Array (Option Value)} {cd__law_pot : Value}
    (a__law_pot : PySem.W.nsIn K mainGlobals "_law_pot" = some (some (.ref f__law_pot))) (l__law_pot : K.lookup f__law_pot = some ⟨oc__law_pot, od__law_pot, .func (PySem.W.fnOf "_law_pot" "_law_pot" (defArgs (topS 25)) (defBody (topS 25)) (defScope (topS 25)) .none kV__law_pot dc__law_pot pm__law_pot an__law_pot cd__law_pot ct__law_pot), sl__law_pot⟩) (e__law_pot : PySem.W.codeIn K cd__law_pot "_law_pot" = true) (k__law_pot : PySem.W.keepIn K (.ref f__law_pot) = true)
    {f__law_draw : Addr} {oc__law_draw kV__law_draw dc__law_draw pm__law_draw ct__law_draw : Value} {od__law_draw an__law_draw : Option Addr} {sl__law_draw : Array (Option Value)} {cd__law_draw : Value}
    (a__law_draw : PySem.W.nsIn K mainGlobals "_law_draw" = some (some (.ref f__law_draw))) (l__law_draw : K.lookup f__law_draw = some ⟨oc__law_draw, od__law_draw, .func (PySem.W.fnOf "_law_draw" "_law_draw" (defArgs (topS 26)) (defBody (topS 26)) (defScope (topS 26)) .none kV__law_draw dc__law_draw pm__law_draw an__law_draw cd__law_draw ct__law_draw), sl__law_draw⟩) (e__law_draw : PySem.W.codeIn K cd__law_draw "_law_draw" = true) (k__law_draw : PySem.W.keepIn K (.ref f__law_draw) = true)
    {f__law_pick : Addr} {oc__law_pick kV__law_pick dc__law_pick pm__law_pick ct__law_pick : Value} {od__law_pick an__law_pick : Option Addr} {sl__law_pick : Array (Option Value)} {cd__law_pick : Value}
    (a__law_pick : PySem.W.nsIn K mainGlobals "_law_pick" = some (some (.ref f__law_pick))) (l__law_pick : K.lookup f__law_pick = some ⟨oc__law_pick, od__law_pick, .func (PySem.W.fnOf "_law_pick" "_law_pick" (defArgs (topS 27)) (defBody (topS 27)) (defScope (topS 27)) .none kV__law_pick dc__law_pick pm__law_pick an__law_pick cd__law_pick ct__law_pick), sl__law_pick⟩) (e__law_pick : PySem.W.codeIn K cd__law_pick "_law_pick" = true) (k__law_pick : PySem.W.keepIn K (.ref f__law_pick) = true)
    {f__law_number : Addr} {oc__law_number kV__law_number dc__law_number pm__law_number ct__law_number : Value} {od__law_number an__law_number : Option Addr} {sl__law_number : Array (Option Value)} {cd__law_number : Value}
    (a__law_number : PySem.W.nsIn K mainGlobals "_law_number" = some (some (.ref f__law_number))) (l__law_number : K.lookup f__law_number = some ⟨oc__law_number, od__law_number, .func (PySem.W.fnOf "_law_number" "_law_number" (defArgs (topS 28)) (defBody (topS 28)) (defScope (topS 28)) .none kV__law_number dc__law_number pm__law_number an__law_number cd__law_number ct__law_number), sl__law_number⟩) (e__law_number : PySem.W.codeIn K cd__law_number "_law_number" = true) (k__law_number : PySem.W.keepIn K (.ref f__law_number) = true)
    {f__law_shown : Addr} {oc__law_shown kV__law_shown dc__law_shown pm__law_shown ct__law_shown : Value} {od__law_shown an__law_shown : Option Addr} {sl__law_shown : Array (Option Value)} {cd__law_shown : Value}
    (a__law_shown : PySem.W.nsIn K mainGlobals "_law_shown" = some (some (.ref f__law_shown))) (l__law_shown : K.lookup f__law_shown = some ⟨oc__law_shown, od__law_shown, .func (PySem.W.fnOf "_law_shown" "_law_shown" (defArgs (topS 29)) (defBody (topS 29)) (defScope (topS 29)) .none kV__law_shown dc__law_shown pm__law_shown an__law_shown cd__law_shown ct__law_shown), sl__law_shown⟩) (e__law_shown : PySem.W.codeIn K cd__law_shown "_law_shown" = true) (k__law_shown : PySem.W.keepIn K (.ref f__law_shown) = true)
    {f__law_thing : Addr} {oc__law_thing kV__law_thing dc__law_thing pm__law_thing ct__law_thing : Value} {od__law_thing an__law_thing : Option Addr} {sl__law_thing : Array (Option Value)} {cd__law_thing : Value}
    (a__law_thing : PySem.W.nsIn K mainGlobals "_law_thing" = some (some (.ref f__law_thing))) (l__law_thing : K.lookup f__law_thing = some ⟨oc__law_thing, od__law_thing, .func (PySem.W.fnOf "_law_thing" "_law_thing" (defArgs (topS 30)) (defBody (topS 30)) (defScope (topS 30)) .none kV__law_thing dc__law_thing pm__law_thing an__law_thing cd__law_thing ct__law_thing), sl__law_thing⟩) (e__law_thing : PySem.W.codeIn K cd__law_thing "_law_thing" = true) (k__law_thing : PySem.W.keepIn K (.ref f__law_thing) = true)
    {f__law_things : Addr} {oc__law_things kV__law_things dc__law_things pm__law_things ct__law_things : Value} {od__law_things an__law_things : Option Addr} {sl__law_things : Array (Option Value)} {cd__law_things : Value}
    (a__law_things : PySem.W.nsIn K mainGlobals "_law_things" = some (some (.ref f__law_things))) (l__law_things : K.lookup f__law_things = some ⟨oc__law_things, od__law_things, .func (PySem.W.fnOf "_law_things" "_law_things" (defArgs (topS 31)) (defBody (topS 31)) (defScope (topS 31)) .none kV__law_things dc__law_things pm__law_things an__law_things cd__law_things ct__law_things), sl__law_things⟩) (e__law_things : PySem.W.codeIn K cd__law_things "_law_things" = true) (k__law_things : PySem.W.keepIn K (.ref f__law_things) = true)
    {f__law_odd : Addr} {oc__law_odd kV__law_odd dc__law_odd pm__law_odd ct__law_odd : Value} {od__law_odd an__law_odd : Option Addr} {sl__law_odd : Array (Option Value)} {cd__law_odd : Value}
    (a__law_odd : PySem.W.nsIn K mainGlobals "_law_odd" = some (some (.ref f__law_odd))) (l__law_odd : K.lookup f__law_odd = some ⟨oc__law_odd, od__law_odd, .func (PySem.W.fnOf "_law_odd" "_law_odd" (defArgs (topS 32)) (defBody (topS 32)) (defScope (topS 32)) .none kV__law_odd dc__law_odd pm__law_odd an__law_odd cd__law_odd ct__law_odd), sl__law_odd⟩) (e__law_odd : PySem.W.codeIn K cd__law_odd "_law_odd" = true) (k__law_odd : PySem.W.keepIn K (.ref f__law_odd) = true)
    {f__law_extreme : Addr} {oc__law_extreme kV__law_extreme dc__law_extreme pm__law_extreme ct__law_extreme : Value} {od__law_extreme an__law_extreme : Option Addr} {sl__law_extreme : Array (Option Value)} {cd__law_extreme : Value}
    (a__law_extreme : PySem.W.nsIn K mainGlobals "_law_extreme" = some (some (.ref f__law_extreme))) (l__law_extreme : K.lookup f__law_extreme = some ⟨oc__law_extreme, od__law_extreme, .func (PySem.W.fnOf "_law_extreme" "_law_extreme" (defArgs (topS 33)) (defBody (topS 33)) (defScope (topS 33)) .none kV__law_extreme dc__law_extreme pm__law_extreme an__law_extreme cd__law_extreme ct__law_extreme), sl__law_extreme⟩) (e__law_extreme : PySem.W.codeIn K cd__law_extreme "_law_extreme" = true) (k__law_extreme : PySem.W.keepIn K (.ref f__law_extreme) = true)
    {f__law_pairs_right : Addr} {oc__law_pairs_right kV__law_pairs_right dc__law_pairs_right pm__law_pairs_right ct__law_pairs_right : Value} {od__law_pairs_right an__law_pairs_right : Option Addr} {sl__law_pairs_right : Array (Option Value)} {cd__law_pairs_right : Value}
    (a__law_pairs_right : PySem.W.nsIn K mainGlobals "_law_pairs_right" = some (some (.ref f__law_pairs_right))) (l__law_pairs_right : K.lookup f__law_pairs_right = some ⟨oc__law_pairs_right, od__law_pairs_right, .func (PySem.W.fnOf "_law_pairs_right" "_law_pairs_right" (defArgs (topS 35)) (defBody (topS 35)) (defScope (topS 35)) .none kV__law_pairs_right dc__law_pairs_right pm__law_pairs_right an__law_pairs_right cd__law_pairs_right ct__law_pairs_right), sl__law_pairs_right⟩) (e__law_pairs_right : PySem.W.codeIn K cd__law_pairs_right "_law_pairs_right" = true) (k__law_pairs_right : PySem.W.keepIn K (.ref f__law_pairs_right) = true)
    {f__law_levels_right : Addr} {oc__law_levels_right kV__law_levels_right dc__law_levels_right pm__law_levels_right ct__law_levels_right : Value} {od__law_levels_right an__law_levels_right : Option Addr} {sl__law_levels_right : Array (Option Value)} {cd__law_levels_right : Value}
    (a__law_levels_right : PySem.W.nsIn K mainGlobals "_law_levels_right" = some (some (.ref f__law_levels_right))) (l__law_levels_right : K.lookup f__law_levels_right = some ⟨oc__law_levels_right, od__law_levels_right, .func (PySem.W.fnOf "_law_levels_right" "_law_levels_right" (defArgs (topS 36)) (defBody (topS 36)) (defScope (topS 36)) .none kV__law_levels_right dc__law_levels_right pm__law_levels_right an__law_levels_right cd__law_levels_right ct__law_levels_right), sl__law_levels_right⟩) (e__law_levels_right : PySem.W.codeIn K cd__law_levels_right "_law_levels_right" = true) (k__law_levels_right : PySem.W.keepIn K (.ref f__law_levels_right) = true)
    {f__law_extremes_right : Addr} {oc__law_extremes_right kV__law_extremes_right dc__law_extremes_right pm__law_extremes_right ct__law_extremes_right : Value} {od__law_extremes_right an__law_extremes_right : Option Addr} {sl__law_extremes_right : Array (Option Value)} {cd__law_extremes_right : Value}
    (a__law_extremes_right : PySem.W.nsIn K mainGlobals "_law_extremes_right" = some (some (.ref f__law_extremes_right))) (l__law_extremes_right : K.lookup f__law_extremes_right = some ⟨oc__law_extremes_right, od__law_extremes_right, .func (PySem.W.fnOf "_law_extremes_right" "_law_extremes_right" (defArgs (topS 37)) (defBody (topS 37)) (defScope (topS 37)) .none kV__law_extremes_right dc__law_extremes_right pm__law_extremes_right an__law_extremes_right cd__law_extremes_right ct__law_extremes_right), sl__law_extremes_right⟩) (e__law_extremes_right : PySem.W.codeIn K cd__law_extremes_right "_law_extremes_right" = true) (k__law_extremes_right : PySem.W.keepIn K (.ref f__law_extremes_right) = true)
    {f__law_eight_right : Addr} {oc__law_eight_right kV__law_eight_right dc__law_eight_right pm__law_eight_right ct__law_eight_right : Value} {od__law_eight_right an__law_eight_right : Option Addr} {sl__law_eight_right : Array (Option Value)} {cd__law_eight_right : Value}
    (a__law_eight_right : PySem.W.nsIn K mainGlobals "_law_eight_right" = some (some (.ref f__law_eight_right))) (l__law_eight_right : K.lookup f__law_eight_right = some ⟨oc__law_eight_right, od__law_eight_right, .func (PySem.W.fnOf "_law_eight_right" "_law_eight_right" (defArgs (topS 38)) (defBody (topS 38)) (defScope (topS 38)) .none kV__law_eight_right dc__law_eight_right pm__law_eight_right an__law_eight_right cd__law_eight_right ct__law_eight_right), sl__law_eight_right⟩) (e__law_eight_right : PySem.W.codeIn K cd__law_eight_right "_law_eight_right" = true) (k__law_eight_right : PySem.W.keepIn K (.ref f__law_eight_right) = true)
    {f__law_refused_right : Addr} {oc__law_refused_right kV__law_refused_right dc__law_refused_right pm__law_refused_right ct__law_refused_right : Value} {od__law_refused_right an__law_refused_right : Option Addr} {sl__law_refused_right : Array (Option Value)}
    (a__law_refused_right : PySem.W.nsIn K mainGlobals "_law_refused_right" = some (some (.ref f__law_refused_right))) (l__law_refused_right : K.lookup f__law_refused_right = some ⟨oc__law_refused_right, od__law_refused_right, .func (PySem.W.fnOf "_law_refused_right" "_law_refused_right" (defArgs (topS 39)) (defBody (topS 39)) (defScope (topS 39)) .none kV__law_refused_right dc__law_refused_right pm__law_refused_right an__law_refused_right (.ref cA) ct__law_refused_right), sl__law_refused_right⟩) (e__law_refused_right : PySem.W.codeIn K (.ref cA) "_law_refused_right" = true) (k__law_refused_right : PySem.W.keepIn K (.ref f__law_refused_right) = true)
    {f__law_right : Addr} {oc__law_right kV__law_right dc__law_right pm__law_right ct__law_right : Value} {od__law_right an__law_right : Option Addr} {sl__law_right : Array (Option Value)} {cd__law_right : Value}
    (a__law_right : PySem.W.nsIn K mainGlobals "_law_right" = some (some (.ref f__law_right))) (l__law_right : K.lookup f__law_right = some ⟨oc__law_right, od__law_right, .func (PySem.W.fnOf "_law_right" "_law_right" (defArgs (topS 40)) (defBody (topS 40)) (defScope (topS 40)) .none kV__law_right dc__law_right pm__law_right an__law_right cd__law_right ct__law_right), sl__law_right⟩) (e__law_right : PySem.W.codeIn K cd__law_right "_law_right" = true) (k__law_right : PySem.W.keepIn K (.ref f__law_right) = true)
    {f_law : Addr} {oc_law kV_law dc_law pm_law ct_law : Value} {od_law an_law : Option Addr} {sl_law : Array (Option Value)} {cd_law : Value}
    (a_law : PySem.W.nsIn K mainGlobals "law" = some (some (.ref f_law))) (l_law : K.lookup f_law = some ⟨oc_law, od_law, .func (PySem.W.fnOf "law" "law" (defArgs (topS 41)) (defBody (topS 41)) (defScope (topS 41)) .none kV_law dc_law pm_law an_law cd_law ct_law), sl_law⟩) (e_law : PySem.W.codeIn K cd_law "law" = true) (k_law : PySem.W.keepIn K (.ref f_law) = true)
    {f__law_told : Addr} {oc__law_told kV__law_told dc__law_told pm__law_told ct__law_told : Value} {od__law_told an__law_told : Option Addr} {sl__law_told : Array (Option Value)} {cd__law_told : Value}
    (a__law_told : PySem.W.nsIn K mainGlobals "_law_told" = some (some (.ref f__law_told))) (l__law_told : K.lookup f__law_told = some ⟨oc__law_told, od__law_told, .func (PySem.W.fnOf "_law_told" "_law_told" (defArgs (topS 34)) (defBody (topS 34)) (defScope (topS 34)) .none kV__law_told dc__law_told pm__law_told an__law_told cd__law_told ct__law_told), sl__law_told⟩) (e__law_told : PySem.W.codeIn K cd__law_told "_law_told" = true) (k__law_told : PySem.W.keepIn K (.ref f__law_told) = true)
    (n_list : PySem.W.nsIn K mainGlobals "list" = some none)
    (n_tuple : PySem.W.nsIn K mainGlobals "tuple" = some none)
    (n_isinstance : PySem.W.nsIn K mainGlobals "isinstance" = some none)
    (n_int : PySem.W.nsIn K mainGlobals "int" = some none)
    (n_bool : PySem.W.nsIn K mainGlobals "bool" = some none)
    (n_str : PySem.W.nsIn K mainGlobals "str" = some none)
    (n_min : PySem.W.nsIn K mainGlobals "min" = some none)
    (n_max : PySem.W.nsIn K mainGlobals "max" = some none)
    (n_sorted : PySem.W.nsIn K mainGlobals "sorted" = some none)
    (n_all : PySem.W.nsIn K mainGlobals "all" = some none)
    (n_len : PySem.W.nsIn K mainGlobals "len" = some none)
    (n_abs : PySem.W.nsIn K mainGlobals "abs" = some none)
    (n_divmod : PySem.W.nsIn K mainGlobals "divmod" = some none)
    (n_range : PySem.W.nsIn K mainGlobals "range" = some none)
    (n_repr : PySem.W.nsIn K mainGlobals "repr" = some none)
    (n_set : PySem.W.nsIn K mainGlobals "set" = some none)
    (n_ValueError : PySem.W.nsIn K mainGlobals "ValueError" = some none)
    {t_c_TOP : Tok} (c_TOP : PySem.W.nsIn K mainGlobals "TOP" = some (some (.str "top" t_c_TOP)))
    {t_c_BOTTOM : Tok} (c_BOTTOM : PySem.W.nsIn K mainGlobals "BOTTOM" = some (some (.str "bottom" t_c_BOTTOM)))
    {t_c_NO_BOUND : Tok} (c_NO_BOUND : PySem.W.nsIn K mainGlobals "NO_BOUND" = some (some (.str "no bound" t_c_NO_BOUND)))
    (aH : PySem.W.nsIn K mainGlobals "HeldError" = some (some (.ref CH))) (hH : PySem.W.hasDictIn K CH = true) (tH : PySem.W.typeIn K (.ref CH) = some (.type "type"))
    {C0 fI0 N0 : Addr} {nm0 q0 qual0 : Str} {bs0 bm0 sub0 : List Value} {sn0 : List Str} {ab0 : Bool} {col0 : Option Bool} {dd0 od0 an0 : Option Addr} {m00 m10 m20 m30 m50 : Option Value} {oc0 kV0 doc0 pm0 cdv0 ct0 : Value} {osl0 : Array (Option Value)}
    (a0 : PySem.W.nsIn K mainGlobals "InvalidValue" = some (some (.ref C0)))
    (ga0 : PySem.W.findIn K (.ref C0) "__getattribute__" = some (some (.builtin "BaseException.__getattribute__")))
    (gg0 : PySem.W.findIn K (.ref C0) "__getattr__" = some none)
    (sa0 : PySem.W.findIn K (.ref C0) "__setattr__" = some (some (.builtin "object.__setattr__")))
    (ca0 : PySem.W.findIn K (.ref C0) "__class__" = some (some (.builtin "object.__class__")))
    (nv0 : PySem.W.findIn K (.ref C0) "value" = some none)
    (eC0 : PySem.W.subIn K (.ref C0) (.type "BaseException") = some true)
    (tC0 : PySem.W.typeIn K (.ref C0) = some (.type "type"))
    (kC0 : PySem.W.keepIn K (.ref C0) = true)
    (hC0 : PySem.W.hasDictIn K C0 = true)
    (m0 : PySem.W.mroIn K C0 (.type "object") = some true)
    (xL0 : K.lookup C0 = some (excClassObj nm0 q0 C0 N0 bs0 bm0 true sn0 sub0 ab0 col0 dd0 m00 m10 m20 m30 m50 "ValueError.__new__")) (rv0 : PySem.HandSPX.refsVE bm0 = true)
    (iC0 : PySem.W.findIn K (.ref C0) "__init__" = some (some (.ref fI0))) (tI0 : PySem.W.typeIn K (.ref fI0) = some (.type "function"))
    (l0 : K.lookup fI0 = some ⟨oc0, od0, .func (PySem.W.fnOf "__init__" qual0 (defArgs initS_InvalidValue) (defBody initS_InvalidValue) (defScope initS_InvalidValue) .none kV0 doc0 pm0 an0 cdv0 ct0), osl0⟩) (c0 : PySem.W.codeIn K cdv0 qual0 = true) (k0 : PySem.W.keepIn K (.ref fI0) = true)
    (sH0 : PySem.W.subIn K (.ref C0) (.ref CH) = some true) (sV0 : PySem.W.subIn K (.ref C0) (.type "ValueError") = some true)
    {C1 fI1 N1 : Addr} {nm1 q1 qual1 : Str} {bs1 bm1 sub1 : List Value} {sn1 : List Str} {ab1 : Bool} {col1 : Option Bool} {dd1 od1 an1 : Option Addr} {m01 m11 m21 m31 m51 : Option Value} {oc1 kV1 doc1 pm1 cdv1 ct1 : Value} {osl1 : Array (Option Value)}
    (a1 : PySem.W.nsIn K mainGlobals "InvalidInteger" = some (some (.ref C1)))
    (ga1 : PySem.W.findIn K (.ref C1) "__getattribute__" = some (some (.builtin "BaseException.__getattribute__")))
    (gg1 : PySem.W.findIn K (.ref C1) "__getattr__" = some none)
    (sa1 : PySem.W.findIn K (.ref C1) "__setattr__" = some (some (.builtin "object.__setattr__")))
    (ca1 : PySem.W.findIn K (.ref C1) "__class__" = some (some (.builtin "object.__class__")))
    (nv1 : PySem.W.findIn K (.ref C1) "value" = some none)
    (eC1 : PySem.W.subIn K (.ref C1) (.type "BaseException") = some true)
    (tC1 : PySem.W.typeIn K (.ref C1) = some (.type "type"))
    (kC1 : PySem.W.keepIn K (.ref C1) = true)
    (hC1 : PySem.W.hasDictIn K C1 = true)
    (m1 : PySem.W.mroIn K C1 (.type "object") = some true)
    (xL1 : K.lookup C1 = some (excClassObj nm1 q1 C1 N1 bs1 bm1 true sn1 sub1 ab1 col1 dd1 m01 m11 m21 m31 m51 "ValueError.__new__")) (rv1 : PySem.HandSPX.refsVE bm1 = true)
    (iC1 : PySem.W.findIn K (.ref C1) "__init__" = some (some (.ref fI1))) (tI1 : PySem.W.typeIn K (.ref fI1) = some (.type "function"))
    (l1 : K.lookup fI1 = some ⟨oc1, od1, .func (PySem.W.fnOf "__init__" qual1 (defArgs initS_InvalidInteger) (defBody initS_InvalidInteger) (defScope initS_InvalidInteger) .none kV1 doc1 pm1 an1 cdv1 ct1), osl1⟩) (c1 : PySem.W.codeIn K cdv1 qual1 = true) (k1 : PySem.W.keepIn K (.ref fI1) = true)
    (sH1 : PySem.W.subIn K (.ref C1) (.ref CH) = some true) (sV1 : PySem.W.subIn K (.ref C1) (.type "ValueError") = some true)
    {C2 fI2 N2 : Addr} {nm2 q2 qual2 : Str} {bs2 bm2 sub2 : List Value} {sn2 : List Str} {ab2 : Bool} {col2 : Option Bool} {dd2 od2 an2 : Option Addr} {m02 m12 m22 m32 m52 : Option Value} {oc2 kV2 doc2 pm2 cdv2 ct2 : Value} {osl2 : Array (Option Value)}
    (a2 : PySem.W.nsIn K mainGlobals "InvalidValues" = some (some (.ref C2)))
    (ga2 : PySem.W.findIn K (.ref C2) "__getattribute__" = some (some (.builtin "BaseException.__getattribute__")))
    (gg2 : PySem.W.findIn K (.ref C2) "__getattr__" = some none)
    (sa2 : PySem.W.findIn K (.ref C2) "__setattr__" = some (some (.builtin "object.__setattr__")))
    (ca2 : PySem.W.findIn K (.ref C2) "__class__" = some (some (.builtin "object.__class__")))
    (nv2 : PySem.W.findIn K (.ref C2) "value" = some none)
    (eC2 : PySem.W.subIn K (.ref C2) (.type "BaseException") = some true)
    (tC2 : PySem.W.typeIn K (.ref C2) = some (.type "type"))
    (kC2 : PySem.W.keepIn K (.ref C2) = true)
    (hC2 : PySem.W.hasDictIn K C2 = true)
    (m2 : PySem.W.mroIn K C2 (.type "object") = some true)
    (xL2 : K.lookup C2 = some (excClassObj nm2 q2 C2 N2 bs2 bm2 true sn2 sub2 ab2 col2 dd2 m02 m12 m22 m32 m52 "ValueError.__new__")) (rv2 : PySem.HandSPX.refsVE bm2 = true)
    (iC2 : PySem.W.findIn K (.ref C2) "__init__" = some (some (.ref fI2))) (tI2 : PySem.W.typeIn K (.ref fI2) = some (.type "function"))
    (l2 : K.lookup fI2 = some ⟨oc2, od2, .func (PySem.W.fnOf "__init__" qual2 (defArgs initS_InvalidValues) (defBody initS_InvalidValues) (defScope initS_InvalidValues) .none kV2 doc2 pm2 an2 cdv2 ct2), osl2⟩) (c2 : PySem.W.codeIn K cdv2 qual2 = true) (k2 : PySem.W.keepIn K (.ref fI2) = true)
    (sH2 : PySem.W.subIn K (.ref C2) (.ref CH) = some true) (sV2 : PySem.W.subIn K (.ref C2) (.type "ValueError") = some true)
    (s00 : PySem.W.subIn K (.ref C0) (.ref C0) = some true)
    (s01 : PySem.W.subIn K (.ref C0) (.ref C1) = some false)
    (s02 : PySem.W.subIn K (.ref C0) (.ref C2) = some false)
    (s10 : PySem.W.subIn K (.ref C1) (.ref C0) = some false)
    (s11 : PySem.W.subIn K (.ref C1) (.ref C1) = some true)
    (s12 : PySem.W.subIn K (.ref C1) (.ref C2) = some false)
    (s20 : PySem.W.subIn K (.ref C2) (.ref C0) = some false)
    (s21 : PySem.W.subIn K (.ref C2) (.ref C1) = some false)
    (s22 : PySem.W.subIn K (.ref C2) (.ref C2) = some true)
    (hn : PySem.W.specialIn K (.builtin "object.__class__") "__get__" = some (some (.builtin "getset_descriptor.__get__"))) (ht : PySem.W.takesIn K (.builtin "object.__class__") = some true)
    (tE : ∀ P ∈ [P0], h.get? P = some (PySem.W.tabObj #[])) (tK : K.lookup P0 = none) (cH : PySem.W.codeHdIn K cA P0 = true) : LawG lw w K 27 63 "law" "_law_script" (topS 41) mg h := by
  letI : Tb := ⟨[]⟩
  have n_list := PySem.W.mg_none_of X G n_list
  have n_tuple := PySem.W.mg_none_of X G n_tuple
  have n_isinstance := PySem.W.mg_none_of X G n_isinstance
  have n_int := PySem.W.mg_none_of X G n_int
  have n_bool := PySem.W.mg_none_of X G n_bool
  have n_str := PySem.W.mg_none_of X G n_str
  have n_min := PySem.W.mg_none_of X G n_min
  have n_max := PySem.W.mg_none_of X G n_max
  have n_sorted := PySem.W.mg_none_of X G n_sorted
  have n_all := PySem.W.mg_none_of X G n_all
  have n_len := PySem.W.mg_none_of X G n_len
  have n_abs := PySem.W.mg_none_of X G n_abs
  have n_divmod := PySem.W.mg_none_of X G n_divmod
  have n_range := PySem.W.mg_none_of X G n_range
  have n_repr := PySem.W.mg_none_of X G n_repr
  have n_set := PySem.W.mg_none_of X G n_set
  have n_ValueError := PySem.W.mg_none_of X G n_ValueError
  obtain ⟨X_InvalidValue, X_InvalidInteger, X_InvalidValues, TX⟩ := exc_all (P := P) (w := w) X G aH hH tH a0 ga0 gg0 sa0 ca0 nv0 eC0 tC0 kC0 hC0 m0 xL0 rv0 iC0 tI0 l0 c0 k0 sH0 sV0 a1 ga1 gg1 sa1 ca1 nv1 eC1 tC1 kC1 hC1 m1 xL1 rv1 iC1 tI1 l1 c1 k1 sH1 sV1 a2 ga2 gg2 sa2 ca2 nv2 eC2 tC2 kC2 hC2 m2 xL2 rv2 iC2 tI2 l2 c2 k2 sH2 sV2 s00 s01 s02 s10 s11 s12 s20 s21 s22 hn ht n_ValueError n_isinstance n_repr
  exact head_G X G lw hl (df_mk X G a_is_list l_is_list e_is_list k_is_list) (df_mk X G a_is_integer l_is_integer e_is_integer k_is_integer) (df_mk X G a_is_end l_is_end e_is_end k_is_end) (df_mk X G a_is_value l_is_value e_is_value k_is_value) (df_mk X G a_rank l_rank e_rank k_rank) (df_mk X G a_least l_least e_least k_least) (df_mk X G a_greatest l_greatest e_greatest k_greatest) (df_mk X G a_end_at l_end_at e_end_at k_end_at) (df_mk X G a_integers_in l_integers_in e_integers_in k_integers_in) (df_mk X G a__check_values l__check_values e__check_values k__check_values) (df_mk X G a_is_at_least l_is_at_least e_is_at_least k_is_at_least) (df_mk X G a_lesser_of l_lesser_of e_lesser_of k_lesser_of) (df_mk X G a_greater_of l_greater_of e_greater_of k_greater_of) (df_mk X G a_at_level l_at_level e_at_level k_at_level) (df_mk X G a_levels_of l_levels_of e_levels_of k_levels_of) (df_mk X G a__law_pot l__law_pot e__law_pot k__law_pot) (df_mk X G a__law_draw l__law_draw e__law_draw k__law_draw) (df_mk X G a__law_pick l__law_pick e__law_pick k__law_pick) (df_mk X G a__law_number l__law_number e__law_number k__law_number) (df_mk X G a__law_shown l__law_shown e__law_shown k__law_shown) (df_mk X G a__law_thing l__law_thing e__law_thing k__law_thing) (df_mk X G a__law_things l__law_things e__law_things k__law_things) (df_mk X G a__law_odd l__law_odd e__law_odd k__law_odd) (df_mk X G a__law_extreme l__law_extreme e__law_extreme k__law_extreme) (df_mk X G a__law_pairs_right l__law_pairs_right e__law_pairs_right k__law_pairs_right) (df_mk X G a__law_levels_right l__law_levels_right e__law_levels_right k__law_levels_right) (df_mk X G a__law_extremes_right l__law_extremes_right e__law_extremes_right k__law_extremes_right) (df_mk X G a__law_eight_right l__law_eight_right e__law_eight_right k__law_eight_right) a__law_refused_right l__law_refused_right e__law_refused_right k__law_refused_right (df_mk X G a__law_right l__law_right e__law_right k__law_right) (df_mk X G a_law l_law e_law k_law) (df_mk X G a__law_told l__law_told e__law_told k__law_told) TX n_list n_tuple n_isinstance n_int n_bool n_str n_min n_max n_sorted n_all n_len n_abs n_divmod n_range n_repr n_set (str_mk X G c_TOP) (str_mk X G c_BOTTOM) (str_mk X G c_NO_BOUND) X_InvalidValue X_InvalidInteger X_InvalidValues tE tK cH
end K11
end
section
set_option Elab.async false
set_option linter.all false
set_option maxRecDepth 100000
open PySem PySem.W PyProof.Rows
set_option maxHeartbeats 0 in
theorem PySem.Challenge.cw_heldranks_k11_values_levels_and_extremes_holds : PySem.Challenge.rw_heldranks_k11_values_levels_and_extremes.Holds := by
  w_on; o_law; k_head; (case hw => w_witness2)
  k_fill
  refine Q.walk_G (l := PySem.Challenge.rw_heldranks_k11_values_levels_and_extremes) (n := 63) (k := 27) (x := "_law_script") (st := K11.topS 41) rfl (by decide) rfl (by decide +kernel) K11.room (fun w h Y => PySem.W.km_in_of Y) ?F
  case F =>
    intro w mg fa h Y KX G hmg
    refine' K11.head_all KX G PySem.Challenge.rw_heldranks_k11_values_levels_and_extremes rfl ?a_is_list ?l_is_list ?e_is_list ?k_is_list ?a_is_integer ?l_is_integer ?e_is_integer ?k_is_integer ?a_is_end ?l_is_end ?e_is_end ?k_is_end ?a_is_value ?l_is_value ?e_is_value ?k_is_value ?a_rank ?l_rank ?e_rank ?k_rank ?a_least ?l_least ?e_least ?k_least ?a_greatest ?l_greatest ?e_greatest ?k_greatest ?a_end_at ?l_end_at ?e_end_at ?k_end_at ?a_integers_in ?l_integers_in ?e_integers_in ?k_integers_in ?a__check_values ?l__check_values ?e__check_values ?k__check_values ?a_is_at_least ?l_is_at_least ?e_is_at_least ?k_is_at_least ?a_lesser_of ?l_lesser_of ?e_lesser_of ?k_lesser_of ?a_greater_of ?l_greater_of ?e_greater_of ?k_greater_of ?a_at_level ?l_at_level ?e_at_level ?k_at_level ?a_levels_of ?l_levels_of ?e_levels_of ?k_levels_of ?a__law_pot ?l__law_pot ?e__law_pot ?k__law_pot ?a__law_draw ?l__law_draw ?e__law_draw ?k__law_draw ?a__law_pick ?l__law_pick ?e__law_pick ?k__law_pick ?a__law_number ?l__law_number ?e__law_number ?k__law_number ?a__law_shown ?l__law_shown ?e__law_shown ?k__law_shown ?a__law_thing ?l__law_thing ?e__law_thing ?k__law_thing ?a__law_things ?l__law_things ?e__law_things ?k__law_things ?a__law_odd ?l__law_odd ?e__law_odd ?k__law_odd ?a__law_extreme ?l__law_extreme ?e__law_extreme ?k__law_extreme ?a__law_pairs_right ?l__law_pairs_right ?e__law_pairs_right ?k__law_pairs_right ?a__law_levels_right ?l__law_levels_right ?e__law_levels_right ?k__law_levels_right ?a__law_extremes_right ?l__law_extremes_right ?e__law_extremes_right ?k__law_extremes_right ?a__law_eight_right ?l__law_eight_right ?e__law_eight_right ?k__law_eight_right ?a__law_refused_right ?l__law_refused_right ?e__law_refused_right ?k__law_refused_right ?a__law_right ?l__law_right ?e__law_right ?k__law_right ?a_law ?l_law ?e_law ?k_law ?a__law_told ?l__law_told ?e__law_told ?k__law_told ?n_list ?n_tuple ?n_isinstance ?n_int ?n_bool ?n_str ?n_min ?n_max ?n_sorted ?n_all ?n_len ?n_abs ?n_divmod ?n_range ?n_repr ?n_set ?n_ValueError ?c_TOP ?c_BOTTOM ?c_NO_BOUND ?aH ?hH ?tH ?a0 ?ga0 ?gg0 ?sa0 ?ca0 ?nv0 ?eC0 ?tC0 ?kC0 ?hC0 ?m0 ?xL0 ?rv0 ?iC0 ?tI0 ?l0 ?c0 ?k0 ?sH0 ?sV0 ?a1 ?ga1 ?gg1 ?sa1 ?ca1 ?nv1 ?eC1 ?tC1 ?kC1 ?hC1 ?m1 ?xL1 ?rv1 ?iC1 ?tI1 ?l1 ?c1 ?k1 ?sH1 ?sV1 ?a2 ?ga2 ?gg2 ?sa2 ?ca2 ?nv2 ?eC2 ?tC2 ?kC2 ?hC2 ?m2 ?xL2 ?rv2 ?iC2 ?tI2 ?l2 ?c2 ?k2 ?sH2 ?sV2 ?s00 ?s01 ?s02 ?s10 ?s11 ?s12 ?s20 ?s21 ?s22 ?hn ?ht (PySem.W.km_tabs_of Y) ?tK ?cH
    (case a_is_list => first | k_is | kernel_rfl); (case l_is_list => first | k_is | kernel_rfl); (case e_is_list => first | k_is | kernel_rfl); (case k_is_list => first | k_is | kernel_rfl)
    (case a_is_integer => first | k_is | kernel_rfl); (case l_is_integer => first | k_is | kernel_rfl); (case e_is_integer => first | k_is | kernel_rfl); (case k_is_integer => first | k_is | kernel_rfl)
    (case a_is_end => first | k_is | kernel_rfl); (case l_is_end => first | k_is | kernel_rfl); (case e_is_end => first | k_is | kernel_rfl); (case k_is_end => first | k_is | kernel_rfl)
    (case a_is_value => first | k_is | kernel_rfl); (case l_is_value => first | k_is | kernel_rfl); (case e_is_value => first | k_is | kernel_rfl); (case k_is_value => first | k_is | kernel_rfl)
    (case a_rank => first | k_is | kernel_rfl); (case l_rank => first | k_is | kernel_rfl); (case e_rank => first | k_is | kernel_rfl); (case k_rank => first | k_is | kernel_rfl)
    (case a_least => first | k_is | kernel_rfl); (case l_least => first | k_is | kernel_rfl); (case e_least => first | k_is | kernel_rfl); (case k_least => first | k_is | kernel_rfl)
    (case a_greatest => first | k_is | kernel_rfl); (case l_greatest => first | k_is | kernel_rfl); (case e_greatest => first | k_is | kernel_rfl); (case k_greatest => first | k_is | kernel_rfl)
    (case a_end_at => first | k_is | kernel_rfl); (case l_end_at => first | k_is | kernel_rfl); (case e_end_at => first | k_is | kernel_rfl); (case k_end_at => first | k_is | kernel_rfl)
    (case a_integers_in => first | k_is | kernel_rfl); (case l_integers_in => first | k_is | kernel_rfl); (case e_integers_in => first | k_is | kernel_rfl); (case k_integers_in => first | k_is | kernel_rfl)
    (case a__check_values => first | k_is | kernel_rfl); (case l__check_values => first | k_is | kernel_rfl); (case e__check_values => first | k_is | kernel_rfl); (case k__check_values => first | k_is | kernel_rfl)
    (case a_is_at_least => first | k_is | kernel_rfl); (case l_is_at_least => first | k_is | kernel_rfl); (case e_is_at_least => first | k_is | kernel_rfl); (case k_is_at_least => first | k_is | kernel_rfl)
    (case a_lesser_of => first | k_is | kernel_rfl); (case l_lesser_of => first | k_is | kernel_rfl); (case e_lesser_of => first | k_is | kernel_rfl); (case k_lesser_of => first | k_is | kernel_rfl)
    (case a_greater_of => first | k_is | kernel_rfl); (case l_greater_of => first | k_is | kernel_rfl); (case e_greater_of => first | k_is | kernel_rfl); (case k_greater_of => first | k_is | kernel_rfl)
    (case a_at_level => first | k_is | kernel_rfl); (case l_at_level => first | k_is | kernel_rfl); (case e_at_level => first | k_is | kernel_rfl); (case k_at_level => first | k_is | kernel_rfl)
    (case a_levels_of => first | k_is | kernel_rfl); (case l_levels_of => first | k_is | kernel_rfl); (case e_levels_of => first | k_is | kernel_rfl); (case k_levels_of => first | k_is | kernel_rfl)
    (case a__law_pot => first | k_is | kernel_rfl); (case l__law_pot => first | k_is | kernel_rfl); (case e__law_pot => first | k_is | kernel_rfl); (case k__law_pot => first | k_is | kernel_rfl)
    (case a__law_draw => first | k_is | kernel_rfl); (case l__law_draw => first | k_is | kernel_rfl); (case e__law_draw => first | k_is | kernel_rfl); (case k__law_draw => first | k_is | kernel_rfl)
    (case a__law_pick => first | k_is | kernel_rfl); (case l__law_pick => first | k_is | kernel_rfl); (case e__law_pick => first | k_is | kernel_rfl); (case k__law_pick => first | k_is | kernel_rfl)
    (case a__law_number => first | k_is | kernel_rfl); (case l__law_number => first | k_is | kernel_rfl); (case e__law_number => first | k_is | kernel_rfl); (case k__law_number => first | k_is | kernel_rfl)
    (case a__law_shown => first | k_is | kernel_rfl); (case l__law_shown => first | k_is | kernel_rfl); (case e__law_shown => first | k_is | kernel_rfl); (case k__law_shown => first | k_is | kernel_rfl)
    (case a__law_thing => first | k_is | kernel_rfl); (case l__law_thing => first | k_is | kernel_rfl); (case e__law_thing => first | k_is | kernel_rfl); (case k__law_thing => first | k_is | kernel_rfl)
    (case a__law_things => first | k_is | kernel_rfl); (case l__law_things => first | k_is | kernel_rfl); (case e__law_things => first | k_is | kernel_rfl); (case k__law_things => first | k_is | kernel_rfl)
    (case a__law_odd => first | k_is | kernel_rfl); (case l__law_odd => first | k_is | kernel_rfl); (case e__law_odd => first | k_is | kernel_rfl); (case k__law_odd => first | k_is | kernel_rfl)
    (case a__law_extreme => first | k_is | kernel_rfl); (case l__law_extreme => first | k_is | kernel_rfl); (case e__law_extreme => first | k_is | kernel_rfl); (case k__law_extreme => first | k_is | kernel_rfl)
    (case a__law_pairs_right => first | k_is | kernel_rfl); (case l__law_pairs_right => first | k_is | kernel_rfl); (case e__law_pairs_right => first | k_is | kernel_rfl); (case k__law_pairs_right => first | k_is | kernel_rfl)
    (case a__law_levels_right => first | k_is | kernel_rfl); (case l__law_levels_right => first | k_is | kernel_rfl); (case e__law_levels_right => first | k_is | kernel_rfl); (case k__law_levels_right => first | k_is | kernel_rfl)
    (case a__law_extremes_right => first | k_is | kernel_rfl); (case l__law_extremes_right => first | k_is | kernel_rfl); (case e__law_extremes_right => first | k_is | kernel_rfl); (case k__law_extremes_right => first | k_is | kernel_rfl)
    (case a__law_eight_right => first | k_is | kernel_rfl); (case l__law_eight_right => first | k_is | kernel_rfl); (case e__law_eight_right => first | k_is | kernel_rfl); (case k__law_eight_right => first | k_is | kernel_rfl)
    (case a__law_refused_right => first | k_is | kernel_rfl); (case l__law_refused_right => first | k_is | kernel_rfl); (case e__law_refused_right => first | k_is | kernel_rfl); (case k__law_refused_right => first | k_is | kernel_rfl)
    (case a__law_right => first | k_is | kernel_rfl); (case l__law_right => first | k_is | kernel_rfl); (case e__law_right => first | k_is | kernel_rfl); (case k__law_right => first | k_is | kernel_rfl)
    (case a_law => first | k_is | kernel_rfl); (case l_law => first | k_is | kernel_rfl); (case e_law => first | k_is | kernel_rfl); (case k_law => first | k_is | kernel_rfl)
    (case a__law_told => first | k_is | kernel_rfl); (case l__law_told => first | k_is | kernel_rfl); (case e__law_told => first | k_is | kernel_rfl); (case k__law_told => first | k_is | kernel_rfl)
    (case n_list => first | k_is | kernel_rfl); (case n_tuple => first | k_is | kernel_rfl); (case n_isinstance => first | k_is | kernel_rfl); (case n_int => first | k_is | kernel_rfl)
    (case n_bool => first | k_is | kernel_rfl); (case n_str => first | k_is | kernel_rfl); (case n_min => first | k_is | kernel_rfl); (case n_max => first | k_is | kernel_rfl)
    (case n_sorted => first | k_is | kernel_rfl); (case n_all => first | k_is | kernel_rfl); (case n_len => first | k_is | kernel_rfl); (case n_abs => first | k_is | kernel_rfl)
    (case n_divmod => first | k_is | kernel_rfl); (case n_range => first | k_is | kernel_rfl); (case n_repr => first | k_is | kernel_rfl); (case n_set => first | k_is | kernel_rfl)
    (case n_ValueError => first | k_is | kernel_rfl); (case c_TOP => first | k_is | kernel_rfl); (case c_BOTTOM => first | k_is | kernel_rfl); (case c_NO_BOUND => first | k_is | kernel_rfl)
    (case aH => first | k_is | kernel_rfl); (case hH => first | k_is | kernel_rfl); (case tH => first | k_is | kernel_rfl); (case a0 => first | k_is | kernel_rfl)
    (case ga0 => first | k_is | kernel_rfl); (case gg0 => first | k_is | kernel_rfl); (case sa0 => first | k_is | kernel_rfl); (case ca0 => first | k_is | kernel_rfl)
    (case nv0 => first | k_is | kernel_rfl); (case eC0 => first | k_is | kernel_rfl); (case tC0 => first | k_is | kernel_rfl); (case kC0 => first | k_is | kernel_rfl)
    (case hC0 => first | k_is | kernel_rfl); (case m0 => first | k_is | kernel_rfl); (case xL0 => first | k_is | kernel_rfl); (case rv0 => decide +kernel)
    (case iC0 => first | k_is | kernel_rfl); (case tI0 => first | k_is | kernel_rfl); (case l0 => first | k_is | kernel_rfl); (case c0 => first | k_is | kernel_rfl)
    (case k0 => first | k_is | kernel_rfl); (case sH0 => first | k_is | kernel_rfl); (case sV0 => first | k_is | kernel_rfl); (case a1 => first | k_is | kernel_rfl)
    (case ga1 => first | k_is | kernel_rfl); (case gg1 => first | k_is | kernel_rfl); (case sa1 => first | k_is | kernel_rfl); (case ca1 => first | k_is | kernel_rfl)
    (case nv1 => first | k_is | kernel_rfl); (case eC1 => first | k_is | kernel_rfl); (case tC1 => first | k_is | kernel_rfl); (case kC1 => first | k_is | kernel_rfl)
    (case hC1 => first | k_is | kernel_rfl); (case m1 => first | k_is | kernel_rfl); (case xL1 => first | k_is | kernel_rfl); (case rv1 => decide +kernel)
    (case iC1 => first | k_is | kernel_rfl); (case tI1 => first | k_is | kernel_rfl); (case l1 => first | k_is | kernel_rfl); (case c1 => first | k_is | kernel_rfl)
    (case k1 => first | k_is | kernel_rfl); (case sH1 => first | k_is | kernel_rfl); (case sV1 => first | k_is | kernel_rfl); (case a2 => first | k_is | kernel_rfl)
    (case ga2 => first | k_is | kernel_rfl); (case gg2 => first | k_is | kernel_rfl); (case sa2 => first | k_is | kernel_rfl); (case ca2 => first | k_is | kernel_rfl)
    (case nv2 => first | k_is | kernel_rfl); (case eC2 => first | k_is | kernel_rfl); (case tC2 => first | k_is | kernel_rfl); (case kC2 => first | k_is | kernel_rfl)
    (case hC2 => first | k_is | kernel_rfl); (case m2 => first | k_is | kernel_rfl); (case xL2 => first | k_is | kernel_rfl); (case rv2 => decide +kernel)
    (case iC2 => first | k_is | kernel_rfl); (case tI2 => first | k_is | kernel_rfl); (case l2 => first | k_is | kernel_rfl); (case c2 => first | k_is | kernel_rfl)
    (case k2 => first | k_is | kernel_rfl); (case sH2 => first | k_is | kernel_rfl); (case sV2 => first | k_is | kernel_rfl); (case s00 => first | k_is | kernel_rfl)
    (case s01 => first | k_is | kernel_rfl); (case s02 => first | k_is | kernel_rfl); (case s10 => first | k_is | kernel_rfl); (case s11 => first | k_is | kernel_rfl)
    (case s12 => first | k_is | kernel_rfl); (case s20 => first | k_is | kernel_rfl); (case s21 => first | k_is | kernel_rfl); (case s22 => first | k_is | kernel_rfl)
    (case hn => first | k_is | kernel_rfl); (case ht => first | k_is | kernel_rfl)
    (case cH => kernel_rfl)
    (case tK => kernel_rfl)
end
