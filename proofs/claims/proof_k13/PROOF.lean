import PyProof.Rows.All
import Wide.All
import OpenK.AllK
import Wide.FinOn
import HandS.ForMost
import HandS.ForExc
import HandS.Lambda
import HandS.WideBits
import HandS.Wide
import HandS.Style
import HandS.TupMul
import HandS.Flow
import PyProof.ReprRoads
import PyProof.RowDictHeap
import HandS.RaiseMore
import HandS.IsInst
import HandS.Small
import HandS.More
import HandS.Dict
import HandS.ExcInit
import HandS.ExcField
import HandS.ExcIs
import HandS.Words
import KE.KExcIs
import HandS.TupLe
import HandS.Star
import HandS.SortKw
import KE.KMinKey
import HandS.EndTab
import HandS.Strs
import HandS.SetBool
import HandS.SetFor
import HandS.Property
import HandS.Text
import HandS.FStr
import KE.KCallOwn
import KE.KFmtOwn
import HandS.OwnEq
import KE.KOpsOwn
import PySem.Challenge.RW_heldranks_k13_texts_and_equal_terms
section
set_option Elab.async false
set_option linter.all false
set_option maxRecDepth 100000
/-! Data as a whole, mutable cells, and a functional reading of expressions and statements over them. -/
namespace Q
open PySem PySem.Spec L2

/-- what kind of object a node is; its children stand apart -/
inductive Tg where
  | lst | tup | frl | dic (ks : List Key) | dit (ks : List (List Key)) | obj (C : Str) (ks : List Str) | xdc (ks : List Str)
  deriving DecidableEq
/-- a datum -/
inductive D where
  | non | bl (b : Bool) | int (i : Int) | str (x : Str) | cell (i : Nat) | fn (f c : Addr) (q : Str) (xs : List V) (ds : List D) | nod (t : Tg) (ds : List D)
abbrev D.lst (ds : List D) : D := .nod .lst ds
abbrev D.tup (ds : List D) : D := .nod .tup ds
/-- tables of code objects -/
class Tb where
  l : List (Addr × Str)
variable [Tb]
abbrev Cl := Tg × List D
abbrev Cells := List Cl
structure Wd where
  K : PySem.W.Frag
  mg : Str → Option Value
structure Sta where
  H : Hp
  r : List Addr
  c : Cells
  x : List Addr

/-- an object that is not for good: no table, no code object -/
def Mu (a : Addr) : Option HO → Prop
  | some (.lst _) => True
  | some (.dK _) => True
  | some (.dT _) => True
  | some (.set _ _) => True
  | some (.ins _ _ _) => True
  | some (.xd _) => True
  | some (.ext φ) => ∃ (h : Heap) (o : Obj), φ h ∧ h.get? a = some o ∧ ∀ vs, o.data ≠ .fields vs
  | _ => False
def Hold (T : Wd) (H : Hp) (a : Addr) (xs : List V) : Tg → Prop
  | .lst => H a = some (.lst xs)
  | .tup => H a = some (.tup xs)
  | .frl => ∃ o, H a = some (.frz o (.lst xs))
  | .dic ks => ks.length = xs.length ∧ H a = some (.dK (ks.zip xs))
  | .dit ks => ks.length = xs.length ∧ H a = some (.dT (ks.zip xs))
  | .obj C ks => ks.length = xs.length ∧ ∃ Ca dx, T.mg C = some (.ref Ca) ∧ H a = some (.ins Ca dx (ks.zip xs))
  | .xdc ks => ks.length = xs.length ∧ H a = some (.xd (ks.zip xs))
def HoldK (T : Wd) (a : Addr) (xs : List V) : Tg → Prop
  | .tup => ∃ (o : Obj) (its : Array Value) (n : Nat), T.K.lookup a = some o ∧ o.cls = .type "tuple" ∧ o.data = .seq its n ∧ its.size ≤ sizeLine ∧ Vals xs its.toList
  | .frl => ∃ (o : Obj) (its : Array Value) (n : Nat), T.K.lookup a = some o ∧ o.cls = .type "list" ∧ o.dict = none ∧ o.data = .seq its n ∧ its.size ≤ sizeLine ∧ Vals xs its.toList
  | _ => False

mutual
def At (T : Wd) (S : Sta) : V → D → Prop
  | v, .non => v = .non
  | v, .bl b => v = .bl b
  | v, .int i => v = .int i
  | v, .str x => v = .str x
  | v, .cell i => ∃ a, v = .ref a ∧ S.r[i]? = some a
  | v, .fn f c q xs ds => v = .ref f ∧ (c ∉ S.r ∧ c ∉ S.x ∧ S.H c = some (LamX.CodeO c q)) ∧ AtL T S xs ds
  | v, .nod t ds => ∃ a xs, v = .ref a ∧ ((a ∉ S.r ∧ a ∉ S.x ∧ Hold T S.H a xs t) ∨ HoldK T a xs t) ∧ AtL T S xs ds
def AtL (T : Wd) (S : Sta) : List V → List D → Prop
  | [], [] => True
  | x :: xs, d :: ds => At T S x d ∧ AtL T S xs ds
  | _ :: _, [] => False
  | [], _ :: _ => False
end

/-- the cells stand in the heap -/
structure Good (T : Wd) (S : Sta) : Prop where
  len : S.r.length = S.c.length
  nd : S.r.Nodup
  hid : ∀ a ∈ S.x, a ∉ S.r ∧ ∃ o, S.H a = some o ∧ Mu a (some o)
  at' : ∀ (i : Nat) (a : Addr) (cl : Cl), S.r[i]? = some a → S.c[i]? = some cl → ∃ xs, Hold T S.H a xs cl.1 ∧ Mu a (S.H a) ∧ AtL T S xs cl.2
  tab : LamX.Tabs Tb.l S.H

/-- the later state: what was so is so -/
structure Ext (T : Wd) (S S' : Sta) : Prop where
  pre : S.r <+: S'.r
  keep : ∀ v d, At T S v d → At T S' v d
  hx : S'.x = S.x
  hh : ∀ a ∈ S.x, S'.H a = S.H a
theorem Ext.refl {T : Wd} {S : Sta} : Ext T S S := ⟨List.prefix_refl _, fun _ _ h => h, rfl, fun _ _ => rfl⟩
theorem Ext.trans {T : Wd} {S S1 S2 : Sta} (a : Ext T S S1) (b : Ext T S1 S2) : Ext T S S2 := ⟨a.pre.trans b.pre, fun v d h => b.keep v d (a.keep v d h), b.hx.trans a.hx, fun p hp => (b.hh p (by rw [a.hx]; exact hp)).trans (a.hh p hp)⟩
theorem atL_of {T : Wd} {S S' : Sta} (h : ∀ v d, At T S v d → At T S' v d) : ∀ {xs : List V} {ds : List D}, AtL T S xs ds → AtL T S' xs ds
  | [], [], _ => by simp [AtL]
  | x :: xs, d :: ds, q => by
    simp only [AtL] at q ⊢
    exact ⟨h _ _ q.1, atL_of h q.2⟩
  | _ :: _, [], q => by simp [AtL] at q
  | [], _ :: _, q => by simp [AtL] at q
theorem Ext.list {T : Wd} {S S' : Sta} (e : Ext T S S') {xs : List V} {ds : List D} (h : AtL T S xs ds) : AtL T S' xs ds := atL_of e.keep h
theorem AtL.len {T : Wd} {S : Sta} : ∀ {xs : List V} {ds : List D}, AtL T S xs ds → xs.length = ds.length
  | [], [], _ => rfl
  | x :: xs, d :: ds, q => by
    simp only [AtL] at q
    simp [AtL.len q.2]
  | _ :: _, [], q => by simp [AtL] at q
  | [], _ :: _, q => by simp [AtL] at q
theorem AtL.get {T : Wd} {S : Sta} : ∀ {xs : List V} {ds : List D} {i : Nat} {d : D}, AtL T S xs ds → ds[i]? = some d → ∃ x, xs[i]? = some x ∧ At T S x d
  | [], [], i, d, _, e => by simp at e
  | x :: xs, y :: ds, 0, d, q, e => by
    simp only [AtL] at q
    simp at e
    subst e
    exact ⟨x, rfl, q.1⟩
  | x :: xs, y :: ds, i + 1, d, q, e => by
    simp only [AtL] at q
    obtain ⟨z, h1, h2⟩ := AtL.get (i := i) (d := d) q.2 (by simpa using e)
    exact ⟨z, by simpa using h1, h2⟩
  | _ :: _, [], _, _, q, _ => by simp [AtL] at q
  | [], _ :: _, _, _, q, _ => by simp [AtL] at q
theorem AtL.append {T : Wd} {S : Sta} : ∀ {xs ys : List V} {ds es : List D}, AtL T S xs ds → AtL T S ys es → AtL T S (xs ++ ys) (ds ++ es)
  | [], _, [], _, _, h => h
  | x :: xs, _, d :: ds, _, q, h => by
    simp only [AtL, List.cons_append] at q ⊢
    exact ⟨q.1, AtL.append q.2 h⟩
  | _ :: _, _, [], _, q, _ => by simp [AtL] at q
  | [], _, _ :: _, _, q, _ => by simp [AtL] at q

/-! ### outcomes -/
/-- an exception: its class by name, its fields -/
structure Exn where
  cls : Str
  ks : List Str
  ds : List D
inductive R (a : Type) where
  | ok (x : a) (c : Cells)
  | err (x : Exn) (c : Cells)
  | stk
def R.bind {a b : Type} (r : R a) (k : a → Cells → R b) : R b := match r with
  | .ok x c => k x c
  | .err x c => .err x c
  | .stk => .stk
/-- an exception as it lies behind: its class at C, its dict -/
def ExAt (T : Wd) (S : Sta) (cls : Value) (dd : Option Addr) (x : Exn) : Prop :=
  ∃ C, T.mg x.cls = some (.ref C) ∧ cls = .ref C ∧ ((x.ks = [] ∧ x.ds = [] ∧ dd = none) ∨ ∃ d, dd = some d ∧ At T S (.ref d) (.nod (.xdc x.ks) x.ds))
/-- what an outcome wants of the end: rel tells how a value of the end is a datum -/
def PostG {a b : Type} (T : Wd) (S : Sta) (rel : Sta → b → a → Prop) (r : R a) (Qv : b → Hp → Prop) (E : XK) : Prop := match r with
  | .ok d c => ∀ S' v, Good T S' → S'.c = c → Ext T S S' → rel S' v d → Qv v S'.H
  | .err x c => ∀ S' cls dd, Good T S' → S'.c = c → Ext T S S' → ExAt T S' cls dd x → E cls dd S'.H
  | .stk => False
abbrev Post (T : Wd) (S : Sta) (r : R D) (Qv : VK) (E : XK) : Prop := PostG T S (At T) r Qv E
abbrev relE (b : Type) : Sta → b → b → Prop := fun _ v d => v = d
theorem PostG.ext {a b : Type} {T : Wd} {S S1 : Sta} {rel : Sta → b → a → Prop} {r : R a} {Qv : b → Hp → Prop} {E : XK} (e : Ext T S S1) (h : PostG T S rel r Qv E) : PostG T S1 rel r Qv E := by
  cases r with
  | ok d c =>
    have h : ∀ S' v, Good T S' → S'.c = c → Ext T S S' → rel S' v d → Qv v S'.H := h
    exact fun S' v g hc x a => h S' v g hc (e.trans x) a
  | err x c =>
    have h : ∀ S' cls dd, Good T S' → S'.c = c → Ext T S S' → ExAt T S' cls dd x → E cls dd S'.H := h
    exact fun S' cls dd g hc y a => h S' cls dd g hc (e.trans y) a
  | stk => exact h
theorem PostG.mono {a b : Type} {T : Wd} {S : Sta} {rel : Sta → b → a → Prop} {r : R a} {Qv Q2 : b → Hp → Prop} {E E2 : XK} (h : PostG T S rel r Qv E) (hq : ∀ v H, Qv v H → Q2 v H) (he : ∀ cl dd H, E cl dd H → E2 cl dd H) : PostG T S rel r Q2 E2 := by
  cases r with
  | ok d c =>
    have h : ∀ S' v, Good T S' → S'.c = c → Ext T S S' → rel S' v d → Qv v S'.H := h
    exact fun S' v g hc x a => hq _ _ (h S' v g hc x a)
  | err x c =>
    have h : ∀ S' cls dd, Good T S' → S'.c = c → Ext T S S' → ExAt T S' cls dd x → E cls dd S'.H := h
    exact fun S' cls dd g hc y a => he _ _ _ (h S' cls dd g hc y a)
  | stk => exact h
theorem post_bind {a b a2 b2 : Type} {T : Wd} {S : Sta} {rel : Sta → b → a → Prop} {rel2 : Sta → b2 → a2 → Prop} {r : R a} {k : a → Cells → R a2} {Qv : b2 → Hp → Prop} {Q2 : b → Hp → Prop} {E : XK} (h : PostG T S rel2 (r.bind k) Qv E)
    (h2 : ∀ d S1 v, r = .ok d S1.c → Good T S1 → Ext T S S1 → rel S1 v d → PostG T S1 rel2 (k d S1.c) Qv E → Q2 v S1.H) : PostG T S rel r Q2 E := by
  cases r with
  | ok d c =>
    have h : PostG T S rel2 (k d c) Qv E := h
    intro S1 v g hc x a
    subst hc
    exact h2 d S1 v rfl g x a (PostG.ext x h)
  | err x c =>
    have h : PostG T S rel2 (.err x c) Qv E := h
    exact h
  | stk =>
    have h : PostG T S rel2 .stk Qv E := h
    exact h
/-- without errors -/
abbrev O := Option (D × Cells)
def O.r (o : O) : R D := match o with
  | some (d, c) => .ok d c
  | none => .stk
def PostO (T : Wd) (S : Sta) (o : O) (Qv : VK) : Prop := match o with
  | some (d, c) => ∀ S' v, Good T S' → S'.c = c → Ext T S S' → At T S' v d → Qv v S'.H
  | none => False
theorem PostG.o {T : Wd} {S : Sta} {o : O} {Qv : VK} {E : XK} (h : Post T S o.r Qv E) : PostO T S o Qv := by
  cases o with
  | none => exact h
  | some p => exact h

/-! ### expressions, tests, arguments -/
abbrev Env := List (Option D)
structure EnvAt (T : Wd) (S : Sta) (sg : L2.St) (env : Env) : Prop where
  len : sg.length = env.length
  get : ∀ (i : Nat) (d : D), env[i]? = some (some d) → ∃ v, sg[i]? = some (some v) ∧ At T S v d
theorem EnvAt.ext {T : Wd} {S S' : Sta} {sg : L2.St} {env : Env} (h : EnvAt T S sg env) (e : Ext T S S') : EnvAt T S' sg env :=
  ⟨h.len, fun i d q => let ⟨v, a, b⟩ := h.get i d q; ⟨v, a, e.keep v d b⟩⟩
theorem EnvAt.set {T : Wd} {S : Sta} {sg : L2.St} {env : Env} (h : EnvAt T S sg env) (i : Nat) {v : V} {d : D} (a : At T S v d) : EnvAt T S (sg.set i (some v)) (env.set i (some d)) := by
  refine ⟨by rw [List.length_set, List.length_set, h.len], fun j e q => ?_⟩
  by_cases hj : i = j
  · subst hj
    have hl : i < env.length := by
      have z := (List.getElem?_eq_some_iff.mp q).1
      rwa [List.length_set] at z
    rw [List.getElem?_set_self hl] at q
    rw [List.getElem?_set_self (by rw [h.len]; exact hl)]
    cases q
    exact ⟨v, rfl, a⟩
  · rw [List.getElem?_set_ne hj] at q ⊢
    exact h.get j e q
abbrev wd (X : Cx) : Wd := ⟨X.K, X.mg⟩
abbrev ME := Env → Cells → R D
abbrev MB := Env → Cells → R Bool
abbrev ML := Env → Cells → R (List D)
abbrev WE (W : WX) (sg : L2.St) : XK := fun cl dd H => W cl dd sg H
/-- the functional reading of an expression -/
def SE (X : Cx) (W : WX) (e : Expr) (m : ME) : Prop :=
  ∃ t, PE X e t ∧ ∀ S sg env Qv, Good (wd X) S → EnvAt (wd X) S sg env → Post (wd X) S (m env S.c) Qv (WE W sg) → t sg S.H Qv
def ST (X : Cx) (W : WX) (e : Expr) (m : MB) : Prop :=
  ∃ t, PT X e t ∧ ∀ S sg env Qv, Good (wd X) S → EnvAt (wd X) S sg env → PostG (wd X) S (relE Bool) (m env S.c) Qv (WE W sg) → t sg S.H Qv
def SW (X : Cx) (W : WX) (e : Expr) (m : MB) : Prop :=
  ∃ t, PW X e t ∧ ∀ S sg env Qv, Good (wd X) S → EnvAt (wd X) S sg env → PostG (wd X) S (relE Bool) (m env S.c) Qv (WE W sg) → t sg S.H Qv
def SA (X : Cx) (W : WX) (es : List Expr) (m : ML) : Prop :=
  ∃ t, PA X es t ∧ ∀ S sg env Qv, Good (wd X) S → EnvAt (wd X) S sg env → PostG (wd X) S (AtL (wd X)) (m env S.c) Qv (WE W sg) → t sg S.H Qv
/-! ### keeping -/
mutual
theorem at_keep {T : Wd} {S S' : Sta} (hr : ∀ (i : Nat) (a : Addr), S.r[i]? = some a → S'.r[i]? = some a) (hn : ∀ a o, a ∉ S.r → a ∉ S.x → S.H a = some o → (∀ ps, o ≠ .tbl ps) → a ∉ S'.r ∧ a ∉ S'.x ∧ S'.H a = some o) : ∀ (v : V) (d : D), At T S v d → At T S' v d
  | v, .non, h => h
  | v, .bl b, h => h
  | v, .int i, h => h
  | v, .str x, h => h
  | v, .cell i, h => by
    obtain ⟨a, e, h⟩ : ∃ a, v = .ref a ∧ S.r[i]? = some a := h
    exact ⟨a, e, hr i a h⟩
  | v, .fn f c q xs ds, h => by
    obtain ⟨e, ⟨n, nx, h⟩, l⟩ : v = .ref f ∧ (c ∉ S.r ∧ c ∉ S.x ∧ S.H c = some (LamX.CodeO c q)) ∧ AtL T S xs ds := h
    exact ⟨e, hn c _ n nx h LamX.codeO_ne, atL_keep hr hn xs ds l⟩
  | v, .nod t ds, h => by
    obtain ⟨a, xs, e, q, l⟩ : ∃ a xs, v = .ref a ∧ ((a ∉ S.r ∧ a ∉ S.x ∧ Hold T S.H a xs t) ∨ HoldK T a xs t) ∧ AtL T S xs ds := h
    refine ⟨a, xs, e, ?_, atL_keep hr hn xs ds l⟩
    rcases q with ⟨n, nx, q⟩ | q
    · left
      cases t with
      | lst => exact hn a _ n nx q (by intro _ z; cases z)
      | tup => exact hn a _ n nx q (by intro _ z; cases z)
      | frl =>
        obtain ⟨o, q⟩ := q
        exact ⟨(hn a _ n nx q (by intro _ z; cases z)).1, (hn a _ n nx q (by intro _ z; cases z)).2.1, o, (hn a _ n nx q (by intro _ z; cases z)).2.2⟩
      | dic ks =>
        obtain ⟨z, q⟩ := q
        exact ⟨(hn a _ n nx q (by intro _ z; cases z)).1, (hn a _ n nx q (by intro _ z; cases z)).2.1, z, (hn a _ n nx q (by intro _ z; cases z)).2.2⟩
      | dit ks =>
        obtain ⟨z, q⟩ := q
        exact ⟨(hn a _ n nx q (by intro _ z; cases z)).1, (hn a _ n nx q (by intro _ z; cases z)).2.1, z, (hn a _ n nx q (by intro _ z; cases z)).2.2⟩
      | obj C ks =>
        obtain ⟨z, Ca, dx, g, q⟩ := q
        exact ⟨(hn a _ n nx q (by intro _ z; cases z)).1, (hn a _ n nx q (by intro _ z; cases z)).2.1, z, Ca, dx, g, (hn a _ n nx q (by intro _ z; cases z)).2.2⟩
      | xdc ks =>
        obtain ⟨z, q⟩ := q
        exact ⟨(hn a _ n nx q (by intro _ z; cases z)).1, (hn a _ n nx q (by intro _ z; cases z)).2.1, z, (hn a _ n nx q (by intro _ z; cases z)).2.2⟩
    · exact .inr q
theorem atL_keep {T : Wd} {S S' : Sta} (hr : ∀ (i : Nat) (a : Addr), S.r[i]? = some a → S'.r[i]? = some a) (hn : ∀ a o, a ∉ S.r → a ∉ S.x → S.H a = some o → (∀ ps, o ≠ .tbl ps) → a ∉ S'.r ∧ a ∉ S'.x ∧ S'.H a = some o) : ∀ (xs : List V) (ds : List D), AtL T S xs ds → AtL T S' xs ds
  | [], [], h => h
  | x :: xs, d :: ds, h => by
    obtain ⟨h1, h2⟩ : At T S x d ∧ AtL T S xs ds := h
    exact ⟨at_keep hr hn x d h1, atL_keep hr hn xs ds h2⟩
  | _ :: _, [], h => h
  | [], _ :: _, h => h
end
theorem ext_of {T : Wd} {S S' : Sta} (hp : S.r <+: S'.r) (hx : S'.x = S.x) (hh : ∀ a ∈ S.x, S'.H a = S.H a) (hn : ∀ a o, a ∉ S.r → a ∉ S.x → S.H a = some o → (∀ ps, o ≠ .tbl ps) → a ∉ S'.r ∧ a ∉ S'.x ∧ S'.H a = some o) : Ext T S S' :=
  ⟨hp, fun v d h => at_keep (fun i a e => by
    obtain ⟨t, ht⟩ := hp
    rw [← ht, List.getElem?_append_left (List.getElem?_eq_some_iff.mp e).1]
    exact e) hn v d h, hx, hh⟩
theorem mu_code {c : Addr} {q : Str} : ¬ Mu c (some (LamX.CodeO c q)) := fun ⟨h, o, ⟨oc, vs, t, h1, h2, _⟩, h3, h4⟩ => by
  rw [h1] at h3
  cases h3
  exact h4 vs h2
theorem tabs_upd {H : Hp} {p : Addr} {o : HO} {l : List (Addr × Str)} (h : LamX.Tabs l H) (m : H p = none ∨ Mu p (H p)) : LamX.Tabs l (upd H p o) := fun q hq => by
  obtain ⟨ps, h1, h2, h3⟩ := h q hq
  have k : ∀ b u, H b = some u → ((∃ ps, u = .tbl ps) ∨ ∃ r, u = LamX.CodeO b r) → b ≠ p := fun b u e z y => by
    subst y
    rcases m with m | m
    · rw [m] at e
      cases e
    · rw [e] at m
      rcases z with ⟨_, rfl⟩ | ⟨_, rfl⟩
      · exact m
      · obtain ⟨h, o, ⟨oc, vs, t, h1, h2, _⟩, h3, h4⟩ := m
        rw [h1] at h3
        cases h3
        exact h4 vs h2
  refine ⟨ps, (upd_ne (k _ _ h1 (.inl ⟨_, rfl⟩))).trans h1, h2, fun pos cv hc => ?_⟩
  obtain ⟨c, e1, e2⟩ := h3 pos cv hc
  exact ⟨c, e1, (upd_ne (k _ _ e2 (.inr ⟨_, rfl⟩))).trans e2⟩
theorem Good.there {T : Wd} {S : Sta} (g : Good T S) {a : Addr} (h : a ∈ S.r) : ∃ o, S.H a = some o ∧ Mu a (some o) := by
  obtain ⟨i, hi⟩ := List.getElem?_of_mem h
  have hl : i < S.c.length := by
    rw [← g.len]
    exact (List.getElem?_eq_some_iff.mp hi).1
  obtain ⟨xs, _, m, _⟩ := g.at' i a S.c[i] hi (List.getElem?_eq_getElem hl)
  cases e : S.H a with
  | none => rw [e] at m; exact m.elim
  | some o => exact ⟨o, rfl, by rw [e] at m; exact m⟩
theorem Good.fresh {T : Wd} {S : Sta} (g : Good T S) {p : Addr} (h : S.H p = none) : p ∉ S.r := fun hm => by
  obtain ⟨o, e, _⟩ := g.there hm
  rw [h] at e
  cases e
theorem Good.freshX {T : Wd} {S : Sta} (g : Good T S) {p : Addr} (h : S.H p = none) : p ∉ S.x := fun hm => by
  obtain ⟨_, o, e, mu⟩ := g.hid p hm
  rw [h] at e
  cases e
/-- a new object -/
def Sta.put (S : Sta) (p : Addr) (o : HO) : Sta := { S with H := upd S.H p o }
theorem Sta.ext_put {T : Wd} {S : Sta} {p : Addr} {o : HO} (g : Good T S) (h : S.H p = none) : Ext T S (S.put p o) :=
  ext_of (List.prefix_refl _) rfl (fun a ha => by
    obtain ⟨_, u, e, mu⟩ := g.hid a ha
    exact upd_ne (ne_of_none e h)) fun a u n nx e _ => ⟨n, nx, by
    show upd S.H p o a = some u
    rw [upd_ne (ne_of_none e h)]
    exact e⟩
theorem hold_ne {T : Wd} {H H' : Hp} {a : Addr} {xs : List V} {t : Tg} (h : Hold T H a xs t) (e : H' a = H a) : Hold T H' a xs t := by
  cases t with
  | lst => exact e.trans h
  | tup => exact e.trans h
  | frl => obtain ⟨o, h⟩ := h; exact ⟨o, e.trans h⟩
  | dic ks => obtain ⟨z, h⟩ := h; exact ⟨z, e.trans h⟩
  | dit ks => obtain ⟨z, h⟩ := h; exact ⟨z, e.trans h⟩
  | obj C ks => obtain ⟨z, Ca, dx, g, h⟩ := h; exact ⟨z, Ca, dx, g, e.trans h⟩
  | xdc ks => obtain ⟨z, h⟩ := h; exact ⟨z, e.trans h⟩
theorem Good.put {T : Wd} {S : Sta} {p : Addr} {o : HO} (g : Good T S) (h : S.H p = none) : Good T (S.put p o) := by
  refine ⟨g.len, g.nd, fun a ha => ?_, fun i a cl hr hc => ?_, tabs_upd g.tab (.inl h)⟩
  · obtain ⟨n, u, e, mu⟩ := g.hid a ha
    refine ⟨n, u, ?_, mu⟩
    show upd S.H p o a = some u
    rw [upd_ne (ne_of_none e h)]
    exact e
  · obtain ⟨xs, hh, m, l⟩ := g.at' i a cl hr hc
    obtain ⟨u, eu, _⟩ := g.there (List.mem_of_getElem? hr)
    have en : (S.put p o).H a = S.H a := upd_ne (ne_of_none eu h)
    exact ⟨xs, hold_ne hh en, by rw [en]; exact m, (Sta.ext_put g h).list l⟩
/-- a new mutable object -/
def Sta.add (S : Sta) (p : Addr) (o : HO) (cl : Cl) : Sta := ⟨upd S.H p o, S.r ++ [p], S.c ++ [cl], S.x⟩
theorem Sta.ext_add {T : Wd} {S : Sta} {p : Addr} {o : HO} {cl : Cl} (g : Good T S) (h : S.H p = none) : Ext T S (S.add p o cl) :=
  ext_of ⟨[p], rfl⟩ rfl (fun a ha => by
    obtain ⟨_, u, e, mu⟩ := g.hid a ha
    exact upd_ne (ne_of_none e h)) fun a u n nx e _ => by
    have ne : a ≠ p := ne_of_none e h
    refine ⟨fun hm => ?_, nx, ?_⟩
    · rcases List.mem_append.mp hm with z | z
      · exact n z
      · exact ne (by simpa using z)
    · show upd S.H p o a = some u
      rw [upd_ne ne]
      exact e
theorem Good.add {T : Wd} {S : Sta} {p : Addr} {o : HO} {cl : Cl} {xs : List V} (g : Good T S) (h : S.H p = none) (hh : Hold T (upd S.H p o) p xs cl.1) (m : Mu p (some o)) (l : AtL T S xs cl.2) : Good T (S.add p o cl) := by
  have fr := g.fresh h
  have frx := g.freshX h
  refine ⟨by show (S.r ++ [p]).length = (S.c ++ [cl]).length; simp [g.len], ?_, fun a ha => ?_, fun i a cl' hr hc => ?_, tabs_upd g.tab (.inl h)⟩
  · show (S.r ++ [p]).Nodup
    rw [List.nodup_append]
    refine ⟨g.nd, by simp, fun a ha b hb e => ?_⟩
    have eb : b = p := by simpa using hb
    rw [e, eb] at ha
    exact fr ha
  · obtain ⟨n, u, e, mu⟩ := g.hid a ha
    have ne : a ≠ p := ne_of_none e h
    refine ⟨fun hm => ?_, u, ?_, mu⟩
    · rcases List.mem_append.mp hm with z | z
      · exact n z
      · exact ne (by simpa using z)
    · show upd S.H p o a = some u
      rw [upd_ne ne]
      exact e
  · by_cases hi : i < S.r.length
    · have hr' : S.r[i]? = some a := by
        rw [← hr]
        exact (List.getElem?_append_left hi).symm
      have hc' : S.c[i]? = some cl' := by
        rw [← hc]
        exact (List.getElem?_append_left (by rw [← g.len]; exact hi)).symm
      obtain ⟨ys, hy, m', l'⟩ := g.at' i a cl' hr' hc'
      obtain ⟨u, eu, _⟩ := g.there (List.mem_of_getElem? hr')
      have en : (S.add p o cl).H a = S.H a := upd_ne (ne_of_none eu h)
      exact ⟨ys, hold_ne hy en, by rw [en]; exact m', (Sta.ext_add g h).list l'⟩
    · have hr2 : (S.r ++ [p])[i]? = some a := hr
      have hc2 : (S.c ++ [cl])[i]? = some cl' := hc
      rw [List.getElem?_append_right (by omega)] at hr2
      rw [List.getElem?_append_right (by rw [← g.len]; omega)] at hc2
      have e0 : i - S.r.length = 0 := by
        cases k : i - S.r.length with
        | zero => rfl
        | succ k' => rw [k] at hr2; simp at hr2
      have e1 : i - S.c.length = 0 := by rw [← g.len]; exact e0
      rw [e0] at hr2
      rw [e1] at hc2
      have ea : p = a := by simpa using hr2
      have ec : cl = cl' := by simpa using hc2
      subst ea ec
      refine ⟨xs, hh, ?_, (Sta.ext_add g h).list l⟩
      show Mu p (upd S.H p o p)
      rw [upd_same]
      exact m
/-- a mutable object changes -/
def Sta.set (S : Sta) (i : Nat) (p : Addr) (o : HO) (cl : Cl) : Sta := ⟨upd S.H p o, S.r, S.c.set i cl, S.x⟩
theorem Sta.ext_set {T : Wd} {S : Sta} {i : Nat} {p : Addr} {o : HO} {cl : Cl} (g : Good T S) (h : S.r[i]? = some p) : Ext T S (S.set i p o cl) :=
  ext_of (List.prefix_refl _) rfl (fun a ha => upd_ne (fun z => (g.hid a ha).1 (by rw [z]; exact List.mem_of_getElem? h))) fun a u n nx e _ => ⟨n, nx, by
    show upd S.H p o a = some u
    rw [upd_ne (fun z => n (by rw [z]; exact List.mem_of_getElem? h))]
    exact e⟩
theorem Good.set {T : Wd} {S : Sta} {i : Nat} {p : Addr} {o : HO} {cl : Cl} {xs : List V} (g : Good T S) (h : S.r[i]? = some p) (hh : Hold T (upd S.H p o) p xs cl.1) (m : Mu p (some o)) (l : AtL T S xs cl.2) : Good T (S.set i p o cl) := by
  have hp : p ∈ S.r := List.mem_of_getElem? h
  refine ⟨by show S.r.length = (S.c.set i cl).length; simp [g.len], g.nd, fun a ha => ?_, fun j a cl' hr hc => ?_, tabs_upd g.tab (.inr (by obtain ⟨o, e, m⟩ := g.there hp; rw [e]; exact m))⟩
  · obtain ⟨n, u, e, mu⟩ := g.hid a ha
    exact ⟨n, u, (upd_ne (fun z => n (by rw [z]; exact hp))).trans e, mu⟩
  have hil : i < S.c.length := by rw [← g.len]; exact (List.getElem?_eq_some_iff.mp h).1
  have hr2 : S.r[j]? = some a := hr
  by_cases e : j = i
  · subst e
    have ea : p = a := Option.some.inj (h.symm.trans hr2)
    subst ea
    have hc2 : (S.c.set j cl)[j]? = some cl' := hc
    rw [List.getElem?_set_self hil] at hc2
    cases hc2
    refine ⟨xs, hh, ?_, (Sta.ext_set g h).list l⟩
    show Mu p (upd S.H p o p)
    rw [upd_same]
    exact m
  · have hc2 : (S.c.set i cl)[j]? = some cl' := hc
    rw [List.getElem?_set_ne (Ne.symm e)] at hc2
    obtain ⟨ys, hy, m', l'⟩ := g.at' j a cl' hr2 hc2
    have ne : a ≠ p := fun z => by
      subst z
      obtain ⟨h1, e1⟩ := List.getElem?_eq_some_iff.mp h
      obtain ⟨h2, e2⟩ := List.getElem?_eq_some_iff.mp hr2
      exact e ((List.getElem_inj g.nd).mp (e2.trans e1.symm))
    have en : (S.set i p o cl).H a = S.H a := upd_ne ne
    exact ⟨ys, hold_ne hy en, by rw [en]; exact m', (Sta.ext_set g h).list l'⟩
/-- an object hidden: no datum has it -/
def Sta.hide (S : Sta) (p : Addr) (o : HO) : Sta := { S with H := upd S.H p o, x := p :: S.x }
theorem Good.hide {T : Wd} {S : Sta} {p : Addr} {o : HO} (g : Good T S) (h : S.H p = none) (m : Mu p (some o)) : Good T (S.hide p o) ∧ ∀ v d, At T S v d → At T (S.hide p o) v d := by
  have k : ∀ v d, At T S v d → At T (S.hide p o) v d := fun v d a => at_keep (S := S) (S' := S.hide p o) (fun _ _ e => e) (fun a u n nx e _ => ⟨n, fun hm => by
    rcases List.mem_cons.mp hm with z | z
    · rw [z, h] at e
      cases e
    · exact nx z, by
    show upd S.H p o a = some u
    rw [upd_ne (ne_of_none e h)]
    exact e⟩) v d a
  refine ⟨⟨g.len, g.nd, fun a ha => ?_, fun i a cl hr hc => ?_, tabs_upd g.tab (.inl h)⟩, k⟩
  · rcases List.mem_cons.mp (show a ∈ p :: S.x from ha) with z | z
    · subst z
      exact ⟨g.fresh h, o, upd_same, m⟩
    · obtain ⟨n, u, e, mu⟩ := g.hid a z
      exact ⟨n, u, (upd_ne (ne_of_none e h)).trans e, mu⟩
  · obtain ⟨xs, hh, m, l⟩ := g.at' i a cl hr hc
    obtain ⟨u, eu, _⟩ := g.there (List.mem_of_getElem? hr)
    have en : (S.hide p o).H a = S.H a := upd_ne (ne_of_none eu h)
    exact ⟨xs, hold_ne hh en, by rw [en]; exact m, atL_of k l⟩
/-- a hidden object changes -/
def Sta.seth (S : Sta) (p : Addr) (o : HO) : Sta := { S with H := upd S.H p o }
theorem Good.seth {T : Wd} {S : Sta} {p : Addr} {o : HO} (g : Good T S) (h : p ∈ S.x) (m : Mu p (some o)) : Good T (S.seth p o) ∧ ∀ v d, At T S v d → At T (S.seth p o) v d := by
  have k : ∀ v d, At T S v d → At T (S.seth p o) v d := fun v d a => at_keep (S := S) (S' := S.seth p o) (fun _ _ e => e) (fun a u n nx e _ => ⟨n, nx, by
    show upd S.H p o a = some u
    rw [upd_ne (fun z => nx (by rw [z]; exact h))]
    exact e⟩) v d a
  refine ⟨⟨g.len, g.nd, fun a ha => ?_, fun i a cl hr hc => ?_, tabs_upd g.tab (.inr (by obtain ⟨_, u, e, mu⟩ := g.hid p h; rw [e]; exact mu))⟩, k⟩
  · obtain ⟨n, u, e, mu⟩ := g.hid a ha
    by_cases z : a = p
    · subst z
      exact ⟨n, o, upd_same, m⟩
    · exact ⟨n, u, (upd_ne z).trans e, mu⟩
  · obtain ⟨xs, hh, m, l⟩ := g.at' i a cl hr hc
    have ne : a ≠ p := fun z => (g.hid p h).1 (by rw [← z]; exact List.mem_of_getElem? hr)
    have en : (S.seth p o).H a = S.H a := upd_ne ne
    exact ⟨xs, hold_ne hh en, by rw [en]; exact m, atL_of k l⟩
/-- a hidden object is told -/
def Sta.tell (S : Sta) (l : List Addr) : Sta := { S with x := l }
theorem at_tell {T : Wd} {S : Sta} {l : List Addr} (hs : ∀ a ∈ l, a ∈ S.x) : ∀ v d, At T S v d → At T (S.tell l) v d :=
  fun v d a => at_keep (S := S) (S' := S.tell l) (fun _ _ e => e) (fun a u n nx e _ => ⟨n, fun hm => nx (hs a hm), e⟩) v d a
theorem Good.tell {T : Wd} {S : Sta} {l : List Addr} (g : Good T S) (hs : ∀ a ∈ l, a ∈ S.x) : Good T (S.tell l) :=
  ⟨g.len, g.nd, fun a ha => g.hid a (hs a ha), fun i a cl hr hc => by
    obtain ⟨xs, hh, m, l'⟩ := g.at' i a cl hr hc
    exact ⟨xs, hh, m, atL_of (at_tell hs) l'⟩, g.tab⟩
/-! ### what a value is, seen through cells -/
def view (c : Cells) : D → Option Cl
  | .nod t ds => some (t, ds)
  | .cell i => c[i]?
  | _ => none
theorem view_at {T : Wd} {S : Sta} {v : V} {d : D} {t : Tg} {ds : List D} (g : Good T S) (h : At T S v d) (e : view S.c d = some (t, ds)) : ∃ a xs, v = .ref a ∧ (Hold T S.H a xs t ∨ HoldK T a xs t) ∧ AtL T S xs ds := by
  cases d with
  | nod t' ds' =>
    cases e
    obtain ⟨a, xs, e, q, l⟩ : ∃ a xs, v = .ref a ∧ ((a ∉ S.r ∧ a ∉ S.x ∧ Hold T S.H a xs t) ∨ HoldK T a xs t) ∧ AtL T S xs ds := h
    exact ⟨a, xs, e, q.imp (·.2.2) id, l⟩
  | cell i =>
    obtain ⟨a, e1, h⟩ : ∃ a, v = .ref a ∧ S.r[i]? = some a := h
    obtain ⟨xs, hh, _, l⟩ := g.at' i a (t, ds) h e
    exact ⟨a, xs, e1, .inl hh, l⟩
  | _ => exact nomatch e
theorem hold_L {T : Wd} {H : Hp} {a : Addr} {xs : List V} (h : Hold T H a xs .lst ∨ HoldK T a xs .lst) : H a = some (.lst xs) := h.elim id False.elim
theorem hold_F {T : Wd} {H : Hp} {a : Addr} {xs : List V} (h : Hold T H a xs .frl ∨ HoldK T a xs .frl) : SqL T.K H a xs := by
  rcases h with ⟨o, q⟩ | q
  · exact .inl (.inr ⟨o, q⟩)
  · exact .inr q
theorem hold_T {T : Wd} {H : Hp} {a : Addr} {xs : List V} (h : Hold T H a xs .tup ∨ HoldK T a xs .tup) : SqT T.K H a xs := h.imp (fun q => .inl q) id
end Q
end
section
set_option Elab.async false
set_option linter.all false
set_option maxRecDepth 100000
namespace Q
open PySem PySem.Spec L2
variable [Tb]
section
variable {X : Cx} {W : WX} {e a b c : Expr} {pos : Pos} {m ma mb mc : ME}
/-! ### names, constants -/
def mVar (i : Nat) : ME := fun env c => match env[i]? with
  | some (some d) => .ok d c
  | _ => .stk
theorem se_var {i : Nat} {x : Str} (h : PE X (.Name x pos) (tVar i)) : SE X W (.Name x pos) (mVar i) := by
  refine ⟨_, h, fun S sg env Qv g en p => ?_⟩
  unfold mVar at p
  split at p
  · rename_i d q
    obtain ⟨v, e, av⟩ := en.get i d q
    exact ⟨v, e, p S v g rfl .refl av⟩
  · exact p.elim
def mC (d : D) : ME := fun _ c => .ok d c
theorem se_int {i : Int} {j} : SE X W (.Constant (.int i) j pos) (mC (.int i)) := ⟨_, pe_int, fun S _ _ _ g _ p => p S (.int i) g rfl .refl rfl⟩
theorem se_bl {i : Bool} {j} : SE X W (.Constant (.bool i) j pos) (mC (.bl i)) := ⟨_, pe_bl, fun S _ _ _ g _ p => p S (.bl i) g rfl .refl rfl⟩
theorem se_non {j} : SE X W (.Constant .none j pos) (mC .non) := ⟨_, pe_non, fun S _ _ _ g _ p => p S .non g rfl .refl rfl⟩
theorem se_str {x : Str} {j} : SE X W (.Constant (.str x) j pos) (mC (.str x)) := ⟨_, pe_str, fun S _ _ _ g _ p => p S (.str x) g rfl .refl rfl⟩
/-- a module's constant that is an int or a text -/
theorem se_glob {x : Str} {d : D} {v : V} (h : PE X (.Name x pos) (tC v)) (hv : ∀ T S, At T S v d) : SE X W (.Name x pos) (mC d) := ⟨_, h, fun S _ _ _ g _ p => p S v g rfl .refl (hv _ _)⟩
/-- a module's constant that is a tuple of the written part -/
def KTup (T : Wd) (v : V) (d : D) : Prop := ∀ S, At T S v d
theorem se_globK {x : Str} {d : D} {v : V} (h : PE X (.Name x pos) (tC v)) (hv : KTup (wd X) v d) : SE X W (.Name x pos) (mC d) := ⟨_, h, fun S _ _ _ g _ p => p S v g rfl .refl (hv S)⟩

/-! ### operators -/
def OpS (T : Wd) (r : R2) (f : D → D → Cells → O) : Prop := ∀ S x y dx dy Qv, Good T S → At T S x dx → At T S y dy → PostO T S (f dx dy S.c) Qv → r x y S.H Qv
def UnS (T : Wd) (r : V → Hp → VK → Prop) (f : D → Cells → O) : Prop := ∀ S x dx Qv, Good T S → At T S x dx → PostO T S (f dx S.c) Qv → r x S.H Qv
def CaS (T : Wd) (r : List V → Hp → VK → Prop) (f : List D → Cells → O) : Prop := ∀ S xs ds Qv, Good T S → AtL T S xs ds → PostO T S (f ds S.c) Qv → r xs S.H Qv
def m2 (f : D → D → Cells → O) (ma mb : ME) : ME := fun env c => (ma env c).bind fun x c => (mb env c).bind fun y c => (f x y c).r
def m1 (f : D → Cells → O) (ma : ME) : ME := fun env c => (ma env c).bind fun x c => (f x c).r
theorem run2 {ta tb : TE} {r : R2} {f : D → D → Cells → O} (hs : OpS (wd X) r f) (qa : ∀ S sg env Qv, Good (wd X) S → EnvAt (wd X) S sg env → Post (wd X) S (ma env S.c) Qv (WE W sg) → ta sg S.H Qv)
    (qb : ∀ S sg env Qv, Good (wd X) S → EnvAt (wd X) S sg env → Post (wd X) S (mb env S.c) Qv (WE W sg) → tb sg S.H Qv) :
    ∀ S sg env Qv, Good (wd X) S → EnvAt (wd X) S sg env → Post (wd X) S (m2 f ma mb env S.c) Qv (WE W sg) → tOp r ta tb sg S.H Qv := by
  intro S sg env Qv g en p
  refine qa S sg env _ g en (post_bind p fun x S1 v e1 g1 x1 a1 p1 => ?_)
  refine qb S1 sg env _ g1 (en.ext x1) (post_bind p1 fun y S2 u e2 g2 x2 a2 p2 => ?_)
  exact hs S2 v u x y Qv g2 (x2.keep _ _ a1) a2 p2.o
/-- an operation of values that does what f says -/
def OpF (X : Cx) (fn : Value → Value → Sem Value) (f : D → D → Cells → O) : Prop := ∃ r, OpR X fn r ∧ OpS (wd X) r f
def UnF (X : Cx) (fn : Value → Sem Value) (f : D → Cells → O) : Prop := ∃ r, UnR X fn r ∧ UnS (wd X) r f
def CaF (X : Cx) (fn : Value) (f : List D → Cells → O) : Prop := ∃ r, CallR X fn r ∧ CaS (wd X) r f
theorem se_op {op : Operator} {f : D → D → Cells → O} (h : OpF X (binaryOp op) f) (ha : SE X W a ma) (hb : SE X W b mb) : SE X W (.BinOp a op b pos) (m2 f ma mb) := by
  obtain ⟨r, ho, hs⟩ := h
  obtain ⟨ta, pa, qa⟩ := ha
  obtain ⟨tb, pb, qb⟩ := hb
  exact ⟨_, pe_op ho pa pb, run2 hs qa qb⟩
theorem se_un {op : UnaryOp} {f : D → Cells → O} (h : UnF X (unaryOp op) f) (ha : SE X W a ma) : SE X W (.UnaryOp op a pos) (m1 f ma) := by
  obtain ⟨r, ho, hs⟩ := h
  obtain ⟨ta, pa, qa⟩ := ha
  refine ⟨_, pe_un ho pa, fun S sg env Qv g en p => ?_⟩
  refine qa S sg env _ g en (post_bind p fun x S1 v e1 g1 x1 a1 p1 => ?_)
  exact hs S1 v x Qv g1 a1 p1.o
def orO (f f' : D → D → Cells → O) : D → D → Cells → O := fun x y c => match f x y c with
  | some q => some q
  | none => f' x y c
theorem OpF.or {fn : Value → Value → Sem Value} {f f' : D → D → Cells → O} (h : OpF X fn f) (h' : OpF X fn f') : OpF X fn (orO f f') := by
  obtain ⟨r, h1, h2⟩ := h
  obtain ⟨r', h1', h2'⟩ := h'
  refine ⟨fun x y H Qv => r x y H Qv ∨ r' x y H Qv, fun pins s sg H x y v u Qv I rx ry q => ?_, fun S x y dx dy Qv g ax ay p => ?_⟩
  · rcases q with q | q
    · exact h1 pins s sg H x y v u Qv I rx ry q
    · exact h1' pins s sg H x y v u Qv I rx ry q
  · unfold orO at p
    split at p
    · rename_i q e
      refine .inl (h2 S x y dx dy Qv g ax ay ?_)
      rw [e]
      exact p
    · exact .inr (h2' S x y dx dy Qv g ax ay p)
def orC (f f' : List D → Cells → O) : List D → Cells → O := fun x c => match f x c with
  | some q => some q
  | none => f' x c
theorem CaF.or {fn : Value} {f f' : List D → Cells → O} (h : CaF X fn f) (h' : CaF X fn f') : CaF X fn (orC f f') := by
  obtain ⟨r, h1, h2⟩ := h
  obtain ⟨r', h1', h2'⟩ := h'
  refine ⟨fun xs H Qv => r xs H Qv ∨ r' xs H Qv, fun pins s sg H xs us Qv I rx q => ?_, fun S xs ds Qv g ax p => ?_⟩
  · rcases q with q | q
    · exact h1 pins s sg H xs us Qv I rx q
    · exact h1' pins s sg H xs us Qv I rx q
  · unfold orC at p
    split at p
    · rename_i q e
      refine .inl (h2 S xs ds Qv g ax ?_)
      rw [e]
      exact p
    · exact .inr (h2' S xs ds Qv g ax p)
theorem PostO.some {T : Wd} {S : Sta} {o : O} {Qv : VK} (h : PostO T S o Qv) : ∃ d c, o = some (d, c) ∧ ∀ S' v, Good T S' → S'.c = c → Ext T S S' → At T S' v d → Qv v S'.H := by
  cases o with
  | none => exact False.elim h
  | some p => exact ⟨p.1, p.2, rfl, h⟩
/-- two ints to a value -/
def fI (C : Int → Int → Bool) (k : Int → Int → D) : D → D → Cells → O
  | .int i, .int j, c => if C i j then some (k i j, c) else none
  | _, _, _ => none
theorem fI_inv {C : Int → Int → Bool} {k : Int → Int → D} {x y d : D} {c c' : Cells} (h : fI C k x y c = some (d, c')) : ∃ i j, x = .int i ∧ y = .int j ∧ C i j = true ∧ d = k i j ∧ c' = c := by
  unfold fI at h
  split at h
  · rename_i i j
    split at h
    · rename_i hc
      cases h
      exact ⟨i, j, rfl, rfl, hc, rfl, rfl⟩
    · cases h
  · cases h
theorem fI_ok {fn : Value → Value → Sem Value} {C : Int → Int → Prop} {Cb : Int → Int → Bool} {k : Int → Int → V} {kd : Int → Int → D} (ho : OpR X fn (rI C k)) (hC : ∀ i j, Cb i j = true → C i j) (hk : ∀ S i j, At (wd X) S (k i j) (kd i j)) : OpF X fn (fI Cb kd) := by
  refine ⟨_, ho, ?_⟩
  intro S x y dx dy Qv g ax ay p
  obtain ⟨d, c, e, q⟩ := p.some
  obtain ⟨i, j, rfl, rfl, hc, rfl, rfl⟩ := fI_inv e
  exact ⟨i, j, ax, ay, hC i j hc, q S (k i j) g rfl .refl (hk S i j)⟩
theorem fI_ok0 {fn : Value → Value → Sem Value} {k : Int → Int → V} {kd : Int → Int → D} (ho : OpR X fn (rI0 k)) (hk : ∀ S i j, At (wd X) S (k i j) (kd i j)) : OpF X fn (fI (fun _ _ => true) kd) := by
  refine ⟨_, ho, ?_⟩
  intro S x y dx dy Qv g ax ay p
  obtain ⟨d, c, e, q⟩ := p.some
  obtain ⟨i, j, rfl, rfl, hc, rfl, rfl⟩ := fI_inv e
  exact ⟨i, j, ax, ay, q S (k i j) g rfl .refl (hk S i j)⟩
/-- an object made: a tree -/
theorem made {T : Wd} {S : Sta} {p : Addr} {o : HO} {xs : List V} {ds : List D} {t : Tg} {Qv : VK} (g : Good T S) (hp : S.H p = none) (l : AtL T S xs ds) (hh : Hold T (upd S.H p o) p xs t)
    (q : ∀ S' v, Good T S' → S'.c = S.c → Ext T S S' → At T S' v (.nod t ds) → Qv v S'.H) : Qv (.ref p) (upd S.H p o) := by
  have x := Sta.ext_put (T := T) (o := o) g hp
  exact q (S.put p o) (.ref p) (g.put hp) rfl x ⟨p, xs, rfl, .inl ⟨g.fresh hp, g.freshX hp, hh⟩, x.list l⟩
/-- an object made: a cell -/
theorem madeC {T : Wd} {S : Sta} {p : Addr} {o : HO} {xs : List V} {ds : List D} {t : Tg} {Qv : VK} (g : Good T S) (hp : S.H p = none) (l : AtL T S xs ds) (hh : Hold T (upd S.H p o) p xs t) (m : Mu p (some o))
    (q : ∀ S' v, Good T S' → S'.c = S.c ++ [(t, ds)] → Ext T S S' → At T S' v (.cell S.c.length) → Qv v S'.H) : Qv (.ref p) (upd S.H p o) := by
  refine q (S.add p o (t, ds)) (.ref p) (g.add hp hh m l) rfl (Sta.ext_add g hp) ⟨p, rfl, ?_⟩
  show (S.r ++ [p])[S.c.length]? = some p
  rw [← g.len, List.getElem?_append_right (Nat.le_refl _), Nat.sub_self]
  rfl
/-- + -/
def fAddI : D → D → Cells → O := fI (fun _ _ => true) fun i j => .int (i + j)
def fAddS : D → D → Cells → O
  | .str x, .str y, c => if x.length + y.length ≤ sizeLine then some (.str (x ++ y), c) else none
  | _, _, _ => none
def fCatL (x y : D) (c : Cells) : O := match view c x, view c y with
  | some (.lst, xs), some (.lst, ys) => if xs.length + ys.length ≤ sizeLine then some (.lst (xs ++ ys), c) else none
  | _, _ => none
def fCatT (x y : D) (c : Cells) : O := match view c x, view c y with
  | some (.tup, xs), some (.tup, ys) => if xs.length + ys.length ≤ sizeLine ∧ xs ≠ [] ∧ ys ≠ [] then some (.tup (xs ++ ys), c) else none
  | _, _ => none
def fAdd : D → D → Cells → O := orO fAddI (orO fAddS (orO fCatL fCatT))
theorem fAddI_ok : OpF X (binaryOp .Add) fAddI := fI_ok0 op_add fun _ _ _ => rfl
theorem fAddS_ok : OpF X (binaryOp .Add) fAddS := by
  refine ⟨_, op_add_str, ?_⟩
  intro S x y dx dy Qv g ax ay p
  obtain ⟨d, c, e, q⟩ := p.some
  unfold fAddS at e
  split at e
  · split at e
    · rename_i hz
      cases e
      exact ⟨_, _, ax, ay, hz, q S _ g rfl .refl rfl⟩
    · cases e
  · cases e
theorem fCatL_ok : OpF X (binaryOp .Add) fCatL := by
  refine ⟨_, op_cat, ?_⟩
  intro S x y dx dy Qv g ax ay p
  obtain ⟨d, c, e, q⟩ := p.some
  unfold fCatL at e
  split at e
  · rename_i xs ys e1 e2
    split at e
    · rename_i hz
      cases e
      obtain ⟨a, us, rfl, h1, l1⟩ := view_at g ax e1
      obtain ⟨b, ws, rfl, h2, l2⟩ := view_at g ay e2
      refine ⟨a, b, us, ws, rfl, rfl, hold_L h1, hold_L h2, by rw [l1.len, l2.len]; exact hz, fun p hp => ?_⟩
      exact made (t := .lst) g hp (l1.append l2) upd_same q
    · cases e
  · cases e
theorem AtL.nil_iff {T : Wd} {S : Sta} {xs : List V} {ds : List D} (h : AtL T S xs ds) : xs = [] ↔ ds = [] := by
  have := h.len
  constructor
  · intro z
    rw [z] at this
    exact List.length_eq_zero_iff.mp this.symm
  · intro z
    rw [z] at this
    exact List.length_eq_zero_iff.mp this
theorem fCatT_ok : OpF X (binaryOp .Add) fCatT := by
  refine ⟨_, op_catT, ?_⟩
  intro S x y dx dy Qv g ax ay p
  obtain ⟨d, c, e, q⟩ := p.some
  unfold fCatT at e
  split at e
  · rename_i xs ys e1 e2
    split at e
    · rename_i hz
      cases e
      obtain ⟨a, us, rfl, h1, l1⟩ := view_at g ax e1
      obtain ⟨b, ws, rfl, h2, l2⟩ := view_at g ay e2
      exact ⟨a, b, us, ws, rfl, rfl, hold_T h1, hold_T h2, fun z => hz.2.1 (l1.nil_iff.mp z), by rw [l1.len, l2.len]; exact hz.1, fun z => absurd (l2.nil_iff.mp z) hz.2.2, fun _ p hp => made (t := .tup) g hp (l1.append l2) upd_same q⟩
    · cases e
  · cases e
theorem se_add (ha : SE X W a ma) (hb : SE X W b mb) : SE X W (.BinOp a .Add b pos) (m2 fAdd ma mb) := se_op (fAddI_ok.or (fAddS_ok.or (fCatL_ok.or fCatT_ok))) ha hb
def fSub : D → D → Cells → O := fI (fun _ _ => true) fun i j => .int (i - j)
theorem se_sub (ha : SE X W a ma) (hb : SE X W b mb) : SE X W (.BinOp a .Sub b pos) (m2 fSub ma mb) := se_op (fI_ok0 op_sub fun _ _ _ => rfl) ha hb
def fMod : D → D → Cells → O := fI (fun _ j => decide (0 < j)) fun i j => .int (i % j)
theorem se_mod (ha : SE X W a ma) (hb : SE X W b mb) : SE X W (.BinOp a .Mod b pos) (m2 fMod ma mb) := se_op (fI_ok op_mod (fun _ _ h => of_decide_eq_true h) fun _ _ _ => rfl) ha hb
def fFdiv : D → D → Cells → O := fI (fun _ j => decide (0 < j) && decide (j.natAbs.log2 < 9000)) fun i j => .int (i / j)
theorem se_fdiv (ha : SE X W a ma) (hb : SE X W b mb) : SE X W (.BinOp a .FloorDiv b pos) (m2 fFdiv ma mb) := se_op (fI_ok op_fdivW (fun _ _ h => by
  rw [Bool.and_eq_true] at h
  exact ⟨of_decide_eq_true h.1, of_decide_eq_true h.2⟩) fun _ _ _ => rfl) ha hb
def fPow : D → D → Cells → O := fI (fun i j => decide (0 ≤ j) && decide (j ≤ 1000000) && decide (i.natAbs < 2 ^ 64)) fun i j => .int (i ^ j.toNat)
theorem se_pow (ha : SE X W a ma) (hb : SE X W b mb) : SE X W (.BinOp a .Pow b pos) (m2 fPow ma mb) := se_op (fI_ok op_pow (fun _ _ h => by
  rw [Bool.and_eq_true, Bool.and_eq_true] at h
  exact ⟨of_decide_eq_true h.1.1, of_decide_eq_true h.1.2, of_decide_eq_true h.2⟩) fun _ _ _ => rfl) ha hb
def fMulI : D → D → Cells → O := fI (fun i j => decide ((Builtin.Int.intBits i : Int) + (Builtin.Int.intBits j : Int) ≤ 134217728)) fun i j => .int (i * j)
def fRepL (x y : D) (c : Cells) : O := match view c x, y with
  | some (.lst, xs), .int k => if -(2 ^ 63) ≤ k ∧ k < 2 ^ 63 ∧ xs.length * k.toNat ≤ sizeLine then some (.lst (List.replicate k.toNat xs).flatten, c) else none
  | _, _ => none
def fMul : D → D → Cells → O := orO fMulI fRepL
theorem AtL.rep {T : Wd} {S : Sta} {xs : List V} {ds : List D} (h : AtL T S xs ds) : ∀ k : Nat, AtL T S (List.replicate k xs).flatten (List.replicate k ds).flatten
  | 0 => trivial
  | k + 1 => by
    rw [List.replicate_succ, List.replicate_succ, List.flatten_cons, List.flatten_cons]
    exact h.append (AtL.rep h k)
theorem fRepL_ok : OpF X (binaryOp .Mult) fRepL := by
  refine ⟨_, op_rep, ?_⟩
  intro S x y dx dy Qv g ax ay p
  obtain ⟨d, c, e, q⟩ := p.some
  unfold fRepL at e
  split at e
  · rename_i xs k e1
    split at e
    · rename_i hz
      cases e
      obtain ⟨a, us, rfl, h1, l1⟩ := view_at g ax e1
      exact ⟨a, k, us, rfl, ay, hold_L h1, hz.1, hz.2.1, by rw [l1.len]; exact hz.2.2, fun p hp => made (t := .lst) g hp (l1.rep k.toNat) upd_same q⟩
    · cases e
  · cases e
theorem fMulI_ok : OpF X (binaryOp .Mult) fMulI := fI_ok op_mulX (fun i j h => by
  unfold CMulX
  exact of_decide_eq_true h) fun _ _ _ => rfl
theorem se_mul (ha : SE X W a ma) (hb : SE X W b mb) : SE X W (.BinOp a .Mult b pos) (m2 fMul ma mb) := se_op (fMulI_ok.or fRepL_ok) ha hb
def fNeg : D → Cells → O
  | .int i, c => some (.int (-i), c)
  | _, _ => none
theorem se_neg (ha : SE X W a ma) : SE X W (.UnaryOp .USub a pos) (m1 fNeg ma) := se_un (by
  refine ⟨_, un_neg, ?_⟩
  intro S x dx Qv g ax p
  obtain ⟨d, c, e, q⟩ := p.some
  unfold fNeg at e
  split at e
  · cases e
    exact ⟨_, ax, q S _ g rfl .refl rfl⟩
  · cases e) ha
end
end Q
end
section
set_option Elab.async false
set_option linter.all false
set_option maxRecDepth 100000
namespace Q
open PySem PySem.Spec L2
variable [Tb]
/-! ### data as PyData -/
mutual
def pydW (f : Nat → Option PyData) : D → Option PyData
  | .non => some .none
  | .bl b => some (.bool b)
  | .int i => some (.int i)
  | .str x => some (.str x)
  | .cell i => f i
  | .fn _ _ _ _ _ => none
  | .nod t ds => match t with
    | .lst => (pydL f ds).map .list
    | .tup => (pydL f ds).map .tuple
    | _ => none
def pydL (f : Nat → Option PyData) : List D → Option (List PyData)
  | [] => some []
  | d :: ds => match pydW f d, pydL f ds with
    | some p, some ps => some (p :: ps)
    | _, _ => none
end
def pydC (c : Cells) : Nat → Nat → Option PyData
  | 0, _ => none
  | k + 1, i => match c[i]? with
    | some (.lst, ds) => (pydL (pydC c k) ds).map .list
    | some (.tup, ds) => (pydL (pydC c k) ds).map .tuple
    | _ => none
def pyd (c : Cells) (d : D) : Option PyData := pydW (pydC c 6) d
section
variable {T : Wd} {S : Sta}
mutual
theorem pydW_at (g : Good T S) {f : Nat → Option PyData} (hf : ∀ i p v, f i = some p → At T S v (.cell i) → Dp T.K S.H v p) : ∀ (d : D) (p : PyData) (v : V), pydW f d = some p → At T S v d → Dp T.K S.H v p
  | .non, p, v, e, a => by
    cases e
    cases (show v = .non from a)
    exact .non
  | .bl b, p, v, e, a => by
    cases e
    cases (show v = .bl b from a)
    exact .bl b
  | .int i, p, v, e, a => by
    cases e
    cases (show v = .int i from a)
    exact .int i
  | .str x, p, v, e, a => by
    cases e
    cases (show v = .str x from a)
    exact .str x
  | .cell i, p, v, e, a => hf i p v e a
  | .fn _ _ _ _ _, p, v, e, a => by cases e
  | .nod t ds, p, v, e, a => by
    cases t with
    | lst =>
      obtain ⟨ps, e1, rfl⟩ := Option.map_eq_some_iff.mp (show (pydL f ds).map PyData.list = some p from e)
      obtain ⟨b, xs, rfl, h, l⟩ := view_at g a (show view S.c (.nod .lst ds) = some (.lst, ds) from rfl)
      exact .lst (.of (hold_L h)) (pydL_at g hf ds ps xs e1 l)
    | tup =>
      obtain ⟨ps, e1, rfl⟩ := Option.map_eq_some_iff.mp (show (pydL f ds).map PyData.tuple = some p from e)
      obtain ⟨b, xs, rfl, h, l⟩ := view_at g a (show view S.c (.nod .tup ds) = some (.tup, ds) from rfl)
      exact .tup (hold_T h) (pydL_at g hf ds ps xs e1 l)
    | frl => exact nomatch (show none = some p from e)
    | dic ks => exact nomatch (show none = some p from e)
    | dit ks => exact nomatch (show none = some p from e)
    | obj C ks => exact nomatch (show none = some p from e)
    | xdc ks => exact nomatch (show none = some p from e)
theorem pydL_at (g : Good T S) {f : Nat → Option PyData} (hf : ∀ i p v, f i = some p → At T S v (.cell i) → Dp T.K S.H v p) : ∀ (ds : List D) (ps : List PyData) (xs : List V), pydL f ds = some ps → AtL T S xs ds → DpAll T.K S.H xs ps
  | [], ps, [], e, _ => by
    cases e
    exact .nil
  | d :: ds, ps, x :: xs, e, a => by
    obtain ⟨a1, a2⟩ : At T S x d ∧ AtL T S xs ds := a
    unfold pydL at e
    split at e
    · rename_i p ps' e1 e2
      cases e
      exact .cons (pydW_at g hf d p x e1 a1) (pydL_at g hf ds ps' xs e2 a2)
    · cases e
  | [], _, _ :: _, _, a => a.elim
  | _ :: _, _, [], _, a => a.elim
end
theorem pydC_at (g : Good T S) : ∀ (k i : Nat) (p : PyData) (v : V), pydC S.c k i = some p → At T S v (.cell i) → Dp T.K S.H v p
  | 0, i, p, v, e, _ => by cases e
  | k + 1, i, p, v, e, a => by
    unfold pydC at e
    split at e
    · rename_i ds e0
      obtain ⟨ps, e1, rfl⟩ := Option.map_eq_some_iff.mp e
      obtain ⟨b, xs, rfl, h, l⟩ := view_at g a (show view S.c (.cell i) = some (.lst, ds) from e0)
      exact .lst (.of (hold_L h)) (pydL_at g (pydC_at g k) ds ps xs e1 l)
    · rename_i ds e0
      obtain ⟨ps, e1, rfl⟩ := Option.map_eq_some_iff.mp e
      obtain ⟨b, xs, rfl, h, l⟩ := view_at g a (show view S.c (.cell i) = some (.tup, ds) from e0)
      exact .tup (hold_T h) (pydL_at g (pydC_at g k) ds ps xs e1 l)
    · cases e
theorem pyd_at (g : Good T S) {d : D} {p : PyData} {v : V} (e : pyd S.c d = some p) (a : At T S v d) : Dp T.K S.H v p := pydW_at g (pydC_at g 6) d p v e a
end
section
variable {X : Cx} {W : WX} {e a b c : Expr} {pos : Pos} {m ma mb mc : ME}
/-! ### comparisons -/
theorem se_cmp {op : CmpOp} {f : D → D → Cells → O} (h : OpF X (compareOp op) f) (ha : SE X W a ma) (hb : SE X W b mb) (hm : behindInMarks op b = false) : SE X W (.Compare a [op] [b] pos) (m2 f ma mb) := by
  obtain ⟨r, ho, hs⟩ := h
  obtain ⟨ta, pa, qa⟩ := ha
  obtain ⟨tb, pb, qb⟩ := hb
  exact ⟨_, pe_cmpR ho pa pb hm, run2 hs qa qb⟩
/-- a bool out -/
def toB (r : R D) : R Bool := r.bind fun d c => match d with
  | .bl b => .ok b c
  | _ => .stk
def mT (m : ME) : MB := fun env c => toB (m env c)
theorem post_toB {T : Wd} {S : Sta} {r : R D} {Qv : Bool → Hp → Prop} {E : XK} (h : PostG T S (relE Bool) (toB r) Qv E) : Post T S r (fun x H => ∃ k, x = .bl k ∧ Qv k H) E := by
  refine post_bind h fun d S1 v e g x a p => ?_
  cases d with
  | bl b => exact ⟨b, a, p S1 b g rfl .refl rfl⟩
  | _ => exact p.elim
theorem st_cmp {op : CmpOp} {f : D → D → Cells → O} (h : OpF X (compareOp op) f) (ha : SE X W a ma) (hb : SE X W b mb) (hm : behindInMarks op b = false) : ST X W (.Compare a [op] [b] pos) (mT (m2 f ma mb)) := by
  obtain ⟨r, ho, hs⟩ := h
  obtain ⟨ta, pa, qa⟩ := ha
  obtain ⟨tb, pb, qb⟩ := hb
  exact ⟨_, pt_cmpR ho pa pb hm, fun S sg env Qv g en p => run2 hs qa qb S sg env _ g en (post_toB p)⟩
def fLt : D → D → Cells → O := fI (fun _ _ => true) fun i j => .bl (decide (i < j))
def fLe : D → D → Cells → O := fI (fun _ _ => true) fun i j => .bl (decide (i ≤ j))
def fGt : D → D → Cells → O := fI (fun _ _ => true) fun i j => .bl (decide (j < i))
def fGe : D → D → Cells → O := fI (fun _ _ => true) fun i j => .bl (decide (j ≤ i))
theorem fLt_ok : OpF X (compareOp .Lt) fLt := fI_ok0 op_lt fun _ _ _ => rfl
theorem fLe_ok : OpF X (compareOp .LtE) fLe := fI_ok0 op_le fun _ _ _ => rfl
theorem fGt_ok : OpF X (compareOp .Gt) fGt := fI_ok0 op_gt fun _ _ _ => rfl
theorem fGe_ok : OpF X (compareOp .GtE) fGe := fI_ok0 op_ge fun _ _ _ => rfl
/-- flat data -/
def flat : D → Option V
  | .non => some .non
  | .bl b => some (.bl b)
  | .int i => some (.int i)
  | .str x => some (.str x)
  | _ => none
theorem flat_at {T : Wd} {S : Sta} {d : D} {v w : V} (h : flat d = some w) (a : At T S v d) : v = w ∧ flatV w = true := by
  cases d <;> first
    | (cases h; exact ⟨a, rfl⟩)
    | cases h
def fEqS (neg : Bool) (x y : D) (c : Cells) : O := match flat x, flat y with
  | some u, some w => if scal u w then some (.bl (if neg then !decide (u = w) else decide (u = w)), c) else none
  | _, _ => none
def fEqP (neg : Bool) (x y : D) (c : Cells) : O := match pyd c x, pyd c y with
  | some p, some q => if SeqAt.shaped p && SeqAt.shaped q then some (.bl (if neg then !PyData.eqv p q else PyData.eqv p q), c) else none
  | _, _ => none
def fEq : D → D → Cells → O := orO (fEqS false) (fEqP false)
def fNe : D → D → Cells → O := orO (fEqS true) (fEqP true)
theorem fEqS_ok : OpF X (compareOp .Eq) (fEqS false) := by
  refine ⟨_, op_eq, fun S x y dx dy Qv g ax ay p => ?_⟩
  obtain ⟨d, c, e, q⟩ := p.some
  unfold fEqS at e
  split at e
  · rename_i u w e1 e2
    split at e
    · rename_i hz
      cases e
      obtain ⟨rfl, _⟩ := flat_at e1 ax
      obtain ⟨rfl, _⟩ := flat_at e2 ay
      exact ⟨hz, q S _ g rfl .refl rfl⟩
    · cases e
  · cases e
theorem fNeS_ok : OpF X (compareOp .NotEq) (fEqS true) := by
  refine ⟨_, op_ne, fun S x y dx dy Qv g ax ay p => ?_⟩
  obtain ⟨d, c, e, q⟩ := p.some
  unfold fEqS at e
  split at e
  · rename_i u w e1 e2
    split at e
    · rename_i hz
      cases e
      obtain ⟨rfl, _⟩ := flat_at e1 ax
      obtain ⟨rfl, _⟩ := flat_at e2 ay
      exact ⟨hz, q S _ g rfl .refl rfl⟩
    · cases e
  · cases e
theorem fEqP_ok (hu : X.A.units + 64 < cLine) : OpF X (compareOp .Eq) (fEqP false) := by
  refine ⟨_, op_eqD hu, fun S x y dx dy Qv g ax ay p => ?_⟩
  obtain ⟨d, c, e, q⟩ := p.some
  unfold fEqP at e
  split at e
  · rename_i u w e1 e2
    split at e
    · rename_i hz
      cases e
      rw [Bool.and_eq_true] at hz
      exact ⟨u, w, pyd_at g e1 ax, pyd_at g e2 ay, hz.1, hz.2, q S _ g rfl .refl rfl⟩
    · cases e
  · cases e
theorem fNeP_ok (hu : X.A.units + 64 < cLine) : OpF X (compareOp .NotEq) (fEqP true) := by
  refine ⟨_, op_neD hu, fun S x y dx dy Qv g ax ay p => ?_⟩
  obtain ⟨d, c, e, q⟩ := p.some
  unfold fEqP at e
  split at e
  · rename_i u w e1 e2
    split at e
    · rename_i hz
      cases e
      rw [Bool.and_eq_true] at hz
      exact ⟨u, w, pyd_at g e1 ax, pyd_at g e2 ay, hz.1, hz.2, q S _ g rfl .refl rfl⟩
    · cases e
  · cases e
theorem fEq_ok {k : Nat} (hr : Room k X.A) : OpF X (compareOp .Eq) fEq := fEqS_ok.or (fEqP_ok hr.units)
theorem fNe_ok {k : Nat} (hr : Room k X.A) : OpF X (compareOp .NotEq) fNe := fNeS_ok.or (fNeP_ok hr.units)
/-- in, not in: a list or a tuple of flat things -/
def flats : List D → Option (List V)
  | [] => some []
  | d :: ds => match flat d, flats ds with
    | some v, some vs => some (v :: vs)
    | _, _ => none
theorem flats_at {T : Wd} {S : Sta} : ∀ {ds : List D} {vs ws : List V}, flats ds = some ws → AtL T S vs ds → vs = ws ∧ ws.all flatV = true
  | [], [], ws, e, _ => by
    cases e
    exact ⟨rfl, rfl⟩
  | d :: ds, v :: vs, ws, e, a => by
    obtain ⟨a1, a2⟩ : At T S v d ∧ AtL T S vs ds := a
    unfold flats at e
    split at e
    · rename_i u us e1 e2
      cases e
      obtain ⟨rfl, h1⟩ := flat_at e1 a1
      obtain ⟨rfl, h2⟩ := flats_at e2 a2
      exact ⟨rfl, by rw [List.all_cons, h1, h2]; rfl⟩
    · cases e
  | [], _ :: _, _, _, a => a.elim
  | _ :: _, [], _, _, a => a.elim
def seqView (c : Cells) (d : D) : Option (List D) := match view c d with
  | some (.lst, ds) => some ds
  | some (.tup, ds) => some ds
  | some (.frl, ds) => some ds
  | _ => none
theorem seqView_at {T : Wd} {S : Sta} {v : V} {d : D} {ds : List D} (g : Good T S) (h : At T S v d) (e : seqView S.c d = some ds) : ∃ a xs, v = .ref a ∧ (SqL T.K S.H a xs ∨ SqT T.K S.H a xs) ∧ AtL T S xs ds := by
  unfold seqView at e
  split at e
  · rename_i ds' e0
    cases e
    obtain ⟨a, xs, rfl, q, l⟩ := view_at g h e0
    exact ⟨a, xs, rfl, .inl (.of (hold_L q)), l⟩
  · rename_i ds' e0
    cases e
    obtain ⟨a, xs, rfl, q, l⟩ := view_at g h e0
    exact ⟨a, xs, rfl, .inr (hold_T q), l⟩
  · rename_i ds' e0
    cases e
    obtain ⟨a, xs, rfl, q, l⟩ := view_at g h e0
    exact ⟨a, xs, rfl, .inl (hold_F q), l⟩
  · cases e
def fInF (neg : Bool) (x y : D) (c : Cells) : O := match flat x, (seqView c y).bind flats with
  | some u, some ws => some (.bl (if neg then !inV u ws else inV u ws), c)
  | _, _ => none
theorem fIn_spec {neg : Bool} : OpS (wd X) (rIn X.K neg) (fInF neg) := by
  intro S x y dx dy Qv g ax ay p
  obtain ⟨d, c, e, q⟩ := p.some
  unfold fInF at e
  split at e
  · rename_i u ws e1 e2
    cases e
    obtain ⟨ds, e3, e4⟩ := Option.bind_eq_some_iff.mp e2
    obtain ⟨rfl, f1⟩ := flat_at e1 ax
    obtain ⟨a, xs, rfl, h, l⟩ := seqView_at g ay e3
    obtain ⟨rfl, f2⟩ := flats_at e4 l
    exact ⟨a, xs, rfl, h, f1, f2, q S _ g rfl .refl rfl⟩
  · cases e
theorem fInF_ok : OpF X (compareOp .In) (fInF false) := ⟨_, op_in_seq, fIn_spec⟩
theorem fNotInF_ok : OpF X (compareOp .NotIn) (fInF true) := ⟨_, op_notIn_seq, fIn_spec⟩
def fInS (neg : Bool) : D → D → Cells → O
  | .str i, .str j, c => some (.bl (if neg then !(!(Builtin.Str.occurrences j i 0 j.length 1).isEmpty) else !(Builtin.Str.occurrences j i 0 j.length 1).isEmpty), c)
  | _, _, _ => none
theorem fInS_ok : OpF X (compareOp .In) (fInS false) := by
  refine ⟨_, op_in_str, fun S x y dx dy Qv g ax ay p => ?_⟩
  obtain ⟨d, c, e, q⟩ := p.some
  unfold fInS at e
  split at e
  · cases e
    exact ⟨_, _, ax, ay, q S _ g rfl .refl rfl⟩
  · cases e
theorem fNotInS_ok : OpF X (compareOp .NotIn) (fInS true) := by
  refine ⟨_, op_notIn_str, fun S x y dx dy Qv g ax ay p => ?_⟩
  obtain ⟨d, c, e, q⟩ := p.some
  unfold fInS at e
  split at e
  · cases e
    exact ⟨_, _, ax, ay, q S _ g rfl .refl rfl⟩
  · cases e
def fIn : D → D → Cells → O := orO (fInF false) (fInS false)
def fNotIn : D → D → Cells → O := orO (fInF true) (fInS true)
theorem fIn_ok : OpF X (compareOp .In) fIn := fInF_ok.or fInS_ok
theorem fNotIn_ok : OpF X (compareOp .NotIn) fNotIn := fNotInF_ok.or fNotInS_ok
/-- is None, is True -/
def isNon : D → Bool
  | .non => true
  | _ => false
theorem isNon_at {T : Wd} {S : Sta} {v : V} {d : D} (a : At T S v d) : decide (v = .non) = isNon d := by
  cases d with
  | non => cases (show v = .non from a); rfl
  | bl b => cases (show v = .bl b from a); rfl
  | int b => cases (show v = .int b from a); rfl
  | str b => cases (show v = .str b from a); rfl
  | fn f c q xs ds => cases (show v = .ref f from a.1); rfl
  | cell i =>
    obtain ⟨a, rfl, _⟩ : ∃ a, v = .ref a ∧ S.r[i]? = some a := a
    rfl
  | nod t ds =>
    obtain ⟨a, _, rfl, _⟩ : ∃ a xs, v = .ref a ∧ ((a ∉ S.r ∧ a ∉ S.x ∧ Hold T S.H a xs t) ∨ HoldK T a xs t) ∧ AtL T S xs ds := a
    rfl
def fIs : D → D → Cells → O
  | x, .non, c => some (.bl (isNon x), c)
  | .bl a, .bl b, c => some (.bl (decide (a = b)), c)
  | _, _, _ => none
def fIsNot : D → D → Cells → O
  | x, .non, c => some (.bl (!isNon x), c)
  | .bl a, .bl b, c => some (.bl (!decide (a = b)), c)
  | _, _, _ => none
theorem OpR.or {f : Value → Value → Sem Value} {r r' : R2} (h : OpR X f r) (h' : OpR X f r') : OpR X f (fun x y H Qv => r x y H Qv ∨ r' x y H Qv) := by
  intro pins s sg H x y v u Qv I rx ry q
  rcases q with q | q
  · exact h pins s sg H x y v u Qv I rx ry q
  · exact h' pins s sg H x y v u Qv I rx ry q
theorem fIs_ok : OpF X (compareOp .Is) fIs := by
  refine ⟨_, OpR.or op_isN op_isBl, fun S x y dx dy Qv g ax ay p => ?_⟩
  obtain ⟨d, c, e, q⟩ := p.some
  unfold fIs at e
  split at e
  · cases e
    exact .inl ⟨ay, by rw [isNon_at ax]; exact q S _ g rfl .refl rfl⟩
  · cases e
    exact .inr ⟨_, _, ax, ay, q S _ g rfl .refl rfl⟩
  · cases e
theorem fIsNot_ok : OpF X (compareOp .IsNot) fIsNot := by
  refine ⟨_, OpR.or op_notN op_notBl, fun S x y dx dy Qv g ax ay p => ?_⟩
  obtain ⟨d, c, e, q⟩ := p.some
  unfold fIsNot at e
  split at e
  · cases e
    exact .inl ⟨ay, by rw [isNon_at ax]; exact q S _ g rfl .refl rfl⟩
  · cases e
    exact .inr ⟨_, _, ax, ay, q S _ g rfl .refl rfl⟩
  · cases e
/-! ### truth, and, or, not -/
def truth (c : Cells) (d : D) : Option Bool := match d with
  | .non => some false
  | .bl b => some b
  | .int i => some (i != 0)
  | .str y => if y.length ≤ sizeLine then some ((y.length : Int) != 0) else none
  | _ => match view c d with
    | some (.lst, ds) => some (!ds.isEmpty)
    | some (.frl, ds) => some (!ds.isEmpty)
    | some (.tup, ds) => some (!ds.isEmpty)
    | some (.dic ks, ds) => some (!ds.isEmpty)
    | _ => none
theorem AtL.isEmpty {T : Wd} {S : Sta} {xs : List V} {ds : List D} (h : AtL T S xs ds) : xs.isEmpty = ds.isEmpty := by
  cases xs <;> cases ds <;> first | rfl | exact h.elim
theorem truth_at {T : Wd} {S : Sta} {v : V} {d : D} {k : Bool} (g : Good T S) (e : truth S.c d = some k) (a : At T S v d) : TruV T.K v S.H k := by
  have obj : ∀ {a' : V}, At T S a' d → (match view S.c d with
    | some (.lst, ds) => some (!ds.isEmpty)
    | some (.frl, ds) => some (!ds.isEmpty)
    | some (.tup, ds) => some (!ds.isEmpty)
    | some (.dic ks, ds) => some (!ds.isEmpty)
    | _ => none) = some k → TruV T.K a' S.H k := fun {a'} a e => by
    split at e
    · rename_i ds e0
      cases e
      obtain ⟨b, xs, rfl, h, l⟩ := view_at g a e0
      exact .inl ⟨xs, .of (hold_L h), by rw [l.isEmpty]⟩
    · rename_i ds e0
      cases e
      obtain ⟨b, xs, rfl, h, l⟩ := view_at g a e0
      exact .inl ⟨xs, hold_F h, by rw [l.isEmpty]⟩
    · rename_i ds e0
      cases e
      obtain ⟨b, xs, rfl, h, l⟩ := view_at g a e0
      exact .inr (.inl ⟨xs, hold_T h, by rw [l.isEmpty]⟩)
    · rename_i ks ds e0
      cases e
      obtain ⟨b, xs, rfl, h, l⟩ := view_at g a e0
      rcases h with ⟨z, h⟩ | h
      · refine .inr (.inr ⟨_, h, ?_⟩)
        have e1 := l.isEmpty
        have e2 : (ks.zip xs).isEmpty = xs.isEmpty := by
          cases ks <;> cases xs <;> first | rfl | (simp at z)
        rw [e2, e1]
      · exact h.elim
    · cases e
  cases d with
  | non => cases e; cases (show v = .non from a); exact rfl
  | bl b =>
    cases (show v = .bl b from a)
    exact (Option.some.inj e).symm
  | int i =>
    cases (show v = .int i from a)
    exact (Option.some.inj e).symm
  | str y =>
    cases (show v = .str y from a)
    have e' : (if y.length ≤ sizeLine then some ((y.length : Int) != 0) else none) = some k := e
    split at e'
    · rename_i h
      exact ⟨h, (Option.some.inj e').symm⟩
    · cases e'
  | cell i => exact obj a e
  | fn f c q xs ds => exact obj a e
  | nod t ds => exact obj a e
def mTru (m : ME) : MB := fun env c => (m env c).bind fun d c => match truth c d with
  | some b => .ok b c
  | none => .stk
theorem st_truth (ha : SE X W a ma) (he : ∀ whole, isTrue a X.env whole = (do let v ← whole; standAt a.pos; holding [v] (truthy v)) := by intro _; rfl) : ST X W a (mTru ma) := by
  obtain ⟨ta, pa, qa⟩ := ha
  refine ⟨_, pt_truth pa he, fun S sg env Qv g en p => ?_⟩
  refine qa S sg env _ g en (post_bind p fun d S1 v e g1 x a1 p1 => ?_)
  cases h : truth S1.c d with
  | some b =>
    simp only [h] at p1
    exact ⟨b, truth_at g1 h a1, p1 S1 b g1 rfl .refl rfl⟩
  | none =>
    simp only [h] at p1
    exact p1.elim
def mNot (m : MB) : MB := fun env c => (m env c).bind fun b c => .ok (!b) c
theorem st_not {ma : MB} (ha : ST X W a ma) : ST X W (.UnaryOp .Not a pos) (mNot ma) := by
  obtain ⟨ta, pa, qa⟩ := ha
  refine ⟨_, pt_not pa, fun S sg env Qv g en p => ?_⟩
  exact qa S sg env _ g en (post_bind p fun d S1 v e g1 x a1 p1 => by
    cases a1
    exact p1 S1 _ g1 rfl .refl rfl)
def mAndT (ma mb : MB) : MB := fun env c => (ma env c).bind fun b c => if b = true then mb env c else .ok false c
def mOrT (ma mb : MB) : MB := fun env c => (ma env c).bind fun b c => if b = true then .ok true c else mb env c
theorem sw_pt {m : MB} (h : SW X W e m) : ST X W e m := by
  obtain ⟨t, p, q⟩ := h
  exact ⟨t, p.pt, q⟩
theorem sw_and1 {ma : MB} (ha : ST X W a ma) : SW X W (.BoolOp .And [a] pos) ma := by
  obtain ⟨t, p, q⟩ := ha
  exact ⟨t, pw_and1 p, q⟩
theorem sw_or1 {ma : MB} (ha : ST X W a ma) : SW X W (.BoolOp .Or [a] pos) ma := by
  obtain ⟨t, p, q⟩ := ha
  exact ⟨t, pw_or1 p, q⟩
theorem sw_and {rest : List Expr} {ma mb : MB} (ha : ST X W a ma) (hb : SW X W (.BoolOp .And (b :: rest) pos) mb) : SW X W (.BoolOp .And (a :: b :: rest) pos) (mAndT ma mb) := by
  obtain ⟨ta, pa, qa⟩ := ha
  obtain ⟨tb, pb, qb⟩ := hb
  refine ⟨_, pw_and pa pb, fun S sg env Qv g en p => ?_⟩
  refine qa S sg env _ g en (post_bind p fun d S1 v e g1 x a1 p1 => ?_)
  cases a1
  cases d with
  | true => exact iteT (qb S1 sg env Qv g1 (en.ext x) p1)
  | false => exact iteF (p1 S1 _ g1 rfl .refl rfl)
theorem sw_or {rest : List Expr} {ma mb : MB} (ha : ST X W a ma) (hb : SW X W (.BoolOp .Or (b :: rest) pos) mb) : SW X W (.BoolOp .Or (a :: b :: rest) pos) (mOrT ma mb) := by
  obtain ⟨ta, pa, qa⟩ := ha
  obtain ⟨tb, pb, qb⟩ := hb
  refine ⟨_, pw_or pa pb, fun S sg env Qv g en p => ?_⟩
  refine qa S sg env _ g en (post_bind p fun d S1 v e g1 x a1 p1 => ?_)
  cases a1
  cases d with
  | true => exact iteT (p1 S1 _ g1 rfl .refl rfl)
  | false => exact iteF (qb S1 sg env Qv g1 (en.ext x) p1)
/-- as values: by truth -/
def mAndV (ma mb : ME) : ME := fun env c => (ma env c).bind fun d c => match truth c d with
  | some true => mb env c
  | some false => .ok d c
  | none => .stk
def mOrV (ma mb : ME) : ME := fun env c => (ma env c).bind fun d c => match truth c d with
  | some true => .ok d c
  | some false => mb env c
  | none => .stk
theorem se_one {op} (ha : SE X W a ma) : SE X W (.BoolOp op [a] pos) ma := by
  obtain ⟨t, p, q⟩ := ha
  exact ⟨t, pe_one p, q⟩
theorem se_and {rest : List Expr} (ha : SE X W a ma) (hb : SE X W (.BoolOp .And (b :: rest) pos) mb) : SE X W (.BoolOp .And (a :: b :: rest) pos) (mAndV ma mb) := by
  obtain ⟨ta, pa, qa⟩ := ha
  obtain ⟨tb, pb, qb⟩ := hb
  refine ⟨_, pe_andT pa pb, fun S sg env Qv g en p => ?_⟩
  refine qa S sg env _ g en (post_bind p fun d S1 v e g1 x a1 p1 => ?_)
  split at p1
  · rename_i h
    exact ⟨true, truth_at g1 h a1, iteT (qb S1 sg env Qv g1 (en.ext x) p1)⟩
  · rename_i h
    exact ⟨false, truth_at g1 h a1, iteF (p1 S1 v g1 rfl .refl a1)⟩
  · exact p1.elim
theorem se_or {rest : List Expr} (ha : SE X W a ma) (hb : SE X W (.BoolOp .Or (b :: rest) pos) mb) : SE X W (.BoolOp .Or (a :: b :: rest) pos) (mOrV ma mb) := by
  obtain ⟨ta, pa, qa⟩ := ha
  obtain ⟨tb, pb, qb⟩ := hb
  refine ⟨_, pe_orT pa pb, fun S sg env Qv g en p => ?_⟩
  refine qa S sg env _ g en (post_bind p fun d S1 v e g1 x a1 p1 => ?_)
  split at p1
  · rename_i h
    exact ⟨true, truth_at g1 h a1, iteT (p1 S1 v g1 rfl .refl a1)⟩
  · rename_i h
    exact ⟨false, truth_at g1 h a1, iteF (qb S1 sg env Qv g1 (en.ext x) p1)⟩
  · exact p1.elim
def mNotV (m : ME) : ME := fun env c => (m env c).bind fun d c => match truth c d with
  | some b => .ok (.bl (!b)) c
  | none => .stk
theorem se_not (ha : SE X W a ma) : SE X W (.UnaryOp .Not a pos) (mNotV ma) := by
  obtain ⟨ta, pa, qa⟩ := ha
  refine ⟨_, pe_notT pa, fun S sg env Qv g en p => ?_⟩
  refine qa S sg env _ g en (post_bind p fun d S1 v e g1 x a1 p1 => ?_)
  split at p1
  · rename_i b h
    exact ⟨b, truth_at g1 h a1, p1 S1 _ g1 rfl .refl rfl⟩
  · exact p1.elim
def mIf (mt : MB) (ma mb : ME) : ME := fun env c => (mt env c).bind fun b c => if b = true then ma env c else mb env c
theorem se_if {mt : MB} (hc : ST X W c mt) (ha : SE X W a ma) (hb : SE X W b mb) : SE X W (.IfExp c a b pos) (mIf mt ma mb) := by
  obtain ⟨tc, pc, qc⟩ := hc
  obtain ⟨ta, pa, qa⟩ := ha
  obtain ⟨tb, pb, qb⟩ := hb
  refine ⟨_, pe_ifExp pc pa pb, fun S sg env Qv g en p => ?_⟩
  refine qc S sg env _ g en (post_bind p fun d S1 v e g1 x a1 p1 => ?_)
  cases a1
  cases d with
  | true => exact iteT (qa S1 sg env Qv g1 (en.ext x) p1)
  | false => exact iteF (qb S1 sg env Qv g1 (en.ext x) p1)
/-! ### chains of two comparisons -/
def mChain (f f' : D → D → Cells → O) (ma mb mc : ME) : ME := fun env c => (ma env c).bind fun x c => (mb env c).bind fun y c => (f x y c).r.bind fun z c => match z with
  | .bl true => (mc env c).bind fun w c => (f' y w c).r
  | .bl false => .ok (.bl false) c
  | _ => .stk
theorem run3 {ta tb tc : TE} {r r' : R2} {f f' : D → D → Cells → O} (hs : OpS (wd X) r f) (hs' : OpS (wd X) r' f') (qa : ∀ S sg env Qv, Good (wd X) S → EnvAt (wd X) S sg env → Post (wd X) S (ma env S.c) Qv (WE W sg) → ta sg S.H Qv)
    (qb : ∀ S sg env Qv, Good (wd X) S → EnvAt (wd X) S sg env → Post (wd X) S (mb env S.c) Qv (WE W sg) → tb sg S.H Qv) (qc : ∀ S sg env Qv, Good (wd X) S → EnvAt (wd X) S sg env → Post (wd X) S (mc env S.c) Qv (WE W sg) → tc sg S.H Qv) :
    ∀ S sg env Qv, Good (wd X) S → EnvAt (wd X) S sg env → Post (wd X) S (mChain f f' ma mb mc env S.c) Qv (WE W sg) → tChain r r' ta tb tc sg S.H Qv := by
  intro S sg env Qv g en p
  refine qa S sg env _ g en (post_bind p fun x S1 v e1 g1 x1 a1 p1 => ?_)
  refine qb S1 sg env _ g1 (en.ext x1) (post_bind p1 fun y S2 u e2 g2 x2 a2 p2 => ?_)
  have a1' := x2.keep _ _ a1
  refine hs S2 v u x y _ g2 a1' a2 (PostG.o (E := WE W sg) (post_bind p2 fun z S3 w e3 g3 x3 a3 p3 => ?_))
  split at p3
  · refine ⟨true, a3, iteT (qc S3 sg env _ g3 (((en.ext x1).ext x2).ext x3) (post_bind p3 fun w' S4 v4 e4 g4 x4 a4 p4 => ?_))⟩
    exact hs' S4 u v4 y w' Qv g4 (x4.keep _ _ (x3.keep _ _ a2)) a4 p4.o
  · exact ⟨false, a3, iteF (p3 S3 _ g3 rfl .refl rfl)⟩
  · exact p3.elim
theorem se_chain {op op' : CmpOp} {f f' : D → D → Cells → O} (h : OpF X (compareOp op) f) (h' : OpF X (compareOp op') f') (ha : SE X W a ma) (hb : SE X W b mb) (hc : SE X W c mc) (hm : lastMarks [op, op'] [b, c] = false := by with_unfolding_all rfl) :
    SE X W (.Compare a [op, op'] [b, c] pos) (mChain f f' ma mb mc) := by
  obtain ⟨r, ho, hs⟩ := h
  obtain ⟨r', ho', hs'⟩ := h'
  obtain ⟨ta, pa, qa⟩ := ha
  obtain ⟨tb, pb, qb⟩ := hb
  obtain ⟨tc, pc, qc⟩ := hc
  exact ⟨_, pe_chain ho ho' pa pb pc hm, run3 hs hs' qa qb qc⟩
theorem st_chain {op op' : CmpOp} {f f' : D → D → Cells → O} (h : OpF X (compareOp op) f) (h' : OpF X (compareOp op') f') (ha : SE X W a ma) (hb : SE X W b mb) (hc : SE X W c mc) (hm : lastMarks [op, op'] [b, c] = false := by with_unfolding_all rfl) :
    ST X W (.Compare a [op, op'] [b, c] pos) (mT (mChain f f' ma mb mc)) := by
  obtain ⟨r, ho, hs⟩ := h
  obtain ⟨r', ho', hs'⟩ := h'
  obtain ⟨ta, pa, qa⟩ := ha
  obtain ⟨tb, pb, qb⟩ := hb
  obtain ⟨tc, pc, qc⟩ := hc
  exact ⟨_, pt_chain ho ho' pa pb pc hm, fun S sg env Qv g en p => run3 hs hs' qa qb qc S sg env _ g en (post_toB p)⟩
end
end Q
end
section
set_option Elab.async false
set_option linter.all false
set_option maxRecDepth 100000
namespace Q
open PySem PySem.Spec L2
variable [Tb]
section
variable {X : Cx} {W : WX} {e a b c : Expr} {es : List Expr} {pos : Pos} {m ma mb mc : ME} {ms : ML}
/-! ### arguments, displays -/
def mNil : ML := fun _ c => .ok [] c
def mCons (ma : ME) (ms : ML) : ML := fun env c => (ma env c).bind fun d c => (ms env c).bind fun ds c => .ok (d :: ds) c
theorem sa_nil : SA X W [] mNil := ⟨_, pa_nil, fun S sg env Qv g en p => p S [] g rfl .refl trivial⟩
theorem sa_cons (ha : SE X W e ma) (hr : SA X W es ms) (hs : starEach (e :: es) X.env = (false, eval e X.env) :: starEach es X.env := by rfl) : SA X W (e :: es) (mCons ma ms) := by
  obtain ⟨ta, pa, qa⟩ := ha
  obtain ⟨tb, pb, qb⟩ := hr
  refine ⟨_, pa_cons pa pb hs, fun S sg env Qv g en p => ?_⟩
  refine qa S sg env _ g en (post_bind p fun x S1 v e1 g1 x1 a1 p1 => ?_)
  refine qb S1 sg env _ g1 (en.ext x1) (post_bind p1 fun ys S2 vs e2 g2 x2 a2 p2 => ?_)
  exact p2 S2 (v :: vs) g2 rfl .refl ⟨x2.keep _ _ a1, a2⟩
/-- a tuple, a list; a list as a cell -/
def mTup (ms : ML) : ME := fun env c => (ms env c).bind fun ds c => if ds.length ≤ sizeLine then .ok (.tup ds) c else .stk
def mLst (ms : ML) : ME := fun env c => (ms env c).bind fun ds c => if ds.length ≤ sizeLine then .ok (.lst ds) c else .stk
def mLstC (ms : ML) : ME := fun env c => (ms env c).bind fun ds c => if ds.length ≤ sizeLine then .ok (.cell c.length) (c ++ [(.lst, ds)]) else .stk
theorem se_tup {k} (h : SA X W es ms) : SE X W (.Tuple es k pos) (mTup ms) := by
  obtain ⟨t, p, q⟩ := h
  refine ⟨_, pe_tup p, fun S sg env Qv g en p => ?_⟩
  refine q S sg env _ g en (post_bind p fun ds S1 vs e1 g1 x1 a1 p1 => ?_)
  split at p1
  · rename_i h
    exact ⟨by rw [a1.len]; exact h, fun p hp => made (t := .tup) g1 hp a1 upd_same p1⟩
  · exact p1.elim
theorem se_lst (h : SA X W es ms) : SE X W (.List es pos) (mLst ms) := by
  obtain ⟨t, p, q⟩ := h
  refine ⟨_, pe_lst p, fun S sg env Qv g en p => ?_⟩
  refine q S sg env _ g en (post_bind p fun ds S1 vs e1 g1 x1 a1 p1 => ?_)
  split at p1
  · rename_i h
    exact ⟨by rw [a1.len]; exact h, fun p hp => made (t := .lst) g1 hp a1 upd_same p1⟩
  · exact p1.elim
theorem se_lstC (h : SA X W es ms) : SE X W (.List es pos) (mLstC ms) := by
  obtain ⟨t, p, q⟩ := h
  refine ⟨_, pe_lst p, fun S sg env Qv g en p => ?_⟩
  refine q S sg env _ g en (post_bind p fun ds S1 vs e1 g1 x1 a1 p1 => ?_)
  split at p1
  · rename_i h
    exact ⟨by rw [a1.len]; exact h, fun p hp => madeC (t := .lst) g1 hp a1 upd_same trivial p1⟩
  · exact p1.elim
/-! ### subscripts, slices -/
def IxF (X : Cx) (f : D → D → Cells → O) : Prop := ∃ r, IxR X r ∧ OpS (wd X) r f
def fIx (x y : D) (c : Cells) : O := match x, y with
  | .str z, .int i => if z.length ≤ sizeLine then (atI z.cps.toList i).map fun k => (.str ⟨#[k]⟩, c) else none
  | _, .int i => (seqView c x).bind fun ds => (atI ds i).map fun d => (d, c)
  | _, _ => none
theorem AtL.atI {T : Wd} {S : Sta} {xs : List V} {ds : List D} {i : Int} {d : D} (h : AtL T S xs ds) (e : atI ds i = some d) : ∃ v, L2.atI xs i = some v ∧ At T S v d := by
  unfold L2.atI at e ⊢
  rw [h.len]
  cases q : ixN ds.length i with
  | none =>
    rw [q] at e
    cases e
  | some j =>
    rw [q] at e
    exact h.get (show ds[j]? = some d from e)
theorem fIx_ok : IxF X fIx := by
  refine ⟨_, ix_seq, fun S x y dx dy Qv g ax ay p => ?_⟩
  obtain ⟨d, c, e, q⟩ := p.some
  have seq : ∀ i, dy = .int i → ((seqView S.c dx).bind fun ds => (L2.atI ds i).map fun d => (d, S.c)) = some (d, c) → rIx X.K x y S.H Qv := fun i ey e5 => by
    subst ey
    obtain ⟨ds, e1, e2⟩ := Option.bind_eq_some_iff.mp e5
    obtain ⟨d', e3, e4⟩ := Option.map_eq_some_iff.mp e2
    cases e4
    obtain ⟨a, xs, rfl, h, l⟩ := seqView_at g ax e1
    obtain ⟨v, h2, h3⟩ := l.atI e3
    rcases h with h | h
    · exact .inl ⟨a, xs, i, v, rfl, ay, h, h2, q S v g rfl .refl h3⟩
    · exact .inr (.inl ⟨a, xs, i, v, rfl, ay, h, h2, q S v g rfl .refl h3⟩)
  unfold fIx at e
  split at e
  · rename_i z i
    split at e
    · rename_i hz
      obtain ⟨k, e1, e2⟩ := Option.map_eq_some_iff.mp e
      cases e2
      exact .inr (.inr ⟨z, i, k, ax, ay, hz, e1, q S _ g rfl .refl rfl⟩)
    · cases e
  · rename_i i _
    exact seq i rfl e
  · cases e
theorem se_ix (ha : SE X W a ma) (hb : SE X W b mb) (hs : PlainIx b := by exact fun _ _ => rfl) : SE X W (.Subscript a b pos) (m2 fIx ma mb) := by
  obtain ⟨ta, pa, qa⟩ := ha
  obtain ⟨tb, pb, qb⟩ := hb
  obtain ⟨r, h1, h2⟩ := fIx_ok (X := X)
  exact ⟨_, pe_ix h1 pa pb hs, run2 h2 qa qb⟩
abbrev MO := Env → Cells → R (Option Int)
def SO (X : Cx) (W : WX) (e : Option Expr) (m : MO) : Prop :=
  ∃ t, PO X e t ∧ ∀ S sg env Qv, Good (wd X) S → EnvAt (wd X) S sg env → PostG (wd X) S (relE (Option Int)) (m env S.c) Qv (WE W sg) → t sg S.H Qv
theorem so_none : SO X W none (fun _ c => .ok none c) := ⟨_, po_none, fun S sg env Qv g en p => p S none g rfl .refl rfl⟩
def mPart (m : ME) : MO := fun env c => (m env c).bind fun d c => match d with
  | .int i => .ok (some i) c
  | _ => .stk
theorem so_some (ha : SE X W a ma) : SO X W (some a) (mPart ma) := by
  obtain ⟨t, p, q⟩ := ha
  refine ⟨_, po_some p, fun S sg env Qv g en p => ?_⟩
  refine q S sg env _ g en (post_bind p fun d S1 v e1 g1 x1 a1 p1 => ?_)
  split at p1
  · exact ⟨_, a1, p1 S1 _ g1 rfl .refl rfl⟩
  · exact p1.elim
def cutD (xs : List D) (lo hi : Option Int) : List D := (xs.drop (HT.sIx xs.length 0 lo)).take (HT.sIx xs.length xs.length hi - HT.sIx xs.length 0 lo)
theorem AtL.cut {T : Wd} {S : Sta} : ∀ {xs : List V} {ds : List D} (n m : Nat), AtL T S xs ds → AtL T S ((xs.drop n).take m) ((ds.drop n).take m)
  | [], [], n, m, _ => by simp [AtL]
  | x :: xs, d :: ds, 0, 0, _ => trivial
  | x :: xs, d :: ds, 0, m + 1, h => by
    obtain ⟨h1, h2⟩ : At T S x d ∧ AtL T S xs ds := h
    exact ⟨h1, AtL.cut 0 m h2⟩
  | x :: xs, d :: ds, n + 1, m, h => by
    obtain ⟨h1, h2⟩ : At T S x d ∧ AtL T S xs ds := h
    exact AtL.cut n m h2
  | [], _ :: _, _, _, h => h.elim
  | _ :: _, [], _, _, h => h.elim
theorem AtL.cutV {T : Wd} {S : Sta} {xs : List V} {ds : List D} (h : AtL T S xs ds) (lo hi : Option Int) : AtL T S (L2.cutV xs lo hi) (cutD ds lo hi) := by
  unfold L2.cutV cutD
  rw [h.len]
  exact h.cut _ _
/-- a slice; C: the new list is a cell -/
def fSl (C : Bool) (x : D) (lo hi : Option Int) (c : Cells) : O := match view c x with
  | some (.lst, ds) => if C then some (.cell c.length, c ++ [(.lst, cutD ds lo hi)]) else some (.lst (cutD ds lo hi), c)
  | some (.tup, ds) => if HT.sIx ds.length 0 lo = 0 ∧ HT.sIx ds.length ds.length hi = ds.length then none else some (.tup (cutD ds lo hi), c)
  | _ => none
def mSl (C : Bool) (m : ME) (ml mh : MO) : ME := fun env c => (m env c).bind fun d c => (ml env c).bind fun lo c => (mh env c).bind fun hi c => (fSl C d lo hi c).r
theorem se_slice {C : Bool} {lo hi : Option Expr} {p2 : Pos} {ml mh : MO} (ha : SE X W a ma) (hl : SO X W lo ml) (hh : SO X W hi mh) : SE X W (.Subscript a (.Slice lo hi none p2) pos) (mSl C ma ml mh) := by
  obtain ⟨ta, pa, qa⟩ := ha
  obtain ⟨tl, pl, ql⟩ := hl
  obtain ⟨th, ph, qh⟩ := hh
  refine ⟨_, pe_slice (SlR.or sl_list sl_tup) pa pl ph, fun S sg env Qv g en p => ?_⟩
  refine qa S sg env _ g en (post_bind p fun d S1 v e1 g1 x1 a1 p1 => ?_)
  refine ql S1 sg env _ g1 (en.ext x1) (post_bind p1 fun i S2 i' e2 g2 x2 a2 p2 => ?_)
  refine qh S2 sg env _ g2 ((en.ext x1).ext x2) (post_bind p2 fun j S3 j' e3 g3 x3 a3 p3 => ?_)
  cases a2
  cases a3
  have a' := x3.keep _ _ (x2.keep _ _ a1)
  obtain ⟨d', c, e, q⟩ := p3.o.some
  unfold fSl at e
  split at e
  · rename_i ds e0
    obtain ⟨a, xs, rfl, h, l⟩ := view_at g3 a' e0
    refine .inl ⟨a, xs, rfl, .of (hold_L h), fun p hp => ?_⟩
    split at e
    · cases e
      exact madeC (t := .lst) g3 hp (l.cutV i j) upd_same trivial q
    · cases e
      exact made (t := .lst) g3 hp (l.cutV i j) upd_same q
  · rename_i ds e0
    obtain ⟨a, xs, rfl, h, l⟩ := view_at g3 a' e0
    split at e
    · cases e
    · rename_i hn
      cases e
      refine .inr ⟨a, xs, rfl, hold_T h, by rw [l.len]; exact hn, fun p hp => ?_⟩
      exact made (t := .tup) g3 hp (l.cutV i j) upd_same q
  · cases e
theorem AtL.rev {T : Wd} {S : Sta} : ∀ {xs : List V} {ds : List D}, AtL T S xs ds → AtL T S xs.reverse ds.reverse
  | [], [], _ => trivial
  | x :: xs, d :: ds, h => by
    obtain ⟨h1, h2⟩ : At T S x d ∧ AtL T S xs ds := h
    rw [List.reverse_cons, List.reverse_cons]
    exact (AtL.rev h2).append ⟨h1, trivial⟩
  | [], _ :: _, h => h.elim
  | _ :: _, [], h => h.elim
/-- xs[::-1] of a list -/
def fRev (x : D) (c : Cells) : O := match view c x with
  | some (.lst, ds) => some (.lst ds.reverse, c)
  | _ => none
theorem se_rev {k : Nat} {p1 p2 p3 : Pos} (ha : SE X W a ma) : SE X W (.Subscript a (.Slice none none (some (.UnaryOp .USub (.Constant (.int 1) k p1) p2)) p3) pos) (m1 fRev ma) := by
  obtain ⟨ta, pa, qa⟩ := ha
  refine ⟨_, pe_revL pa, fun S sg env Qv g en p => ?_⟩
  refine qa S sg env _ g en (post_bind p fun d S1 v e1 g1 x1 a1 p1 => ?_)
  obtain ⟨d', c, e, q⟩ := p1.o.some
  unfold fRev at e
  split at e
  · rename_i ds e0
    cases e
    obtain ⟨a, xs, rfl, h, l⟩ := view_at g1 a1 e0
    exact ⟨a, xs, rfl, .of (hold_L h), fun p hp => made (t := .lst) g1 hp l.rev upd_same q⟩
  · cases e
/-! ### built-ins -/
def mCall (f : List D → Cells → O) (ms : ML) : ME := fun env c => (ms env c).bind fun ds c => (f ds c).r
theorem runC {t : TA} {r : List V → Hp → VK → Prop} {f : List D → Cells → O} (hs : CaS (wd X) r f) (q : ∀ S sg env Qv, Good (wd X) S → EnvAt (wd X) S sg env → PostG (wd X) S (AtL (wd X)) (ms env S.c) Qv (WE W sg) → t sg S.H Qv) :
    ∀ S sg env Qv, Good (wd X) S → EnvAt (wd X) S sg env → Post (wd X) S (mCall f ms env S.c) Qv (WE W sg) → tCB r t sg S.H Qv := by
  intro S sg env Qv g en p
  refine q S sg env _ g en (post_bind p fun ds S1 vs e1 g1 x1 a1 p1 => ?_)
  exact hs S1 vs ds Qv g1 a1 p1.o
section
variable {x : Str} {p : Pos} {id T : String} {f : List D → Cells → O}
theorem se_callB (h : CaF X (.builtin id) f) (hm : X.mg x = none) (ha : SA X W (e :: es) ms) (hg : Gl X x := by rfl) (hv : bootBuiltins x = some (.builtin id) := by decide +kernel) (hn : x ≠ "__name__" := by decide) (hdb : (x == ("__debug__" : Str)) = false := by decide)
    (he : starEach (e :: es) X.env = (false, eval e X.env) :: starEach es X.env := by rfl) (hpl : (backTo pos (starEach es X.env)).any (·.1) = false := by rfl) : SE X W (.Call (.Name x p) (e :: es) [] pos) (mCall f ms) := by
  obtain ⟨r, h1, h2⟩ := h
  obtain ⟨t, pa, q⟩ := ha
  exact ⟨_, pe_callB h1 hg hm hv pa hn hdb he hpl, runC h2 q⟩
theorem se_callTy (h : CaF X (.type T) f) (hm : X.mg x = none) (ha : SA X W (e :: es) ms) (hg : Gl X x := by rfl) (hv : bootBuiltins x = some (.type T) := by decide +kernel) (hn : x ≠ "__name__" := by decide) (hdb : (x == ("__debug__" : Str)) = false := by decide)
    (he : starEach (e :: es) X.env = (false, eval e X.env) :: starEach es X.env := by rfl) (hpl : (backTo pos (starEach es X.env)).any (·.1) = false := by rfl) : SE X W (.Call (.Name x p) (e :: es) [] pos) (mCall f ms) := by
  obtain ⟨r, h1, h2⟩ := h
  obtain ⟨t, pa, q⟩ := ha
  exact ⟨_, pe_callTy h1 hg hm hv pa hn hdb he hpl, runC h2 q⟩
end
/-- one argument -/
theorem AtL.one {T : Wd} {S : Sta} {xs : List V} {d : D} (h : AtL T S xs [d]) : ∃ v, xs = [v] ∧ At T S v d := by
  match xs, h with
  | [v], h => exact ⟨v, rfl, h.1⟩
  | [], h => exact h.elim
  | _ :: _ :: _, h => exact h.2.elim
theorem AtL.two {T : Wd} {S : Sta} {xs : List V} {d d' : D} (h : AtL T S xs [d, d']) : ∃ v v', xs = [v, v'] ∧ At T S v d ∧ At T S v' d' := by
  match xs, h with
  | [v, v'], h => exact ⟨v, v', rfl, h.1, h.2.1⟩
  | [], h => exact h.elim
  | [_], h => exact h.2.elim
  | _ :: _ :: _ :: _, h => exact h.2.2.elim
def bLen : List D → Cells → O
  | [.str y], c => if y.length ≤ sizeLine then some (.int y.length, c) else none
  | [d], c => (seqView c d).map fun ds => (.int ds.length, c)
  | _, _ => none
theorem bLen_ok : CaF X (.builtin "len") bLen := by
  refine ⟨_, call_len, fun S xs ds Qv g ax p => ?_⟩
  obtain ⟨d, c, e, q⟩ := p.some
  unfold bLen at e
  split at e
  · obtain ⟨v, rfl, a⟩ := ax.one
    split at e
    · rename_i h
      cases e
      cases (show v = _ from a)
      exact ⟨_, _, rfl, ⟨h, rfl⟩, q S _ g rfl .refl rfl⟩
    · cases e
  · obtain ⟨v, rfl, a⟩ := ax.one
    obtain ⟨es, e1, e2⟩ := Option.map_eq_some_iff.mp e
    cases e2
    obtain ⟨b, xs, rfl, h, l⟩ := seqView_at g a e1
    rcases h with h | h
    · exact ⟨_, xs.length, rfl, .inl ⟨xs, h, rfl⟩, q S _ g rfl .refl (by rw [l.len]; rfl)⟩
    · exact ⟨_, xs.length, rfl, .inr ⟨xs, h, rfl⟩, q S _ g rfl .refl (by rw [l.len]; rfl)⟩
  · cases e
def bAbs : List D → Cells → O
  | [.int i], c => some (.int (if i < 0 then -i else i), c)
  | _, _ => none
theorem bAbs_ok : CaF X (.builtin "abs") bAbs := by
  refine ⟨_, call_abs, fun S xs ds Qv g ax p => ?_⟩
  obtain ⟨d, c, e, q⟩ := p.some
  unfold bAbs at e
  split at e
  · cases e
    obtain ⟨v, rfl, a⟩ := ax.one
    cases (show v = _ from a)
    exact ⟨_, rfl, q S _ g rfl .refl rfl⟩
  · cases e
def bMax2 : List D → Cells → O
  | [.int i, .int j], c => some (.int (if j > i then j else i), c)
  | _, _ => none
def bMin2 : List D → Cells → O
  | [.int i, .int j], c => some (.int (if j < i then j else i), c)
  | _, _ => none
theorem bMax2_ok (hc : X.calm = true) : CaF X (.builtin "max") bMax2 := by
  refine ⟨_, call_max2 hc, fun S xs ds Qv g ax p => ?_⟩
  obtain ⟨d, c, e, q⟩ := p.some
  unfold bMax2 at e
  split at e
  · cases e
    obtain ⟨v, w, rfl, a, b⟩ := ax.two
    cases (show v = _ from a)
    cases (show w = _ from b)
    exact ⟨_, _, rfl, q S _ g rfl .refl rfl⟩
  · cases e
theorem bMin2_ok (hc : X.calm = true) : CaF X (.builtin "min") bMin2 := by
  refine ⟨_, call_min2 hc, fun S xs ds Qv g ax p => ?_⟩
  obtain ⟨d, c, e, q⟩ := p.some
  unfold bMin2 at e
  split at e
  · cases e
    obtain ⟨v, w, rfl, a, b⟩ := ax.two
    cases (show v = _ from a)
    cases (show w = _ from b)
    exact ⟨_, _, rfl, q S _ g rfl .refl rfl⟩
  · cases e
def bInt : List D → Cells → O
  | [.int i], c => some (.int i, c)
  | [.bl k], c => some (.int (if k then 1 else 0), c)
  | _, _ => none
theorem bInt_ok : CaF X (.type "int") bInt := by
  refine ⟨_, call_int1, fun S xs ds Qv g ax p => ?_⟩
  obtain ⟨d, c, e, q⟩ := p.some
  unfold bInt at e
  split at e
  · cases e
    obtain ⟨v, rfl, a⟩ := ax.one
    cases (show v = _ from a)
    exact .inl ⟨_, rfl, q S _ g rfl .refl rfl⟩
  · cases e
    obtain ⟨v, rfl, a⟩ := ax.one
    cases (show v = _ from a)
    exact .inr ⟨_, rfl, q S _ g rfl .refl rfl⟩
  · cases e
/-- all, any of a list of bools -/
def bools : List D → Option (List Bool)
  | [] => some []
  | .bl b :: ds => (bools ds).map (b :: ·)
  | _ => none
theorem bools_at {T : Wd} {S : Sta} : ∀ {ds : List D} {xs : List V} {bs : List Bool}, bools ds = some bs → AtL T S xs ds → xs = bs.map V.bl
  | [], [], bs, e, _ => by
    cases e
    rfl
  | .bl b :: ds, x :: xs, bs, e, a => by
    obtain ⟨a1, a2⟩ : At T S x (.bl b) ∧ AtL T S xs ds := a
    obtain ⟨bs', e1, rfl⟩ := Option.map_eq_some_iff.mp (show (bools ds).map (b :: ·) = some bs from e)
    rw [bools_at e1 a2, show x = .bl b from a1]
    rfl
  | [], _ :: _, _, _, a => a.elim
  | _ :: _, [], _, _, a => a.elim
  | .non :: _, _ :: _, _, e, _ => nomatch e
  | .int _ :: _, _ :: _, _, e, _ => nomatch e
  | .str _ :: _, _ :: _, _, e, _ => nomatch e
  | .cell _ :: _, _ :: _, _, e, _ => nomatch e
  | .nod _ _ :: _, _ :: _, _, e, _ => nomatch e
def lstView (c : Cells) (d : D) : Option (List D) := match view c d with
  | some (.lst, ds) => some ds
  | _ => none
theorem lstView_at {T : Wd} {S : Sta} {v : V} {d : D} {ds : List D} (g : Good T S) (h : At T S v d) (e : lstView S.c d = some ds) : ∃ a xs, v = .ref a ∧ S.H a = some (.lst xs) ∧ AtL T S xs ds := by
  unfold lstView at e
  split at e
  · rename_i ds' e0
    cases e
    obtain ⟨a, xs, rfl, q, l⟩ := view_at g h e0
    exact ⟨a, xs, rfl, hold_L q, l⟩
  · cases e
def bAll : List D → Cells → O
  | [d], c => ((lstView c d).bind bools).map fun bs => (.bl (bs.all id), c)
  | _, _ => none
def bAny : List D → Cells → O
  | [d], c => ((lstView c d).bind bools).map fun bs => (.bl (bs.any id), c)
  | _, _ => none
theorem bAll_ok (hc : X.calm = true) : CaF X (.builtin "all") bAll := by
  refine ⟨_, cr_all hc, fun S xs ds Qv g ax p => ?_⟩
  obtain ⟨d, c, e, q⟩ := p.some
  unfold bAll at e
  split at e
  · obtain ⟨v, rfl, a⟩ := ax.one
    obtain ⟨bs, e1, e2⟩ := Option.map_eq_some_iff.mp e
    cases e2
    obtain ⟨es, e3, e4⟩ := Option.bind_eq_some_iff.mp e1
    obtain ⟨b, ys, rfl, h, l⟩ := lstView_at g a e3
    have z := bools_at e4 l
    subst z
    exact ⟨b, bs, rfl, .of h, q S _ g rfl .refl rfl⟩
  · cases e
theorem bAny_ok (hc : X.calm = true) : CaF X (.builtin "any") bAny := by
  refine ⟨_, cr_any hc, fun S xs ds Qv g ax p => ?_⟩
  obtain ⟨d, c, e, q⟩ := p.some
  unfold bAny at e
  split at e
  · obtain ⟨v, rfl, a⟩ := ax.one
    obtain ⟨bs, e1, e2⟩ := Option.map_eq_some_iff.mp e
    cases e2
    obtain ⟨es, e3, e4⟩ := Option.bind_eq_some_iff.mp e1
    obtain ⟨b, ys, rfl, h, l⟩ := lstView_at g a e3
    have z := bools_at e4 l
    subst z
    exact ⟨b, bs, rfl, .of h, q S _ g rfl .refl rfl⟩
  · cases e
/-- list(xs), tuple(xs); list(xs) as a cell -/
def bList (C : Bool) : List D → Cells → O
  | [d], c => (seqView c d).map fun ds => if C then (.cell c.length, c ++ [(.lst, ds)]) else (.lst ds, c)
  | _, _ => none
theorem bList_ok {C : Bool} : CaF X (.type "list") (bList C) := by
  refine ⟨_, call_list_of, fun S xs ds Qv g ax p => ?_⟩
  obtain ⟨d, c, e, q⟩ := p.some
  unfold bList at e
  split at e
  · obtain ⟨v, rfl, a⟩ := ax.one
    obtain ⟨es, e1, e2⟩ := Option.map_eq_some_iff.mp e
    obtain ⟨b, ys, rfl, h, l⟩ := seqView_at g a e1
    refine ⟨b, ys, rfl, h, fun p hp => ?_⟩
    cases C with
    | true =>
      cases e2
      exact madeC (t := .lst) g hp l upd_same trivial q
    | false =>
      cases e2
      exact made (t := .lst) g hp l upd_same q
  · cases e
def bTuple : List D → Cells → O
  | [d], c => match view c d with
    | some (.lst, ds) => some (.tup ds, c)
    | some (.tup, _) => some (d, c)
    | _ => none
  | _, _ => none
theorem bTuple_ok : CaF X (.type "tuple") bTuple := by
  refine ⟨_, call_tuple_of, fun S xs ds Qv g ax p => ?_⟩
  obtain ⟨d, c, e, q⟩ := p.some
  unfold bTuple at e
  split at e
  · obtain ⟨v, rfl, a⟩ := ax.one
    split at e
    · rename_i es e0
      cases e
      obtain ⟨b, ys, rfl, h, l⟩ := view_at g a e0
      exact ⟨b, ys, rfl, .inl ⟨.of (hold_L h), fun p hp => made (t := .tup) g hp l upd_same q⟩⟩
    · rename_i es e0
      cases e
      obtain ⟨b, ys, rfl, h, l⟩ := view_at g a e0
      exact ⟨b, ys, rfl, .inr ⟨hold_T h, q S _ g rfl .refl a⟩⟩
    · cases e
  · cases e
def bDivmod : List D → Cells → O
  | [.int i, .int j], c => if 0 < j ∧ Builtin.divisionGoesByPylong i j = false then some (.tup [.int (i / j), .int (i % j)], c) else none
  | _, _ => none
theorem bDivmod_ok : CaF X (.builtin "divmod") bDivmod := by
  refine ⟨_, call_divmodW, fun S xs ds Qv g ax p => ?_⟩
  obtain ⟨d, c, e, q⟩ := p.some
  unfold bDivmod at e
  split at e
  · split at e
    · rename_i h
      cases e
      obtain ⟨v, w, rfl, a, b⟩ := ax.two
      cases (show v = _ from a)
      cases (show w = _ from b)
      exact ⟨_, _, rfl, h, fun p hp => made (t := .tup) (xs := [.int _, .int _]) (ds := [.int _, .int _]) g hp ⟨rfl, rfl, trivial⟩ upd_same q⟩
    · cases e
  · cases e
def bStrI : List D → Cells → O
  | [.int i], c => if i.natAbs.log2 < 1920 then some (.str (toString i), c) else none
  | _, _ => none
theorem bStrI_ok : CaF X (.type "str") bStrI := by
  refine ⟨_, call_str_int, fun S xs ds Qv g ax p => ?_⟩
  obtain ⟨d, c, e, q⟩ := p.some
  unfold bStrI at e
  split at e
  · split at e
    · rename_i h
      cases e
      obtain ⟨v, rfl, a⟩ := ax.one
      cases (show v = _ from a)
      exact ⟨_, rfl, h, q S _ g rfl .refl rfl⟩
    · cases e
  · cases e
end
end Q
end
section
set_option Elab.async false
set_option linter.all false
set_option maxRecDepth 100000
namespace Q
open PySem PySem.Spec L2
variable [Tb]
/-! ### statements -/
inductive Fl where
  | nx (env : Env) | rt (d : D) | bk (env : Env) | ct (env : Env)
inductive RS where
  | ok (f : Fl) (c : Cells)
  | err (x : Exn) (env : Env) (c : Cells)
  | stk
def PostS (T : Wd) (S : Sta) (r : RS) (Dn : Ends) (W : WX) : Prop := match r with
  | .ok (.nx env) c => ∀ S' sg, Good T S' → S'.c = c → Ext T S S' → EnvAt T S' sg env → Dn.nx sg S'.H
  | .ok (.bk env) c => ∀ S' sg, Good T S' → S'.c = c → Ext T S S' → EnvAt T S' sg env → Dn.bk sg S'.H
  | .ok (.ct env) c => ∀ S' sg, Good T S' → S'.c = c → Ext T S S' → EnvAt T S' sg env → Dn.ct sg S'.H
  | .ok (.rt d) c => ∀ S' v, Good T S' → S'.c = c → Ext T S S' → At T S' v d → Dn.rt v S'.H
  | .err x env c => ∀ S' sg cls dd, Good T S' → S'.c = c → Ext T S S' → EnvAt T S' sg env → ExAt T S' cls dd x → W cls dd sg S'.H
  | .stk => False
theorem PostS.ext {T : Wd} {S S1 : Sta} {r : RS} {Dn : Ends} {W : WX} (e : Ext T S S1) (h : PostS T S r Dn W) : PostS T S1 r Dn W := by
  match r, h with
  | .ok (.nx env) c, h => exact fun S' sg g hc x a => h S' sg g hc (e.trans x) a
  | .ok (.bk env) c, h => exact fun S' sg g hc x a => h S' sg g hc (e.trans x) a
  | .ok (.ct env) c, h => exact fun S' sg g hc x a => h S' sg g hc (e.trans x) a
  | .ok (.rt d) c, h => exact fun S' sg g hc x a => h S' sg g hc (e.trans x) a
  | .err y env c, h => exact fun S' sg cls dd g hc x a z => h S' sg cls dd g hc (e.trans x) a z
  | .stk, h => exact h
abbrev MS := Env → Cells → RS
/-- an expression's outcome, then a statement's -/
def R.st {a : Type} (r : R a) (env : Env) (k : a → Cells → RS) : RS := match r with
  | .ok d c => k d c
  | .err x c => .err x env c
  | .stk => .stk
theorem post_st {a b : Type} {T : Wd} {S : Sta} {rel : Sta → b → a → Prop} {r : R a} {env : Env} {sg : L2.St} {k : a → Cells → RS} {Dn : Ends} {W : WX} {Q2 : b → Hp → Prop} (h : PostS T S (r.st env k) Dn W) (en : EnvAt T S sg env)
    (h2 : ∀ d S1 v, r = .ok d S1.c → Good T S1 → Ext T S S1 → rel S1 v d → PostS T S1 (k d S1.c) Dn W → Q2 v S1.H) : PostG T S rel r Q2 (WE W sg) := by
  cases r with
  | ok d c =>
    have h : PostS T S (k d c) Dn W := h
    intro S1 v g hc x a
    subst hc
    exact h2 d S1 v rfl g x a (PostS.ext x h)
  | err y c =>
    have h : PostS T S (.err y env c) Dn W := h
    exact fun S' cls dd g hc x z => h S' sg cls dd g hc x (en.ext x) z
  | stk =>
    have h : PostS T S .stk Dn W := h
    exact h
/-- a statement's outcome, then another's -/
def RS.next (r : RS) (k : Env → Cells → RS) : RS := match r with
  | .ok (.nx env) c => k env c
  | r => r
theorem post_next {T : Wd} {S : Sta} {r : RS} {k : MS} {Dn : Ends} {W : WX} (h : PostS T S (r.next k) Dn W) {nx : L2.St → Hp → Prop}
    (h2 : ∀ env S1 sg, r = .ok (.nx env) S1.c → Good T S1 → Ext T S S1 → EnvAt T S1 sg env → PostS T S1 (k env S1.c) Dn W → nx sg S1.H) : PostS T S r { Dn with nx := nx } W := by
  match r, h with
  | .ok (.nx env) c, h =>
    have h : PostS T S (k env c) Dn W := h
    intro S1 sg g hc x a
    subst hc
    exact h2 env S1 sg rfl g x a (PostS.ext x h)
  | .ok (.bk env) c, h => exact h
  | .ok (.ct env) c, h => exact h
  | .ok (.rt d) c, h => exact h
  | .err y env c, h => exact h
  | .stk, h => exact h
/-- the reading of a statement -/
def tS (T : Wd) (m : MS) (W : WX) : TS := fun Dn sg H => ∃ S env, S.H = H ∧ Good T S ∧ EnvAt T S sg env ∧ PostS T S (m env S.c) Dn W
def SS (X : Cx) (W : WX) (st : Stmt) (m : MS) : Prop := PS X st (tS (wd X) m W)
def SB (X : Cx) (W : WX) (st : List Stmt) (m : MS) : Prop := PSs X st (tS (wd X) m W)
theorem PS.imp {X : Cx} {st : Stmt} {t t' : TS} (h : PS X st t) (i : ∀ D s H, t' D s H → t D s H) : PS X st t' := ⟨fun pins s sg H D I q => h.run pins s sg H D I (i _ _ _ q)⟩
theorem PSs.imp {X : Cx} {st : List Stmt} {t t' : TS} (h : PSs X st t) (i : ∀ D s H, t' D s H → t D s H) : PSs X st t' := ⟨fun pins s sg H D I q => h.run pins s sg H D I (i _ _ _ q)⟩
section
variable {X : Cx} {W : WX} {e a b c : Expr} {es : List Expr} {pos pos' : Pos} {m ma mb mc : ME} {ms : ML} {st : Stmt} {rest : List Stmt} {k k2 : MS}
def sNil : MS := fun env c => .ok (.nx env) c
def sSeq (k k2 : MS) : MS := fun env c => (k env c).next k2
theorem sb_nil : SB X W [] sNil := PSs.imp pss_nil fun D sg H ⟨S, env, e, g, en, p⟩ => by
  subst e
  exact p S sg g rfl .refl en
theorem sb_cons (h : SS X W st k) (h2 : SB X W rest k2) : SB X W (st :: rest) (sSeq k k2) := PSs.imp (pss_cons h h2) fun D sg H ⟨S, env, e, g, en, p⟩ =>
  ⟨S, env, e, g, en, post_next p fun env' S1 sg' _ g1 x a p1 => ⟨S1, env', rfl, g1, a, p1⟩⟩
theorem sb_one (h : SS X W st k) : SB X W [st] k := PSs.imp (pss_one h) fun _ _ _ q => q
def sRet (m : ME) : MS := fun env c => (m env c).st env fun d c => .ok (.rt d) c
theorem ss_ret (ha : SE X W a ma) : SS X W (.Return (some a) pos) (sRet ma) := by
  obtain ⟨t, p, q⟩ := ha
  refine PS.imp (ps_ret p) fun D sg H ⟨S, env, e, g, en, z⟩ => ?_
  subst e
  exact q S sg env _ g en (post_st z en fun d S1 v e1 g1 x1 a1 p1 => p1 S1 v g1 rfl .refl a1)
def sRetN : MS := fun _ c => .ok (.rt .non) c
theorem ss_retN : SS X W (.Return none pos) sRetN := PS.imp ps_retN fun D sg H ⟨S, env, e, g, en, z⟩ => by
  subst e
  exact z S .non g rfl .refl rfl
theorem ss_pass : SS X W (.Pass pos) sNil := PS.imp ps_pass fun D sg H ⟨S, env, e, g, en, z⟩ => by
  subst e
  exact z S sg g rfl .refl en
def sBrk : MS := fun env c => .ok (.bk env) c
def sCnt : MS := fun env c => .ok (.ct env) c
theorem ss_break : SS X W (.Break pos) sBrk := PS.imp ps_break fun D sg H ⟨S, env, e, g, en, z⟩ => by
  subst e
  exact z S sg g rfl .refl en
theorem ss_continue : SS X W (.Continue pos) sCnt := PS.imp ps_continue fun D sg H ⟨S, env, e, g, en, z⟩ => by
  subst e
  exact z S sg g rfl .refl en
theorem ss_doc {x j} : SS X W (.Expr (.Constant (.str x) j pos) pos') sNil := PS.imp ps_doc fun D sg H ⟨S, env, e, g, en, z⟩ => by
  subst e
  exact z S sg g rfl .refl en
def sExpr (m : ME) : MS := fun env c => (m env c).st env fun _ c => .ok (.nx env) c
theorem ss_expr (ha : SE X W a ma) (hs : swapsWith a none pos.line X.env = pure false := by rfl) : SS X W (.Expr a pos) (sExpr ma) := by
  obtain ⟨t, p, q⟩ := ha
  refine PS.imp (ps_expr p hs) fun D sg H ⟨S, env, e, g, en, z⟩ => ?_
  subst e
  exact q S sg env _ g en (post_st z en fun d S1 v e1 g1 x1 a1 p1 => p1 S1 sg g1 rfl .refl (en.ext x1))
def sSet (i : Nat) (m : ME) : MS := fun env c => (m env c).st env fun d c => .ok (.nx (env.set i (some d))) c
theorem ss_set {i : Nat} {x : Str} (hN : X.N.Nodup) (ha : SE X W a ma) (hi : X.N[i]? = some x := by rfl) (hx : Loc X.env.scope x := by first | exact Or.inl rfl | exact Or.inr rfl) (hs : swapsWith a (some (.Name x pos')) pos.line X.env = pure false := by rfl)
    (hf : X.fn x = true ∨ X.env.scope.names.lookup x = some .local := by first | exact .inl rfl | exact .inr rfl | assumption) : SS X W (.Assign [.Name x pos'] a pos) (sSet i ma) := by
  obtain ⟨t, p, q⟩ := ha
  refine PS.imp (ps_set hN hi hx p hs hf) fun D sg H ⟨S, env, e, g, en, z⟩ => ?_
  subst e
  exact q S sg env _ g en (post_st z en fun d S1 v e1 g1 x1 a1 p1 => p1 S1 _ g1 rfl .refl ((en.ext x1).set i a1))
def sIf (mt : MB) (k k2 : MS) : MS := fun env c => (mt env c).st env fun b c => if b = true then k env c else k2 env c
theorem ss_if {mt : MB} {bs cs : List Stmt} (ht : ST X W a mt) (hb : SB X W bs k) (hc : SB X W cs k2) : SS X W (.If a bs cs pos) (sIf mt k k2) := by
  obtain ⟨t, p, q⟩ := ht
  refine PS.imp (ps_if p hb hc) fun D sg H ⟨S, env, e, g, en, z⟩ => ?_
  subst e
  refine q S sg env _ g en (post_st z en fun d S1 v e1 g1 x1 a1 p1 => ?_)
  cases a1
  cases d with
  | true => exact iteT ⟨S1, env, rfl, g1, en.ext x1, p1⟩
  | false => exact iteF ⟨S1, env, rfl, g1, en.ext x1, p1⟩
/-! ### targets -/
abbrev MG := D → Env → Cells → Option (Env × Cells)
def PostE (T : Wd) (S : Sta) (o : Option (Env × Cells)) (Qv : L2.St → Hp → Prop) : Prop := match o with
  | some (env, c) => ∀ S' sg, Good T S' → S'.c = c → Ext T S S' → EnvAt T S' sg env → Qv sg S'.H
  | none => False
def SG (X : Cx) (tg : Expr) (m : MG) : Prop := ∃ t, PG X tg t ∧ ∀ S v d sg env Qv, Good (wd X) S → EnvAt (wd X) S sg env → At (wd X) S v d → PostE (wd X) S (m d env S.c) Qv → t v sg S.H Qv
abbrev MGs := List D → Env → Cells → Option (Env × Cells)
def SGs (X : Cx) (tg : List Expr) (m : MGs) : Prop := ∃ t, PGs X tg t ∧ ∀ S vs ds sg env Qv, Good (wd X) S → EnvAt (wd X) S sg env → AtL (wd X) S vs ds → PostE (wd X) S (m ds env S.c) Qv → t vs sg S.H Qv
def gN (i : Nat) : MG := fun d env c => some (env.set i (some d), c)
theorem sg_name {i : Nat} {x : Str} (hN : X.N.Nodup) (hi : X.N[i]? = some x := by rfl) (hx : Loc X.env.scope x := by first | exact Or.inl rfl | exact Or.inr rfl)
    (hf : X.fn x = true ∨ X.env.scope.names.lookup x = some .local := by first | exact .inl rfl | exact .inr rfl | assumption) : SG X (.Name x pos) (gN i) :=
  ⟨_, pg_name hN hi hx hf, fun S v d sg env Qv g en a p => p S _ g rfl .refl (en.set i a)⟩
def gsNil : MGs := fun ds env c => match ds with
  | [] => some (env, c)
  | _ => none
def gsCons (m : MG) (ms : MGs) : MGs := fun ds env c => match ds with
  | d :: ds => (m d env c).bind fun p => ms ds p.1 p.2
  | [] => none
theorem sgs_nil : SGs X [] gsNil := ⟨_, pgs_nil, fun S vs ds sg env Qv g en a p => by
  cases ds with
  | nil =>
    cases vs with
    | nil => exact ⟨rfl, p S sg g rfl .refl en⟩
    | cons _ _ => exact a.elim
  | cons _ _ => exact p.elim⟩
theorem PostE.some {T : Wd} {S : Sta} {o : Option (Env × Cells)} {Qv : L2.St → Hp → Prop} (h : PostE T S o Qv) : ∃ env c, o = some (env, c) ∧ ∀ S' sg, Good T S' → S'.c = c → Ext T S S' → EnvAt T S' sg env → Qv sg S'.H := by
  cases o with
  | none => exact False.elim h
  | some p => exact ⟨p.1, p.2, rfl, h⟩
theorem PostE.ext {T : Wd} {S S1 : Sta} {o : Option (Env × Cells)} {Qv : L2.St → Hp → Prop} (e : Ext T S S1) (h : PostE T S o Qv) : PostE T S1 o Qv := by
  cases o with
  | none => exact h
  | some p => exact fun S' sg g hc x a => h S' sg g hc (e.trans x) a
theorem sgs_cons {g : MG} {gs : MGs} (h : SG X e g) (h2 : SGs X es gs) (hs : (assignEach (e :: es) X.env).map (·.2) = assign e X.env :: (assignEach es X.env).map (·.2) := by rfl) : SGs X (e :: es) (gsCons g gs) := by
  obtain ⟨t, p, q⟩ := h
  obtain ⟨t2, p2, q2⟩ := h2
  refine ⟨_, pgs_cons p p2 hs, fun S vs ds sg env Qv gd en al z => ?_⟩
  cases ds with
  | nil => exact z.elim
  | cons d ds =>
    cases vs with
    | nil => exact al.elim
    | cons v vs =>
      obtain ⟨a1, a2⟩ : At (wd X) S v d ∧ AtL (wd X) S vs ds := al
      refine ⟨v, vs, rfl, q S v d sg env _ gd en a1 ?_⟩
      have z : PostE (wd X) S ((g d env S.c).bind fun p => gs ds p.1 p.2) Qv := z
      cases e1 : g d env S.c with
      | none =>
        rw [e1] at z
        exact z.elim
      | some r =>
        obtain ⟨env', c'⟩ := r
        rw [e1] at z
        have z : PostE (wd X) S (gs ds env' c') Qv := z
        intro S1 sg1 g1 hc x1 en1
        subst hc
        exact q2 S1 vs ds sg1 env' _ g1 en1 (x1.list a2) (PostE.ext x1 z)
def gT (ms : MGs) : MG := fun d env c => match view c d with
  | some (.tup, ds) => ms ds env c
  | _ => none
theorem sg_tup {n k : Nat} {gs : MGs} (hc : X.calm = true) (h : SGs X es gs) (hlen : ∀ ds env c r, gs ds env c = some r → ds.length = n) (hn : (assignEach es X.env).length = n := by rfl) (hst : (assignEach es X.env).findIdx? (·.1) = none := by rfl) : SG X (.Tuple es k pos) (gT gs) := by
  obtain ⟨t, p, q⟩ := h
  refine ⟨_, pg_tup hc p hn hst, fun S v d sg env Qv g en a z => ?_⟩
  unfold gT at z
  split at z
  · rename_i ds e0
    obtain ⟨b, xs, rfl, h, l⟩ := view_at g a e0
    obtain ⟨env', c', e1, z'⟩ := z.some
    exact ⟨b, xs, rfl, hold_T h, by rw [l.len]; exact hlen _ _ _ _ e1, q S xs ds sg env Qv g en l z⟩
  · exact z.elim
theorem gs_len0 : ∀ ds env c r, gsNil ds env c = some r → ds.length = 0 := fun ds env c r h => by
  cases ds with
  | nil => rfl
  | cons _ _ => cases h
theorem gs_lenS {g : MG} {gs : MGs} {n : Nat} (h : ∀ ds env c r, gs ds env c = some r → ds.length = n) : ∀ ds env c r, gsCons g gs ds env c = some r → ds.length = n + 1 := fun ds env c r e => by
  cases ds with
  | nil => cases e
  | cons d ds =>
    obtain ⟨p, _, e2⟩ := Option.bind_eq_some_iff.mp (show (g d env c).bind _ = some r from e)
    rw [List.length_cons, h _ _ _ _ e2]
/-- target = e -/
def Oe (o : Option (Env × Cells)) : RS := match o with
  | some (env, c) => .ok (.nx env) c
  | none => .stk
def sAsg (g : MG) (m : ME) : MS := fun env c => (m env c).st env fun d c => Oe (g d env c)
theorem post_oe {T : Wd} {S : Sta} {o : Option (Env × Cells)} {Dn : Ends} {W : WX} (h : PostS T S (Oe o) Dn W) : PostE T S o Dn.nx := by
  cases o with
  | none => exact h
  | some p => exact h
theorem ss_asg {tg : Expr} {g : MG} (ha : SE X W a ma) (hg : SG X tg g) (hs : swapsWithSole [tg] a pos.line X.env = pure false := by rfl) (hw : swappedStores [tg] a X.env = pure none := by rfl)
    (h1 : (assignEach [tg] X.env).map (·.2) = [assign tg X.env] := by rfl) : SS X W (.Assign [tg] a pos) (sAsg g ma) := by
  obtain ⟨t, p, q⟩ := ha
  obtain ⟨t2, p2, q2⟩ := hg
  refine PS.imp (ps_asg p p2 hs hw h1) fun D sg H ⟨S, env, e, gd, en, z⟩ => ?_
  subst e
  exact q S sg env _ gd en (post_st z en fun d S1 v e1 g1 x1 a1 p1 => q2 S1 v d sg env _ g1 (en.ext x1) a1 (post_oe p1))
/-- behind one expression the list of it -/
theorem post_bind_ok {T : Wd} {S : Sta} {a2 b2 : Type} {rel2 : Sta → b2 → a2 → Prop} {r : R D} {k : D → Cells → R a2} {Qv : b2 → Hp → Prop} {Q2 : List V → Hp → Prop} {E : XK} (h : PostG T S rel2 (r.bind k) Qv E)
    (h2 : ∀ d S1 v, Good T S1 → Ext T S S1 → At T S1 v d → PostG T S1 rel2 (k d S1.c) Qv E → Q2 [v] S1.H) : PostG T S (AtL T) (r.bind fun d c => .ok [d] c) Q2 E := by
  cases r with
  | ok d c =>
    intro S1 vs g hc x a
    obtain ⟨v, rfl, a1⟩ := AtL.one a
    subst hc
    exact h2 d S1 v g x a1 (PostG.ext x h)
  | err y c => exact h
  | stk => exact h
/-! ### what a for walks -/
structure Src where
  get : Nat → Cells → Option (Option D)
  fuel : Nat
/-- a later state, perhaps with more hidden -/
structure Ext0 (T : Wd) (S S' : Sta) : Prop where
  pre : S.r <+: S'.r
  keep : ∀ v d, At T S v d → At T S' v d
  hid : ∀ a ∈ S.x, a ∈ S'.x ∧ S'.H a = S.H a
theorem Ext.zero {T : Wd} {S S' : Sta} (e : Ext T S S') : Ext0 T S S' := ⟨e.pre, e.keep, fun a ha => ⟨by rw [e.hx]; exact ha, e.hh a ha⟩⟩
theorem Ext0.trans {T : Wd} {S S1 S2 : Sta} (a : Ext0 T S S1) (b : Ext0 T S1 S2) : Ext0 T S S2 := ⟨a.pre.trans b.pre, fun v d h => b.keep v d (a.keep v d h), fun p hp => ⟨(b.hid p (a.hid p hp).1).1, (b.hid p (a.hid p hp).1).2.trans (a.hid p hp).2⟩⟩
theorem EnvAt.zero {T : Wd} {S S' : Sta} {sg : L2.St} {env : Env} (h : EnvAt T S sg env) (e : Ext0 T S S') : EnvAt T S' sg env :=
  ⟨h.len, fun i d q => let ⟨v, a, b⟩ := h.get i d q; ⟨v, a, e.keep v d b⟩⟩
def ItOk (T : Wd) (S : Sta) (J : It) (s : Src) : Prop := ∀ i S1, Good T S1 → Ext0 T S S1 → match s.get i S1.c with
  | some (some d) => J.go i S1.H ∧ ∀ v H', J.yld i S1.H v H' → ∃ S2, S2.H = H' ∧ Good T S2 ∧ S2.c = S1.c ∧ Ext T S1 S2 ∧ At T S2 v d
  | some none => J.stop i S1.H
  | none => True
theorem ItOk.ext {T : Wd} {S S1 : Sta} {J : It} {s : Src} (h : ItOk T S J s) (e : Ext0 T S S1) : ItOk T S1 J s := fun i S2 g x => h i S2 g (e.trans x)
abbrev MI := Env → Cells → R Src
def SI (X : Cx) (W : WX) (tg it : Expr) (m : MI) : Prop := ∃ t, PI X tg it t ∧ ∀ S sg env Rv, Good (wd X) S → EnvAt (wd X) S sg env → PostG (wd X) S (fun S' J s => ItOk (wd X) S' J s) (m env S.c) Rv (WE W sg) → t sg S.H Rv
/-- the turns -/
def forS (s : Src) (g : MG) (k : MS) : Nat → Nat → MS
  | 0, _, _, _ => .stk
  | n + 1, i, env, c => match s.get i c with
    | none => .stk
    | some none => .ok (.nx env) c
    | some (some d) => match g d env c with
      | none => .stk
      | some (env1, c1) => match k env1 c1 with
        | .ok (.nx env2) c2 => forS s g k n (i + 1) env2 c2
        | .ok (.ct env2) c2 => forS s g k n (i + 1) env2 c2
        | .ok (.bk env2) c2 => .ok (.nx env2) c2
        | r => r
def sFor (mi : MI) (g : MG) (k : MS) : MS := fun env c => (mi env c).st env fun s c => forS s g k s.fuel 0 env c
theorem ss_for {tg it : Expr} {mi : MI} {g : MG} {bs : List Stmt} (hp : PassesOwn (model X.prog X.w) X.A X.env X.xe) (hc : X.calm = true) (hi : SI X W tg it mi) (hg : SG X tg g) (hb : SB X W bs k)
    (hs : ∀ x, foldedSetIterable it X.env x = pure x := by intro _; rfl) : SS X W (.For tg it bs [] pos) (sFor mi g k) := by
  obtain ⟨t, p, q⟩ := hi
  obtain ⟨t2, p2, q2⟩ := hg
  refine PS.imp (ps_for hp hc p p2 hb hs) fun D sg H ⟨S, env, e, gd, en, z⟩ => ?_
  subst e
  refine q S sg env _ gd en (post_st z en fun s S0 J e1 g1 x1 a1 p1 => ?_)
  refine ⟨fun i m sg H => ∃ S1 env, S1.H = H ∧ Good (wd X) S1 ∧ Ext (wd X) S0 S1 ∧ EnvAt (wd X) S1 sg env ∧ PostS (wd X) S1 (forS s g k m i env S1.c) D W, ⟨s.fuel, S0, env, rfl, g1, .refl, en.ext x1, p1⟩, ?_⟩
  rintro i m sg1 H1 ⟨S1, env1, rfl, gd1, y1, en1, z1⟩
  have io := a1 i S1 gd1 y1.zero
  cases m with
  | zero => exact z1.elim
  | succ m =>
    unfold forS at z1
    cases e2 : s.get i S1.c with
    | none =>
      simp only [e2] at z1
      exact z1.elim
    | some o =>
      simp only [e2] at z1 io
      cases o with
      | none => exact .inl ⟨io, z1 S1 sg1 gd1 rfl .refl en1⟩
      | some d =>
        obtain ⟨i1, i2⟩ := io
        refine .inr ⟨i1, fun sg' H' => ∃ S1 env, S1.H = H' ∧ Good (wd X) S1 ∧ Ext (wd X) S0 S1 ∧ EnvAt (wd X) S1 sg' env ∧ PostS (wd X) S1 (forS s g k m (i + 1) env S1.c) D W, fun sg' H' hN => ⟨m, Nat.lt_succ_self m, hN⟩, fun v H' hy => ?_⟩
        obtain ⟨S2, rfl, g2, ec, x2, a2⟩ := i2 v H' hy
        simp only at z1
        refine q2 S2 v d sg1 env1 _ g2 (en1.ext x2) a2 ?_
        rw [ec]
        cases e3 : g d env1 S1.c with
        | none =>
          simp only [e3] at z1
          exact z1.elim
        | some r =>
          obtain ⟨env2, c2⟩ := r
          simp only [e3] at z1
          intro S3 sg3 g3 hc3 x3 en3
          subst hc3
          refine ⟨S3, env2, rfl, g3, en3, ?_⟩
          have ext3 := (y1.trans x2).trans x3
          have z2 := PostS.ext (x2.trans x3) z1
          cases e4 : k env2 S3.c with
          | stk => rw [e4] at z2; exact z2
          | err y env4 c4 => rw [e4] at z2; exact z2
          | ok f c4 =>
            rw [e4] at z2
            cases f with
            | nx env4 =>
              intro S4 sg4 g4 hc4 x4 en4
              subst hc4
              exact ⟨S4, env4, rfl, g4, ext3.trans x4, en4, PostS.ext x4 z2⟩
            | ct env4 =>
              intro S4 sg4 g4 hc4 x4 en4
              subst hc4
              exact ⟨S4, env4, rfl, g4, ext3.trans x4, en4, PostS.ext x4 z2⟩
            | bk env4 => exact z2
            | rt d4 => exact z2
/-- a list or a tuple, as it stands at each turn -/
def srcT (t : Tg) (d : D) (n : Nat) : Src := ⟨fun i c => match view c d with
  | some (t', ds) => if t' = t then some ds[i]? else none
  | none => none, n⟩
theorem srcT_some {t : Tg} {d : D} {n i : Nat} {c : Cells} {o : Option D} (h : (srcT t d n).get i c = some o) : ∃ ds, view c d = some (t, ds) ∧ o = ds[i]? := by
  unfold srcT at h
  dsimp only at h
  split at h
  · rename_i t' ds e
    by_cases ht : t' = t
    · subst ht
      rw [if_pos rfl] at h
      exact ⟨ds, e, (Option.some.inj h).symm⟩
    · rw [if_neg ht] at h
      cases h
  · cases h
/-- a walked list or tuple: one rule for both -/
theorem pi_seq {tg l : Expr} {tl : TE} (hl : PE X l tl) : PI X tg l (fun sg H R => tl sg H fun x H1 => (∃ a, x = .ref a ∧ (∃ xs, SqL X.K H1 a xs) ∧ R (Itl X.K a) H1) ∨ ∃ a, x = .ref a ∧ (∃ xs, SqT X.K H1 a xs) ∧ R (Itt X.K a) H1) := by
  refine ⟨fun pins s sg H R I h => ?_⟩
  refine thn (hl.run pins s sg H _ I h) fun v s1 ⟨x, H1, I1, r1, q1⟩ => ?_
  rcases q1 with ⟨a, e, ⟨xs, hq⟩, q⟩ | ⟨a, e, ⟨xs, hq⟩, q⟩
  · subst e
    cases r1
    obtain ⟨its, rv, p, hz⟩ := I1.list hq
    refine wpAny_pyIter_list p.isList ?_
    refine ⟨s1.heap.objs.size, [s1.heap.objs.size], _, _, H1, rfl, I1.kept (t' := s1.toks) fun b o e => Heap.get?_push_of_some _ e, turn_list a _, ⟨_, Heap.get?_push_size _ rfl, rfl, rfl⟩, fun b hb => ?_, q⟩
    have e : b = s1.heap.objs.size := by simpa using hb
    subst e
    exact I1.fpOk (Nat.le_refl _) (I1.hok.fresh (Nat.le_refl _))
  · subst e
    cases r1
    obtain ⟨its, rv, p, hz⟩ := I1.tuple hq
    refine wpAny_pyIter_tuple (show s1.heap.IsTuple a its.toArray from p) ?_
    refine ⟨s1.heap.objs.size, [s1.heap.objs.size], _, _, H1, rfl, I1.kept (t' := s1.toks) fun b o e => Heap.get?_push_of_some _ e, turn_tuple a _, ⟨_, Heap.get?_push_size _ rfl, rfl, rfl⟩, fun b hb => ?_, q⟩
    have e : b = s1.heap.objs.size := by simpa using hb
    subst e
    exact I1.fpOk (Nat.le_refl _) (I1.hok.fresh (Nat.le_refl _))
theorem itl_T {T : Wd} {S : Sta} {d : D} {n : Nat} {b : Addr} {t : Tg} (hl : ∀ S1, Good T S1 → Ext0 T S S1 → ∀ ds, view S1.c d = some (t, ds) → ∃ xs, SqL T.K S1.H b xs ∧ AtL T S1 xs ds) : ItOk T S (Itl T.K b) (srcT t d n) := by
  intro i S1 g x
  cases e : (srcT t d n).get i S1.c with
  | none => trivial
  | some o =>
    obtain ⟨ds, e1, rfl⟩ := srcT_some e
    obtain ⟨xs, h1, h2⟩ := hl S1 g x ds e1
    cases e2 : ds[i]? with
    | none => exact ⟨xs, h1, by rw [h2.len]; exact List.getElem?_eq_none_iff.mp e2⟩
    | some y =>
      obtain ⟨w, h3, h4⟩ := h2.get e2
      refine ⟨⟨xs, w, h1, h3⟩, fun v H' hy => ?_⟩
      obtain ⟨rfl, hy⟩ := hy
      have e3 := hy xs h1
      rw [h3] at e3
      cases e3
      exact ⟨S1, rfl, g, rfl, .refl, h4⟩
theorem itt_T {T : Wd} {S : Sta} {d : D} {n : Nat} {b : Addr} {t : Tg} (hl : ∀ S1, Good T S1 → Ext0 T S S1 → ∀ ds, view S1.c d = some (t, ds) → ∃ xs, SqT T.K S1.H b xs ∧ AtL T S1 xs ds) : ItOk T S (Itt T.K b) (srcT t d n) := by
  intro i S1 g x
  cases e : (srcT t d n).get i S1.c with
  | none => trivial
  | some o =>
    obtain ⟨ds, e1, rfl⟩ := srcT_some e
    obtain ⟨xs, h1, h2⟩ := hl S1 g x ds e1
    cases e2 : ds[i]? with
    | none => exact ⟨xs, h1, by rw [h2.len]; exact List.getElem?_eq_none_iff.mp e2⟩
    | some y =>
      obtain ⟨w, h3, h4⟩ := h2.get e2
      refine ⟨⟨xs, w, h1, h3⟩, fun v H' hy => ?_⟩
      obtain ⟨rfl, hy⟩ := hy
      have e3 := hy xs h1
      rw [h3] at e3
      cases e3
      exact ⟨S1, rfl, g, rfl, .refl, h4⟩
theorem view_same {T : Wd} {S S1 : Sta} {d : D} {b : Addr} (g1 : Good T S1) (x : Ext0 T S S1) (a : At T S (.ref b) d) {t : Tg} {ds : List D} (e : view S1.c d = some (t, ds)) : ∃ xs, (Hold T S1.H b xs t ∨ HoldK T b xs t) ∧ AtL T S1 xs ds := by
  obtain ⟨b', xs, eb, h, l⟩ := view_at g1 (x.keep _ _ a) e
  cases eb
  exact ⟨xs, h, l⟩
def mWalk (m : ME) : MI := fun env c => (m env c).bind fun d c => match view c d with
  | some (.lst, ds) => .ok (srcT .lst d (ds.length + 1)) c
  | some (.frl, ds) => .ok (srcT .frl d (ds.length + 1)) c
  | some (.tup, ds) => .ok (srcT .tup d (ds.length + 1)) c
  | _ => .stk
theorem si_walk {tg l : Expr} {m : ME} (hl : SE X W l m) : SI X W tg l (mWalk m) := by
  obtain ⟨t, p, q⟩ := hl
  refine ⟨_, pi_seq p, fun S sg env Rv g en z => ?_⟩
  refine q S sg env _ g en (post_bind z fun d S1 v e1 g1 x1 a1 p1 => ?_)
  split at p1
  · rename_i ds hv
    obtain ⟨b, xs, rfl, h, l⟩ := view_at g1 a1 hv
    exact .inl ⟨b, rfl, ⟨xs, .of (hold_L h)⟩, p1 S1 _ g1 rfl .refl (itl_T fun S2 g2 x2 ds2 e2 => let ⟨ys, h2, l2⟩ := view_same g2 x2 a1 e2; ⟨ys, .of (hold_L h2), l2⟩)⟩
  · rename_i ds hv
    obtain ⟨b, xs, rfl, h, l⟩ := view_at g1 a1 hv
    exact .inl ⟨b, rfl, ⟨xs, hold_F h⟩, p1 S1 _ g1 rfl .refl (itl_T fun S2 g2 x2 ds2 e2 => let ⟨ys, h2, l2⟩ := view_same g2 x2 a1 e2; ⟨ys, hold_F h2, l2⟩)⟩
  · rename_i ds hv
    obtain ⟨b, xs, rfl, h, l⟩ := view_at g1 a1 hv
    exact .inr ⟨b, rfl, ⟨xs, hold_T h⟩, p1 S1 _ g1 rfl .refl (itt_T fun S2 g2 x2 ds2 e2 => let ⟨ys, h2, l2⟩ := view_same g2 x2 a1 e2; ⟨ys, hold_T h2, l2⟩)⟩
  · exact p1.elim
/-- range(n), range(a, b) -/
def srcR (lo : Int) (n : Nat) : Src := ⟨fun i _ => some (if i < n then some (.int (lo + i)) else none), n + 1⟩
theorem itr_ok {T : Wd} {S : Sta} {lo : Int} {n : Nat} : ItOk T S (Itr lo n) (srcR lo n) := by
  intro i S1 g x
  by_cases h : i < n
  · have e : (srcR lo n).get i S1.c = some (some (.int (lo + i))) := by
      show some (if i < n then some (D.int (lo + i)) else none) = _
      rw [if_pos h]
    rw [e]
    exact ⟨h, fun v H' hy => ⟨S1, hy.1.symm, g, rfl, .refl, hy.2⟩⟩
  · have e : (srcR lo n).get i S1.c = some none := by
      show some (if i < n then some (D.int (lo + i)) else none) = _
      rw [if_neg h]
    rw [e]
    exact Nat.le_of_not_lt h
def mRng1 (ma : ME) : MI := fun env c => (ma env c).bind fun d c => match d with
  | .int j => if -(2 ^ 62) ≤ j ∧ j < 2 ^ 62 then .ok (srcR 0 j.toNat) c else .stk
  | _ => .stk
theorem si_range1 {tg : Expr} {p : Pos} (hm : X.mg "range" = none) (ha : SE X W a ma) (hg : Gl X "range" := by rfl) (hs : starEach [a] X.env = [(false, eval a X.env)] := by rfl) : SI X W tg (.Call (.Name "range" p) [a] [] pos) (mRng1 ma) := by
  obtain ⟨t, pa, q⟩ := sa_cons ha (sa_nil (X := X) (W := W)) hs
  refine ⟨_, pi_range1 hg hm pa hs, fun S sg env Rv g en z => ?_⟩
  refine q S sg env _ g en ?_
  show PostG (wd X) S _ ((ma env S.c).bind fun d c => R.ok [d] c) _ _
  refine post_bind_ok z fun d S1 v g1 x1 a1 p1 => ?_
  split at p1
  · split at p1
    · rename_i h
      exact ⟨_, congrArg (fun v => [v]) a1, h.1, h.2, p1 S1 _ g1 rfl .refl itr_ok⟩
    · exact p1.elim
  · exact p1.elim
end
end Q
end
section
set_option Elab.async false
set_option linter.all false
set_option maxRecDepth 100000
namespace Q
open PySem PySem.Spec L2
variable [Tb]
open PyProof.Rows (envOfC)
/-! ### defs -/
abbrev FD := List D → Cells → R D
/-- a def that does what F says, called where no repr is under way -/
structure FnG (P : Program) (w : World) (K : PySem.W.Frag) (mg : Str → Option Value) (base : Heap) (k : Nat) (f : Addr) (fd : FuncData) (ps : List Str) (F : FD) : Prop where
  run : ∀ (A : Around) (l : List PySem.Env) (s : Shared) (S : Sta) (args : Args) (us : List Value) (vs : List V) (ds : List D) (Qv : VK) (E : XK), A.guards = some [] → Room k A → Env0 P w K mg base A l s S.H →
    BindsTo s fd args (ps.zip us) → Vals vs us → Good ⟨K, mg⟩ S → AtL ⟨K, mg⟩ S vs ds → ds.length = ps.length → Post ⟨K, mg⟩ S (F ds S.c) Qv E →
    codeAny (model P w) A (.call (.ref f) args) (CR (L2.CX P w) l P w S.H s Qv E) s
theorem FnG.mono {P : Program} {w : World} {K : PySem.W.Frag} {mg : Str → Option Value} {base : Heap} {j k : Nat} {f : Addr} {fd : FuncData} {ps : List Str} {F : FD} (h : FnG P w K mg base j f fd ps F) (le : j ≤ k) : FnG P w K mg base k f fd ps F :=
  ⟨fun A l s S args us vs ds Qv E hg hr => h.run A l s S args us vs ds Qv E hg (hr.mono le)⟩
/-- a def behaves as another function where that one is not stuck -/
theorem FnG.imp {P : Program} {w : World} {K : PySem.W.Frag} {mg : Str → Option Value} {base : Heap} {k : Nat} {f : Addr} {fd : FuncData} {ps : List Str} {F F' : FD} (h : FnG P w K mg base k f fd ps F) (le : ∀ ds c, F' ds c = .stk ∨ F ds c = F' ds c) : FnG P w K mg base k f fd ps F' :=
  ⟨fun A l s S args us vs ds Qv E hg hr he hb hv gd al hl p => by
    rcases le ds S.c with e | e
    · rw [e] at p
      exact p.elim
    · rw [← e] at p
      exact h.run A l s S args us vs ds Qv E hg hr he hb hv gd al hl p⟩
/-- what a body's outcome is for its caller -/
def RS.out (r : RS) : R D := match r with
  | .ok (.nx _) c => .ok .non c
  | .ok (.rt d) c => .ok d c
  | .ok _ _ => .stk
  | .err x _ c => .err x c
  | .stk => .stk
def enter (n : Nat) (ds : List D) : Env := ds.map some ++ List.replicate (n - ds.length) none
/-- the function of a body; n names -/
def bodyF (n : Nat) (k : MS) : FD := fun ds c => (k (enter n ds) c).out
theorem enter_at {T : Wd} {S : Sta} {N : List Str} {vs : List V} {ds : List D} (h : AtL T S vs ds) : EnvAt T S (L2.start N vs) (enter N.length ds) := by
  have hl := h.len
  refine ⟨by unfold L2.start enter; simp [hl], fun i d e => ?_⟩
  unfold enter at e
  by_cases hi : i < ds.length
  · rw [List.getElem?_append_left (by simpa using hi), List.getElem?_map] at e
    obtain ⟨d', e1, e2⟩ := Option.map_eq_some_iff.mp e
    cases e2
    obtain ⟨v, h1, h2⟩ := h.get e1
    refine ⟨v, ?_, h2⟩
    unfold L2.start
    rw [List.getElem?_append_left (by simpa [hl] using hi), List.getElem?_map, h1]
    rfl
  · rw [List.getElem?_append_right (by simpa using Nat.le_of_not_lt hi), List.getElem?_replicate] at e
    split at e <;> cases e
theorem post_out {T : Wd} {S : Sta} {r : RS} {Qv : VK} {E : XK} (h : Post T S r.out Qv E) : PostS T S r { nx := fun _ H' => Qv .non H', rt := Qv } (fun cl dd _ H => E cl dd H) := by
  match r, h with
  | .ok (.nx env) c, h => exact fun S' sg g hc x a => h S' .non g hc x rfl
  | .ok (.rt d) c, h => exact h
  | .ok (.bk env) c, h => exact h.elim
  | .ok (.ct env) c, h => exact h.elim
  | .err y env c, h => exact fun S' sg cls dd g hc x a z => h S' cls dd g hc x z
  | .stk, h => exact h
section
variable {P : Program} {w : World} {K : PySem.W.Frag} {mg : Str → Option Value} {base : Heap}
/-- the context of a def's body -/
abbrev Xf (P : Program) (w : World) (K : PySem.W.Frag) (mg : Str → Option Value) (base : Heap) (N : List Str) (qual : Str) (st : Stmt) (f : Addr) (cdv : Value) (A : Around) (l : List PySem.Env) (s : Shared) (H : Hp) (E : XK) : Cx :=
  cxOf (L2.CX P w) P w K mg base N qual (defScope st) f cdv A l s H E
abbrev WOf (E : XK) : WX := fun cl dd _ H => E cl dd H
/-- the rule: a def by its body -/
theorem fn_body {x qual : Str} {st : Stmt} {f : Addr} {fd : FuncData} {N ps : List Str} {k : Nat} {m : MS} (F : Fun K x qual st f fd) (Sc : FnScope N ps (defScope st))
    (hbody : ∀ cdv A l s H E, A.guards = some [] → Room k (Xf P w K mg base N qual st f cdv A l s H E).A → Takes (Xf P w K mg base N qual st f cdv A l s H E) (WOf E) →
      PassesOwn (model P w) (Xf P w K mg base N qual st f cdv A l s H E).A (Xf P w K mg base N qual st f cdv A l s H E).env (Xf P w K mg base N qual st f cdv A l s H E).xe →
      SB (Xf P w K mg base N qual st f cdv A l s H E) (WOf E) (defBody st) m) : FnG P w K mg base (k + 1) f fd ps (bodyF N.length m) := by
  obtain ⟨oc, od, kV, doc, pm, an, cdv, ct, osl, rfl, lk, hcd⟩ := F.ex
  refine ⟨fun A l s S args us vs ds Qv E hgd hr e0 hb rv gd al hl p => ?_⟩
  have hlen : vs.length = ps.length := al.len.trans hl
  have kk : ∀ y ∈ ps.zip us, (defScope st).names.lookup y.1 = some .local ∨ ((defScope st).names.lookup y.1 = some .cell ∧ ((cellsFrom (s.heap.objs.size + 1) (defScope st).names []).lookup y.1).isSome = true) := by
    intro y hy
    rcases Sc.par y.1 (List.of_mem_zip hy).1 with z | z
    · exact .inl z
    · exact .inr ⟨z, PySem.W.cellsFrom_some _ _ _ (.inl z)⟩
  have hK : K.In s.heap := e0.mod.kin.keeps fun b ob q => (e0.bs b ob q).1
  have hL : s.heap.NoLimit := e0.mod.nolimit.keeps fun b ob q => (e0.bs b ob q).1
  refine PySem.codeAny_call_function hr.depth (hK _ _ lk) rfl Sc.co Sc.gen rfl (PySem.W.codeRec_of hK hcd) (hb _ _ _ _ ?_)
  refine PySem.wpAny_newFunctionEnv_cells Sc.kind kk fun env he s1 xc => ?_
  subst he
  refine ⟨hL.keeps xc.toInCall.keep, codeAny_func ?_⟩
  have I : Inv (Xf P w K mg base N qual st f cdv A l s S.H E) [] (L2.start N vs) S.H s1 := inv_start Sc hr.hd e0 hlen rv xc
  have body := hbody cdv A l s S.H E hgd (hr.deeper _) (takes_of rfl rfl rfl rfl) (passes_of rfl)
  have run := body.run [] s1 (L2.start N vs) S.H { nx := fun _ H' => Qv .non H', rt := Qv } I ⟨S, enter N.length ds, rfl, gd, enter_at al, post_out p⟩
  refine wpAny_mono run (fun fl s' hs => ?_) fun e s' hs => hs
  have done : ∀ {sg : L2.St} {H' : Hp} {v : V} {u : Value}, Inv (Xf P w K mg base N qual st f cdv A l s S.H E) [] sg H' s' → RelV v u → Qv v H' → CE l P w S.H s Qv u s' := by
    intro sg H' v u J r q
    exact ⟨v, H', J.os, J.bare, J.base, J.hok, r, q⟩
  cases fl with
  | next =>
    obtain ⟨sg, H', J, q⟩ := hs
    exact done (v := .non) (u := .none) J rfl q
  | ret u =>
    obtain ⟨v, sg, H', J, r, q⟩ := hs
    exact done J r q
  | brk =>
    obtain ⟨_, _, _, q⟩ := hs
    exact q.elim
  | cont =>
    obtain ⟨_, _, _, q⟩ := hs
    exact q.elim
end
/-! ### calls of defs -/
section
variable {X : Cx} {W : WX} {e a b : Expr} {es : List Expr} {pos p : Pos} {ms : ML} {k : Nat} {f : Addr} {fd : FuncData} {ps : List Str} {F : FD} {x : Str}
def mFn (F : FD) (n : Nat) (ms : ML) : ME := fun env c => (ms env c).bind fun ds c => if ds.length = n then F ds c else .stk
/-- the callee runs, from a state -/
theorem run_g {pins : List (Addr × Obj)} {sg : L2.St} {S : Sta} {s : Shared} {Qv : VK} {us : List Value} {vs : List V} {ds : List D} {args : Args} (G : FnG X.prog X.w X.K X.mg X.base k f fd ps F) (hr : Room k X.A) (gd : X.A.guards = some []) (tk : Takes X W)
    (hb : BindsTo s fd args (ps.zip us)) (I : Inv X pins sg S.H s) (r : Vals vs us) (g : Good (wd X) S) (al : AtL (wd X) S vs ds) (hl : ds.length = ps.length) (h : Post (wd X) S (F ds S.c) Qv (WE W sg)) :
    codeAny (model X.prog X.w) X.A (.call (.ref f) args) (fun r s' => match r with
      | .ok (.ret v) => EP X pins sg Qv v s'
      | .error e => X.xe e s'
      | _ => False) s := by
  refine codeAny_mono (G.run X.A X.stack s S args us vs ds Qv (WE W sg) gd hr I.env0 hb r g al hl h) fun r s' hq => ?_
  cases r with
  | error e => exact tk _ _ (XE.of_call I (fun _ _ _ z => z) hq)
  | ok fl =>
    cases fl with
    | ret u => exact I.after hq
    | next => exact hq.elim
    | brk => exact hq.elim
    | cont => exact hq.elim
/-- f(e, ..): every parameter is written, or the rest are defaults dd -/
theorem se_fn {ds : List Value} {dvs : List V} {dd : List D} (G : FnG X.prog X.w X.K X.mg X.base k f fd ps F) (hr : Room k X.A) (gd : X.A.guards = some []) (tk : Takes X W) (hm : X.mg x = some (.ref f)) (hk : PySem.W.keepIn X.K (.ref f) = true) (hb : Binds X.K fd ps ds)
    (ha : SA X W (e :: es) ms) (hd : Vals dvs ds) (hdd : ∀ S, AtL (wd X) S dvs dd) (hg : Gl X x := by rfl) (hdb : (x == ("__debug__" : Str)) = false := by decide)
    (he : starEach (e :: es) X.env = (false, eval e X.env) :: starEach es X.env := by rfl) (hpl : (backTo pos (starEach es X.env)).any (·.1) = false := by rfl) :
    SE X W (.Call (.Name x p) (e :: es) [] pos) (mFn F ps.length fun env c => (ms env c).bind fun xs c => .ok (xs ++ dd) c) := by
  obtain ⟨t, pa, q⟩ := ha
  refine ⟨fun sg H Qv => ∃ S env, S.H = H ∧ Good (wd X) S ∧ EnvAt (wd X) S sg env ∧ Post (wd X) S (mFn F ps.length (fun env c => (ms env c).bind fun xs c => .ok (xs ++ dd) c) env S.c) Qv (WE W sg), ⟨fun pins s sg H Qv I h => ?_⟩, fun S sg env Qv g en z => ⟨S, env, rfl, g, en, z⟩⟩
  obtain ⟨S, env, rfl, g, en, z⟩ := h
  refine wpAny_Call_Name_kw (ld_glob I hg hm ?_ hdb)
  refine PySem.W.callWith_K (h₀ := X.base) I.ok.mod.kin hk (thn (pa.run pos pins s sg S.H (fun vs H1 => ∃ S1 xs, S1.H = H1 ∧ Good (wd X) S1 ∧ EnvAt (wd X) S1 sg env ∧ AtL (wd X) S1 vs xs ∧ Post (wd X) S1 (if (xs ++ dd).length = ps.length then F (xs ++ dd) S1.c else .stk) Qv (WE W sg)) I ?_) fun us s1 hh => ?_) he hpl
  · have z' : Post (wd X) S ((ms env S.c).bind fun xs c => if (xs ++ dd).length = ps.length then F (xs ++ dd) c else .stk) Qv (WE W sg) := by
      dsimp only [mFn] at z
      cases h : ms env S.c with
      | ok xs c => rw [h] at z; exact z
      | err y c => rw [h] at z; exact z
      | stk => rw [h] at z; exact z
    exact q S sg env _ g en (post_bind z' fun xs S1 vs e1 g1 x1 a1 p1 => ⟨S1, xs, rfl, g1, en.ext x1, a1, p1⟩)
  · obtain ⟨vs, H1, I1, r, S1, xs, rfl, g1, en1, a1, p1⟩ := hh
    refine ⟨I1.kIn, ?_⟩
    split at p1
    · rename_i hlen
      have al : AtL (wd X) S1 (vs ++ dvs) (xs ++ dd) := a1.append (hdd S1)
      have r2 : Vals (vs ++ dvs) (us ++ ds) := r.append hd
      have hl2 : (us ++ ds).length = ps.length := by rw [← r2.length, al.len]; exact hlen
      refine wpAny_call (codeAny_mono (run_g G hr gd tk (hb s1 us I1.kIn hl2) I1 r2 g1 al hlen p1) fun rr s' hq => ?_)
      match rr, hq with
      | .ok (.ret v), hq => exact hq
      | .error e, hq => exact hq
    · exact p1.elim
/-- every parameter is written -/
theorem se_fn0 (G : FnG X.prog X.w X.K X.mg X.base k f fd ps F) (hr : Room k X.A) (gd : X.A.guards = some []) (tk : Takes X W) (hm : X.mg x = some (.ref f)) (hk : PySem.W.keepIn X.K (.ref f) = true) (hb : Binds X.K fd ps [])
    (ha : SA X W (e :: es) ms) (hg : Gl X x := by rfl) (hdb : (x == ("__debug__" : Str)) = false := by decide)
    (he : starEach (e :: es) X.env = (false, eval e X.env) :: starEach es X.env := by rfl) (hpl : (backTo pos (starEach es X.env)).any (·.1) = false := by rfl) :
    SE X W (.Call (.Name x p) (e :: es) [] pos) (mFn F ps.length ms) := by
  obtain ⟨t, pa, q⟩ := se_fn (dd := []) (pos := pos) (p := p) G hr gd tk hm hk hb ha .nil (fun _ => trivial) hg hdb he hpl
  refine ⟨t, pa, fun S sg env Qv g en z => q S sg env Qv g en ?_⟩
  dsimp only [mFn] at z ⊢
  cases h : ms env S.c with
  | ok xs c =>
    rw [h] at z
    simp only [R.bind, List.append_nil] at z ⊢
    exact z
  | err y c => rw [h] at z; exact z
  | stk => rw [h] at z; exact z
end
end Q
end
section
set_option Elab.async false
set_option linter.all false
set_option maxRecDepth 100000
namespace Q
open PySem PySem.Spec L2
variable [Tb]
/-! ### readings in one form -/
def tE (T : Wd) (m : ME) (W : WX) : TE := fun sg H Qv => ∃ S env, S.H = H ∧ Good T S ∧ EnvAt T S sg env ∧ Post T S (m env S.c) Qv (WE W sg)
def tB1 (T : Wd) (m : MB) (W : WX) : TT := fun sg H Qv => ∃ S env, S.H = H ∧ Good T S ∧ EnvAt T S sg env ∧ PostG T S (relE Bool) (m env S.c) Qv (WE W sg)
abbrev WF : WX := fun _ _ _ _ => False
section
variable {X : Cx} {W : WX} {e a b tg iter elt : Expr} {es ifs : List Expr} {pos : Pos} {m : ME}
theorem SE.can (h : SE X W e m) : PE X e (tE (wd X) m W) := by
  obtain ⟨t, p, q⟩ := h
  refine ⟨fun pins s sg H Qv I z => ?_⟩
  obtain ⟨S, env, rfl, g, en, z⟩ := z
  exact p.run pins s sg S.H Qv I (q S sg env Qv g en z)
theorem ST.can {mt : MB} (h : ST X W e mt) : PT X e (tB1 (wd X) mt W) := by
  obtain ⟨t, p, q⟩ := h
  refine ⟨fun pins s sg H Qv I z => ?_⟩
  obtain ⟨S, env, rfl, g, en, z⟩ := z
  exact p.run pins s sg S.H Qv I (q S sg env Qv g en z)
theorem PTs.imp {t t' : TT} (h : PTs X ifs t) (i : ∀ s H Qv, t' s H Qv → t s H Qv) : PTs X ifs t' := ⟨fun pins s sg H Qv I q => h.run pins s sg H Qv I (i _ _ _ q)⟩
def bYes : MB := fun _ c => .ok true c
theorem st_yes : PTs X [] (tB1 (wd X) bYes W) := PTs.imp pts_nil fun sg H Qv ⟨S, env, e, g, en, z⟩ => by
  subst e
  exact z S true g rfl .refl rfl
theorem st_test {mt : MB} (h : ST X W e mt) : PTs X [e] (tB1 (wd X) mt W) := pts_one h.can
/-! ### targets of a comprehension -/
def wipeE (env : Env) : List Nat → Env
  | [] => env
  | v :: vs => (wipeE env vs).set v none
theorem EnvAt.none {T : Wd} {S : Sta} {sg : L2.St} {env : Env} (h : EnvAt T S sg env) (i : Nat) : EnvAt T S (sg.set i Option.none) (env.set i Option.none) := by
  refine ⟨by rw [List.length_set, List.length_set, h.len], fun j d q => ?_⟩
  by_cases hj : i = j
  · subst hj
    by_cases hl : i < env.length
    · rw [List.getElem?_set_self hl] at q
      cases q
    · rw [List.getElem?_eq_none (by rw [List.length_set]; omega)] at q
      cases q
  · rw [List.getElem?_set_ne hj] at q ⊢
    exact h.get j d q
theorem EnvAt.wipe {T : Wd} {S : Sta} {sg : L2.St} {env : Env} (h : EnvAt T S sg env) : ∀ vs : List Nat, EnvAt T S (L2.wipe sg vs) (wipeE env vs)
  | [] => h
  | v :: vs => (EnvAt.wipe h vs).none v
/-- a target that changes the slots vs alone -/
def tG (T : Wd) (g : MG) (vs : List Nat) : TG := fun v sg H Qv => ∃ S d env, S.H = H ∧ Good T S ∧ EnvAt T S sg env ∧ At T S v d ∧ match g d env S.c with
  | some (env', c') => ∀ S' sg', Good T S' → S'.c = c' → Ext T S S' → EnvAt T S' sg' env' → L2.wipe sg' vs = L2.wipe sg vs → Qv sg' S'.H
  | none => False
theorem PG.imp {t t' : TG} (h : PG X tg t) (i : ∀ v s H Qv, t' v s H Qv → t v s H Qv) : PG X tg t' := ⟨fun pins s sg H v u Qv I r q => h.run pins s sg H v u Qv I r (i _ _ _ _ q)⟩
theorem wipe_set (sg : L2.St) (o : Option V) : ∀ {vs : List Nat} {i : Nat}, i ∈ vs → L2.wipe (sg.set i o) vs = L2.wipe sg vs
  | v :: vs, i, h => by
    unfold L2.wipe
    by_cases hv : i ∈ vs
    · rw [wipe_set sg o hv]
    · have e : i = v := by
        rcases List.mem_cons.mp h with z | z
        · exact z
        · exact absurd z hv
      subst e
      have key : ∀ (ws : List Nat), i ∉ ws → L2.wipe (sg.set i o) ws = (L2.wipe sg ws).set i o := by
        intro ws
        induction ws with
        | nil => intro _; rfl
        | cons w ws ih =>
          intro hw
          unfold L2.wipe
          rw [ih fun z => hw (List.mem_cons_of_mem _ z), List.set_comm _ _ fun z => hw (by rw [z]; exact List.mem_cons_self)]
      rw [key vs hv, List.set_set]
theorem lg_name {i : Nat} {x : Str} {vs : List Nat} (hN : X.N.Nodup) (hv : i ∈ vs) (hi : X.N[i]? = some x := by rfl) (hx : Loc X.env.scope x := by first | exact Or.inl rfl | exact Or.inr rfl)
    (hf : X.fn x = true ∨ X.env.scope.names.lookup x = some .local := by first | exact .inl rfl | exact .inr rfl | assumption) : PG X (.Name x pos) (tG (wd X) (gN i) vs) :=
  PG.imp (pg_name hN hi hx hf) fun v sg H Qv ⟨S, d, env, e, g, en, a, z⟩ => by
    subst e
    exact z S _ g rfl .refl (en.set i a) (wipe_set sg _ hv)
/-- several -/
def tGs (T : Wd) (g : MGs) (vs : List Nat) : TGs := fun ws sg H Qv => ∃ S ds env, S.H = H ∧ Good T S ∧ EnvAt T S sg env ∧ AtL T S ws ds ∧ match g ds env S.c with
  | some (env', c') => ∀ S' sg', Good T S' → S'.c = c' → Ext T S S' → EnvAt T S' sg' env' → L2.wipe sg' vs = L2.wipe sg vs → Qv sg' S'.H
  | none => False
theorem PGs.imp {t t' : TGs} (h : PGs X es t) (i : ∀ v s H Qv, t' v s H Qv → t v s H Qv) : PGs X es t' := ⟨fun pins s sg H v u Qv I r q => h.run pins s sg H v u Qv I r (i _ _ _ _ q)⟩
theorem lgs_nil {vs : List Nat} : PGs X [] (tGs (wd X) gsNil vs) := PGs.imp pgs_nil fun ws sg H Qv ⟨S, ds, env, e, g, en, a, z⟩ => by
  subst e
  cases ds with
  | nil =>
    cases ws with
    | nil => exact ⟨rfl, z S sg g rfl .refl en rfl⟩
    | cons _ _ => exact a.elim
  | cons _ _ => exact z.elim
theorem lgs_cons {g : MG} {gs : MGs} {vs : List Nat} (h : PG X e (tG (wd X) g vs)) (h2 : PGs X es (tGs (wd X) gs vs)) (hs : (assignEach (e :: es) X.env).map (·.2) = assign e X.env :: (assignEach es X.env).map (·.2) := by rfl) : PGs X (e :: es) (tGs (wd X) (gsCons g gs) vs) :=
  PGs.imp (pgs_cons h h2 hs) fun ws sg H Qv ⟨S, ds, env, e0, gd, en, al, z⟩ => by
    subst e0
    cases ds with
    | nil => exact z.elim
    | cons d ds =>
      cases ws with
      | nil => exact al.elim
      | cons v ws =>
        obtain ⟨a1, a2⟩ : At (wd X) S v d ∧ AtL (wd X) S ws ds := al
        refine ⟨v, ws, rfl, S, d, env, rfl, gd, en, a1, ?_⟩
        have hz : gsCons g gs (d :: ds) env S.c = (g d env S.c).bind fun p => gs ds p.1 p.2 := rfl
        rw [hz] at z
        cases e1 : g d env S.c with
        | none =>
          rw [e1] at z
          exact z.elim
        | some r =>
          obtain ⟨env', c'⟩ := r
          rw [e1] at z
          have hz2 : ((some (env', c')).bind fun (p : Env × Cells) => gs ds p.1 p.2) = gs ds env' c' := rfl
          rw [hz2] at z
          intro S1 sg1 g1 hc x1 en1 w1
          subst hc
          refine ⟨S1, ds, env', rfl, g1, en1, x1.list a2, ?_⟩
          cases e2 : gs ds env' S1.c with
          | none =>
            rw [e2] at z
            exact z.elim
          | some r =>
            obtain ⟨env2, c2⟩ := r
            rw [e2] at z
            exact fun S2 sg2 g2 hc2 x2 en2 w2 => z S2 sg2 g2 hc2 (x1.trans x2) en2 (w2.trans w1)
theorem lg_tup {n k : Nat} {gs : MGs} {vs : List Nat} (hc : X.calm = true) (h : PGs X es (tGs (wd X) gs vs)) (hlen : ∀ ds env c r, gs ds env c = some r → ds.length = n) (hn : (assignEach es X.env).length = n := by rfl) (hst : (assignEach es X.env).findIdx? (·.1) = none := by rfl) : PG X (.Tuple es k pos) (tG (wd X) (gT gs) vs) :=
  PG.imp (pg_tup hc h hn hst) fun v sg H Qv ⟨S, d, env, e, g, en, a, z⟩ => by
    subst e
    unfold gT at z
    cases e0 : view S.c d with
    | none =>
      simp only [e0] at z
    | some r =>
      obtain ⟨t, ds⟩ := r
      simp only [e0] at z
      cases t with
      | tup =>
        obtain ⟨b, xs, rfl, h, l⟩ := view_at g a e0
        simp only at z
        refine ⟨b, xs, rfl, hold_T h, ?_, S, ds, env, rfl, g, en, l, z⟩
        rw [l.len]
        cases e2 : gs ds env S.c with
        | none =>
          rw [e2] at z
          exact z.elim
        | some r => exact hlen _ _ _ _ e2
      | _ => exact z.elim
theorem wipe_get (sg : L2.St) (i : Nat) : ∀ vs : List Nat, (L2.wipe sg vs)[i]? = if i ∈ vs then (sg[i]?).map (fun _ => Option.none) else sg[i]?
  | [] => by simp [L2.wipe]
  | v :: vs => by
    have ih := wipe_get sg i vs
    unfold L2.wipe
    by_cases h : v = i
    · subst h
      rw [if_pos (List.mem_cons_self)]
      by_cases hl : v < sg.length
      · rw [List.getElem?_set_self (by rw [L2.wipe_length]; exact hl), List.getElem?_eq_getElem hl]
        rfl
      · rw [List.getElem?_eq_none (by rw [List.length_set, L2.wipe_length]; omega), List.getElem?_eq_none (by omega)]
        rfl
    · rw [List.getElem?_set_ne h, ih]
      have e : (i ∈ v :: vs) ↔ i ∈ vs := by
        constructor
        · intro z
          rcases List.mem_cons.mp z with q | q
          · exact absurd q.symm h
          · exact q
        · exact List.mem_cons_of_mem _
      by_cases hm : i ∈ vs
      · rw [if_pos hm, if_pos (e.mpr hm)]
      · rw [if_neg hm, if_neg (fun z => hm (e.mp z))]
theorem wipe_twice (sg : L2.St) (vs : List Nat) : L2.wipe (L2.wipe sg vs) vs = L2.wipe sg vs := by
  refine List.ext_getElem? fun i => ?_
  rw [wipe_get, wipe_get]
  by_cases h : i ∈ vs
  · rw [if_pos h, if_pos h, Option.map_map]
    cases sg[i]? <;> rfl
  · rw [if_neg h, if_neg h]
/-! ### list comprehensions -/
def R.ne {a : Type} (r : R a) : R a := match r with
  | .ok d c => .ok d c
  | _ => .stk
def lcS (s : Src) (g : MG) (vs : List Nat) (tt : MB) (te : ME) (env0 : Env) : Nat → Nat → List D → Cells → R (List D)
  | 0, _, _, _ => .stk
  | n + 1, i, acc, c => match s.get i c with
    | none => .stk
    | some none => .ok acc c
    | some (some d) => match g d (wipeE env0 vs) c with
      | none => .stk
      | some (env1, c1) => (tt env1 c1).ne.bind fun b c2 => if b = true then ((te env1 c2).ne.bind fun y c3 => if acc.length < sizeLine then lcS s g vs tt te env0 n (i + 1) (acc ++ [y]) c3 else .stk) else lcS s g vs tt te env0 n (i + 1) acc c2
def lcEnd (C : Bool) (ds : List D) (c : Cells) : R D := if C then .ok (.cell c.length) (c ++ [(.lst, ds)]) else .ok (.lst ds) c
def mLc (C : Bool) (mi : MI) (g : MG) (vs : List Nat) (tt : MB) (te : ME) : ME := fun env c => (mi env c).bind fun s c => (lcS s g vs tt te env s.fuel 0 [] c).bind (lcEnd C)
theorem post_ne {a b a2 b2 : Type} {T : Wd} {S0 S : Sta} {rel : Sta → b → a → Prop} {rel2 : Sta → b2 → a2 → Prop} {r : R a} {k : a → Cells → R a2} {Qv : b2 → Hp → Prop} {Q2 : b → Hp → Prop} {E E2 : XK} (h : PostG T S0 rel2 (r.ne.bind k) Qv E)
    (h2 : ∀ d S1 v, Good T S1 → Ext T S S1 → rel S1 v d → PostG T S0 rel2 (k d S1.c) Qv E → Q2 v S1.H) : PostG T S rel r Q2 E2 := by
  cases r with
  | ok d c =>
    intro S1 v g hc x a
    subst hc
    exact h2 d S1 v g x a h
  | err x c => exact False.elim h
  | stk => exact False.elim h
theorem post_assoc {a b a2 a3 b3 : Type} {T : Wd} {S0 : Sta} {rel3 : Sta → b3 → a3 → Prop} {r : R a} {k : a → Cells → R a2} {k2 : a2 → Cells → R a3} {Qv : b3 → Hp → Prop} {E : XK} (h : PostG T S0 rel3 ((r.bind k).bind k2) Qv E) : PostG T S0 rel3 (r.bind fun d c => (k d c).bind k2) Qv E := by
  cases r with
  | ok d c => exact h
  | err x c => exact h
  | stk => exact h
theorem lc_run {C : Bool} {T : Wd} {wi : TI} {mi : MI} {g : MG} {vs : List Nat} {mt : MB} {me : ME} (hi : ∀ S sg env Rv, Good T S → EnvAt T S sg env → PostG T S (fun S' J s => ItOk T S' J s) (mi env S.c) Rv (WE W sg) → wi sg S.H Rv) :
    ∀ S sg env Qv, Good T S → EnvAt T S sg env → Post T S (mLc C mi g vs mt me env S.c) Qv (WE W sg) → tLc wi (tG T g vs) (tB1 T mt WF) (tE T me WF) vs sg S.H Qv := by
  intro S sg env Qv gd en z
  refine hi S sg env _ gd en (post_bind z fun s S0 J e1 g0 x0 io p0 => ?_)
  intro D0 hD
  refine ⟨fun i m H => ∃ S1 acc us, S1.H = H ∧ Good T S1 ∧ S1.x = D0 :: S0.x ∧ S1.H D0 = some (.lst us) ∧ AtL T S1 us acc ∧ Ext0 T S0 S1 ∧ Post T S0 ((lcS s g vs mt me env m i acc S1.c).bind (lcEnd C)) Qv (WE W sg), ⟨s.fuel, ?_⟩, ?_⟩
  · obtain ⟨g1, k1⟩ := g0.hide (o := .lst []) hD trivial
    exact ⟨S0.hide D0 (.lst []), [], [], rfl, g1, rfl, upd_same, trivial, ⟨List.prefix_refl _, k1, fun a ha => ⟨List.mem_cons_of_mem _ ha, by
      obtain ⟨_, u, e, _⟩ := g0.hid a ha
      exact upd_ne (ne_of_none e hD)⟩⟩, p0⟩
  · rintro i m H ⟨S1, acc, us, rfl, g1, hx, hD1, l1, x1, p1⟩
    cases m with
    | zero => exact p1.elim
    | succ m =>
      have it := io i S1 g1 x1
      unfold lcS at p1
      cases e2 : s.get i S1.c with
      | none =>
        simp only [e2] at p1
        exact p1.elim
      | some o =>
        simp only [e2] at p1 it
        cases o with
        | none =>
          refine .inl ⟨it, ?_⟩
          have nD : D0 ∉ S1.r := (g1.hid D0 (by rw [hx]; exact List.mem_cons_self)).1
          have nD0 : D0 ∉ S0.x := g0.freshX hD
          have sub : ∀ a ∈ S0.x, a ∈ S1.x := fun a ha => by rw [hx]; exact List.mem_cons_of_mem _ ha
          have g2 := g1.tell sub
          have x2 : Ext T S0 (S1.tell S0.x) := ⟨x1.pre, fun v d a => at_tell sub v d (x1.keep v d a), rfl, fun a ha => (x1.hid a ha).2⟩
          have l2 : AtL T (S1.tell S0.x) us acc := atL_of (at_tell sub) l1
          have p1 : Post T S0 (lcEnd C acc S1.c) Qv (WE W sg) := p1
          unfold lcEnd at p1
          cases C with
          | false => exact p1 (S1.tell S0.x) (.ref D0) g2 rfl x2 ⟨D0, us, rfl, .inl ⟨nD, nD0, hD1⟩, l2⟩
          | true =>
            -- the list becomes a cell
            obtain ⟨S3, hS3⟩ : ∃ S3 : Sta, S3 = ⟨S1.H, S1.r ++ [D0], S1.c ++ [(.lst, acc)], S0.x⟩ := ⟨_, rfl⟩
            have k3 : ∀ v d, At T S1 v d → At T S3 v d := by
              intro v d a
              subst hS3
              refine at_keep (S := S1) (S' := ⟨S1.H, S1.r ++ [D0], S1.c ++ [(.lst, acc)], S0.x⟩) (fun j b e => ?_) (fun b u n nx e _ => ⟨fun hm => ?_, fun hm => nx (sub b hm), e⟩) v d a
              · rw [List.getElem?_append_left (List.getElem?_eq_some_iff.mp e).1]
                exact e
              · rcases List.mem_append.mp hm with q | q
                · exact n q
                · have eb : b = D0 := by simpa using q
                  exact nx (by rw [eb, hx]; exact List.mem_cons_self)
            have g3 : Good T S3 := by
              subst hS3
              refine ⟨by simp [g1.len], ?_, fun a ha => ?_, fun j b cl hr hc => ?_, g1.tab⟩
              · rw [List.nodup_append]
                refine ⟨g1.nd, by simp, fun a ha b hb e => ?_⟩
                have eb : b = D0 := by simpa using hb
                rw [e, eb] at ha
                exact nD ha
              · obtain ⟨n, u, e, mu⟩ := g1.hid a (sub a ha)
                refine ⟨fun hm => ?_, u, e, mu⟩
                rcases List.mem_append.mp hm with q | q
                · exact n q
                · have eb : a = D0 := by simpa using q
                  exact nD0 (by rw [← eb]; exact ha)
              · by_cases hj : j < S1.r.length
                · have hr' : S1.r[j]? = some b := (List.getElem?_append_left hj).symm.trans hr
                  have hc' : S1.c[j]? = some cl := (List.getElem?_append_left (by rw [← g1.len]; exact hj)).symm.trans hc
                  obtain ⟨ys, hy, m', l'⟩ := g1.at' j b cl hr' hc'
                  exact ⟨ys, hy, m', atL_of k3 l'⟩
                · have hr2 : (S1.r ++ [D0])[j]? = some b := hr
                  have hc2 : (S1.c ++ [((.lst, acc) : Cl)])[j]? = some cl := hc
                  rw [List.getElem?_append_right (by omega)] at hr2
                  rw [List.getElem?_append_right (by rw [← g1.len]; omega)] at hc2
                  have e0 : j - S1.r.length = 0 := by
                    cases k : j - S1.r.length with
                    | zero => rfl
                    | succ k' => rw [k] at hr2; simp at hr2
                  have e1 : j - S1.c.length = 0 := by rw [← g1.len]; exact e0
                  rw [e0] at hr2
                  rw [e1] at hc2
                  have ea : D0 = b := by simpa using hr2
                  have ec : (.lst, acc) = cl := by simpa using hc2
                  subst ea ec
                  exact ⟨us, hD1, by rw [hD1]; trivial, atL_of k3 l1⟩
            have ec3 : S3.c = S1.c ++ [(.lst, acc)] := by rw [hS3]
            have eH3 : S3.H = S1.H := by rw [hS3]
            have x3 : Ext T S0 S3 := by
              refine ⟨?_, fun v d a => k3 v d (x1.keep v d a), by rw [hS3], fun a ha => by rw [eH3]; exact (x1.hid a ha).2⟩
              rw [hS3]
              exact x1.pre.trans ⟨[D0], rfl⟩
            have q := p1 S3 (.ref D0) g3 ec3 x3 ⟨D0, rfl, by
              rw [hS3, ← g1.len, List.getElem?_append_right (Nat.le_refl _), Nat.sub_self]
              rfl⟩
            rw [eH3] at q
            exact q
        | some d =>
          obtain ⟨i1, i2⟩ := it
          refine .inr ⟨i1, fun H' => ∃ S1 acc us, S1.H = H' ∧ Good T S1 ∧ S1.x = D0 :: S0.x ∧ S1.H D0 = some (.lst us) ∧ AtL T S1 us acc ∧ Ext0 T S0 S1 ∧ Post T S0 ((lcS s g vs mt me env m (i + 1) acc S1.c).bind (lcEnd C)) Qv (WE W sg), fun H' h => ⟨m, Nat.lt_succ_self m, h⟩, fun v H' hy => ?_⟩
          obtain ⟨S2, rfl, g2, ec, x2, a2⟩ := i2 v H' hy
          simp only at p1
          have en2 : EnvAt T S2 (L2.wipe sg vs) (wipeE env vs) := (((en.ext x0).zero x1).ext x2).wipe vs
          refine ⟨S2, d, wipeE env vs, rfl, g2, en2, a2, ?_⟩
          rw [ec]
          cases e3 : g d (wipeE env vs) S1.c with
          | none =>
            simp only [e3] at p1
            exact p1.elim
          | some r =>
            obtain ⟨env1, c1⟩ := r
            simp only [e3] at p1
            intro S3 sg3 g3 hc3 x3 en3 w3
            subst hc3
            refine ⟨by
              have idem : ∀ (ws : List Nat), L2.wipe (L2.wipe sg vs) ws = L2.wipe (L2.wipe sg vs) ws := fun _ => rfl
              rw [w3]
              exact wipe_twice sg vs, S3, env1, rfl, g3, en3, ?_⟩
            refine post_ne (post_assoc (b := Bool) (a2 := List D) p1) fun bb S4 vb g4 x4 eb p4 => ?_
            cases eb
            have hid : ∀ {S' : Sta}, Ext T S1 S' → S'.x = D0 :: S0.x ∧ S'.H D0 = some (.lst us) ∧ AtL T S' us acc ∧ Ext0 T S0 S' := fun {S'} x => ⟨x.hx.trans hx, (x.hh D0 (by rw [hx]; exact List.mem_cons_self)).trans hD1, x.list l1, x1.trans x.zero⟩
            cases bb with
            | false =>
              refine iteF ?_
              obtain ⟨q1, q2, q3, q4⟩ := hid ((x2.trans x3).trans x4)
              exact ⟨S4, acc, us, rfl, g4, q1, q2, q3, q4, p4⟩
            | true =>
              refine iteT ⟨S4, env1, rfl, g4, en3.ext x4, ?_⟩
              refine post_ne (post_assoc (b := D) (a2 := List D) p4) fun y S5 vy g5 x5 ay p5 => ?_
              obtain ⟨q1, q2, q3, q4⟩ := hid (((x2.trans x3).trans x4).trans x5)
              split at p5
              · rename_i hl
                refine ⟨us, q2, by rw [q3.len]; exact hl, ?_⟩
                obtain ⟨g6, k6⟩ := g5.seth (o := .lst (us ++ [vy])) (p := D0) (by rw [q1]; exact List.mem_cons_self) trivial
                refine ⟨S5.seth D0 (.lst (us ++ [vy])), acc ++ [y], us ++ [vy], rfl, g6, q1, upd_same, (atL_of k6 q3).append ⟨k6 _ _ ay, trivial⟩, ⟨q4.pre, fun v d a => k6 v d (q4.keep v d a), fun a ha => ⟨(q4.hid a ha).1, ?_⟩⟩, p5⟩
                have ne : a ≠ D0 := fun z => g0.freshX hD (by rw [← z]; exact ha)
                exact (upd_ne ne).trans (q4.hid a ha).2
              · exact p5.elim
/-- [elt for tg in iter if ..]; C: a cell -/
theorem se_lc {C : Bool} {scope : Scope} {own : List (Str × Nat)} {mi : MI} {g : MG} {mt : MB} {me : ME} (hc : X.calm = true) (hN : X.N.Nodup) (hi : SI X W tg iter mi) (ok : BlkOk X.N X.env.scope scope own)
    (hg : ∀ (s : Shared) (H : Hp) (Ca : Addr) (cl : List (Str × Addr)) (fp : List Addr), PG (X.blk s H scope (compEnvC scope cl Ca X.env) fp) tg (tG (wd X) g (own.map (·.2))))
    (ht : ∀ (s : Shared) (H : Hp) (Ca : Addr) (cl : List (Str × Addr)) (fp : List Addr), PTs (X.blk s H scope (compEnvC scope cl Ca X.env) fp) ifs (tB1 (wd X) mt WF))
    (he : ∀ (s : Shared) (H : Hp) (Ca : Addr) (cl : List (Str × Addr)) (fp : List Addr), SE (X.blk s H scope (compEnvC scope cl Ca X.env) fp) WF elt me) (hs : ∀ x, foldedSetIterable iter X.env x = pure x := by intro _; rfl) :
    SE X W (.ListComp elt [⟨tg, iter, ifs, 0⟩] scope pos) (mLc C mi g (own.map (·.2)) mt me) := by
  obtain ⟨t, p, q⟩ := hi
  exact ⟨_, pe_lc (te := tE (wd X) me WF) hc hN p ok hg ht (fun s H Ca cl fp => (he s H Ca cl fp).can) hs, lc_run q⟩
/-- name = [..] -/
theorem ss_setLc {C : Bool} {i : Nat} {y : Str} {py spos : Pos} {scope : Scope} {own : List (Str × Nat)} {mi : MI} {g : MG} {mt : MB} {me : ME} (hc : X.calm = true) (hN : X.N.Nodup) (hi : SI X W tg iter mi) (ok : BlkOk X.N X.env.scope scope own)
    (hg : ∀ (s : Shared) (H : Hp) (Ca : Addr) (cl : List (Str × Addr)) (fp : List Addr), PG (X.blk s H scope (compEnvC scope cl Ca X.env) fp) tg (tG (wd X) g (own.map (·.2))))
    (ht : ∀ (s : Shared) (H : Hp) (Ca : Addr) (cl : List (Str × Addr)) (fp : List Addr), PTs (X.blk s H scope (compEnvC scope cl Ca X.env) fp) ifs (tB1 (wd X) mt WF))
    (he : ∀ (s : Shared) (H : Hp) (Ca : Addr) (cl : List (Str × Addr)) (fp : List Addr), SE (X.blk s H scope (compEnvC scope cl Ca X.env) fp) WF elt me) (hy : X.N[i]? = some y := by rfl) (hyl : X.env.scope.names.lookup y = some .local := by rfl)
    (hsw : swapsWith (.ListComp elt [⟨tg, iter, ifs, 0⟩] scope pos) (some (.Name y py)) spos.line X.env = pure true := by exact sw_true rfl rfl rfl (by decide +kernel)) (hs : ∀ x, foldedSetIterable iter X.env x = pure x := by intro _; rfl) :
    SS X W (.Assign [.Name y py] (.ListComp elt [⟨tg, iter, ifs, 0⟩] scope pos) spos) (sSet i (mLc C mi g (own.map (·.2)) mt me)) := by
  obtain ⟨t, p, q⟩ := hi
  refine PS.imp (ps_setLc (te := tE (wd X) me WF) hc hN hy hyl hsw p ok hg ht (fun s H Ca cl fp => (he s H Ca cl fp).can) hs) fun D sg H ⟨S, env, e, gd, en, z⟩ => ?_
  subst e
  exact lc_run q S sg env _ gd en (post_st z en fun d S1 v e1 g1 x1 a1 p1 => p1 S1 _ g1 rfl .refl ((en.ext x1).set i a1))
end
end Q
end
section
set_option Elab.async false
set_option linter.all false
set_option maxRecDepth 100000
namespace Q
open PySem PySem.Spec L2
variable [Tb]
open PyProof.V (PairsRead reads_dictOf)
/-! ### repr of data -/
def kPy : Key → PyData
  | .inl i => .int i
  | .inr x => .str x
mutual
def pyrW (f : Nat → Option PyData) : D → Option PyData
  | .non => some .none
  | .bl b => some (.bool b)
  | .int i => some (.int i)
  | .str x => some (.str x)
  | .cell i => f i
  | .fn _ _ _ _ _ => none
  | .nod t ds => match t with
    | .lst => (pyrL f ds).map .list
    | .tup => (pyrL f ds).map .tuple
    | .dic ks => (pyrL f ds).map fun ps => .dict ((ks.map kPy).zip ps)
    | _ => none
def pyrL (f : Nat → Option PyData) : List D → Option (List PyData)
  | [] => some []
  | d :: ds => match pyrW f d, pyrL f ds with
    | some p, some ps => some (p :: ps)
    | _, _ => none
end
def pyrC (c : Cells) : Nat → Nat → Option PyData
  | 0, _ => none
  | k + 1, i => match c[i]? with
    | some (t, ds) => pyrW (pyrC c k) (.nod t ds)
    | none => none
def pyr (c : Cells) (d : D) : Option PyData := pyrW (pyrC c 6) d
/-- sys.modules stands where it always stands -/
def SysIn (h : Heap) : Prop := ∃ o, h.get? sysModules = some o
section
variable {X : Cx} {pins : List (Addr × Obj)} {sg : L2.St} {S : Sta} {s : Shared}
theorem not_sys (I : Inv X pins sg S.H s) (hs : SysIn X.base) {a : Addr} {o : HO} (h : S.H a = some o) : a ≠ sysModules := fun e => by
  obtain ⟨ob, q⟩ := hs
  have n := (I.bs _ _ q).2
  rw [← e, h] at n
  cases n
/-- a node of an object that stands at a -/
def NodR (X : Cx) (S : Sta) (s : Shared) (t : Tg) (ds : List D) (p : PyData) : Prop := ∀ (a : Addr) (xs : List V), (Hold (wd X) S.H a xs t ∨ HoldK (wd X) a xs t) → AtL (wd X) S xs ds → ∃ as, Reads s.heap (.ref a) p as ∧ sysModules ∉ as
theorem nod_reads (I : Inv X pins sg S.H s) (hs : SysIn X.base) {f : Nat → Option PyData} {t : Tg} {ds : List D} {p : PyData} (e : pyrW f (.nod t ds) = some p)
    (hl : ∀ ps xs us, pyrL f ds = some ps → AtL (wd X) S xs ds → Vals xs us → ∃ as, ReadsAll s.heap us ps as ∧ sysModules ∉ as)
    (hp : ∀ ps xs (ks : List Key) vs, pyrL f ds = some ps → AtL (wd X) S xs ds → KV (ks.zip xs) vs → ks.length = xs.length → ∃ bs, PairsRead s.heap kPy vs ((ks.map kPy).zip ps) bs ∧ sysModules ∉ bs) : NodR X S s t ds p := by
  intro a xs h l
  cases t with
  | lst =>
    obtain ⟨ps, e1, rfl⟩ := Option.map_eq_some_iff.mp (show (pyrL f ds).map PyData.list = some p from e)
    have ha := hold_L h
    obtain ⟨its, rv, ⟨o, n, ho, hc, _, hd⟩, _⟩ := I.list (.of ha)
    obtain ⟨as, r, q⟩ := hl ps xs its e1 l rv
    refine ⟨_, Reads.list ho hc hd r, fun hm => ?_⟩
    rcases List.mem_cons.mp hm with z | z
    · exact not_sys I hs ha z.symm
    · exact q z
  | tup =>
    obtain ⟨ps, e1, rfl⟩ := Option.map_eq_some_iff.mp (show (pyrL f ds).map PyData.tuple = some p from e)
    obtain ⟨its, rv, ⟨o, ho, hc, n, hd⟩, _⟩ := I.tuple (hold_T h)
    obtain ⟨as, r, q⟩ := hl ps xs its e1 l rv
    exact ⟨_, Reads.tuple ho hc hd r, q⟩
  | dic ks =>
    obtain ⟨ps, e1, rfl⟩ := Option.map_eq_some_iff.mp (show ((pyrL f ds).map fun ps => PyData.dict ((ks.map kPy).zip ps)) = some p from e)
    rcases h with ⟨hz, h⟩ | h
    · obtain ⟨_, _, vs, kv, dd⟩ := dk_of I.hok h
      obtain ⟨bs, r, q⟩ := hp ps xs ks vs e1 l kv hz
      refine ⟨_, reads_dictOf (fun k key hk => ?_) dd r, fun hm => ?_⟩
      · rcases keyIs_shape (k := k) (v := key) hk with ⟨i, t, rfl, rfl⟩ | ⟨x, t, rfl, rfl⟩
        · exact Reads.int i t
        · exact Reads.str x t
      · rcases List.mem_cons.mp hm with z | z
        · exact not_sys I hs h z.symm
        · exact q z
    · exact h.elim
  | frl => exact nomatch (show none = some p from e)
  | dit ks => exact nomatch (show none = some p from e)
  | xdc ks => exact nomatch (show none = some p from e)
  | obj C ks => exact nomatch (show none = some p from e)
mutual
theorem pyrW_reads (I : Inv X pins sg S.H s) (g : Good (wd X) S) (hs : SysIn X.base) {f : Nat → Option PyData} (hf : ∀ i p v u, f i = some p → At (wd X) S v (.cell i) → RelV v u → ∃ as, Reads s.heap u p as ∧ sysModules ∉ as) :
    ∀ (d : D) (p : PyData) (v : V) (u : Value), pyrW f d = some p → At (wd X) S v d → RelV v u → ∃ as, Reads s.heap u p as ∧ sysModules ∉ as
  | .non, p, v, u, e, a, r => by
    cases e
    cases (show v = .non from a)
    cases r
    exact ⟨_, Reads.none, by simp⟩
  | .bl b, p, v, u, e, a, r => by
    cases e
    cases (show v = .bl b from a)
    cases r
    exact ⟨_, Reads.bool b, by simp⟩
  | .int i, p, v, u, e, a, r => by
    cases e
    cases (show v = .int i from a)
    obtain ⟨t, rfl⟩ := r
    exact ⟨_, Reads.int i t, by simp⟩
  | .str x, p, v, u, e, a, r => by
    cases e
    cases (show v = .str x from a)
    obtain ⟨t, rfl⟩ := r
    exact ⟨_, Reads.str x t, by simp⟩
  | .cell i, p, v, u, e, a, r => hf i p v u e a r
  | .fn _ _ _ _ _, p, v, u, e, a, r => by cases e
  | .nod t ds, p, v, u, e, a, r => by
    obtain ⟨b, xs, rfl, h, l⟩ := view_at g a (show view S.c (.nod t ds) = some (t, ds) from rfl)
    cases r
    exact nod_reads I hs e (fun ps xs us e1 l rv => pyrL_reads I g hs hf ds ps xs us e1 l rv) (fun ps xs ks vs e1 l kv hz => pyrP_reads I g hs hf ds ps xs ks vs e1 l kv hz) b xs h l
theorem pyrL_reads (I : Inv X pins sg S.H s) (g : Good (wd X) S) (hs : SysIn X.base) {f : Nat → Option PyData} (hf : ∀ i p v u, f i = some p → At (wd X) S v (.cell i) → RelV v u → ∃ as, Reads s.heap u p as ∧ sysModules ∉ as) :
    ∀ (ds : List D) (ps : List PyData) (xs : List V) (us : List Value), pyrL f ds = some ps → AtL (wd X) S xs ds → Vals xs us → ∃ as, ReadsAll s.heap us ps as ∧ sysModules ∉ as
  | [], ps, [], us, e, _, rv => by
    cases e
    cases rv
    exact ⟨_, ReadsAll.nil, by simp⟩
  | d :: ds, ps, x :: xs, us, e, a, rv => by
    obtain ⟨a1, a2⟩ : At (wd X) S x d ∧ AtL (wd X) S xs ds := a
    cases rv with
    | cons r1 r2 =>
      unfold pyrL at e
      split at e
      · rename_i p ps' e1 e2
        cases e
        obtain ⟨as, q1, n1⟩ := pyrW_reads I g hs hf d p x _ e1 a1 r1
        obtain ⟨bs, q2, n2⟩ := pyrL_reads I g hs hf ds ps' xs _ e2 a2 r2
        exact ⟨_, ReadsAll.cons q1 q2, fun hm => (List.mem_append.mp hm).elim n1 n2⟩
      · cases e
  | [], _, _ :: _, _, _, a, _ => a.elim
  | _ :: _, _, [], _, _, a, _ => a.elim
theorem pyrP_reads (I : Inv X pins sg S.H s) (g : Good (wd X) S) (hs : SysIn X.base) {f : Nat → Option PyData} (hf : ∀ i p v u, f i = some p → At (wd X) S v (.cell i) → RelV v u → ∃ as, Reads s.heap u p as ∧ sysModules ∉ as) :
    ∀ (ds : List D) (ps : List PyData) (xs : List V) (ks : List Key) (vs : List (Key × Value)), pyrL f ds = some ps → AtL (wd X) S xs ds → KV (ks.zip xs) vs → ks.length = xs.length → ∃ bs, PairsRead s.heap kPy vs ((ks.map kPy).zip ps) bs ∧ sysModules ∉ bs
  | [], ps, [], ks, vs, e, _, kv, hz => by
    cases e
    cases ks with
    | nil =>
      cases kv
      exact ⟨_, PairsRead.nil, by simp⟩
    | cons _ _ => simp at hz
  | d :: ds, ps, x :: xs, ks, vs, e, a, kv, hz => by
    obtain ⟨a1, a2⟩ : At (wd X) S x d ∧ AtL (wd X) S xs ds := a
    cases ks with
    | nil => simp at hz
    | cons k ks =>
      unfold pyrL at e
      split at e
      · rename_i p ps' e1 e2
        cases e
        have kv : KV ((k, x) :: ks.zip xs) vs := kv
        cases kv with
        | cons r1 r2 =>
          rename_i kv' vs'
          obtain ⟨k', u'⟩ := kv'
          obtain ⟨rk, ru⟩ := r1
          have ek : k = k' := rk
          subst ek
          obtain ⟨as, q1, n1⟩ := pyrW_reads I g hs hf d p x u' e1 a1 ru
          obtain ⟨bs, q2, n2⟩ := pyrP_reads I g hs hf ds ps' xs ks _ e2 a2 r2 (by simpa using hz)
          exact ⟨_, PairsRead.cons q1 q2, fun hm => (List.mem_append.mp hm).elim n1 n2⟩
      · cases e
  | [], _, _ :: _, _, _, _, a, _, _ => a.elim
  | _ :: _, _, [], _, _, _, a, _, _ => a.elim
end
theorem pyrC_reads (I : Inv X pins sg S.H s) (g : Good (wd X) S) (hs : SysIn X.base) : ∀ (k i : Nat) (p : PyData) (v : V) (u : Value), pyrC S.c k i = some p → At (wd X) S v (.cell i) → RelV v u → ∃ as, Reads s.heap u p as ∧ sysModules ∉ as
  | 0, i, p, v, u, e, _, _ => by cases e
  | k + 1, i, p, v, u, e, a, r => by
    unfold pyrC at e
    split at e
    · rename_i t ds e0
      obtain ⟨b, xs, rfl, h, l⟩ := view_at g a (show view S.c (.cell i) = some (t, ds) from e0)
      cases r
      exact nod_reads I hs e (fun ps xs us e1 l rv => pyrL_reads I g hs (pyrC_reads I g hs k) ds ps xs us e1 l rv) (fun ps xs ks vs e1 l kv hz => pyrP_reads I g hs (pyrC_reads I g hs k) ds ps xs ks vs e1 l kv hz) b xs h l
    · cases e
theorem pyr_reads (I : Inv X pins sg S.H s) (g : Good (wd X) S) (hs : SysIn X.base) {d : D} {p : PyData} {v : V} {u : Value} (e : pyr S.c d = some p) (a : At (wd X) S v d) (r : RelV v u) : ∃ as, Reads s.heap u p as ∧ sysModules ∉ as :=
  pyrW_reads I g hs (pyrC_reads I g hs 6) d p v u e a r
end
/-- a built-in's rule, told over states -/
theorem CaF.mk {X : Cx} {fn : Value} {f : List D → Cells → O} (h : ∀ (pins : List (Addr × Obj)) (s : Shared) (sg : L2.St) (S : Sta) (xs : List V) (us : List Value) (ds : List D) (d : D) (c : Cells) (Qv : VK), Inv X pins sg S.H s → Vals xs us → Good (wd X) S → AtL (wd X) S xs ds → f ds S.c = some (d, c) →
    (∀ S' v, Good (wd X) S' → S'.c = c → Ext (wd X) S S' → At (wd X) S' v d → Qv v S'.H) → wpAny (model X.prog X.w) X.A (call fn us) (EP X pins sg Qv) X.xe s) : CaF X fn f := by
  refine ⟨fun xs H Qv => ∃ S ds, S.H = H ∧ Good (wd X) S ∧ AtL (wd X) S xs ds ∧ PostO (wd X) S (f ds S.c) Qv, fun pins s sg H xs us Qv I r q => ?_, fun S xs ds Qv g al p => ⟨S, ds, rfl, g, al, p⟩⟩
  obtain ⟨S, ds, rfl, g, al, p⟩ := q
  obtain ⟨d, c, e, q⟩ := p.some
  exact h pins s sg S xs us ds d c Qv I r g al e q
def bRepr : List D → Cells → O
  | [d], c => match pyr c d with
    | some p => if p.showable && decide (p.depth ≤ 60) && decide (p.shown.length ≤ sizeLine) then some (.str p.shown, c) else none
    | none => none
  | _, _ => none
theorem bRepr_ok {X : Cx} {k : Nat} (hr : Room k X.A) (gd : X.A.guards = some []) (hs : SysIn X.base) : CaF X (.builtin "repr") bRepr := by
  refine CaF.mk fun pins s sg S xs us ds d c Qv I r g al e q => ?_
  unfold bRepr at e
  split at e
  · rename_i d0 c0
    obtain ⟨v, rfl, a⟩ := al.one
    obtain ⟨u, rfl, ru⟩ := vals1 r
    split at e
    · rename_i p e1
      split at e
      · rename_i hz
        rw [Bool.and_eq_true, Bool.and_eq_true] at hz
        obtain ⟨⟨hsh, hd⟩, hl⟩ := hz
        have hd := of_decide_eq_true hd
        have hl := of_decide_eq_true hl
        cases e
        obtain ⟨as, rd, ns⟩ := pyr_reads I g hs e1 a ru
        have fin : ∀ {s' : Shared} {tk : Tok}, Inv X pins sg S.H s' → EP X pins sg Qv (.str p.shown tk) s' := fun I' => ⟨.str p.shown, S.H, I', ⟨_, rfl⟩, q S _ g rfl .refl rfl⟩
        cases rd with
        | none => exact PySem.P.repr_of_none (fin (I.tok _))
        | bool b => exact PySem.P.repr_of_bool (fin (I.tok _))
        | int i t => exact PySem.P.repr_of_int (of_decide_eq_true hsh) (fin (I.tok _))
        | str x t => exact PySem.P.repr_of_str (fin (I.tok _)) hl
        | list h1 h2 h3 h4 =>
          refine repr_of_reads' (h₀ := s.heap) (Reads.list h1 h2 h3 h4) hsh (fun _ => ns) gd (by have := hr.units; omega) (fun _ _ z => z) (fun h' t tk hk => fin (I.kept hk)) hl
        | tuple h1 h2 h3 h4 =>
          refine repr_of_reads' (h₀ := s.heap) (Reads.tuple h1 h2 h3 h4) hsh (fun _ => ns) gd (by have := hr.units; omega) (fun _ _ z => z) (fun h' t tk hk => fin (I.kept hk)) hl
        | dict h1 h2 h3 h4 h5 =>
          refine repr_of_reads' (h₀ := s.heap) (Reads.dict h1 h2 h3 h4 h5) hsh (fun _ => ns) gd (by have := hr.units; omega) (fun _ _ z => z) (fun h' t tk hk => fin (I.kept hk)) hl
      · cases e
    · cases e
  · cases e
end Q
end
section
set_option Elab.async false
set_option linter.all false
set_option maxRecDepth 100000
namespace Q
open PySem PySem.Spec L2
variable [Tb]
section
variable {X : Cx} {W : WX} {e a b c o i f : Expr} {es : List Expr} {pos apos cpos : Pos} {m ma mb mc mo mi mf : ME} {ms : ML}
/-! ### methods of built-in types -/
def isTy (T : String) (c : Cells) (d : D) : Bool := match d with
  | .str _ => decide (T = "str")
  | .int _ => decide (T = "int")
  | d => match view c d with
    | some (.lst, _) => decide (T = "list")
    | some (.frl, _) => decide (T = "list")
    | some (.dic _, _) => decide (T = "dict")
    | _ => false
theorem isTy_at {Ty : String} {S : Sta} {v : V} {d : D} (g : Good (wd X) S) (h : isTy Ty S.c d = true) (a : At (wd X) S v d) : tyV X.K Ty v S.H := by
  have obj : (match view S.c d with
    | some (.lst, _) => decide (Ty = "list")
    | some (.frl, _) => decide (Ty = "list")
    | some (.dic _, _) => decide (Ty = "dict")
    | _ => false) = true → tyV X.K Ty v S.H := fun h => by
    split at h
    · rename_i ds e0
      obtain ⟨b, xs, rfl, h1, l⟩ := view_at g a e0
      exact .inl ⟨of_decide_eq_true h, xs, .of (hold_L h1)⟩
    · rename_i ds e0
      obtain ⟨b, xs, rfl, h1, l⟩ := view_at g a e0
      exact .inl ⟨of_decide_eq_true h, xs, hold_F h1⟩
    · rename_i ks ds e0
      obtain ⟨b, xs, rfl, h1, l⟩ := view_at g a e0
      rcases h1 with ⟨_, h1⟩ | h1
      · exact .inr (.inr (.inl ⟨of_decide_eq_true h, .inl ⟨_, h1⟩⟩))
      · exact h1.elim
    · cases h
  cases d with
  | str z => cases (show v = _ from a); exact (show Ty = "str" from of_decide_eq_true h)
  | int z => cases (show v = _ from a); exact (show Ty = "int" from of_decide_eq_true h)
  | non => cases h
  | bl z => cases h
  | cell i => exact obj h
  | fn _ _ _ _ _ => cases h
  | nod t ds => exact obj h
abbrev FM := D → List D → Cells → O
def MeF (X : Cx) (id : String) (f : FM) : Prop := ∃ r, MtR X id r ∧ ∀ S x xs d ds Qv, Good (wd X) S → At (wd X) S x d → AtL (wd X) S xs ds → PostO (wd X) S (f d ds S.c) Qv → r x xs S.H Qv
def mMe (T : String) (f : FM) (mo : ME) (ms : ML) : ME := fun env c => (mo env c).bind fun d c => if isTy T c d = true then (ms env c).bind fun ds c => (f d ds c).r else .stk
theorem se_me {T id : String} {name : Str} {fm : FM} (pa : PlainAttrs T) (slot : Slot T name id) (hty : typeOf (.builtin id) = pure (.type "method_descriptor")) (hm : MeF X id fm) (ho : SE X W o mo) (ha : SA X W (e :: es) ms)
    (hbase : attributeBase o name X.env (eval o X.env) = eval o X.env := by rfl)
    (hfew : ((backTo cpos (starEach (e :: es) X.env)).all (fun x => !x.1) && (backToKw cpos (keywordEach [] X.env)).all (fun x => x.1.isSome)
      && decide ((e :: es).length + ([] : List Keyword).length + (if ([] : List Keyword).isEmpty then 0 else 1) < 30)) = true := by rfl)
    (hline : (apos.endLine == cpos.line) = true := by rfl) (hs : starEach (e :: es) X.env = (false, eval e X.env) :: starEach es X.env := by rfl) (hplain : (backTo cpos (starEach es X.env)).any (·.1) = false := by rfl) :
    SE X W (.Call (.Attribute o name apos) (e :: es) [] cpos) (mMe T fm mo ms) := by
  obtain ⟨r, h1, h2⟩ := hm
  obtain ⟨to, po, qo⟩ := ho
  obtain ⟨t, p, q⟩ := ha
  refine ⟨_, pe_bm pa slot hty h1 po p hbase hfew hline hs hplain, fun S sg env Qv g en z => ?_⟩
  refine qo S sg env _ g en (post_bind z fun d S1 v e1 g1 x1 a1 p1 => ?_)
  split at p1
  · rename_i ht
    refine ⟨isTy_at g1 ht a1, q S1 sg env _ g1 (en.ext x1) (post_bind p1 fun ds S2 vs e2 g2 x2 a2 p2 => ?_)⟩
    exact h2 S2 v vs d ds Qv g2 (x2.keep _ _ a1) a2 p2.o
  · exact p1.elim
theorem se_me0 {T id : String} {name : Str} {fm : FM} (pa : PlainAttrs T) (slot : Slot T name id) (hty : typeOf (.builtin id) = pure (.type "method_descriptor")) (hm : MeF X id fm) (ho : SE X W o mo)
    (hbase : attributeBase o name X.env (eval o X.env) = eval o X.env := by rfl) (hline : (apos.endLine == cpos.line) = true := by rfl) : SE X W (.Call (.Attribute o name apos) [] [] cpos) (mMe T fm mo mNil) := by
  obtain ⟨r, h1, h2⟩ := hm
  obtain ⟨to, po, qo⟩ := ho
  refine ⟨_, pe_bm0 pa slot hty h1 po hbase hline, fun S sg env Qv g en z => ?_⟩
  refine qo S sg env _ g en (post_bind z fun d S1 v e1 g1 x1 a1 p1 => ?_)
  split at p1
  · rename_i ht
    have p1 : Post (wd X) S1 (fm d [] S1.c).r Qv (WE W sg) := p1
    exact ⟨isTy_at g1 ht a1, h2 S1 v [] d [] Qv g1 a1 trivial p1.o⟩
  · exact p1.elim
/-- a cell that is a list, changed -/
theorem cell_lst {S : Sta} {x : V} {k : Nat} {xs : List D} (g : Good (wd X) S) (a : At (wd X) S x (.cell k)) (e : S.c[k]? = some (.lst, xs)) : ∃ l us, x = .ref l ∧ S.r[k]? = some l ∧ S.H l = some (.lst us) ∧ AtL (wd X) S us xs := by
  obtain ⟨l, rfl, h⟩ : ∃ a, x = .ref a ∧ S.r[k]? = some a := a
  obtain ⟨us, hh, _, al⟩ := g.at' k l _ h e
  exact ⟨l, us, rfl, h, hh, al⟩
theorem set_lst {S : Sta} {k : Nat} {l : Addr} {us : List V} {xs : List D} {Qv : VK} {y : V} {d : D} (g : Good (wd X) S) (h : S.r[k]? = some l) (al : AtL (wd X) S us xs) (ay : At (wd X) S y d)
    (q : ∀ S' v, Good (wd X) S' → S'.c = S.c.set k (.lst, xs) → Ext (wd X) S S' → At (wd X) S' v d → Qv v S'.H) : Qv y (upd S.H l (.lst us)) := by
  have x := Sta.ext_set (T := wd X) (o := .lst us) (cl := (.lst, xs)) g h
  exact q (S.set k l (.lst us) (.lst, xs)) y (g.set h (show Hold (wd X) _ l us .lst from upd_same) trivial al) rfl x (x.keep _ _ ay)
def fAppend : FM := fun d ds c => match d, ds with
  | .cell k, [y] => match c[k]? with
    | some (.lst, xs) => if xs.length < sizeLine then some (.non, c.set k (.lst, xs ++ [y])) else none
    | _ => none
  | _, _ => none
theorem fAppend_ok : MeF X "list.append" fAppend := by
  refine ⟨rAppend, mt_append, fun S x vs d ds Qv g ax al p => ?_⟩
  obtain ⟨r, c', e, q⟩ := p.some
  unfold fAppend at e
  split at e
  · split at e
    · rename_i hc
      split at e
      · rename_i hz
        cases e
        obtain ⟨l, us, rfl, h1, h2, h3⟩ := cell_lst g ax hc
        obtain ⟨y, rfl, ay⟩ := al.one
        exact ⟨l, us, y, rfl, rfl, h2, by rw [h3.len]; exact hz, set_lst g h1 (h3.append (ys := [y]) (es := [_]) ⟨ay, trivial⟩) (show At (wd X) S .non .non from rfl) q⟩
      · cases e
    · cases e
  · cases e
def fInsert : FM := fun d ds c => match d, ds with
  | .cell k, [.int i, y] => match c[k]? with
    | some (.lst, xs) => if xs.length < sizeLine ∧ 0 ≤ i ∧ i < 2 ^ 63 then some (.non, c.set k (.lst, xs.take i.toNat ++ [y] ++ xs.drop i.toNat)) else none
    | _ => none
  | _, _ => none
theorem AtL.take {T : Wd} {S : Sta} : ∀ {xs : List V} {ds : List D} (n : Nat), AtL T S xs ds → AtL T S (xs.take n) (ds.take n)
  | [], [], n, _ => by simp [AtL]
  | x :: xs, d :: ds, 0, _ => trivial
  | x :: xs, d :: ds, n + 1, h => by
    obtain ⟨h1, h2⟩ : At T S x d ∧ AtL T S xs ds := h
    exact ⟨h1, AtL.take n h2⟩
  | [], _ :: _, _, h => h.elim
  | _ :: _, [], _, h => h.elim
theorem AtL.drop {T : Wd} {S : Sta} : ∀ {xs : List V} {ds : List D} (n : Nat), AtL T S xs ds → AtL T S (xs.drop n) (ds.drop n)
  | [], [], n, _ => by simp [AtL]
  | x :: xs, d :: ds, 0, h => h
  | x :: xs, d :: ds, n + 1, h => by
    obtain ⟨h1, h2⟩ : At T S x d ∧ AtL T S xs ds := h
    exact AtL.drop n h2
  | [], _ :: _, _, h => h.elim
  | _ :: _, [], _, h => h.elim
theorem fInsert_ok : MeF X "list.insert" fInsert := by
  refine ⟨_, mt_insert, fun S x vs d ds Qv g ax al p => ?_⟩
  obtain ⟨r, c', e, q⟩ := p.some
  unfold fInsert at e
  split at e
  · split at e
    · rename_i hc
      split at e
      · rename_i hz
        cases e
        obtain ⟨l, us, rfl, h1, h2, h3⟩ := cell_lst g ax hc
        obtain ⟨i', y, rfl, ai, ay⟩ := al.two
        cases (show i' = _ from ai)
        exact ⟨l, us, _, y, rfl, rfl, h2, by rw [h3.len]; exact hz.1, hz.2.1, hz.2.2, set_lst g h1 (((h3.take _).append (ys := [y]) (es := [_]) ⟨ay, trivial⟩).append (h3.drop _)) (show At (wd X) S .non .non from rfl) q⟩
      · cases e
    · cases e
  · cases e
/-! ### o[i] = v as a target -/
theorem AtL.set {T : Wd} {S : Sta} : ∀ {xs : List V} {ds : List D} (n : Nat) {v : V} {d : D}, AtL T S xs ds → At T S v d → AtL T S (xs.set n v) (ds.set n d)
  | [], [], n, _, _, _, _ => by simp [AtL]
  | x :: xs, d :: ds, 0, _, _, h, a => ⟨a, h.2⟩
  | x :: xs, d :: ds, n + 1, _, _, h, a => by
    obtain ⟨h1, h2⟩ : At T S x d ∧ AtL T S xs ds := h
    exact ⟨h1, AtL.set n h2 a⟩
  | [], _ :: _, _, _, _, h, _ => h.elim
  | _ :: _, [], _, _, _, h, _ => h.elim
def gIx (mo mi : ME) : MG := fun d env c => match mo env c with
  | .ok o c => match mi env c with
    | .ok (.int i) c => match o with
      | .cell k => match c[k]? with
        | some (.lst, xs) => (ixN xs.length i).bind fun j => if j < xs.length then some (env, c.set k (.lst, xs.set j d)) else none
        | _ => none
      | _ => none
    | _ => none
  | _ => none
theorem post_one {a b : Type} {T : Wd} {S : Sta} {rel : Sta → b → a → Prop} {r : R a} {x : a} {c : Cells} {Qv : b → Hp → Prop} {E : XK} (e : r = .ok x c) (h : ∀ S1 v, Good T S1 → S1.c = c → Ext T S S1 → rel S1 v x → Qv v S1.H) : PostG T S rel r Qv E := by
  subst e
  exact h
theorem sg_ix (ho : SE X W o mo) (hi : SE X W i mi)
    (ha : ∀ v, assign (.Subscript o i pos) X.env v = (do
      let ov ← holding [v] (eval o X.env)
      let iv ← holding [v, ov] (eval i X.env)
      standAt pos
      holding [v, ov, iv] (setItem ov iv v)
      release [v, ov, iv] []) := by intro _; rfl) : SG X (.Subscript o i pos) (gIx mo mi) := by
  obtain ⟨to, po, qo⟩ := ho
  obtain ⟨ti, pi, qi⟩ := hi
  refine ⟨_, pg_sub po pi set_list ha, fun S v d sg env Qv g en a z => ?_⟩
  obtain ⟨env', c', e, z⟩ := z.some
  unfold gIx at e
  split at e
  · rename_i od c1 e1
    split at e
    · rename_i k c2 e2
      split at e
      · rename_i j
        split at e
        · rename_i xs e3
          obtain ⟨n, e4, e5⟩ := Option.bind_eq_some_iff.mp e
          split at e5
          · rename_i hn
            cases e5
            refine qo S sg env _ g en (post_one e1 fun S1 ov g1 h1 x1 a1 => ?_)
            refine qi S1 sg env _ g1 (en.ext x1) (post_one (by rw [h1]; exact e2) fun S2 iv g2 h2 x2 a2 => ?_)
            subst h2
            obtain ⟨l, us, rfl, r1, r2, r3⟩ := cell_lst g2 (x2.keep _ _ a1) e3
            refine ⟨l, us, k, n, rfl, a2, r2, by rw [r3.len]; exact e4, ?_⟩
            have av := x2.keep _ _ (x1.keep _ _ a)
            have al := r3.set n av
            have x := Sta.ext_set (T := wd X) (o := .lst (us.set n v)) (cl := (.lst, xs.set n d)) g2 r1
            exact z (S2.set j l (.lst (us.set n v)) (.lst, xs.set n d)) sg (g2.set r1 (show Hold (wd X) _ l _ .lst from upd_same) trivial al) rfl ((x1.trans x2).trans x) (((en.ext x1).ext x2).ext x)
          · cases e5
        · cases e
      · cases e
    · cases e
  · cases e
/-! ### a, b = x, y with plain names -/
def sPar (i j : Nat) (ma mb : ME) : MS := fun env c => (ma env c).st env fun x c => (mb env c).st env fun y c => .ok (.nx ((env.set i (some x)).set j (some y))) c
theorem ss_par {i j : Nat} {x y : Str} {px py pt : Pos} {kt k2 pt2} (hc : X.calm = true) (hN : X.N.Nodup) (ha : SE X W a ma) (hb : SE X W b mb) (hi : X.N[i]? = some x := by rfl) (hj : X.N[j]? = some y := by rfl) (hij : i ≠ j := by decide)
    (hx : X.env.scope.names.lookup x = some .local := by rfl) (hy : X.env.scope.names.lookup y = some .local := by rfl)
    (hw : swappedStores [.Tuple [.Name x px, .Name y py] kt pt] (.Tuple [a, b] k2 pt2) X.env = pure (some [x, y]) := by rfl)
    (hs : swapsWithSole [.Tuple [.Name x px, .Name y py] kt pt] (.Tuple [a, b] k2 pt2) pos.line X.env = pure false := by rfl) (h2 : starEach [a, b] X.env = (false, eval a X.env) :: starEach [b] X.env := by rfl) (h3 : starEach [b] X.env = (false, eval b X.env) :: starEach [] X.env := by rfl) :
    SS X W (.Assign [.Tuple [.Name x px, .Name y py] kt pt] (.Tuple [a, b] k2 pt2) pos) (sPar i j ma mb) := by
  obtain ⟨t, p, q⟩ := sa_cons ha (sa_cons hb sa_nil h3) h2
  refine PS.imp (ps_par hc hN hi hj hij hx hy p hw hs) fun D sg H ⟨S, env, e, g, en, z⟩ => ?_
  subst e
  refine q S sg env _ g en ?_
  show PostG _ _ _ ((ma env S.c).bind fun d c => ((mCons mb mNil env c).bind fun ds c => R.ok (d :: ds) c)) _ _
  have z : PostS (wd X) S ((ma env S.c).st env fun x c => (mb env c).st env fun y c => .ok (.nx ((env.set i (some x)).set j (some y))) c) D W := z
  cases e1 : ma env S.c with
  | stk => rw [e1] at z; exact z.elim
  | err y c => rw [e1] at z; exact fun S' cls dd g hc x1 z1 => z S' sg cls dd g hc x1 (en.ext x1) z1
  | ok d1 c1 =>
    rw [e1] at z
    have z : PostS (wd X) S ((mb env c1).st env fun y c => .ok (.nx ((env.set i (some d1)).set j (some y))) c) D W := z
    show PostG _ _ _ (((mb env c1).bind fun d c => R.ok [d] c).bind fun ds c => R.ok (d1 :: ds) c) _ _
    cases e2 : mb env c1 with
    | stk => rw [e2] at z; exact z.elim
    | err y c => rw [e2] at z; exact fun S' cls dd g hc x1 z1 => z S' sg cls dd g hc x1 (en.ext x1) z1
    | ok d2 c2 =>
      rw [e2] at z
      intro S' vs g' hc x1 al
      obtain ⟨v, w', rfl, av, aw⟩ := AtL.two al
      exact ⟨v, w', rfl, z S' _ g' hc x1 (((en.ext x1).set i av).set j aw)⟩
end
end Q
end
section
set_option Elab.async false
set_option linter.all false
set_option maxRecDepth 100000
namespace Q
open PySem PySem.Spec L2
variable [Tb]
/-! ### dict displays with keys ints and texts, .get -/
def keyOf : D → Option Key
  | .int i => some (.inl i)
  | .str x => some (.inr x)
  | _ => none
theorem keyOf_at {T : Wd} {S : Sta} {v : V} {d : D} {k : Key} (e : keyOf d = some k) (a : At T S v d) : v = kV k := by
  cases d with
  | int i => cases e; exact a
  | str x => cases e; exact a
  | _ => cases e
def keysOf : List D → Option (List Key)
  | [] => some []
  | d :: ds => match keyOf d, keysOf ds with
    | some k, some ks => some (k :: ks)
    | _, _ => none
def lookD : List Key → List D → Key → Option D
  | k' :: ks, d :: ds, k => if k' = k then some d else lookD ks ds k
  | _, _, _ => none
theorem lookD_at {T : Wd} {S : Sta} {k : Key} : ∀ {ks : List Key} {xs : List V} {ds : List D}, AtL T S xs ds → ks.length = xs.length → match lookD ks ds k with
    | some d => ∃ v, valV (ks.zip xs) k = some v ∧ At T S v d
    | none => valV (ks.zip xs) k = none
  | [], [], [], _, _ => rfl
  | k' :: ks, x :: xs, d :: ds, h, e => by
    obtain ⟨h1, h2⟩ : At T S x d ∧ AtL T S xs ds := h
    unfold lookD
    by_cases hk : k' = k
    · rw [if_pos hk]
      exact ⟨x, valV_pos (p := (k', x)) hk, h1⟩
    · rw [if_neg hk]
      have ih := lookD_at (k := k) h2 (show ks.length = xs.length by simpa using e)
      rw [List.zip_cons_cons, valV_neg (p := (k', x)) hk]
      exact ih
  | [], _ :: _, _, _, e => by simp at e
  | _ :: _, [], _, _, e => by simp at e
  | [], [], _ :: _, h, _ => h.elim
  | _ :: _, _ :: _, [], h, _ => h.elim
theorem putK_new {kvs : List (Key × V)} {k : Key} {v : V} (h : k ∉ kvs.map (·.1)) : putK kvs k v = kvs ++ [(k, v)] := by
  unfold putK
  rw [if_neg]
  intro z
  obtain ⟨p, hp, e⟩ := List.any_eq_true.mp z
  exact h (List.mem_map.mpr ⟨p, hp, of_decide_eq_true e⟩)
theorem mergeK_nodup : ∀ {more kvs : List (Key × V)}, (kvs.map (·.1) ++ more.map (·.1)).Nodup → mergeK kvs more = kvs ++ more
  | [], kvs, _ => by
    show kvs = kvs ++ []
    simp
  | p :: r, kvs, h => by
    have hp : p.1 ∉ kvs.map (·.1) := fun hm => by
      rw [List.map_cons, List.nodup_append] at h
      exact h.2.2 _ hm _ List.mem_cons_self rfl
    show mergeK (putK kvs p.1 p.2) r = _
    rw [putK_new hp, mergeK_nodup (more := r) (kvs := kvs ++ [(p.1, p.2)]) (by simpa using h)]
    simp
section
variable {X : Cx} {W : WX} {e a b c o f : Expr} {es : List Expr} {pos apos cpos : Pos} {m ma mb mc mo me mf : ME} {ms : ML}
abbrev MP := Env → Cells → R (List D × List D)
def PairAt (T : Wd) (S : Sta) (ps : List (V × V)) (q : List D × List D) : Prop := AtL T S (ps.map (·.1)) q.1 ∧ AtL T S (ps.map (·.2)) q.2
def SPr (X : Cx) (W : WX) (pos : Pos) (keys : List (Option Expr)) (values : List Expr) (m : MP) : Prop :=
  ∃ trs, PPs X pos keys values trs ∧ ∀ S sg env Qv, Good (wd X) S → EnvAt (wd X) S sg env → PostG (wd X) S (PairAt (wd X)) (m env S.c) Qv (WE W sg) → tPairs trs sg S.H Qv
def mPn : MP := fun _ c => .ok ([], []) c
def mPc (mk mv : ME) (mr : MP) : MP := fun env c => (mk env c).bind fun k c => (mv env c).bind fun v c => (mr env c).bind fun q c => .ok (k :: q.1, v :: q.2) c
theorem sp_nil : SPr X W pos [] [] mPn := ⟨_, pps_nil, fun S sg env Qv g en p => p S [] g rfl .refl ⟨trivial, trivial⟩⟩
theorem sp_cons {ks : List (Option Expr)} {vs : List Expr} {mr : MP} (hk : SE X W a ma) (hv : SE X W b mb) (hr : SPr X W pos ks vs mr) : SPr X W pos (some a :: ks) (b :: vs) (mPc ma mb mr) := by
  obtain ⟨ta, pa, qa⟩ := hk
  obtain ⟨tb, pb, qb⟩ := hv
  obtain ⟨tr, pr, qr⟩ := hr
  refine ⟨_, pps_cons pa pb pr, fun S sg env Qv g en z => ?_⟩
  refine qa S sg env _ g en (post_bind z fun x S1 v e1 g1 x1 a1 p1 => ?_)
  refine qb S1 sg env _ g1 (en.ext x1) (post_bind p1 fun y S2 u e2 g2 x2 a2 p2 => ?_)
  refine qr S2 sg env _ g2 ((en.ext x1).ext x2) (post_bind p2 fun q S3 ps e3 g3 x3 a3 p3 => ?_)
  exact p3 S3 ((v, u) :: ps) g3 rfl .refl ⟨⟨x3.keep _ _ (x2.keep _ _ a1), a3.1⟩, ⟨x3.keep _ _ a2, a3.2⟩⟩
/-- a hidden object told at last -/
theorem unhide {T : Wd} {S S2 : Sta} {p : Addr} {o u : HO} (g : Good T S) (hp : S.H p = none) (g2 : Good T S2) (x2 : Ext T (S.hide p o) S2) (m : Mu p (some u)) :
    ∃ S3 : Sta, S3.H = upd S2.H p u ∧ S3.c = S2.c ∧ Good T S3 ∧ Ext T S S3 ∧ p ∉ S3.r ∧ p ∉ S3.x ∧ ∀ v d, At T S2 v d → At T S3 v d := by
  have hx : S2.x = p :: S.x := x2.hx
  have hm : p ∈ S2.x := by rw [hx]; exact List.mem_cons_self
  have fr := g.freshX hp
  obtain ⟨g3, k3⟩ := g2.seth (o := u) hm m
  have sub : ∀ a ∈ S.x, a ∈ (S2.seth p u).x := fun a ha => by
    show a ∈ S2.x
    rw [hx]
    exact List.mem_cons_of_mem _ ha
  refine ⟨(S2.seth p u).tell S.x, rfl, rfl, g3.tell sub, ⟨x2.pre, fun v d a => at_tell sub v d (k3 v d (x2.keep v d ?_)), rfl, fun a ha => ?_⟩, (g2.hid p hm).1, fr, fun v d a => at_tell sub v d (k3 v d a)⟩
  · exact at_keep (S := S) (S' := S.hide p o) (fun _ _ e => e) (fun a u n nx e _ => ⟨n, fun hm => by
      rcases List.mem_cons.mp hm with z | z
      · rw [z, hp] at e
        cases e
      · exact nx z, (upd_ne (ne_of_none e hp)).trans e⟩) v d a
  · have ne : a ≠ p := fun z => fr (by rw [← z]; exact ha)
    show upd S2.H p u a = S.H a
    rw [upd_ne ne, x2.hh a (List.mem_cons_of_mem _ ha)]
    exact upd_ne ne
theorem keysOf_at {T : Wd} {S : Sta} : ∀ {ks : List D} {kk : List Key} {ps : List (V × V)}, keysOf ks = some kk → AtL T S (ps.map (·.1)) ks → ps = (kk.zip (ps.map (·.2))).map (fun kv => (kV kv.1, kv.2)) ∧ kk.length = ps.length
  | [], kk, [], e, _ => by cases e; exact ⟨rfl, rfl⟩
  | d :: ks, kk, p :: ps, e, h => by
    obtain ⟨h1, h2⟩ := (show At T S p.1 d ∧ AtL T S (ps.map (fun x : V × V => x.1)) ks from by simpa [AtL] using h)
    unfold keysOf at e
    split at e
    · rename_i k ks' e1 e2
      cases e
      obtain ⟨i1, i2⟩ := keysOf_at e2 h2
      have ep : p = (kV k, p.2) := by rw [← keyOf_at e1 h1]
      refine ⟨?_, by simp [i2]⟩
      rw [List.map_cons, List.zip_cons_cons, List.map_cons, ← i1, ← ep]
    · cases e
  | [], _, _ :: _, _, h => h.elim
  | _ :: _, _, [], _, h => h.elim
def mDictE (q : List D × List D) (c : Cells) : R D := match keysOf q.1 with
  | some kk => if kk.Nodup ∧ kk.length ≤ 15 then .ok (.nod (.dic kk) q.2) c else .stk
  | none => .stk
def mDict (mp : MP) : ME := fun env c => match mp env c with
  | .ok q c => mDictE q c
  | _ => .stk
theorem se_dict {keys : List (Option Expr)} {values : List Expr} {mp : MP} (h : SPr X W pos keys values mp) (hall : keys.all (·.isSome) = true := by rfl) (hl : keys.length = values.length := by rfl) (h0 : keys ≠ [] := by exact fun z => nomatch z)
    (h15 : keys.length ≤ 15 := by decide) : SE X W (.Dict keys values pos) (mDict mp) := by
  obtain ⟨trs, p, q⟩ := h
  refine ⟨_, pe_disp p hall hl h0 h15, fun S sg env Qv g en z => ?_⟩
  intro pa hp
  obtain ⟨g1, k1⟩ := g.hide (o := .dK []) hp trivial
  have en1 : EnvAt (wd X) (S.hide pa (.dK [])) sg env := ⟨en.len, fun i d e => let ⟨v, h1, h2⟩ := en.get i d e; ⟨v, h1, k1 v d h2⟩⟩
  refine q (S.hide pa (.dK [])) sg env _ g1 en1 ?_
  have z : Post (wd X) S (match mp env S.c with
    | .ok q c => mDictE q c
    | _ => .stk) Qv (WE W sg) := z
  show PostG (wd X) (S.hide pa (.dK [])) (PairAt (wd X)) (mp env S.c) _ _
  cases e1 : mp env S.c with
  | stk => rw [e1] at z; exact z.elim
  | err y cc =>
    rw [e1] at z
    exact z.elim
  | ok q' cc =>
    rw [e1] at z
    intro S2 ps g2 hc x2 pq
    subst hc
    have z : Post (wd X) S (mDictE q' S2.c) Qv (WE W sg) := z
    unfold mDictE at z
    split at z
    · rename_i kk e2
      split at z
      · rename_i hk
        obtain ⟨i1, i2⟩ := keysOf_at e2 pq.1
        have hd : S2.H pa = some (.dK []) := by
          rw [x2.hh pa List.mem_cons_self]
          exact upd_same
        have el : (kk.zip (ps.map (·.2))).map (·.1) = kk := by
          rw [List.map_fst_zip]
          simp [i2]
        refine ⟨hd, kk.zip (ps.map (·.2)), i1, by rw [List.length_zip, List.length_map, i2, Nat.min_self, ← i2]; exact hk.2, ?_⟩
        rw [mergeK_nodup (by simpa [el] using hk.1), List.nil_append]
        obtain ⟨S3, h1, h2, g3, x3, n3, nx3, k3⟩ := unhide (u := .dK (kk.zip (ps.map (·.2)))) g hp g2 x2 trivial
        have qq := z S3 (.ref pa) g3 h2 x3 ⟨pa, ps.map (·.2), rfl, .inl ⟨n3, nx3, by simp [i2], by rw [h1]; exact upd_same⟩, atL_of k3 pq.2⟩
        rw [h1] at qq
        exact qq
      · exact z.elim
    · exact z.elim
/-- {} -/
def mDict0 : ME := fun _ c => .ok (.nod (.dic []) []) c
theorem se_dict0 : SE X W (.Dict [] [] pos) mDict0 := ⟨_, pe_dnewK, fun S sg env Qv g en z p hp => made (T := wd X) (t := .dic []) (xs := []) (ds := []) g hp (show AtL (wd X) S [] [] from trivial) ⟨rfl, upd_same⟩ z⟩
/-! ### d.get(k, x), d[k], k in d -/
def fGet (d k x : D) (c : Cells) : O := match view c d, keyOf k with
  | some (.dic ks, ds), some kk => some ((lookD ks ds kk).getD x, c)
  | _, _ => none
def mGet2 (md mk mx : ME) : ME := fun env c => (md env c).bind fun d c => match view c d with
  | some (.dic _, _) => (mk env c).bind fun k c => (mx env c).bind fun x c => (fGet d k x c).r
  | _ => .stk
theorem se_get2 (hu : X.A.units + 1 < cLine) (ho : SE X W o mo) (he : SE X W e me) (hf : SE X W f mf) (m : M2 X o "get" apos e f cpos) : SE X W (.Call (.Attribute o "get" apos) [e, f] [] cpos) (mGet2 mo me mf) := by
  obtain ⟨to, po, qo⟩ := ho
  obtain ⟨te, pe, qe⟩ := he
  obtain ⟨tf, pf, qf⟩ := hf
  refine ⟨_, pe_dget2 hu po pe pf m, fun S sg env Qv g en z => ?_⟩
  refine qo S sg env _ g en (post_bind z fun d S1 v e1 g1 x1 a1 p1 => ?_)
  split at p1
  · rename_i ks ds e0
    obtain ⟨b, xs, rfl, h1, l⟩ := view_at g1 a1 e0
    rcases h1 with ⟨hz, h1⟩ | h1
    · refine ⟨b, rfl, .inl ⟨_, .of h1⟩, ?_⟩
      refine qe S1 sg env _ g1 (en.ext x1) (post_bind p1 fun k S2 kv e2 g2 x2 a2 p2 => ?_)
      refine qf S2 sg env _ g2 ((en.ext x1).ext x2) (post_bind p2 fun y S3 yv e3 g3 x3 a3 p3 => ?_)
      obtain ⟨r, c', e4, q⟩ := p3.o.some
      unfold fGet at e4
      split at e4
      · rename_i ks' ds' kk e5 e6
        cases e4
        obtain ⟨b', ys, eb, h2, l2⟩ := view_at g3 (x3.keep _ _ (x2.keep _ _ a1)) e5
        cases eb
        rcases h2 with ⟨hz2, h2⟩ | h2
        · have ek := keyOf_at e6 (x3.keep _ _ a2)
          have lk := lookD_at (k := kk) l2 hz2
          refine ⟨valV (ks'.zip ys) kk, .inl ⟨_, kk, .of h2, ek, rfl⟩, ?_⟩
          cases e7 : lookD ks' ds' kk with
          | some d' =>
            rw [e7] at lk q
            obtain ⟨w', h3, h4⟩ := lk
            rw [h3]
            exact q S3 w' g3 rfl .refl h4
          | none =>
            rw [e7] at lk q
            rw [lk]
            exact q S3 yv g3 rfl .refl a3
        · exact h2.elim
      · cases e4
    · exact h1.elim
  · exact p1.elim
end
end Q
end
section
set_option Elab.async false
set_option linter.all false
set_option maxRecDepth 100000
namespace Q
open PySem PySem.Spec L2
variable [Tb]
/-! ### raising an own exception whose __init__ keeps its argument -/
def spI (C : Addr) (f : Str) : Sp := fun vs H Qv _ => ∃ a v, vs = [.ref a, v] ∧ H a = some (exo a C none) ∧ ∀ dx, H dx = none → dx ≠ a → Qv .non (upd (upd H dx (exd dx [(f, v)])) a (exo a C (some dx)))
theorem fn_init1 {P : Program} {w : World} {K : PySem.W.Frag} {mg : Str → Option Value} {base : Heap} {k : Nat} {x qual s v f : Str} {st : Stmt} {fI C : Addr} {fd : FuncData} {p1 p2 p3 p4 : Pos} (F : Fun K x qual st fI fd) (Sc : FnScope [s, v] [s, v] (defScope st)) (T : OexC K C)
    (hno : PySem.W.findIn K (.ref C) f = some none) (hb : defBody st = [.Assign [.Attribute (.Name s p1) f p2] (.Name v p3) p4] := by rfl) (hs : Vis (defScope st) s := by exact .inl rfl) (hv : Vis (defScope st) v := by exact .inl rfl)
    (hsw : ∀ env, swapsWith (.Name v p3) (some (.Attribute (.Name s p1) f p2)) p4.line env = pure false := by intro _; rfl) (hd1 : (s == ("__debug__" : Str)) = false := by decide) (hd2 : (s == ("__classdict__" : Str)) = false := by decide)
    (hd3 : (v == ("__debug__" : Str)) = false := by decide) (hd4 : (v == ("__classdict__" : Str)) = false := by decide) : FnOk P w K mg base C8.CX0 (k + 1) fI fd [s, v] (spI C f) := by
  refine F.ok Sc (fun vs H Qv E h => ?_) (fun cdv A l sh H vs Qv E hr h => ?_)
  · obtain ⟨a, y, rfl, _⟩ := h
    rfl
  · obtain ⟨a, y, rfl, ha, q⟩ := h
    rw [hb]
    refine ⟨_, pss_one (ps_ost (pe_var (i := 0) rfl hs hd1 hd2) (pe_var (i := 1) rfl hv hd3 hd4) (hsw _)), ?_⟩
    exact ⟨y, rfl, .ref a, rfl, a, C, rfl, T, hno, .inl ⟨ha, fun dx h1 h2 => q dx h1 h2⟩⟩
section
variable {X : Cx} {W : WX} {e a b c o i f : Expr} {es : List Expr} {pos p pos' : Pos} {m ma mb mc mo : ME} {ms : ML}
def sRaise (cls : Str) (ks : List Str) (ms : ML) : MS := fun env c => (ms env c).st env fun ds c => if ds.length = ks.length then .err ⟨cls, ks, ds⟩ env c else .stk
theorem ss_raise1 {CX : CXT} {x s v f : Str} {C fI : Addr} {k : Nat} {fd : FuncData} (hc : X.calm = true) (tk : Takes X W) (T : OexC X.K C) (iC : PySem.W.findIn X.K (.ref C) "__init__" = some (some (.ref fI))) (tI : PySem.W.typeIn X.K (.ref fI) = some (.type "function"))
    (F1 : FnOk X.prog X.w X.K X.mg X.base CX k fI fd [s, v] (spI C f)) (hr : Room (k + 1) X.A) (hb : Binds X.K fd [s, v] []) (hx : Passes CX X (fun _ _ _ => False)) (hm : X.mg x = some (.ref C)) (ha : SA X W [e] ms) (hg : Gl X x := by rfl)
    (hdb : (x == ("__debug__" : Str)) = false := by decide) (he : starEach [e] X.env = (false, eval e X.env) :: starEach [] X.env := by rfl) (hpl : (backTo pos (starEach [] X.env)).any (·.1) = false := by rfl) :
    SS X W (.Raise (some (.Call (.Name x p) [e] [] pos)) none pos') (sRaise x [f] ms) := by
  obtain ⟨t, pa, q⟩ := ha
  refine PS.imp (ps_raise hc tk (pmk_oex (CX := CX) (dvs := []) (ds := []) T iC tI F1 hr hb .nil hx hg hm pa hdb he hpl)) fun D sg H ⟨S, env, eq, g, en, z⟩ => ?_
  subst eq
  refine q S sg env _ g en (post_st z en fun ds S1 vs e1 g1 x1 al p1 => ?_)
  split at p1
  · rename_i hl
    obtain ⟨d, rfl⟩ : ∃ d, ds = [d] := List.length_eq_one_iff.mp hl
    obtain ⟨y, rfl, ay⟩ := al.one
    refine ⟨by simp, fun a hn => ⟨a, y, rfl, upd_same, fun dx hdx ne => ?_⟩⟩
    have hd1 : S1.H dx = none := (upd_ne ne).symm.trans hdx
    refine ⟨rfl, dx, [(f, y)], upd_same, (upd_ne ne).trans upd_same, hd1, ?_⟩
    have eH : upd (del (upd (upd (upd S1.H a (exo a C none)) dx (exd dx [(f, y)])) a (exo a C (some dx))) a) dx (.xd [(f, y)]) = upd S1.H dx (.xd [(f, y)]) := by
      funext j
      by_cases h1 : j = dx
      · rw [h1, upd_same, upd_same]
      · rw [upd_ne h1, upd_ne h1]
        by_cases h2 : j = a
        · rw [h2, del_same, hn]
        · rw [del_ne h2, upd_ne h2, upd_ne h1, upd_ne h2]
    rw [eH]
    have x2 := Sta.ext_put (T := wd X) (o := .xd [(f, y)]) g1 hd1
    exact p1 (S1.put dx (.xd [(f, y)])) sg (.ref C) (some dx) (g1.put hd1) rfl x2 ((en.ext x1).ext x2)
      ⟨C, hm, rfl, .inr ⟨dx, rfl, dx, [y], rfl, .inl ⟨g1.fresh hd1, g1.freshX hd1, rfl, upd_same⟩, x2.keep _ _ ay, trivial⟩⟩
  · exact p1.elim
/-! ### try with several clauses, each with a name -/
/-- an exception has landed at h3 -/
structure Lnd (X : Cx) (pins : List (Addr × Obj)) (sg : L2.St) (H : Hp) (sI s' : Shared) (h3 : Heap) (a : Addr) (B : Heap) (cls : Value) (d : Option Addr) : Prop where
  inv : Inv X pins sg H sI
  gr : ∀ b o, sI.heap.get? b = some o → b ∉ frs X.stack → B.get? b = some o
  up : sI.heap.UpToSlots h3
  fl : HandSPX.FlyingZ B (X.env :: X.outer) a (Zc cls d) h3
  na : H a = none
  os : s'.os = sI.os
  ag : PyProof.Rows.AllBare s'.gens
def HdOk (X : Cx) (hs : List ExceptHandler) (Wc : Ends → WX) : Prop := ∀ (pins : List (Addr × Obj)) (sg : L2.St) (H : Hp) (sI s' : Shared) (h3 : Heap) (a : Addr) (B : Heap) (cls : Value) (d : Option Addr) (D : Ends),
  X.A.frames = some (X.env :: X.outer) → Lnd X pins sg H sI s' h3 a B cls d → Wc D cls d sg H → wpAny (model X.prog X.w) X.A (handleBy (.ref a) X.env hs) (SP X pins D) X.xe { s' with heap := h3 }
theorem hd_nil (hs : X.stack = X.env :: X.outer) (hf : X.env.frame = some X.env.locals) (tk : Takes X W) : HdOk X [] (fun _ => W) := by
  intro pins sg H sI s' h3 a B cls d D hfr L w
  refine wpAny_handleBy_nil ?_
  obtain ⟨k1, k2, k3, oe, vs, Ta, oT, ts', he, hz, hd, h1, hr⟩ := id L.fl
  unfold PySem.passOn
  refine wpAny_bind (wpAny_field he hd h1 ?_)
  rw [if_neg (fun z => by simp at z)]
  have fin : wpAny (model X.prog X.w) X.A (setFlight (.ref a) X.env.frame) (fun _ s4 => wpAny (model X.prog X.w) X.A (throw (.ref a) : Sem Flow) (SP X pins D) X.xe s4) X.xe { s' with heap := h3 } := by
    rw [hf]
    refine HandSPX.setFlight_upZ L.fl fun h4 hh4 up4 => wpAny_throw (tk _ _ ?_)
    exact ⟨a, B, sI, pins, sg, H, cls, d, rfl, L.inv, L.gr, L.up.trans up4, .inr (.inr (by rw [hs]; exact hh4)), L.na, L.os, L.ag, w⟩
  first
    | exact wpAny_bind (wpAny_pure (wpAny_bind fin))
    | exact wpAny_bind fin
/-- what 'except x as n' wishes; Wr: what the rest wishes -/
def wCl (K : PySem.W.Frag) (c : Value) (i : Nat) (ts : Addr → Value → Option Addr → TS) (Wr : Ends → WX) (D : Ends) : WX := fun cls d sg H =>
  ∃ b, PySem.W.exmOne K cls c = some b ∧ (b = true → ∀ a, H a = none → ts a cls d { nx := fun s H' => D.nx (s.set i none) H', rt := D.rt, bk := fun s H' => D.bk (s.set i none) H', ct := fun s H' => D.ct (s.set i none) H' } (sg.set i (some (.ref a))) H) ∧
    (b = false → Wr D cls d sg H)
theorem hd_as {x n : Str} {c : Value} {i : Nat} {suite : List Stmt} {b₀ : Stmt} {np pos' : Pos} {ts : Addr → Value → Option Addr → TS} {rest : List ExceptHandler} {Wr : Ends → WX} (hs : X.stack = X.env :: X.outer) (hf : X.env.frame = some X.env.locals) (hN : X.N.Nodup)
    (hc : Names X x c) (hrest : HdOk X rest Wr)
    (hsu : ∀ (a : Addr) (oe : Obj) (cls : Value) (d : Option Addr) (pn : List (Addr × Obj)), Zc cls d oe → (∃ vs, oe.data = .fields vs) → PSs (X.suite a ((a, oe) :: pn)) (b₀ :: suite) (ts a cls d)) (hi : X.N[i]? = some n := by rfl) (hln : X.env.kindOf n = some .local := by rfl) :
    HdOk X (.ExceptHandler (some (.Name x np)) (some n) (b₀ :: suite) pos' :: rest) (wCl X.K c i ts Wr) := by
  intro pins sg H sI s' h3 a B cls d D hfr L w
  obtain ⟨bb, hb1, hyes, hno⟩ := w
  have ok := L.inv.ok
  have J3 : Inv X pins sg H { s' with heap := h3 } := L.inv.landed L.gr L.fl.1 L.up L.os L.ag
  obtain ⟨oe3, vs3, he3, hz3, hd3⟩ := L.fl.there
  have nfr : a ∉ frs (X.env :: X.outer) := fun hm => by
    obtain ⟨_, ob, eb, hnf⟩ := L.fl.2.2.1.mem hm
    rw [he3] at eb
    cases eb
    exact hnf _ hd3
  have nL : a ≠ X.env.locals := fun z => nfr (List.mem_filterMap.mpr ⟨X.env, List.mem_cons_self, hf.trans (congrArg some z.symm)⟩)
  have nF : a ∉ X.fs := fun hm => by
    obtain ⟨en, he, q⟩ := List.mem_filterMap.mp hm
    exact nfr (List.mem_filterMap.mpr ⟨en, List.mem_cons_of_mem _ he, q⟩)
  have S3 := J3.suite he3 hd3 L.na nL nF
  refine wpAny_handleBy_cons (codeAny_handlers_test ?_) (by intro q; cases q)
  have LT : PySem.W.Looks (model X.prog X.w) h3 (typeOf (.ref a)) cls := fun A Qv E sh k q => wpAny_typeOf_ref (k _ _ he3) (by rw [hz3.1]; exact q)
  have LM := PySem.W.exm_one (M := model X.prog X.w) J3.kIn LT hb1
  have test : ∀ {Qv : Value → Shared → Prop} {E : Value → Shared → Prop}, Qv c { s' with heap := h3 } → wpAny (model X.prog X.w) (X.A.mark (some (.ref a))) (eval (.Name x np) X.env) Qv E { s' with heap := h3 } := fun {Qv E} q => by
    obtain ⟨hg, hdbg, hm | ⟨hm, hv, hnn⟩⟩ := hc
    · exact ld_glob (X := X.suite a ((a, oe3) :: (X.pn ++ pins))) S3 hg hm q hdbg
    · exact ld_blt (X := X.suite a ((a, oe3) :: (X.pn ++ pins))) S3 hg hm hv q hnn hdbg
  refine test (LM.here ?_)
  cases bb with
  | false => exact hrest pins sg H sI s' h3 a B cls d D hfr L (hno rfl)
  | true =>
    refine codeAny_handlers_suite_as (HandSPX.lands_againZ L.fl fun h4 fl4 up4 => ?_)
    have J4 : Inv X pins sg H { s' with heap := h4 } := L.inv.landed L.gr fl4.1 (L.up.trans up4) L.os L.ag
    obtain ⟨oe4, vs4, he4, hz4, hd4⟩ := fl4.there
    have S4 := J4.suite he4 hd4 L.na nL nF
    refine store_ok (X := X.suite a ((a, oe4) :: (X.pn ++ pins))) (v := .ref a) S4 hN hi (.inl hln) rfl (fun s5 S5 => ?_) (.inr hln)
    refine wpAny_mono ((hsu a oe4 cls d (X.pn ++ pins) hz4 ⟨_, hd4⟩).run [] s5 _ H _ S5 (hyes rfl a L.na)) (fun fl s6 hsp => ?_) (fun _ _ z => z.elim)
    have fin : ∀ {sg6 : L2.St} {H6 : Hp} {Qs : Shared → Prop}, Inv (X.suite a ((a, oe4) :: (X.pn ++ pins))) [] sg6 H6 s6 → (∀ s7, Inv X pins (sg6.set i none) H6 s7 → Qs s7) →
        wpAny (model X.prog X.w) X.A (do bindName X.env n .none; unbindBehindTheSuite X.env n pos') (fun _ s7 => Qs s7) X.xe s6 := fun {sg6 H6 Qs} S6 hq => gone_ok (S6.unsuite ok) hN hi hln hq
    cases fl with
    | ret u =>
      obtain ⟨v6, sg6, H6, S6, r6, q6⟩ := hsp
      exact fin S6 fun s7 J7 => ⟨_, _, _, J7, r6, q6⟩
    | next =>
      obtain ⟨sg6, H6, S6, q6⟩ := hsp
      exact fin S6 fun s7 J7 => ⟨_, _, J7, q6⟩
    | brk =>
      obtain ⟨sg6, H6, S6, q6⟩ := hsp
      exact fin S6 fun s7 J7 => ⟨_, _, J7, q6⟩
    | cont =>
      obtain ⟨sg6, H6, S6, q6⟩ := hsp
      exact fin S6 fun s7 J7 => ⟨_, _, J7, q6⟩
theorem ps_tryL {body : List Stmt} {h₀ : ExceptHandler} {hl : List ExceptHandler} {tb : WX → TS} {Wc : Ends → WX} (hs : X.stack = X.env :: X.outer) (hf : X.env.frame = some X.env.locals)
    (hb : ∀ (Wi : WX) (pn : List (Addr × Obj)) (xe : Value → Shared → Prop), Takes (X.tr pn xe) Wi → PassesOwn (model X.prog X.w) X.A X.env xe → PSs (X.tr pn xe) body (tb Wi)) (hh : HdOk X (h₀ :: hl) Wc) :
    PS X (.Try body (h₀ :: hl) [] [] pos) (fun D sg H => tb (Wc D) D sg H) := by
  refine ⟨fun pins s sg H D I h => ?_⟩
  have ok := I.ok
  have hfr : X.A.frames = some (X.env :: X.outer) := ok.frames.trans (by rw [hs])
  refine wpAny_Try_except ?_
  refine wpAny_mono ((hb (Wc D) (X.pn ++ pins) (fun e s₁ => wpAny (model X.prog X.w) X.A (noteFrame e X.env) (fun _ s₂ => wpAny (model X.prog X.w) X.A (setFlight e none) (fun _ s₃ =>
    wpAny (model X.prog X.w) X.A (handleBy e X.env (h₀ :: hl)) (SP X pins D) X.xe s₃) X.xe s₂) X.xe s₁) (fun u s' xx => ?_) PassesOwn.looking).run [] s sg H D (I.toTry _) h) (fun fl s1 hsp => ?_) (fun e s1 he => he)
  · obtain ⟨a, B, sI, pins', sg', H', cls, d, rfl, J', nb, up, sky, na, os, ag, wz⟩ := xx
    have J : Inv X pins sg' H' sI := J'.ofTry ok
    have sk : Sky B (X.env :: X.outer) a (Zc cls d) X.env.locals s'.heap := hs ▸ sky
    show wpAny (model X.prog X.w) X.A (noteFrame (.ref a) X.env) _ _ _
    refine Sky.land Zc.steady hfr hf sk fun h3 fl3 up3 => ?_
    exact hh pins sg' H' sI s' h3 a B cls d D hfr ⟨J, nb, up.trans up3, fl3, na, os, ag⟩ wz
  · cases fl with
    | ret u =>
      obtain ⟨v, sg', H', J', r, q⟩ := hsp
      exact ⟨v, sg', H', J'.ofTry ok, r, q⟩
    | next =>
      obtain ⟨sg', H', J', q⟩ := hsp
      exact wpAny_execs_nil ⟨sg', H', J'.ofTry ok, q⟩
    | brk =>
      obtain ⟨sg', H', J', q⟩ := hsp
      exact ⟨sg', H', J'.ofTry ok, q⟩
    | cont =>
      obtain ⟨sg', H', J', q⟩ := hsp
      exact ⟨sg', H', J'.ofTry ok, q⟩
end
end Q
end
section
set_option Elab.async false
set_option linter.all false
set_option maxRecDepth 100000
namespace Q
open PySem PySem.Spec L2
variable [Tb]
theorem ExAt.ext {T : Wd} {S S' : Sta} {cls : Value} {dd : Option Addr} {x : Exn} (h : ExAt T S cls dd x) (e : Ext T S S') : ExAt T S' cls dd x := by
  obtain ⟨C, h1, h2, h3⟩ := h
  exact ⟨C, h1, h2, h3.imp id fun ⟨d, h4, h5⟩ => ⟨d, h4, e.keep _ _ h5⟩⟩
theorem EnvAt.clr {T : Wd} {S : Sta} {sg : L2.St} {env : Env} (h : EnvAt T S sg env) (i : Nat) (o : Option V) : EnvAt T S (sg.set i o) (env.set i (Option.none : Option D)) := by
  refine ⟨by rw [List.length_set, List.length_set, h.len], fun j e q => ?_⟩
  by_cases hj : i = j
  · subst hj
    by_cases hl : i < env.length
    · rw [List.getElem?_set_self hl] at q
      cases q
    · rw [List.getElem?_eq_none (by simpa using hl)] at q
      cases q
  · rw [List.getElem?_set_ne hj] at q ⊢
    exact h.get j e q
/-! ### expressions over the error in hand -/
def SX (Y : Cx) (i : Nat) (a C : Addr) (d : Option Addr) (x : Exn) (e : Expr) (m : ME) : Prop :=
  ∃ t, PE Y e t ∧ ∀ S sg env Qv, Good (wd Y) S → EnvAt (wd Y) S sg env → sg[i]? = some (some (.ref a)) → ExAt (wd Y) S (.ref C) d x → Post (wd Y) S (m env S.c) Qv (WE WF sg) → t sg S.H Qv
def SXA (Y : Cx) (i : Nat) (a C : Addr) (d : Option Addr) (x : Exn) (e : List Expr) (m : ML) : Prop :=
  ∃ t, PA Y e t ∧ ∀ S sg env Qv, Good (wd Y) S → EnvAt (wd Y) S sg env → sg[i]? = some (some (.ref a)) → ExAt (wd Y) S (.ref C) d x → PostG (wd Y) S (AtL (wd Y)) (m env S.c) Qv (WE WF sg) → t sg S.H Qv
def lookF : List Str → List D → Str → Option D
  | k :: ks, d :: ds, f => if (f == k) = true then some d else lookF ks ds f
  | _, _, _ => none
theorem lookF_at {T : Wd} {S : Sta} {f : Str} : ∀ {ks : List Str} {xs : List V} {ds : List D} {d : D}, AtL T S xs ds → lookF ks ds f = some d → ∃ v, (ks.zip xs).lookup f = some v ∧ At T S v d
  | k :: ks, x :: xs, y :: ds, d, h, e => by
    obtain ⟨h1, h2⟩ : At T S x y ∧ AtL T S xs ds := h
    unfold lookF at e
    rw [List.zip_cons_cons]
    cases hk : (f == k) with
    | true =>
      rw [hk, if_pos rfl] at e
      cases e
      exact ⟨x, by simp [List.lookup, hk], h1⟩
    | false =>
      rw [hk, if_neg (by decide)] at e
      obtain ⟨v, h3, h4⟩ := lookF_at h2 e
      exact ⟨v, by simpa [List.lookup, hk] using h3, h4⟩
  | [], _, _, _, _, e => by
    unfold lookF at e
    cases e
  | _ :: _, [], [], _, _, e => by
    unfold lookF at e
    cases e
  | _ :: _, [], _ :: _, _, h, _ => h.elim
  | _ :: _, _ :: _, [], _, h, _ => h.elim
section
variable {X Y : Cx} {i : Nat} {a C : Addr} {d : Option Addr} {x : Exn} {e b : Expr} {es : List Expr} {pos p : Pos} {m ma mb : ME} {ms : ML} {oe : Obj} {pn : List (Addr × Obj)}
theorem sx_se (h : SE Y WF e m) : SX Y i a C d x e m := by
  obtain ⟨t, p, q⟩ := h
  exact ⟨t, p, fun S sg env Qv g en _ _ z => q S sg env Qv g en z⟩
theorem sxa_nil : SXA Y i a C d x [] mNil := ⟨_, pa_nil, fun S sg env Qv g en _ _ p => p S [] g rfl .refl trivial⟩
theorem sxa_cons (ha : SX Y i a C d x e ma) (hr : SXA Y i a C d x es ms) (hs : starEach (e :: es) Y.env = (false, eval e Y.env) :: starEach es Y.env := by rfl) : SXA Y i a C d x (e :: es) (mCons ma ms) := by
  obtain ⟨ta, pa, qa⟩ := ha
  obtain ⟨tb, pb, qb⟩ := hr
  refine ⟨_, pa_cons pa pb hs, fun S sg env Qv g en hi hx p => ?_⟩
  refine qa S sg env _ g en hi hx (post_bind p fun y S1 v e1 g1 x1 a1 p1 => ?_)
  refine qb S1 sg env _ g1 (en.ext x1) hi (hx.ext x1) (post_bind p1 fun ys S2 vs e2 g2 x2 a2 p2 => ?_)
  exact p2 S2 (v :: vs) g2 rfl .refl ⟨x2.keep _ _ a1, a2⟩
theorem sx_lstC (h : SXA Y i a C d x es ms) : SX Y i a C d x (.List es pos) (mLstC ms) := by
  obtain ⟨t, p, q⟩ := h
  refine ⟨_, pe_lst p, fun S sg env Qv g en hi hx z => ?_⟩
  refine q S sg env _ g en hi hx (post_bind z fun ds S1 vs e1 g1 x1 a1 p1 => ?_)
  split at p1
  · rename_i h
    exact ⟨by rw [a1.len]; exact h, fun p hp => madeC (T := wd Y) (t := .lst) g1 hp a1 upd_same trivial p1⟩
  · exact p1.elim
theorem sx_lst (h : SXA Y i a C d x es ms) : SX Y i a C d x (.List es pos) (mLst ms) := by
  obtain ⟨t, p, q⟩ := h
  refine ⟨_, pe_lst p, fun S sg env Qv g en hi hx z => ?_⟩
  refine q S sg env _ g en hi hx (post_bind z fun ds S1 vs e1 g1 x1 a1 p1 => ?_)
  split at p1
  · rename_i h
    exact ⟨by rw [a1.len]; exact h, fun p hp => made (T := wd Y) (t := .lst) g1 hp a1 upd_same p1⟩
  · exact p1.elim
theorem sx_one {op} (h : SX Y i a C d x e m) : SX Y i a C d x (.BoolOp op [e] pos) m := by
  obtain ⟨t, p, q⟩ := h
  exact ⟨t, pe_one p, q⟩
theorem sx_and {rest : List Expr} (ha : SX Y i a C d x e ma) (hb : SX Y i a C d x (.BoolOp .And (b :: rest) pos) mb) : SX Y i a C d x (.BoolOp .And (e :: b :: rest) pos) (mAndV ma mb) := by
  obtain ⟨ta, pa, qa⟩ := ha
  obtain ⟨tb, pb, qb⟩ := hb
  refine ⟨_, pe_andT pa pb, fun S sg env Qv g en hi hx p => ?_⟩
  refine qa S sg env _ g en hi hx (post_bind p fun y S1 v e1 g1 x1 a1 p1 => ?_)
  split at p1
  · rename_i h
    exact ⟨true, truth_at g1 h a1, iteT (qb S1 sg env Qv g1 (en.ext x1) hi (hx.ext x1) p1)⟩
  · rename_i h
    exact ⟨false, truth_at g1 h a1, iteF (p1 S1 v g1 rfl .refl a1)⟩
  · exact p1.elim
theorem sx_callB {nm : Str} {id : String} {f : List D → Cells → O} (h : CaF Y (.builtin id) f) (hm : Y.mg nm = none) (ha : SXA Y i a C d x (e :: es) ms) (hg : Gl Y nm := by rfl) (hv : bootBuiltins nm = some (.builtin id) := by decide +kernel) (hn : nm ≠ "__name__" := by decide) (hdb : (nm == ("__debug__" : Str)) = false := by decide)
    (he : starEach (e :: es) Y.env = (false, eval e Y.env) :: starEach es Y.env := by rfl) (hpl : (backTo pos (starEach es Y.env)).any (·.1) = false := by rfl) : SX Y i a C d x (.Call (.Name nm p) (e :: es) [] pos) (mCall f ms) := by
  obtain ⟨r, h1, h2⟩ := h
  obtain ⟨t, pa, q⟩ := ha
  refine ⟨_, pe_callB h1 hg hm hv pa hn hdb he hpl, fun S sg env Qv g en hi hx z => ?_⟩
  refine q S sg env _ g en hi hx (post_bind z fun ds S1 vs e1 g1 x1 a1 p1 => ?_)
  exact h2 S1 vs ds Qv g1 a1 p1.o
/-- e.f -/
def mFld (x : Exn) (f : Str) : ME := fun _ c => match lookF x.ks x.ds f with
  | some d => .ok d c
  | none => .stk
theorem sx_fld {n f : Str} {pe : Pos} (T : XfC X.K C) (hno : PySem.W.findIn X.K (.ref C) f = some none) (hz : Zc (.ref C) d oe) (hf : ∃ vs, oe.data = .fields vs) (he : PE (X.suite a ((a, oe) :: pn)) (.Name n pe) (tVar i))
    (hb : attributeBase (.Name n pe) f X.env (eval (.Name n pe) X.env) = eval (.Name n pe) X.env := by rfl) : SX (X.suite a ((a, oe) :: pn)) i a C d x (.Attribute (.Name n pe) f pos) (mFld x f) := by
  refine ⟨_, pe_xf T hno hz hf he hb, fun S sg env Qv g en hi hx z => ?_⟩
  unfold mFld at z
  split at z
  · rename_i y e1
    obtain ⟨C', h1, h2, h3⟩ := hx
    rcases h3 with ⟨h4, h5, _⟩ | ⟨dd, h4, h5⟩
    · rw [h4, h5] at e1
      cases e1
    · obtain ⟨b, xs, eb, hh, al⟩ := view_at g h5 (show view S.c (.nod (.xdc x.ks) x.ds) = some (.xdc x.ks, x.ds) from rfl)
      cases eb
      rcases hh with ⟨hl, hh⟩ | hh
      · obtain ⟨v, q1, q2⟩ := lookF_at al e1
        exact ⟨.ref a, hi, rfl, rfl, dd, _, v, h4, hh, q1, z S v g rfl .refl q2⟩
      · exact hh.elim
  · exact z.elim
/-- isinstance(e, A) -/
def rIsX (K : PySem.W.Frag) (C a : Addr) (d : Option Addr) : List V → Hp → VK → Prop := fun xs H Qv => ∃ (c : V) (cv : Value) (b : Bool), xs = [.ref a, c] ∧ (∀ u, RelV c u → u = cv) ∧ PySem.W.kitOne K (.ref C) cv = some b ∧ (d = none ∨ ∃ dd fs, d = some dd ∧ H dd = some (.xd fs)) ∧ Qv (.bl b) H
theorem call_isX (T : ExcC X.K C) (hcl : (PySem.W.clsIn X.K C).isSome = true) (hz : Zc (.ref C) d oe) (hf : ∃ vs, oe.data = .fields vs) : CallR (X.suite a ((a, oe) :: pn)) (.builtin "isinstance") (rIsX X.K C a d) := by
  intro pins s sg H xs us Qv I r h
  obtain ⟨c, cv, b, rfl, hcv, e, hd, q⟩ := h
  obtain ⟨u1, u2, rfl, r1, r2⟩ := vals2 r
  cases r1
  have ec := hcv _ r2
  subst ec
  obtain ⟨hget, _⟩ := I.pin (a, oe) (List.mem_append.mpr (.inl List.mem_cons_self))
  obtain ⟨vs, hv⟩ := hf
  have J : ∃ od, PySem.W.InstAt s.heap a oe C od := by
    obtain ⟨oc, od, oda, osl⟩ := oe
    obtain ⟨h1, h2⟩ := hz
    dsimp only at h1 h2 hv
    subst h1 h2 hv
    rcases hd with rfl | ⟨dd, fs, rfl, hx⟩
    · exact ⟨none, hget, rfl, rfl, trivial⟩
    · have hok : ObjOk X.prog X.w H s.heap dd (.xd fs) := I.hok dd _ hx
      obtain ⟨mA, hns, _⟩ := hok
      obtain ⟨od, ho, _⟩ := lookIn_ns hns
      exact ⟨some od, hget, rfl, rfl, ho⟩
  obtain ⟨od, J⟩ := J
  exact PySem.W.kia_one (PySem.W.kitx_exc (gt := none) hcl T.hg T.hk T.hs T.ha T.hn T.ht T.hm) I.kIn J e (fun z => nomatch z) fun tk => ⟨.bl b, H, I.kept (t' := tk) fun _ _ z => z, rfl, q⟩
theorem sx_isi {n A : Str} {pe pA : Pos} {cV : V} {cv : Value} {r : Bool} (T : ExcC X.K C) (hcl : (PySem.W.clsIn X.K C).isSome = true) (hz : Zc (.ref C) d oe) (hf : ∃ vs, oe.data = .fields vs) (he : PE (X.suite a ((a, oe) :: pn)) (.Name n pe) (tVar i))
    (hA : PE (X.suite a ((a, oe) :: pn)) (.Name A pA) (tC cV)) (hcv : ∀ u, RelV cV u → u = cv) (hk : PySem.W.kitOne X.K (.ref C) cv = some r) (hm : X.mg "isinstance" = none) (hg : Gl X "isinstance" := by rfl)
    (hs : starEach [.Name n pe, .Name A pA] X.env = (false, eval (.Name n pe) X.env) :: starEach [.Name A pA] X.env := by rfl) (hs2 : starEach [.Name A pA] X.env = (false, eval (.Name A pA) X.env) :: starEach [] X.env := by rfl) (hpl : (backTo pos (starEach [.Name A pA] X.env)).any (·.1) = false := by rfl) :
    SX (X.suite a ((a, oe) :: pn)) i a C d x (.Call (.Name "isinstance" p) [.Name n pe, .Name A pA] [] pos) (mC (.bl r)) := by
  refine ⟨_, pe_callB (X := X.suite a ((a, oe) :: pn)) (call_isX T hcl hz hf) hg hm (by decide +kernel) (pa_cons he (pa_cons hA pa_nil hs2) hs) (by decide) (by decide) hs hpl, fun S sg env Qv g en hi hx z => ?_⟩
  refine ⟨.ref a, hi, cV, cv, r, rfl, hcv, hk, ?_, z S (.bl r) g rfl .refl rfl⟩
  obtain ⟨C', h1, h2, h3⟩ := hx
  rcases h3 with ⟨_, _, h5⟩ | ⟨dd, h4, h5⟩
  · exact .inl h5
  · obtain ⟨b, xs, eb, hh, al⟩ := view_at g h5 (show view S.c (.nod (.xdc x.ks) x.ds) = some (.xdc x.ks, x.ds) from rfl)
    cases eb
    rcases hh with ⟨hl, hh⟩ | hh
    · exact .inr ⟨dd, _, h4, hh⟩
    · exact hh.elim
end
end Q
end
section
set_option Elab.async false
set_option linter.all false
set_option maxRecDepth 100000
namespace Q
open PySem PySem.Spec L2
variable [Tb]
/-! ### except suites, the whole try -/
def SXS (Y : Cx) (i : Nat) (a C : Addr) (d : Option Addr) (x : Exn) (st : List Stmt) (k : MS) : Prop :=
  PSs Y st (fun Dn sg H => ∃ S env, S.H = H ∧ Good (wd Y) S ∧ EnvAt (wd Y) S sg env ∧ sg[i]? = some (some (.ref a)) ∧ ExAt (wd Y) S (.ref C) d x ∧ PostS (wd Y) S (k env S.c) Dn WF)
structure Cla where
  hit : Str → Option Bool
  i : Nat
  k : Exn → MS
def RS.clr (i : Nat) : RS → RS
  | .ok (.nx env) c => .ok (.nx (env.set i none)) c
  | .ok (.bk env) c => .ok (.bk (env.set i none)) c
  | .ok (.ct env) c => .ok (.ct (env.set i none)) c
  | .ok (.rt d) c => .ok (.rt d) c
  | _ => .stk
def tryCl : List Cla → Exn → MS
  | [], x => fun env c => .err x env c
  | cl :: r, x => fun env c => match cl.hit x.cls with
    | some true => if cl.i < env.length then (cl.k x (env.set cl.i none) c).clr cl.i else .stk
    | some false => tryCl r x env c
    | none => .stk
def sTry (kb : MS) (cls : List Cla) : MS := fun env c => match kb env c with
  | .err x env' c' => tryCl cls x env' c'
  | r => r
theorem post_clr {T : Wd} {S : Sta} {i : Nat} {r : RS} {Dn : Ends} {W : WX} (h : PostS T S (r.clr i) Dn W) :
    PostS T S r { nx := fun s H' => Dn.nx (s.set i none) H', rt := Dn.rt, bk := fun s H' => Dn.bk (s.set i none) H', ct := fun s H' => Dn.ct (s.set i none) H' } WF := by
  match r, h with
  | .ok (.nx env) c, h => exact fun S' sg g hc x a => h S' _ g hc x (a.clr i none)
  | .ok (.bk env) c, h => exact fun S' sg g hc x a => h S' _ g hc x (a.clr i none)
  | .ok (.ct env) c, h => exact fun S' sg g hc x a => h S' _ g hc x (a.clr i none)
  | .ok (.rt d) c, h => exact h
  | .err y env c, h => exact h.elim
  | .stk, h => exact h.elim
/-- what the clauses wish -/
def wCls (X : Cx) (W : WX) (cls : List Cla) (Dn : Ends) : WX := fun cv d sg H => ∃ S env x, S.H = H ∧ Good (wd X) S ∧ EnvAt (wd X) S sg env ∧ ExAt (wd X) S cv d x ∧ PostS (wd X) S (tryCl cls x env S.c) Dn W
section
variable {X Y : Cx} {W : WX} {i : Nat} {a C : Addr} {d : Option Addr} {x : Exn} {e b : Expr} {es : List Expr} {pos p : Pos} {m ma mb : ME} {ms : ML} {oe : Obj} {pn : List (Addr × Obj)}
theorem HdOk.imp {hs : List ExceptHandler} {Wc Wc' : Ends → WX} (h : HdOk X hs Wc) (hi : ∀ D cls d sg H, Wc' D cls d sg H → Wc D cls d sg H) : HdOk X hs Wc' :=
  fun pins sg H sI s' h3 a B cls d D hfr L w => h pins sg H sI s' h3 a B cls d D hfr L (hi _ _ _ _ _ w)
theorem hq_nil (hs : X.stack = X.env :: X.outer) (hf : X.env.frame = some X.env.locals) (tk : Takes X W) : HdOk X [] (wCls X W []) :=
  (hd_nil hs hf tk).imp fun D cls d sg H ⟨S, env, x, e, g, en, ex, p⟩ => by
    subst e
    exact p S sg cls d g rfl .refl en ex
theorem hq_cons {xc n : Str} {c : Value} {cl : Cla} {cls : List Cla} {suite : List Stmt} {b₀ : Stmt} {np pos' : Pos} {rest : List ExceptHandler} (hs : X.stack = X.env :: X.outer) (hf : X.env.frame = some X.env.locals) (hN : X.N.Nodup) (hc : Names X xc c) (hrest : HdOk X rest (wCls X W cls))
    (hit : ∀ n r C, cl.hit n = some r → X.mg n = some (.ref C) → PySem.W.exmOne X.K (.ref C) c = some r)
    (hsu : ∀ (a : Addr) (oe : Obj) (C : Addr) (d : Option Addr) (pn : List (Addr × Obj)) (x : Exn), X.mg x.cls = some (.ref C) → cl.hit x.cls = some true → Zc (.ref C) d oe → (∃ vs, oe.data = .fields vs) → SXS (X.suite a ((a, oe) :: pn)) cl.i a C d x (b₀ :: suite) (cl.k x))
    (hi : X.N[cl.i]? = some n := by rfl) (hln : X.env.kindOf n = some .local := by rfl) :
    HdOk X (.ExceptHandler (some (.Name xc np)) (some n) (b₀ :: suite) pos' :: rest) (wCls X W (cl :: cls)) := by
  refine (hd_as (c := c) (i := cl.i) hs hf hN hc hrest (ts := fun a cv d Dn sg H => ∃ S env x C, S.H = H ∧ Good (wd X) S ∧ EnvAt (wd X) S sg env ∧ sg[cl.i]? = some (some (.ref a)) ∧ ExAt (wd X) S (.ref C) d x ∧ cv = .ref C ∧ X.mg x.cls = some (.ref C) ∧ cl.hit x.cls = some true ∧ PostS (wd X) S (cl.k x env S.c) Dn WF) (fun a oe cv d pn hz hv => ?_) hi hln).imp ?_
  · refine ⟨fun pins s sg H D I h => ?_⟩
    obtain ⟨S, env, x, C, eH, g, en, hia, ex, ec, hm, ht, p⟩ := h
    subst ec
    exact (hsu a oe C d pn x hm ht hz hv).run pins s sg H D I ⟨S, env, eH, g, en, hia, ex, p⟩
  · intro D cv d sg H ⟨S, env, x, e, g, en, ex, p⟩
    subst e
    obtain ⟨C, hm, ec, hd⟩ := id ex
    subst ec
    have p : PostS (wd X) S (match cl.hit x.cls with
      | some true => if cl.i < env.length then (cl.k x (env.set cl.i none) S.c).clr cl.i else .stk
      | some false => tryCl cls x env S.c
      | none => .stk) D W := p
    cases ht : cl.hit x.cls with
    | none =>
      rw [ht] at p
      exact p.elim
    | some r =>
      rw [ht] at p
      refine ⟨r, hit _ _ _ ht hm, fun hr a na => ?_, fun hr => ?_⟩
      · subst hr
        have p : PostS (wd X) S (if cl.i < env.length then (cl.k x (env.set cl.i none) S.c).clr cl.i else .stk) D W := p
        split at p
        · rename_i hl
          exact ⟨S, env.set cl.i none, x, C, rfl, g, en.clr cl.i _, List.getElem?_set_self (by rw [en.len]; exact hl), ex, rfl, hm, ht, post_clr p⟩
        · exact p.elim
      · subst hr
        exact ⟨S, env, x, rfl, g, en, ex, p⟩
theorem ss_try {body : List Stmt} {h₀ : ExceptHandler} {hl : List ExceptHandler} {kb : MS} {cls : List Cla} (hs : X.stack = X.env :: X.outer) (hf : X.env.frame = some X.env.locals)
    (hb : ∀ (Wi : WX) (pn : List (Addr × Obj)) (xe : Value → Shared → Prop), Takes (X.tr pn xe) Wi → PassesOwn (model X.prog X.w) X.A X.env xe → SB (X.tr pn xe) Wi body kb) (hh : HdOk X (h₀ :: hl) (wCls X W cls)) : SS X W (.Try body (h₀ :: hl) [] [] pos) (sTry kb cls) := by
  refine PS.imp (ps_tryL hs hf (tb := fun Wi => tS (wd X) kb Wi) (fun Wi pn xe tk po => hb Wi pn xe tk po) hh) fun D sg H ⟨S, env, e, g, en, p⟩ => ?_
  subst e
  refine ⟨S, env, rfl, g, en, ?_⟩
  unfold sTry at p
  cases h : kb env S.c with
  | stk => rw [h] at p; exact p
  | err x env' c' =>
    rw [h] at p
    intro S' sg' cv dd g' hc x' en' ex
    subst hc
    exact ⟨S', env', x, rfl, g', en', ex, PostS.ext x' p⟩
  | ok f c' =>
    rw [h] at p
    cases f <;> exact p
/-- name = e in a suite -/
theorem sxs_set {j : Nat} {y : Str} {py : Pos} (hN : Y.N.Nodup) (ha : SX Y i a C d x e m) (hi : Y.N[j]? = some y := by rfl) (hx : Loc Y.env.scope y := by first | exact Or.inl rfl | exact Or.inr rfl) (hs : swapsWith e (some (.Name y py)) pos.line Y.env = pure false := by rfl)
    (hf : Y.fn y = true ∨ Y.env.scope.names.lookup y = some .local := by first | exact .inl rfl | exact .inr rfl | assumption) : SXS Y i a C d x [.Assign [.Name y py] e pos] (sSet j m) := by
  obtain ⟨t, p, q⟩ := ha
  refine PSs.imp (pss_one (ps_set hN hi hx p hs hf)) fun D sg H ⟨S, env, e, g, en, hia, ex, z⟩ => ?_
  subst e
  exact q S sg env _ g en hia ex (post_st z en fun d S1 v e1 g1 x1 a1 p1 => p1 S1 _ g1 rfl .refl ((en.ext x1).set j a1))
theorem sxs_ret (ha : SX Y i a C d x e m) : SXS Y i a C d x [.Return (some e) pos] (sRet m) := by
  obtain ⟨t, p, q⟩ := ha
  refine PSs.imp (pss_one (ps_ret p)) fun D sg H ⟨S, env, e, g, en, hia, ex, z⟩ => ?_
  subst e
  exact q S sg env _ g en hia ex (post_st z en fun d S1 v e1 g1 x1 a1 p1 => p1 S1 v g1 rfl .refl a1)
end
end Q
end
section
set_option Elab.async false
set_option linter.all false
set_option maxRecDepth 100000
namespace Q
open PySem PySem.Spec L2
open PyProof.Rows (envOfC)
variable [Tb]
/-! ### x(lambda: body) -/
def kn : Env → List D
  | some d :: e => d :: kn e
  | none :: e => kn e
  | [] => []
def knV : L2.St → Env → List V
  | v :: s, some _ :: e => v.getD .non :: knV s e
  | _ :: s, none :: e => knV s e
  | _, _ => []
theorem kn_at {T : Wd} {S : Sta} : ∀ {sg : L2.St} {env : Env}, EnvAt T S sg env → AtL T S (knV sg env) (kn env)
  | [], [], _ => trivial
  | v :: sg, o :: env, h => by
    have t : EnvAt T S sg env := ⟨by simpa using h.len, fun i d e => h.get (i + 1) d (by simpa using e)⟩
    cases o with
    | none =>
      have q := kn_at t
      exact q
    | some d =>
      obtain ⟨x, e, a⟩ := h.get 0 d rfl
      have e : some v = some (some x) := e
      cases e
      exact ⟨a, kn_at t⟩
  | [], _ :: _, h => absurd h.len (by simp)
  | _ :: _, [], h => absurd h.len (by simp)
theorem kn_back {T : Wd} {S S1 : Sta} : ∀ {sg : L2.St} {env : Env}, EnvAt T S sg env → AtL T S1 (knV sg env) (kn env) → EnvAt T S1 sg env
  | [], [], _, _ => ⟨rfl, fun i d e => by simp at e⟩
  | v :: sg, o :: env, h, q => by
    have t : EnvAt T S sg env := ⟨by simpa using h.len, fun i d e => h.get (i + 1) d (by simpa using e)⟩
    cases o with
    | none =>
      have ih := kn_back t q
      exact ⟨h.len, fun i d e => by
        cases i with
        | zero => cases e
        | succ i => exact ih.get i d (by simpa using e)⟩
    | some d =>
      obtain ⟨x, e, a⟩ := h.get 0 d rfl
      have e : some v = some (some x) := e
      cases e
      obtain ⟨q1, q2⟩ : At T S1 x d ∧ AtL T S1 (knV sg env) (kn env) := q
      have ih := kn_back t q2
      exact ⟨h.len, fun i d' e => by
        cases i with
        | zero => cases e; exact ⟨x, rfl, q1⟩
        | succ i => exact ih.get i d' (by simpa using e)⟩
  | [], _ :: _, h, _ => absurd h.len (by simp)
  | _ :: _, [], h, _ => absurd h.len (by simp)
/-- all but the tables stays -/
theorem Good.extN {T : Wd} {S : Sta} {H1 : Hp} (g : Good T S) (e : LamX.ExtN S.H H1) (t : LamX.Tabs Tb.l H1) : Good T { S with H := H1 } ∧ Ext T S { S with H := H1 } := by
  have kx : ∀ a ∈ S.x, H1 a = S.H a := fun a ha => by
    obtain ⟨_, o, h, m⟩ := g.hid a ha
    rw [h]
    exact e a o h fun ps z => by subst z; exact m
  have x : Ext T S { S with H := H1 } := ext_of (List.prefix_refl _) rfl kx fun a o n nx h q => ⟨n, nx, e a o h q⟩
  have kr : ∀ a ∈ S.r, H1 a = S.H a := fun a ha => by
    obtain ⟨o, h, m⟩ := g.there ha
    rw [h]
    exact e a o h fun ps z => by subst z; exact m
  refine ⟨⟨g.len, g.nd, fun a ha => ?_, fun i a cl hr hc => ?_, t⟩, x⟩
  · obtain ⟨n, o, h, m⟩ := g.hid a ha
    exact ⟨n, o, (kx a ha).trans h, m⟩
  · obtain ⟨xs, hh, m, l⟩ := g.at' i a cl hr hc
    have ke := kr a (List.mem_of_getElem? hr)
    exact ⟨xs, hold_ne hh ke, by show Mu a (H1 a); rw [ke]; exact m, x.list l⟩
open Classical in
noncomputable def mAct (D0 : D) (F0 : Cells → R D) : ME := fun env c => if env[0]? = some (some D0) then F0 c else .stk
section
variable {X : Cx} {pins : List (Addr × Obj)} {sg0 : L2.St} {H0 : Hp} {s0 : Shared}
/-- the argument's call, within the def that got it -/
theorem se_act {Ng : List Str} {qg : Str} {sc : Scope} {g f c' : Addr} {cdg pm ctv : Value} {params : Arguments} {body : Expr} {scope : Scope} {k : Nat} {a : Str} {pn : List (Addr × Obj)} {xe : Value → Shared → Prop} {Wi : WX} {mb : ME} {env0 : Env} {S0 : Sta} {p1 p2 : Pos}
    (I : Inv X pins sg0 H0 s0) (L : LamX.LamS X.env.scope scope) (hf : s0.heap.get? f = some (PySem.W.kla_obj "<lambda>" (X.env.qual ++ "<lambda>") params body scope (cloFrom X.env.cells scope.names []) pm c' ctv)) (hfn : H0 f = none) (hfr : f ∉ frs X.stack)
    (hbind : bindArgs (PySem.W.kla_fn "<lambda>" (X.env.qual ++ "<lambda>") params body scope (cloFrom X.env.cells scope.names []) pm (.ref c') ctv) ⟨[], []⟩ = pure [])
    (tk : Takes ((cxOf C8.CX0 X.prog X.w X.K X.mg X.base Ng qg sc g cdg X.A X.stack s0 H0 C8.E0).tr pn xe) Wi) (hr : Room (k + 1) (X.A.deeper (envOfC qg sc s0.heap.objs.size g cdg)))
    (gdX : X.A.guards = some []) (hbody : ∀ (E : XK) (A : Around) (outer : List PySem.Env) (s : Shared) (H : Hp), A.guards = some [] → Room k (A.deeper (LamX.lamEnv X scope s.heap.objs.size f c')) → SE (LamX.lamCx X A outer s H E scope f c') (fun cl dd _ H => E cl dd H) body mb)
    (en0 : EnvAt (wd X) S0 sg0 env0) (hN : Ng[0]? = some a) (hv : Vis sc a) (hd : (a == ("__debug__" : Str)) = false) (hcd : (a == ("__classdict__" : Str)) = false) :
    ∀ S sg env Qv, Good (wd X) S → EnvAt (wd X) S sg env → env[0]? = some (some (D.fn f c' (X.env.qual ++ "<lambda>") (knV sg0 env0) (kn env0))) → Post (wd X) S (mb env0 S.c) Qv (WE Wi sg) →
      ∀ pinsZ sZ, Inv ((cxOf C8.CX0 X.prog X.w X.K X.mg X.base Ng qg sc g cdg X.A X.stack s0 H0 C8.E0).tr pn xe) pinsZ sg S.H sZ →
        wpAny (model X.prog X.w) ((cxOf C8.CX0 X.prog X.w X.K X.mg X.base Ng qg sc g cdg X.A X.stack s0 H0 C8.E0).tr pn xe).A (eval (.Call (.Name a p1) [] [] p2) ((cxOf C8.CX0 X.prog X.w X.K X.mg X.base Ng qg sc g cdg X.A X.stack s0 H0 C8.E0).tr pn xe).env)
          (EP ((cxOf C8.CX0 X.prog X.w X.K X.mg X.base Ng qg sc g cdg X.A X.stack s0 H0 C8.E0).tr pn xe) pinsZ sg Qv) ((cxOf C8.CX0 X.prog X.w X.K X.mg X.base Ng qg sc g cdg X.A X.stack s0 H0 C8.E0).tr pn xe).xe sZ := by
  intro S sg env Qv gd en h0 z pinsZ sZ IZ
  obtain ⟨v0, hs0, av⟩ := en.get 0 _ h0
  obtain ⟨rfl, ⟨nc, ncx, hc⟩, akn⟩ : v0 = .ref f ∧ (c' ∉ S.r ∧ c' ∉ S.x ∧ S.H c' = some (LamX.CodeO c' (X.env.qual ++ "<lambda>"))) ∧ AtL (wd X) S (knV sg0 env0) (kn env0) := av
  have enZ : EnvAt (wd X) S sg0 env0 := kn_back en0 akn
  refine wpAny_Call_Name_kw (thn ((pe_var (pos := p1) (i := 0) hN hv hd hcd).run pinsZ sZ sg S.H (fun v H1 => v = .ref f ∧ H1 = S.H) IZ ⟨.ref f, hs0, rfl, rfl⟩) fun u s1 ⟨v, H1, I1, r1, q1⟩ => ?_)
  obtain ⟨ev, eH⟩ := q1
  subst ev
  rw [eH] at I1
  obtain rfl : u = Value.ref f := r1
  have un : Un (frs X.stack) [] H0 S.H s0.heap s1.heap := I1.base
  have hfo := un.keep f _ hf hfn hfr (fun y => nomatch (show f ∈ ([] : List Addr) from y))
  refine PySem.W.callWith_F0 ⟨_, _, _, _, hfo⟩ ?_
  obtain ⟨⟨oc, vs, t, hoc, hdc, hvc⟩, _, _⟩ := I1.hok c' _ hc
  obtain ⟨tb, pb, qb⟩ := hbody (fun cl dd H => Wi cl dd sg H) (X.A.deeper (envOfC qg sc s0.heap.objs.size g cdg)) (envOfC qg sc s0.heap.objs.size g cdg :: X.stack) s1 S.H gdX (hr.deeper _)
  have rc : codeAny (model X.prog X.w) (X.A.deeper (envOfC qg sc s0.heap.objs.size g cdg)) (.call (.ref f) ⟨[], []⟩) (CR (L2.CX X.prog X.w) (envOfC qg sc s0.heap.objs.size g cdg :: X.stack) X.prog X.w S.H s1 Qv (fun cl dd H => Wi cl dd sg H)) s1 := by
    refine PySem.W.kla_callFunE hr.depth hfo rfl L.co L.gen rfl ⟨c', oc, vs, t, rfl, hoc, hdc, hvc⟩ ?_
    rw [hbind]
    refine wpAny_pure (wpAny_newFunctionEnv (fun y hy => (L.own y hy).2) (fun y hy => absurd hy (by simp)) (fun h₁ hns hsb => ⟨I1.nolimit.fresh _ hsb, ?_⟩) L.kind)
    show codeAny _ _ (.expr body (LamX.lamEnv X scope s1.heap.objs.size f c')) _ _
    have kp : ∀ b o, s1.heap.get? b = some o → h₁.get? b = some o := fun b o e => hsb.extBut b o (Nat.ne_of_lt (Heap.lt_size e)) (Heap.get?_push_of_some _ e)
    have J := LamX.lam_start2 (E := fun cl dd H => Wi cl dd sg H) (f := f) (c' := c') (tk := s1.toks + ([] : List (Str × Value)).length) I L I1.env0 hr.hd un hns kp
    refine PySem.W.kla_codeExpr (wpAny_mono (pb.run [] _ _ S.H Qv J (qb S sg0 env0 Qv gd enZ z)) (fun v s' hq => ?_) fun e s' hq => hq)
    obtain ⟨w', H', J', rv, q⟩ := hq
    exact ⟨w', H', J'.os, J'.bare, J'.base, J'.hok, rv, q⟩
  refine wpAny_call (codeAny_mono rc fun r s' hq => ?_)
  cases r with
  | error e => exact tk _ _ (XE.of_call I1 (fun _ _ _ y => y) hq)
  | ok fl =>
    cases fl with
    | ret u => exact I1.after hq
    | next => exact hq.elim
    | brk => exact hq.elim
    | cont => exact hq.elim
end
abbrev Zt (X : Cx) (Ng : List Str) (x : Str) (sc : Scope) (g : Addr) (cdg : Value) (s : Shared) (H : Hp) : Cx := cxOf C8.CX0 X.prog X.w X.K X.mg X.base Ng x sc g cdg X.A X.stack s H C8.E0
def mLam (toldF : (Cells → R D) → Cells → R D) (mb : ME) : ME := fun env c => match toldF (mb env) c with
  | .ok d c => .ok d c
  | _ => .stk
section
variable {X : Cx} {W : WX}
theorem se_lam {x a : Str} {g c P : Addr} {k : Nat} {pg : Arguments} {bg : List Stmt} {sc : Scope} {dV kV doc pm cdv ct oc : Value} {an od : Option Addr} {osl : Array (Option Value)} {Ng : List Str} {params : Arguments} {body : Expr} {scope : Scope} {mb : ME} {p lpos pos : Pos}
    {toldF : (Cells → R D) → Cells → R D} {kb : D → (Cells → R D) → MS} (hm : X.mg x = some (.ref g)) (hk : PySem.W.keepIn X.K (.ref g) = true)
    (lk : X.K.lookup g = some ⟨oc, od, .func (PySem.W.fnOf x x pg bg sc dV kV doc pm an cdv ct), osl⟩) (hcg : PySem.W.codeIn X.K cdv x = true) (hb : L2.Binds X.K (PySem.W.fnOf x x pg bg sc dV kV doc pm an cdv ct) [a] []) (Sg : FnScope Ng [a] sc) (hNg : Ng[0]? = some a) (hva : Vis sc a)
    (hind : ∀ D0 F0 cc, (kb D0 F0 (enter Ng.length [D0]) cc).out = toldF F0 cc)
    (hG : ∀ (D0 : D) (F0 : Cells → R D) (s : Shared) (H : Hp), Room (k + 1) (Zt X Ng x sc g cdv s H).A →
      (∀ (Wi : WX) (pn : List (Addr × Obj)) (xe : Value → Shared → Prop) (p1 p2 : Pos), Takes ((Zt X Ng x sc g cdv s H).nox.tr pn xe) Wi → SE ((Zt X Ng x sc g cdv s H).nox.tr pn xe) Wi (.Call (.Name a p1) [] [] p2) (mAct D0 F0)) → SB (Zt X Ng x sc g cdv s H).nox WF bg (kb D0 F0))
    (TB : LamX.TabB X.base X.mg c P) (hcode : X.env.code = .ref c) (hmT : (P, X.env.qual ++ "<lambda>") ∈ Tb.l) (hu : ∀ p ∈ Tb.l, p.1 = P → p.2 = X.env.qual ++ "<lambda>") (hr : Room (k + 2) X.A) (L : LamX.LamS X.env.scope scope) (hdef : defaultsOf params X.env = ([], []))
    (hbind : ∀ (q : Str) (cl : List (Str × Addr)) (pm cv ctv : Value), bindArgs (PySem.W.kla_fn "<lambda>" q params body scope cl pm cv ctv) ⟨[], []⟩ = pure [])
    (gdX : X.A.guards = some []) (hbody : ∀ (E : XK) (A : Around) (outer : List PySem.Env) (s : Shared) (H : Hp) (f c' : Addr), A.guards = some [] → Room k (A.deeper (LamX.lamEnv X scope s.heap.objs.size f c')) → SE (LamX.lamCx X A outer s H E scope f c') (fun cl dd _ H => E cl dd H) body mb)
    (hg : Gl X x := by rfl) (hdb : (x == ("__debug__" : Str)) = false := by decide) (hd : (a == ("__debug__" : Str)) = false := by decide) (hcd : (a == ("__classdict__" : Str)) = false := by decide) :
    SE X W (.Call (.Name x p) [.Lambda params body scope lpos] [] pos) (mLam toldF mb) := by
  refine ⟨tE (wd X) (mLam toldF mb) W, ⟨fun pins s σ H Qv I h => ?_⟩, fun S sg env Qv g en z => ⟨S, env, rfl, g, en, z⟩⟩
  obtain ⟨S, env, rfl, gd, en, z⟩ := h
  refine wpAny_Call_Name_kw (ld_glob I hg hm ?_ hdb)
  refine PySem.W.callWith_K (h₀ := X.base) I.ok.mod.kin hk ?_ (by rfl) (by rfl)
  show wpAny _ _ (spliced ((false, eval (.Lambda params body scope lpos) X.env) :: backTo pos (starEach [] X.env))) _ _ s
  refine Calls.spliced_cons (LamX.lam_make2 I TB hcode hmT hu gd.tab hdef (L.has I.ok) fun f c' pm' ctv H1 s' I1 eN T1 hf hfn hfr hco => Calls.spliced_nil ⟨I1.kIn, ?_⟩)
  obtain ⟨g1, x1⟩ := gd.extN eN T1
  have nr : c' ∉ S.r := fun hm => by
    obtain ⟨o, h, m⟩ := g1.there hm
    have h : H1 c' = some o := h
    rw [hco] at h
    cases h
    exact mu_code m
  have nx : c' ∉ S.x := fun hm => by
    obtain ⟨_, o, h, m⟩ := g1.hid c' hm
    have h : H1 c' = some o := h
    rw [hco] at h
    cases h
    exact mu_code m
  have aD : At (wd X) { S with H := H1 } (.ref f) (.fn f c' (X.env.qual ++ "<lambda>") (knV σ env) (kn env)) := ⟨rfl, ⟨nr, nx, hco⟩, kn_at (en.ext x1)⟩
  have rc : codeAny (model X.prog X.w) X.A (.call (.ref g) ⟨[.ref f], []⟩) (CR C8.CX0 X.stack X.prog X.w H1 s' Qv C8.E0) s' := by
    refine LamX.run_ofS (N := Ng) (ps := [a]) (us := [.ref f]) (vs := [.ref f]) lk hcg Sg hr I1.env0 (hb s' [.ref f] I1.kIn rfl) (.cons rfl .nil) rfl fun hr' => ?_
    have sb := hG (.fn f c' (X.env.qual ++ "<lambda>") (knV σ env) (kn env)) (mb env) s' H1 hr' (fun Wi pn xe p1 p2 tk => ?_)
    · refine ⟨_, sb.nox, ⟨{ S with H := H1 }, enter Ng.length [_], rfl, g1, enter_at (vs := [.ref f]) (ds := [_]) ⟨aD, trivial⟩, post_out (E := fun _ _ _ => False) ?_⟩⟩
      rw [hind]
      have z : Post (wd X) S (match toldF (mb env) S.c with
        | .ok d c => .ok d c
        | _ => .stk) Qv (WE W σ) := z
      show Post (wd X) { S with H := H1 } (toldF (mb env) S.c) Qv _
      cases h : toldF (mb env) S.c with
      | ok d cc => rw [h] at z; exact PostG.ext x1 z
      | err y cc => rw [h] at z; exact z.elim
      | stk => rw [h] at z; exact z.elim
    · refine ⟨tE (wd X) (mAct _ _) Wi, ⟨fun pinsZ sZ σZ HZ Q2 IZ h2 => ?_⟩, fun S sg env Qv g en z => ⟨S, env, rfl, g, en, z⟩⟩
      obtain ⟨S2, env2, rfl, g2, en2, z2⟩ := h2
      unfold mAct at z2
      split at z2
      · rename_i h0
        exact se_act I1 L hf hfn hfr (hbind _ _ _ _ _) tk hr' gdX (fun E A outer s H ga hr2 => hbody E A outer s H f c' ga hr2) (en.ext x1) hNg hva hd hcd S2 σZ env2 Q2 g2 en2 h0 z2 pinsZ sZ IZ
      · exact z2.elim
  refine wpAny_call (codeAny_mono rc fun r s2 hq => ?_)
  cases r with
  | error e => exact (show False from hq).elim
  | ok fl =>
    cases fl with
    | ret u => exact I1.after hq
    | next => exact hq.elim
    | brk => exact hq.elim
    | cont => exact hq.elim
end
end Q
end
section
set_option Elab.async false
set_option linter.all false
set_option maxRecDepth 100000
namespace Q
open PySem PySem.Spec L2
open PyProof.Rows (envOfC)
variable [Tb]
section
variable {X : Cx} {W : WX} {e a b c o i f : Expr} {es : List Expr} {pos p pos' : Pos} {m ma mb mc mo : ME} {ms : ML}
/-! ### lists of ints -/
def intL : List D → Option (List Int)
  | [] => some []
  | .int i :: ds => (intL ds).map (i :: ·)
  | _ => none
theorem intL_at {T : Wd} {S : Sta} : ∀ {ds : List D} {xs : List V} {ns : List Int}, intL ds = some ns → AtL T S xs ds → xs = ns.map V.int
  | [], [], ns, e, _ => by cases e; rfl
  | .int i :: ds, x :: xs, ns, e, h => by
    obtain ⟨h1, h2⟩ : At T S x (.int i) ∧ AtL T S xs ds := h
    obtain ⟨ms, e1, e2⟩ := Option.map_eq_some_iff.mp (show (intL ds).map (i :: ·) = some ns from e)
    subst e2
    rw [intL_at e1 h2, List.map_cons, show x = .int i from h1]
  | [], _ :: _, _, _, h => h.elim
  | _ :: _, [], _, _, h => h.elim
theorem ints_D (ns : List Int) : intL (ns.map D.int) = some ns := by
  induction ns with
  | nil => rfl
  | cons n ns ih => simp [intL, ih]
theorem atL_ints {T : Wd} {S : Sta} (ns : List Int) : AtL T S (ns.map V.int) (ns.map D.int) := by
  induction ns with
  | nil => trivial
  | cons n ns ih => exact ⟨rfl, ih⟩
def lView (c : Cells) (d : D) : Option (List D) := match view c d with
  | some (.lst, ds) => some ds
  | some (.frl, ds) => some ds
  | _ => none
theorem lView_at {S : Sta} {v : V} {d : D} {ds : List D} (g : Good (wd X) S) (h : At (wd X) S v d) (e : lView S.c d = some ds) : ∃ a xs, v = .ref a ∧ SqL X.K S.H a xs ∧ AtL (wd X) S xs ds := by
  unfold lView at e
  split at e
  · rename_i ds' e0
    cases e
    obtain ⟨a, xs, rfl, q, l⟩ := view_at g h e0
    exact ⟨a, xs, rfl, .of (hold_L q), l⟩
  · rename_i ds' e0
    cases e
    obtain ⟨a, xs, rfl, q, l⟩ := view_at g h e0
    exact ⟨a, xs, rfl, hold_F q, l⟩
  · cases e
def maxI : List Int → Int
  | [] => 0
  | [x] => x
  | x :: xs => max x (maxI xs)
def minI : List Int → Int
  | [] => 0
  | [x] => x
  | x :: xs => min x (minI xs)
theorem maxI_spec : ∀ {ns : List Int}, ns ≠ [] → maxI ns ∈ ns ∧ ∀ y ∈ ns, y ≤ maxI ns
  | [x], _ => by simp [maxI]
  | x :: y :: r, _ => by
    obtain ⟨h1, h2⟩ := maxI_spec (ns := y :: r) (by simp)
    have e : maxI (x :: y :: r) = max x (maxI (y :: r)) := rfl
    rw [e]
    refine ⟨?_, fun z hz => ?_⟩
    · rcases Int.le_total x (maxI (y :: r)) with h | h
      · rw [Int.max_eq_right h]; exact List.mem_cons_of_mem _ h1
      · rw [Int.max_eq_left h]; exact List.mem_cons_self
    · rcases List.mem_cons.mp hz with q | q
      · rw [q]; exact Int.le_max_left _ _
      · exact Int.le_trans (h2 z q) (Int.le_max_right _ _)
theorem minI_spec : ∀ {ns : List Int}, ns ≠ [] → minI ns ∈ ns ∧ ∀ y ∈ ns, minI ns ≤ y
  | [x], _ => by simp [minI]
  | x :: y :: r, _ => by
    obtain ⟨h1, h2⟩ := minI_spec (ns := y :: r) (by simp)
    have e : minI (x :: y :: r) = min x (minI (y :: r)) := rfl
    rw [e]
    refine ⟨?_, fun z hz => ?_⟩
    · rcases Int.le_total x (minI (y :: r)) with h | h
      · rw [Int.min_eq_left h]; exact List.mem_cons_self
      · rw [Int.min_eq_right h]; exact List.mem_cons_of_mem _ h1
    · rcases List.mem_cons.mp hz with q | q
      · rw [q]; exact Int.min_le_left _ _
      · exact Int.le_trans (Int.min_le_right _ _) (h2 z q)
def bMaxL : List D → Cells → O
  | [d], c => ((lView c d).bind intL).bind fun ns => if ns = [] then none else some (.int (maxI ns), c)
  | _, _ => none
def bMinL : List D → Cells → O
  | [d], c => ((lView c d).bind intL).bind fun ns => if ns = [] then none else some (.int (minI ns), c)
  | _, _ => none
theorem ne_pos {ns : List Int} (h : ns ≠ []) : 0 < ns.length := by
  cases ns with
  | nil => exact absurd rfl h
  | cons _ _ => simp
theorem bMaxL_ok (hc : X.calm = true) : CaF X (.builtin "max") bMaxL := by
  refine ⟨_, cr_max hc, fun S xs ds Qv g ax p => ?_⟩
  obtain ⟨d, c, e, q⟩ := p.some
  unfold bMaxL at e
  split at e
  · obtain ⟨v, rfl, a⟩ := ax.one
    obtain ⟨ns, e1, e2⟩ := Option.bind_eq_some_iff.mp e
    obtain ⟨es, e3, e4⟩ := Option.bind_eq_some_iff.mp e1
    split at e2
    · cases e2
    · rename_i hn
      cases e2
      obtain ⟨l, us, rfl, h, al⟩ := lView_at g a e3
      have hu := intL_at e4 al
      subst hu
      refine ⟨l, ns, rfl, h, ne_pos hn, fun m h1 h2 => ?_⟩
      obtain ⟨h3, h4⟩ := maxI_spec hn
      have em : m = maxI ns := Int.le_antisymm (h4 m h1) (h2 _ h3)
      exact q S _ g rfl .refl (by rw [em]; rfl)
  · cases e
theorem bMinL_ok (hc : X.calm = true) : CaF X (.builtin "min") bMinL := by
  refine ⟨_, cr_min hc, fun S xs ds Qv g ax p => ?_⟩
  obtain ⟨d, c, e, q⟩ := p.some
  unfold bMinL at e
  split at e
  · obtain ⟨v, rfl, a⟩ := ax.one
    obtain ⟨ns, e1, e2⟩ := Option.bind_eq_some_iff.mp e
    obtain ⟨es, e3, e4⟩ := Option.bind_eq_some_iff.mp e1
    split at e2
    · cases e2
    · rename_i hn
      cases e2
      obtain ⟨l, us, rfl, h, al⟩ := lView_at g a e3
      have hu := intL_at e4 al
      subst hu
      refine ⟨l, ns, rfl, h, ne_pos hn, fun m h1 h2 => ?_⟩
      obtain ⟨h3, h4⟩ := minI_spec hn
      have em : m = minI ns := Int.le_antisymm (h2 _ h3) (h4 m h1)
      exact q S _ g rfl .refl (by rw [em]; rfl)
  · cases e
/-! ### isinstance of types -/
def tyD (c : Cells) (d : D) : Option String := match d with
  | .non => some "NoneType"
  | .bl _ => some "bool"
  | .int _ => some "int"
  | .str _ => some "str"
  | d => match view c d with
    | some (.lst, _) => some "list"
    | some (.frl, _) => some "list"
    | some (.tup, _) => some "tuple"
    | some (.dic _, _) => some "dict"
    | some (.dit _, _) => some "dict"
    | _ => none
theorem tyD_at {S : Sta} {v : V} {d : D} {t : String} (g : Good (wd X) S) (e : tyD S.c d = some t) (a : At (wd X) S v d) : TyX X.K S.H v (.type t) := by
  have obj : (match view S.c d with
    | some (.lst, _) => some "list"
    | some (.frl, _) => some "list"
    | some (.tup, _) => some "tuple"
    | some (.dic _, _) => some "dict"
    | some (.dit _, _) => some "dict"
    | _ => none) = some t → TyX X.K S.H v (.type t) := fun e => by
    split at e
    · rename_i ds e0
      cases e
      obtain ⟨b, xs, rfl, h, l⟩ := view_at g a e0
      exact .base (.lst (hold_L h))
    · rename_i ds e0
      cases e
      obtain ⟨b, xs, rfl, h, l⟩ := view_at g a e0
      rcases h with ⟨o, h⟩ | ⟨ob, its, n, h1, h2, _⟩
      · exact .base (.frz h)
      · exact .kList h1 h2
    · rename_i ds e0
      cases e
      obtain ⟨b, xs, rfl, h, l⟩ := view_at g a e0
      rcases h with h | ⟨ob, its, n, h1, h2, h3, _⟩
      · exact .base (.tup h)
      · exact .kTuple h1 h2
    · rename_i ks ds e0
      cases e
      obtain ⟨b, xs, rfl, h, l⟩ := view_at g a e0
      rcases h with ⟨_, h⟩ | h
      · exact .base (.dK h)
      · exact h.elim
    · rename_i ks ds e0
      cases e
      obtain ⟨b, xs, rfl, h, l⟩ := view_at g a e0
      rcases h with ⟨_, h⟩ | h
      · exact .base (.dT h)
      · exact h.elim
    · cases e
  cases d with
  | non => cases e; cases (show v = .non from a); exact .base .non
  | bl k => cases e; cases (show v = .bl k from a); exact .base (.bl k)
  | int k => cases e; cases (show v = .int k from a); exact .base (.int k)
  | str k => cases e; cases (show v = .str k from a); exact .base (.str k)
  | cell k => exact obj e
  | fn _ _ _ _ _ => exact obj e
  | nod t ds => exact obj e
/-- the answer for built-in types, as a table -/
def isB (t T : String) : Option Bool := if t ∈ ["NoneType", "bool", "int", "str", "list", "tuple", "dict"] ∧ T ∈ ["bool", "int", "str", "list", "tuple", "dict"] then some (decide (t = T) || (decide (t = "bool") && decide (T = "int"))) else none
theorem isB_kit {K : PySem.W.Frag} {t T : String} {r : Bool} (h : isB t T = some r) : PySem.W.kitOne K (.type t) (.type T) = some r := by
  unfold isB at h
  split at h
  · rename_i hm
    cases h
    obtain ⟨h1, h2⟩ := hm
    have tab : ∀ t ∈ ["NoneType", "bool", "int", "str", "list", "tuple", "dict"], ∀ T ∈ ["bool", "int", "str", "list", "tuple", "dict"], kitB t T = some (decide (t = T) || (decide (t = "bool") && decide (T = "int"))) := by decide +kernel
    exact kit_ty (tab t h1 T h2)
  · cases h
def isAny (t : String) : List String → Option Bool
  | [] => some false
  | T :: r => match isB t T with
    | some true => some true
    | some false => isAny t r
    | none => none
theorem isAny_kit {K : PySem.W.Frag} {t : String} : ∀ {Ts : List String} {r : Bool}, isAny t Ts = some r → PySem.W.kitAny K (.type t) (Ts.map Value.type) = some r
  | [], r, h => by cases h; exact kitAny_nil
  | T :: Ts, r, h => by
    unfold isAny at h
    split at h
    · rename_i e
      cases h
      exact kitAny_cons (isB_kit e) (fun z => nomatch z) fun _ => rfl
    · rename_i e
      exact kitAny_cons (isB_kit e) (fun _ => isAny_kit h) fun z => nomatch z
    · cases h
def fIsi (Ts : List String) (d : D) (c : Cells) : O := (tyD c d).bind fun t => (isAny t Ts).map fun b => (.bl b, c)
/-- isinstance(a, T) -/
theorem se_isi {Tn : Str} {T : String} {pT : Pos} (ha : SE X W a ma) (hT : PE X (.Name Tn pT) (tC (.ty T))) (hm : X.mg "isinstance" = none) (hg : Gl X "isinstance" := by rfl)
    (hs : starEach [a, .Name Tn pT] X.env = (false, eval a X.env) :: starEach [.Name Tn pT] X.env := by rfl) (hs2 : starEach [.Name Tn pT] X.env = (false, eval (.Name Tn pT) X.env) :: starEach [] X.env := by rfl) (hpl : (backTo pos (starEach [.Name Tn pT] X.env)).any (·.1) = false := by rfl) :
    SE X W (.Call (.Name "isinstance" p) [a, .Name Tn pT] [] pos) (m1 (fIsi [T]) ma) := by
  obtain ⟨ta, pa, qa⟩ := ha
  refine ⟨_, pe_callB call_isi hg hm (by decide +kernel) (pa_cons pa (pa_cons hT pa_nil hs2) hs) (by decide) (by decide) hs hpl, fun S sg env Qv g en z => ?_⟩
  refine qa S sg env _ g en (post_bind z fun d S1 v e1 g1 x1 a1 p1 => ?_)
  obtain ⟨r, c', e, q⟩ := p1.o.some
  obtain ⟨t, e2, e3⟩ := Option.bind_eq_some_iff.mp e
  obtain ⟨r', e4, e5⟩ := Option.map_eq_some_iff.mp e3
  cases e5
  have e6 : isB t T = some r' := by
    unfold isAny at e4
    split at e4
    · rename_i e7; cases e4; exact e7
    · rename_i e7; cases e4; exact e7
    · cases e4
  exact ⟨v, .ty T, _, _, r', rfl, .ty T, tyD_at g1 e2 a1, isB_kit e6, q S1 _ g1 rfl .refl rfl⟩
/-- isinstance(a, (T, U)) -/
theorem se_isi2 {Tn Un' : Str} {T U : String} {pT pU pt : Pos} {kt : Nat} (ha : SE X W a ma) (hT : PE X (.Name Tn pT) (tC (.ty T))) (hU : PE X (.Name Un' pU) (tC (.ty U))) (hm : X.mg "isinstance" = none) (hg : Gl X "isinstance" := by rfl)
    (hs : starEach [a, .Tuple [.Name Tn pT, .Name Un' pU] kt pt] X.env = (false, eval a X.env) :: starEach [.Tuple [.Name Tn pT, .Name Un' pU] kt pt] X.env := by rfl)
    (hs2 : starEach [.Tuple [.Name Tn pT, .Name Un' pU] kt pt] X.env = (false, eval (.Tuple [.Name Tn pT, .Name Un' pU] kt pt) X.env) :: starEach [] X.env := by rfl) (hpl : (backTo pos (starEach [.Tuple [.Name Tn pT, .Name Un' pU] kt pt] X.env)).any (·.1) = false := by rfl)
    (hs3 : starEach [.Name Tn pT, .Name Un' pU] X.env = (false, eval (.Name Tn pT) X.env) :: starEach [.Name Un' pU] X.env := by rfl) (hs4 : starEach [.Name Un' pU] X.env = (false, eval (.Name Un' pU) X.env) :: starEach [] X.env := by rfl) :
    SE X W (.Call (.Name "isinstance" p) [a, .Tuple [.Name Tn pT, .Name Un' pU] kt pt] [] pos) (m1 (fIsi [T, U]) ma) := by
  obtain ⟨ta, pa, qa⟩ := ha
  refine ⟨_, pe_callB call_isiT hg hm (by decide +kernel) (pa_cons pa (pa_cons (pe_tup (pa_cons hT (pa_cons hU pa_nil hs4) hs3)) pa_nil hs2) hs) (by decide) (by decide) hs hpl, fun S sg env Qv g en z => ?_⟩
  refine qa S sg env _ g en (post_bind z fun d S1 v e1 g1 x1 a1 p1 => ?_)
  obtain ⟨r, c', e, q⟩ := p1.o.some
  obtain ⟨t, e2, e3⟩ := Option.bind_eq_some_iff.mp e
  obtain ⟨r', e4, e5⟩ := Option.map_eq_some_iff.mp e3
  cases e5
  refine ⟨by show 2 ≤ sizeLine; decide, fun tp htp => ?_⟩
  have g2 := g1.put (o := .tup [.ty T, .ty U]) htp
  have x2 := Sta.ext_put (T := wd X) (o := .tup [.ty T, .ty U]) g1 htp
  exact ⟨v, tp, [.ty T, .ty U], .type t, [.type T, .type U], r', rfl, upd_same, .cons (.ty T) (.cons (.ty U) .nil), tyD_at g2 e2 (x2.keep _ _ a1), isAny_kit e4, q (S1.put tp _) _ g2 rfl x2 rfl⟩
/-! ### >= of tuples of ints -/
def rGeT (K : PySem.W.Frag) : R2 := fun x y H Qv => ∃ (a b : Addr) (ns ms : List Int), x = .ref a ∧ y = .ref b ∧ SqT K H a (ns.map V.int) ∧ SqT K H b (ms.map V.int) ∧
  Qv (.bl (Ob.lexAt (fun j => decide (ns.getD j 0 = ms.getD j 0)) (fun j => decide (ns.getD j 0 ≥ ms.getD j 0)) (decide (ns.length ≥ ms.length)) 0 (min ns.length ms.length))) H
theorem op_geT (hu : X.A.units < cLine) : OpR X (compareOp .GtE) (rGeT X.K) := by
  intro pins s sg H x y v u Qv I rx ry h
  obtain ⟨a, b, ns, ms, rfl, rfl, ha, hb, q⟩ := h
  cases rx
  cases ry
  obtain ⟨its, r1, p1, _⟩ := I.tuple ha
  obtain ⟨jts, r2, p2, _⟩ := I.tuple hb
  have i1 := Vals.ints r1
  have i2 := Vals.ints r2
  have k1 : its.toArray.size = ns.length := (List.size_toArray ..).trans i1.length
  have k2 : jts.toArray.size = ms.length := (List.size_toArray ..).trans i2.length
  have t1 : ∀ j (hj : j < its.toArray.size), ∃ t, its.toArray[j] = .int (ns.getD j 0) t := fun j hj => PyProof.Rows.IntsAre.int_at i1 _ _ (by simp at hj; simp [hj])
  have t2 : ∀ j (hj : j < jts.toArray.size), ∃ t, jts.toArray[j] = .int (ms.getD j 0) t := fun j hj => PyProof.Rows.IntsAre.int_at i2 _ _ (by simp at hj; simp [hj])
  have R := Ob.RcOp.tuples_ge (A := X.A) (s := s) (e := fun j => decide (ns.getD j 0 = ms.getD j 0)) (r := fun j => decide (ns.getD j 0 ≥ ms.getD j 0)) p1 p2 hu (fun j h1 h2 => ?_) (fun j h1 h2 _ => ?_)
  · rw [k1, k2] at R
    exact R X.prog X.w X.xe (EP X pins sg Qv) ⟨.bl _, H, I, rfl, q⟩
  · obtain ⟨t, et⟩ := t1 j h1
    obtain ⟨t', et'⟩ := t2 j h2
    rw [et, et', show decide (ns.getD j 0 = ms.getD j 0) = (ns.getD j 0 == ms.getD j 0) from rfl]
    exact SeqAt.EqAt.int_int _ _ _ _
  · obtain ⟨t, et⟩ := t1 j h1
    obtain ⟨t', et'⟩ := t2 j h2
    rw [et, et']
    exact Ob.RcOp.ge_int _ _ _ _
def geL : List Int → List Int → Bool
  | _, [] => true
  | [], _ :: _ => false
  | x :: xs, y :: ys => if x = y then geL xs ys else decide (x ≥ y)
theorem lexAt_shift {e r : Nat → Bool} {d : Bool} : ∀ (n i : Nat), Ob.lexAt e r d (i + 1) n = Ob.lexAt (fun j => e (j + 1)) (fun j => r (j + 1)) d i n
  | 0, i => by rw [Ob.lexAt_zero, Ob.lexAt_zero]
  | n + 1, i => by
    rw [Ob.lexAt_succ, Ob.lexAt_succ, lexAt_shift n (i + 1)]
theorem geL_lex : ∀ (ns ms : List Int), Ob.lexAt (fun j => decide (ns.getD j 0 = ms.getD j 0)) (fun j => decide (ns.getD j 0 ≥ ms.getD j 0)) (decide (ns.length ≥ ms.length)) 0 (min ns.length ms.length) = geL ns ms
  | ns, [] => by
    rw [List.length_nil, Nat.min_zero, Ob.lexAt_zero]
    cases ns <;> simp [geL]
  | [], y :: ms => by
    rw [List.length_nil, Nat.zero_min, Ob.lexAt_zero]
    simp [geL]
  | x :: ns, y :: ms => by
    have ih := geL_lex ns ms
    rw [List.length_cons, List.length_cons, Nat.succ_min_succ, Ob.lexAt_succ, lexAt_shift]
    simp only [List.getD_cons_zero, List.getD_cons_succ, geL, decide_eq_true_eq]
    rw [show decide (ns.length + 1 ≥ ms.length + 1) = decide (ns.length ≥ ms.length) by simp, ih]
def fGeT (x y : D) (c : Cells) : O := match view c x, view c y with
  | some (.tup, xs), some (.tup, ys) => match intL xs, intL ys with
    | some ns, some ms => some (.bl (geL ns ms), c)
    | _, _ => none
  | _, _ => none
theorem fGeT_ok (hu : X.A.units < cLine) : OpF X (compareOp .GtE) fGeT := by
  refine ⟨_, op_geT hu, fun S x y dx dy Qv g ax ay p => ?_⟩
  obtain ⟨d, c, e, q⟩ := p.some
  unfold fGeT at e
  split at e
  · rename_i xs ys e1 e2
    split at e
    · rename_i ns ms e3 e4
      cases e
      obtain ⟨a, us, rfl, h1, l1⟩ := view_at g ax e1
      obtain ⟨b, ws, rfl, h2, l2⟩ := view_at g ay e2
      have u1 := intL_at e3 l1
      have u2 := intL_at e4 l2
      subst u1 u2
      exact ⟨a, b, ns, ms, rfl, rfl, hold_T h1, hold_T h2, q S _ g rfl .refl (by rw [geL_lex]; rfl)⟩
    · cases e
  · cases e
def fGeA : D → D → Cells → O := orO fGe fGeT
theorem fGeA_ok (hu : X.A.units < cLine) : OpF X (compareOp .GtE) fGeA := fGe_ok.or (fGeT_ok hu)
end
end Q
end
section
set_option Elab.async false
set_option linter.all false
set_option maxRecDepth 100000
namespace Q
open PySem PySem.Spec L2
open PyProof.Rows (envOfC)
variable [Tb]
/-! ### def f(*values) -/
structure FnS (P : Program) (w : World) (K : PySem.W.Frag) (mg : Str → Option Value) (base : Heap) (k : Nat) (f : Addr) (F : FD) : Prop where
  run : ∀ (A : Around) (l : List PySem.Env) (s : Shared) (S : Sta) (us : List Value) (vs : List V) (ds : List D) (Qv : VK) (E : XK), A.guards = some [] → Room k A → Env0 P w K mg base A l s S.H →
    Vals vs us → Good ⟨K, mg⟩ S → AtL ⟨K, mg⟩ S vs ds → Post ⟨K, mg⟩ S (F ds S.c) Qv E → codeAny (model P w) A (.call (.ref f) ⟨us, []⟩) (CR (L2.CX P w) l P w S.H s Qv E) s
section
variable {P : Program} {w : World} {K : PySem.W.Frag} {mg : Str → Option Value} {base : Heap}
def starF (n : Nat) (k : MS) : FD := fun ds c => if ds.length ≤ sizeLine then (k (enter n [.tup ds]) c).out else .stk
theorem fn_bodyS {x qual pv : Str} {st : Stmt} {f : Addr} {fd : FuncData} {N : List Str} {k : Nat} {m : MS} (F : Fun K x qual st f fd) (Sc : FnScope N [pv] (defScope st))
    (hb : ∀ us : List Value, bindArgs fd ⟨us, []⟩ = (newTuple us >>= fun t => pure [(pv, t)]))
    (hbody : ∀ cdv A l s H E, A.guards = some [] → Room k (Xf P w K mg base N qual st f cdv A l s H E).A → Takes (Xf P w K mg base N qual st f cdv A l s H E) (WOf E) →
      PassesOwn (model P w) (Xf P w K mg base N qual st f cdv A l s H E).A (Xf P w K mg base N qual st f cdv A l s H E).env (Xf P w K mg base N qual st f cdv A l s H E).xe →
      SB (Xf P w K mg base N qual st f cdv A l s H E) (WOf E) (defBody st) m) : FnS P w K mg base (k + 1) f (starF N.length m) := by
  obtain ⟨oc, od, kV, doc, pm, an, cdv, ct, osl, rfl, lk, hcd⟩ := F.ex
  refine ⟨fun A l s S us vs ds Qv E hgd hr e0 hv gd al p => ?_⟩
  unfold starF at p
  split at p
  · rename_i hz
    have hzu : us.length ≤ sizeLine := by rw [← hv.length, al.len]; exact hz
    have hzv : vs.length ≤ sizeLine := by rw [al.len]; exact hz
    have hn : S.H s.heap.objs.size = none := e0.hok.fresh (Nat.le_refl _)
    refine StX.run_bnd (N := N) (ps := [pv]) lk hcd Sc hr e0 (G := fun xs H2 => ∃ q, S.H q = none ∧ xs = [V.ref q] ∧ H2 = upd S.H q (.tup vs)) (fun A' Ex Q' h => ?_) fun s2 H2 xs ⟨q, hq, ex, eH⟩ hr' => ?_
    · rw [hb us]
      refine wpAny_bind (wpAny_newTuple (wpAny_pure ?_) hzu)
      have new : ObjOk P w (upd S.H s.heap.objs.size (.tup vs)) (s.heap.push ({ cls := .type "tuple", data := .seq us.toArray } : Obj)) s.heap.objs.size (.tup vs) := ⟨hzv, us, hv, ⟨_, Heap.get?_push_size _ rfl, rfl, _, rfl⟩⟩
      have un := StX.un_laid (fs := frs l) (s := s) (o := ({ cls := .type "tuple", data := .seq us.toArray } : Obj)) (u := .tup vs) hn
      exact h _ _ [V.ref s.heap.objs.size] [Value.ref s.heap.objs.size] (StX.env0_laid e0 new) un rfl (fun e s' => StX.cxUp l s S.H _ _ E e s' un (fun b o y => Heap.get?_push_of_some _ y) rfl) (.cons rfl .nil) rfl ⟨_, hn, rfl, rfl⟩
    · subst ex eH
      have body := hbody cdv A l s2 (upd S.H q (.tup vs)) E hgd hr' (takes_of rfl rfl rfl rfl) (passes_of rfl)
      have x1 := Sta.ext_put (T := ⟨K, mg⟩) (o := .tup vs) gd hq
      refine ⟨_, body, S.put q (.tup vs), enter N.length [.tup ds], rfl, gd.put hq, enter_at (vs := [.ref q]) (ds := [.tup ds]) ⟨⟨q, vs, rfl, .inl ⟨gd.fresh hq, gd.freshX hq, upd_same⟩, x1.list al⟩, trivial⟩, post_out (PostG.ext x1 p)⟩
  · exact p.elim
end
section
variable {X : Cx} {W : WX} {e a b : Expr} {es : List Expr} {pos p : Pos} {ms : ML} {k : Nat} {f : Addr} {F : FD} {x : Str}
theorem run_s {pins : List (Addr × Obj)} {sg : L2.St} {S : Sta} {s : Shared} {Qv : VK} {us : List Value} {vs : List V} {ds : List D} (G : FnS X.prog X.w X.K X.mg X.base k f F) (hr : Room k X.A) (gd : X.A.guards = some []) (tk : Takes X W)
    (I : Inv X pins sg S.H s) (r : Vals vs us) (g : Good (wd X) S) (al : AtL (wd X) S vs ds) (h : Post (wd X) S (F ds S.c) Qv (WE W sg)) :
    codeAny (model X.prog X.w) X.A (.call (.ref f) ⟨us, []⟩) (fun r s' => match r with
      | .ok (.ret v) => EP X pins sg Qv v s'
      | .error e => X.xe e s'
      | _ => False) s := by
  refine codeAny_mono (G.run X.A X.stack s S us vs ds Qv (WE W sg) gd hr I.env0 r g al h) fun r s' hq => ?_
  cases r with
  | error e => exact tk _ _ (XE.of_call I (fun _ _ _ z => z) hq)
  | ok fl =>
    cases fl with
    | ret u => exact I.after hq
    | next => exact hq.elim
    | brk => exact hq.elim
    | cont => exact hq.elim
def mFnS (F : FD) (ms : ML) : ME := fun env c => (ms env c).bind F
theorem se_fnS (G : FnS X.prog X.w X.K X.mg X.base k f F) (hr : Room k X.A) (gd : X.A.guards = some []) (tk : Takes X W) (hm : X.mg x = some (.ref f)) (hk : PySem.W.keepIn X.K (.ref f) = true)
    (ha : SA X W (e :: es) ms) (hg : Gl X x := by rfl) (hdb : (x == ("__debug__" : Str)) = false := by decide)
    (he : starEach (e :: es) X.env = (false, eval e X.env) :: starEach es X.env := by rfl) (hpl : (backTo pos (starEach es X.env)).any (·.1) = false := by rfl) :
    SE X W (.Call (.Name x p) (e :: es) [] pos) (mFnS F ms) := by
  obtain ⟨t, pa, q⟩ := ha
  refine ⟨tE (wd X) (mFnS F ms) W, ⟨fun pins s sg H Qv I h => ?_⟩, fun S sg env Qv g en z => ⟨S, env, rfl, g, en, z⟩⟩
  obtain ⟨S, env, rfl, g, en, z⟩ := h
  refine wpAny_Call_Name_kw (ld_glob I hg hm ?_ hdb)
  refine PySem.W.callWith_K (h₀ := X.base) I.ok.mod.kin hk (thn (pa.run pos pins s sg S.H (fun vs H1 => ∃ S1 xs, S1.H = H1 ∧ Good (wd X) S1 ∧ EnvAt (wd X) S1 sg env ∧ AtL (wd X) S1 vs xs ∧ Post (wd X) S1 (F xs S1.c) Qv (WE W sg)) I ?_) fun us s1 hh => ?_) he hpl
  · exact q S sg env _ g en (post_bind z fun xs S1 vs e1 g1 x1 a1 p1 => ⟨S1, xs, rfl, g1, en.ext x1, a1, p1⟩)
  · obtain ⟨vs, H1, I1, r, S1, xs, rfl, g1, en1, a1, p1⟩ := hh
    refine ⟨I1.kIn, wpAny_call (codeAny_mono (run_s G hr gd tk I1 r g1 a1 p1) fun rr s' hq => ?_)⟩
    match rr, hq with
    | .ok (.ret v), hq => exact hq
    | .error e, hq => exact hq
theorem se_fnS0 (G : FnS X.prog X.w X.K X.mg X.base k f F) (hr : Room k X.A) (gd : X.A.guards = some []) (tk : Takes X W) (hm : X.mg x = some (.ref f)) (hk : PySem.W.keepIn X.K (.ref f) = true)
    (hg : Gl X x := by rfl) (hdb : (x == ("__debug__" : Str)) = false := by decide) : SE X W (.Call (.Name x p) [] [] pos) (mFnS F mNil) := by
  refine ⟨tE (wd X) (mFnS F mNil) W, ⟨fun pins s sg H Qv I h => ?_⟩, fun S sg env Qv g en z => ⟨S, env, rfl, g, en, z⟩⟩
  obtain ⟨S, env, rfl, g, en, z⟩ := h
  refine wpAny_Call_Name_kw (ld_glob I hg hm ?_ hdb)
  refine PySem.W.callWith_K0 I.kIn hk (wpAny_call (codeAny_mono (run_s (us := []) (vs := []) (ds := []) G hr gd tk I .nil g (show AtL (wd X) S [] [] from trivial) z) fun rr s' hq => ?_))
  match rr, hq with
  | .ok (.ret v), hq => exact hq
  | .error e, hq => exact hq
end
end Q
end
section
set_option Elab.async false
set_option linter.all false
set_option maxRecDepth 100000
namespace Q
open PySem PySem.Spec L2
variable [Tb]
section
variable {X : Cx} {W : WX} {e a b : Expr} {es : List Expr} {pos p kpos : Pos} {ma : ME} {ms mk : ML} {k : Nat} {f : Addr} {fd : FuncData} {ps : List Str} {F : FD} {x : Str} {kws : List Keyword}
/-! ### keywords -/
def SK (X : Cx) (W : WX) (kws : List Keyword) (m : ML) : Prop :=
  ∃ t, PK X kws t ∧ ∀ S sg env Qv, Good (wd X) S → EnvAt (wd X) S sg env → PostG (wd X) S (AtL (wd X)) (m env S.c) Qv (WE W sg) → t sg S.H Qv
theorem sk_nil : SK X W [] mNil := ⟨_, pk_nil, fun S sg env Qv g en p => p S [] g rfl .refl trivial⟩
theorem sk_cons {nm : Option Str} (ha : SE X W e ma) (hr : SK X W kws ms) : SK X W (⟨nm, e, kpos⟩ :: kws) (mCons ma ms) := by
  obtain ⟨ta, pa, qa⟩ := ha
  obtain ⟨tb, pb, qb⟩ := hr
  refine ⟨_, pk_cons pa pb, fun S sg env Qv g en p => ?_⟩
  refine qa S sg env _ g en (post_bind p fun y S1 v e1 g1 x1 a1 p1 => ?_)
  refine qb S1 sg env _ g1 (en.ext x1) (post_bind p1 fun ys S2 vs e2 g2 x2 a2 p2 => ?_)
  exact p2 S2 (v :: vs) g2 rfl .refl ⟨x2.keep _ _ a1, a2⟩
def rv {α : Type} (r : Bool) (l : List α) : List α := if r then l.reverse else l
/-- f(k1 = .., k2 = ..): all parameters, in their order or (r) the other way round -/
def mFnK (F : FD) (n : Nat) (r : Bool) (ms : ML) : ME := fun env c => (ms env c).bind fun ds c => if ds.length = n then F (rv r ds) c else .stk
theorem se_fnK0 {r : Bool} {ks : List Str} (G : FnG X.prog X.w X.K X.mg X.base k f fd ps F) (hr : Room k X.A) (gd : X.A.guards = some []) (tk : Takes X W) (hm : X.mg x = some (.ref f)) (hk : PySem.W.keepIn X.K (.ref f) = true)
    (hb : ∀ (s : Shared) (us : List Value), X.K.In s.heap → us.length = ps.length → BindsTo s fd ⟨[], ks.zip us⟩ (ps.zip (rv r us))) (ha : SK X W kws ms) (hall : (backToKw pos (keywordEach kws X.env)).all (·.1.isSome) = true := by rfl) (hks : (backToKw pos (keywordEach kws X.env)).filterMap (·.1) = ks := by rfl)
    (hg : Gl X x := by rfl) (hdb : (x == ("__debug__" : Str)) = false := by decide) (hpl : ((backTo pos (starEach [] X.env)).any (·.1) || (backToKw pos (keywordEach kws X.env)).any (·.1.isNone)) = false := by rfl) :
    SE X W (.Call (.Name x p) [] kws pos) (mFnK F ps.length r ms) := by
  obtain ⟨t, pa, q⟩ := ha
  refine ⟨tE (wd X) (mFnK F ps.length r ms) W, ⟨fun pins s sg H Qv I h => ?_⟩, fun S sg env Qv g en z => ⟨S, env, rfl, g, en, z⟩⟩
  obtain ⟨S, env, rfl, g, en, z⟩ := h
  refine wpAny_Call_Name_kw (ld_glob I hg hm ?_ hdb)
  refine PySem.W.callWith_KW0 (h₀ := X.base) I.ok.mod.kin hk hall (thn (pa.run pos pins s sg S.H (fun vs H1 => ∃ S1 xs, S1.H = H1 ∧ Good (wd X) S1 ∧ EnvAt (wd X) S1 sg env ∧ AtL (wd X) S1 vs xs ∧ Post (wd X) S1 (if xs.length = ps.length then F (rv r xs) S1.c else .stk) Qv (WE W sg)) I ?_) fun us s1 hh => ?_) hpl
  · exact q S sg env _ g en (post_bind z fun xs S1 vs e1 g1 x1 a1 p1 => ⟨S1, xs, rfl, g1, en.ext x1, a1, p1⟩)
  · obtain ⟨vs, H1, I1, rr, S1, xs, rfl, g1, en1, a1, p1⟩ := hh
    rw [hks]
    refine ⟨I1.kIn, ?_⟩
    split at p1
    · rename_i hlen
      have hlu : us.length = ps.length := by rw [← rr.length, a1.len]; exact hlen
      have al : AtL (wd X) S1 (rv r vs) (rv r xs) := by
        cases r
        · exact a1
        · exact a1.rev
      have r2 : Vals (rv r vs) (rv r us) := by
        cases r
        · exact rr
        · exact rr.reverse
      have hl2 : (rv r xs).length = ps.length := by
        cases r
        · exact hlen
        · exact (List.length_reverse ..).trans hlen
      refine wpAny_call (codeAny_mono (run_g G hr gd tk (hb s1 us I1.kIn hlu) I1 r2 g1 al hl2 p1) fun q2 s' hq => ?_)
      match q2, hq with
      | .ok (.ret v), hq => exact hq
      | .error e, hq => exact hq
    · exact p1.elim
/-- a built-in function with keywords -/
def CaK (X : Cx) (fn : Value) (ks : List Str) (f : List D → List D → Cells → R D) (W : WX) : Prop := ∀ (pins : List (Addr × Obj)) (s : Shared) (sg : L2.St) (S : Sta) (env : Env) (xs zs : List V) (us ws : List Value) (ds es : List D) (Qv : VK), Inv X pins sg S.H s → Vals xs us → Vals zs ws →
  Good (wd X) S → EnvAt (wd X) S sg env → AtL (wd X) S xs ds → AtL (wd X) S zs es → Post (wd X) S (f ds es S.c) Qv (WE W sg) → wpAny (model X.prog X.w) X.A (call fn us (ks.zip ws)) (EP X pins sg Qv) X.xe s
def mCallK (f : List D → List D → Cells → R D) (ms mk : ML) : ME := fun env c => (ms env c).bind fun ds c => (mk env c).bind fun es c => f ds es c
theorem se_callK {id : String} {ks : List Str} {fk : List D → List D → Cells → R D} (h : CaK X (.builtin id) ks fk W) (hm : X.mg x = none) (ha : SA X W (e :: es) ms) (hk : SK X W kws mk) (hg : Gl X x := by rfl) (hv : bootBuiltins x = some (.builtin id) := by decide +kernel) (hn : x ≠ "__name__" := by decide) (hdb : (x == ("__debug__" : Str)) = false := by decide)
    (he : backTo pos (starEach (e :: es) X.env) = (false, eval e X.env) :: backTo pos (starEach es X.env) := by rfl) (hpl : (backTo pos (starEach (e :: es) X.env)).any (·.1) = false := by rfl)
    (hall : (backToKw pos (keywordEach kws X.env)).all (·.1.isSome) = true := by rfl) (hnone : (backToKw pos (keywordEach kws X.env)).any (·.1.isNone) = false := by rfl) (hks : (backToKw pos (keywordEach kws X.env)).filterMap (·.1) = ks := by rfl) :
    SE X W (.Call (.Name x p) (e :: es) kws pos) (mCallK fk ms mk) := by
  obtain ⟨t, pa, q⟩ := ha
  obtain ⟨t2, pk, q2⟩ := hk
  refine ⟨tE (wd X) (mCallK fk ms mk) W, ⟨fun pins s sg H Qv I h0 => ?_⟩, fun S sg env Qv g en z => ⟨S, env, rfl, g, en, z⟩⟩
  obtain ⟨S, env, rfl, g, en, z⟩ := h0
  refine wpAny_Call_Name_kw (ld_blt I hg hm hv ?_ hn hdb)
  refine PyProof.Rows.callWith_kw (thn (pa.run pos pins _ sg S.H (fun vs H1 => ∃ S1 xs, S1.H = H1 ∧ Good (wd X) S1 ∧ EnvAt (wd X) S1 sg env ∧ AtL (wd X) S1 vs xs ∧ Post (wd X) S1 ((mk env S1.c).bind fun es c => fk xs es c) Qv (WE W sg)) (I.tok _) ?_) fun us s1 hh => ?_) he hpl hall hnone
  · exact q S sg env _ g en (post_bind z fun xs S1 vs e1 g1 x1 a1 p1 => ⟨S1, xs, rfl, g1, en.ext x1, a1, p1⟩)
  · obtain ⟨vs, H1, I1, r1, S1, xs, rfl, g1, en1, a1, p1⟩ := hh
    refine thn (pk.run pos pins s1 sg S1.H (fun zs H2 => ∃ S2 es, S2.H = H2 ∧ Good (wd X) S2 ∧ EnvAt (wd X) S2 sg env ∧ AtL (wd X) S2 vs xs ∧ AtL (wd X) S2 zs es ∧ Post (wd X) S2 (fk xs es S2.c) Qv (WE W sg)) I1 ?_) fun ws s2 hh => ?_
    · exact q2 S1 sg env _ g1 en1 (post_bind p1 fun es S2 zs e2 g2 x2 a2 p2 => ⟨S2, es, rfl, g2, en1.ext x2, x2.list a1, a2, p2⟩)
    · obtain ⟨zs, H2, I2, r2, S2, es, rfl, g2, en2, b1, b2, p2⟩ := hh
      rw [hks]
      exact h pins s2 sg S2 env vs zs us ws xs es Qv I2 r1 r2 g2 en2 b1 b2 p2
end
end Q
end
section
set_option Elab.async false
set_option linter.all false
set_option maxRecDepth 100000
namespace Q
open PySem PySem.Spec L2
variable [Tb]
/-! ### min, max with key= and default= -/
abbrev X1 (X : Cx) : Cx := { X with A := X.A.in1, xe := fun _ _ => False }
theorem Cx.Ok.one {X : Cx} (k : X.Ok) : (X1 X).Ok := ⟨k.mod, k.kind, k.glob, k.blt, k.above, k.inj, k.has, k.cab, k.hd, k.frames, k.stk, k.exf, k.bs, k.bsz, k.noex, k.exfs, k.funs, k.frf⟩
section
variable {X : Cx} {W : WX} {pins : List (Addr × Obj)} {sg : L2.St} {H : Hp} {s : Shared}
theorem inv1 (I : Inv X pins sg H s) : Inv (X1 X) pins sg H s := ⟨Cx.Ok.one I.ok, I.os, I.bare, I.base, I.loc, I.cell, I.free, I.freeC, I.pin, I.hok, I.len⟩
theorem inv0 (k : X.Ok) (I : Inv (X1 X) pins sg H s) : Inv X pins sg H s := ⟨k, I.os, I.bare, I.base, I.loc, I.cell, I.free, I.freeC, I.pin, I.hok, I.len⟩
/-- an iterator at I over what sq tells -/
structure Nxt (X : Cx) (I : Addr) (tn : Nat → Heap → Prop) (sq : Hp → List V → Prop) : Prop where
  obj : ∀ i h, tn i h → ∃ o, h.get? I = some o ∧ ∀ v, o.data ≠ .cell v
  keep : ∀ i h h', tn i h → (∀ o, h.get? I = some o → h'.get? I = some o) → tn i h'
  item : ∀ (i : Nat) (pins : List (Addr × Obj)) (s : Shared) (sg : L2.St) (H : Hp) (xs : List V) (x : V) (Qn : Option Value → Shared → Prop) (E : Value → Shared → Prop), Inv (X1 X) pins sg H s → FpOk (X1 X) pins H I → tn i s.heap → sq H xs → xs[i]? = some x →
    (∀ u s', RelV x u → Inv (X1 X) pins sg H s' → tn (i + 1) s'.heap → Qn (some u) s') → wpAny (model X.prog X.w) X.A.in1 (pyNext (.ref I)) Qn E s
  done : ∀ (pins : List (Addr × Obj)) (s : Shared) (sg : L2.St) (H : Hp) (xs : List V) (Qn : Option Value → Shared → Prop) (E : Value → Shared → Prop), Inv (X1 X) pins sg H s → FpOk (X1 X) pins H I → tn xs.length s.heap → sq H xs →
    (∀ s', Inv (X1 X) pins sg H s' → Qn none s') → wpAny (model X.prog X.w) X.A.in1 (pyNext (.ref I)) Qn E s
theorem nxt_tup (hc : X.calm = true) (l I : Addr) : Nxt X I (fun i h => h.IsTupleIter I l i) (fun H xs => SqT X.K H l xs) where
  obj := fun i h ⟨o, e, c, d⟩ => ⟨o, e, fun v z => by rw [d] at z; cases z⟩
  keep := fun i h h' st k => st.at k
  item := fun i pins s sg H xs x Qn E J f st hq hx h => by
    obtain ⟨its, rv, p, hz⟩ := J.tuple hq
    obtain ⟨u, hu, ru⟩ := rv.get hx
    obtain ⟨f0, f1, f2, f3, f4, f5⟩ := f
    refine wpAny_pyNext_tuple_item st (show s.heap.IsTuple l its.toArray from p) (x := u) (by simpa using hu) fun h' st' sb => ?_
    exact h u _ ru (J.turned (t' := s.toks) (fun b o hb e => (sb.2 b hb).trans e) f0 f1 f3 f4 f5) st'
  done := fun pins s sg H xs Qn E J f st hq h => by
    obtain ⟨its, rv, p, hz⟩ := J.tuple hq
    obtain ⟨f0, f1, f2, f3, f4, f5⟩ := f
    have hl := rv.length
    exact wpAny_pyNext_tuple_end (J.ok.hd hc) st (show s.heap.IsTuple l its.toArray from p) (by simp; omega) fun h' eb => h _ (J.turned (t' := s.toks) (fun b o hb e => eb b o hb e) f0 f1 f3 f4 f5)
theorem nxt_lst (hc : X.calm = true) (l I : Addr) : Nxt X I (fun i h => h.IsListIter I l i) (fun H xs => SqL X.K H l xs) where
  obj := fun i h ⟨o, e, c, d⟩ => ⟨o, e, fun v z => by rw [d] at z; cases z⟩
  keep := fun i h h' st k => st.at k
  item := fun i pins s sg H xs x Qn E J f st hq hx h => by
    obtain ⟨its, rv, p, hz⟩ := J.list hq
    obtain ⟨u, hu, ru⟩ := rv.get hx
    obtain ⟨f0, f1, f2, f3, f4, f5⟩ := f
    refine wpAny_pyNext_list_item st p.isList (x := u) (by simpa using hu) fun h' st' sb => ?_
    exact h u _ ru (J.turned (t' := s.toks) (fun b o hb e => (sb.2 b hb).trans e) f0 f1 f3 f4 f5) st'
  done := fun pins s sg H xs Qn E J f st hq h => by
    obtain ⟨its, rv, p, hz⟩ := J.list hq
    obtain ⟨f0, f1, f2, f3, f4, f5⟩ := f
    have hl := rv.length
    exact wpAny_pyNext_list_end (J.ok.hd hc) st p.isList (by simp; omega) fun h' eb => h _ (J.turned (t' := s.toks) (fun b o hb e => eb b o hb e) f0 f1 f3 f4 f5)
end
def mmL (fc : D → D → Cells → O) (F : FD) : List D → Option (D × D) → Cells → R (Option (D × D))
  | [], b, c => .ok b c
  | d :: ds, b, c => match F [d] c with
    | .ok k c => match b with
      | none => mmL fc F ds (some (d, k)) c
      | some (b0, k0) => match fc k k0 c with
        | some (.bl true, c') => mmL fc F ds (some (d, k)) c'
        | some (.bl false, c') => mmL fc F ds (some (b0, k0)) c'
        | _ => .stk
    | _ => .stk
/-- what the list of the best holds -/
def BestAt (T : Wd) (S : Sta) (bl : List V) : Option (D × D) → Prop
  | none => bl = []
  | some (d, k) => AtL T S bl [d, k]
theorem BestAt.zero {T : Wd} {S S' : Sta} {bl : List V} {b : Option (D × D)} (h : BestAt T S bl b) (k : ∀ v d, At T S v d → At T S' v d) : BestAt T S' bl b := by
  cases b with
  | none => exact h
  | some p => exact atL_of k h
section
variable {X : Cx} {pins : List (Addr × Obj)} {sg : L2.St}
/-- the hidden list at Sa is written -/
theorem seth_ok {S0 S1 : Sta} {Sa : Addr} {bl bl' : List V} {b' : Option (D × D)} {s1 : Shared} {its its' : List Value} {n : Nat} {f : Array Value → Array Value} (g0 : Sa ∉ S0.x) (I1 : Inv (X1 X) pins sg S1.H s1) (g1 : Good (wd X) S1) (hx : S1.x = Sa :: S0.x) (hS : S1.H Sa = some (.lst bl)) (x1 : Ext0 (wd X) S0 S1)
    (e : s1.heap.get? Sa = some { cls := .type "list", data := .seq its.toArray n }) (hf : f its.toArray = its'.toArray) (hv : Vals bl' its') (hz : bl'.length ≤ 2) (hb : BestAt (wd X) S1 bl' b') :
    ∃ S2 : Sta, S2.c = S1.c ∧ Inv (X1 X) pins sg S2.H { s1 with heap := s1.heap.update Sa (Obj.mapSeq f) } ∧ Good (wd X) S2 ∧ S2.x = Sa :: S0.x ∧ S2.H Sa = some (.lst bl') ∧ BestAt (wd X) S2 bl' b' ∧ Ext0 (wd X) S0 S2 ∧ (∀ v d, At (wd X) S1 v d → At (wd X) S2 v d) ∧ (∀ b, b ≠ Sa → S2.H b = S1.H b) := by
  obtain ⟨g2, k2⟩ := g1.seth (o := .lst bl') (p := Sa) (by rw [hx]; exact List.mem_cons_self) trivial
  refine ⟨S1.seth Sa (.lst bl'), rfl, ?_, g2, hx, upd_same, hb.zero k2, ⟨x1.pre, fun v d a => k2 v d (x1.keep v d a), fun a ha => ⟨(x1.hid a ha).1, ?_⟩⟩, k2, fun b hb => upd_ne hb⟩
  · exact I1.lset (t' := s1.toks) hS e hf hv (by have := sizeLine_eq; omega)
  · have ne : a ≠ Sa := fun z => g0 (by rw [← z]; exact ha)
    exact (upd_ne ne).trans (x1.hid a ha).2
end
end Q
end
section
set_option Elab.async false
set_option linter.all false
set_option maxRecDepth 100000
namespace Q
open PySem PySem.Spec L2
variable [Tb]
section
variable {X : Cx} {pins : List (Addr × Obj)} {sg : L2.St}
theorem FpOk.at {X : Cx} {pins : List (Addr × Obj)} {H H' : Hp} {b : Addr} (f : FpOk X pins H b) (h : H' b = none) : FpOk X pins H' b := ⟨h, f.2⟩
theorem min_loop {q I Sa : Addr} {kk : Nat} {fd : FuncData} {p : Str} {F : FD} {fc : D → D → Cells → O} {tn : Nat → Heap → Prop} {sq : Hp → List V → Prop} {S0 : Sta} {all : List D} {best : Option (D × D)} {cE : Cells} {dv : Value} {Rz : Result → Shared → Prop}
    (G : FnG X.prog X.w X.K X.mg X.base kk q fd [p] F) (hr : Room kk (X1 X).A) (gd : X.A.guards = some []) (hb : Binds X.K fd [p] []) (cmp : OpF (X1 X) (compareOp .Lt) fc) (T : Nxt X I tn sq) (g0 : Sa ∉ S0.x) (nI : I ≠ Sa)
    (stay : ∀ S1, Good (wd X) S1 → Ext0 (wd X) S0 S1 → ∃ xs, sq S1.H xs ∧ AtL (wd X) S1 xs all)
    (hR : ∀ s' S', Inv (X1 X) pins sg S'.H s' → Good (wd X) S' → S'.x = Sa :: S0.x → S'.H Sa = some (.lst []) → S'.c = cE → Ext0 (wd X) S0 S' → (match best with
      | some (d, _) => ∀ u v, RelV v u → At (wd X) S' v d → Rz (.ok (.ret u)) s'
      | none => Rz (.ok (.ret dv)) s')) :
    ∀ (n i : Nat) (s1 : Shared) (S1 : Sta) (bl : List V) (bo : Option (D × D)), i + n = all.length → Inv (X1 X) pins sg S1.H s1 → Good (wd X) S1 → S1.x = Sa :: S0.x → S1.H Sa = some (.lst bl) → BestAt (wd X) S1 bl bo → Ext0 (wd X) S0 S1 → FpOk (X1 X) pins S1.H I → tn i s1.heap →
      mmL fc F (all.drop i) bo S1.c = .ok best cE → codeAny (model X.prog X.w) X.A (.builtin "min.loop" ⟨[.ref I, .ref q, .ref Sa], [("default", dv)]⟩) Rz s1 := by
  have hname : (toString "min" ++ toString ".loop" : String) = "min.loop" := by decide
  intro n
  induction n with
  | zero =>
    intro i s1 S1 bl bo hi I1 g1 hx hS hB x1 fI st hm
    have hl : i = all.length := by omega
    subst hl
    rw [List.drop_length] at hm
    have hm : R.ok bo S1.c = R.ok best cE := hm
    cases hm
    obtain ⟨xs, hq, al⟩ := stay S1 g1 x1
    obtain ⟨_, its, m, rv, hlen, e⟩ := I1.lstM hS
    refine codeAny_builtin PySem.F.entry_min_loop ?_
    rw [Around.under_plainId PySem.F.plain_min_loop _]
    show wpAny _ X.A.in1 (seqItems? (.ref Sa) >>= _) _ _ _
    refine wpAny_bind (wpAny_seqItems e rfl ?_)
    show wpAny _ X.A.in1 (tryCatch (pyNext (.ref I)) _ >>= _) _ _ _
    refine wpAny_bind (wpAny_tryCatch (T.done pins s1 sg S1.H xs _ _ I1 fI (by rw [al.len]; exact st) hq fun s2 I2 => ?_))
    obtain ⟨_, jts, m2, rv2, hlen2, e2⟩ := I2.lstM hS
    cases best with
    | none =>
      have hB : bl = [] := hB
      subst hB
      cases rv
      show wpAny _ X.A.in1 (rule _ >>= _) _ _ _
      refine wpAny_bind (wpAny_rule (wpAny_pure ?_))
      exact hR s2 S1 I2 g1 hx hS rfl x1
    | some b =>
      obtain ⟨d, kd⟩ := b
      obtain ⟨vb, vk, rfl, ab, ak⟩ := AtL.two (show AtL (wd X) S1 bl [d, kd] from hB)
      obtain ⟨ub, uk, rfl, rb, rk⟩ := vals2 rv
      show wpAny _ X.A.in1 (updateSeq Sa (fun _ => #[]) >>= _) _ _ _
      obtain ⟨S2, hc2, I3, g3, hx3, hS3, _, x3, k3, _⟩ := seth_ok (bl' := []) (b' := none) (its' := []) (f := fun _ => #[]) g0 I2 g1 hx hS x1 e2 rfl .nil (by simp) rfl
      refine wpAny_bind (wpAny_updateSeq e2 rfl (wpAny_bind (wpAny_letGo (wpAny_pure ?_))))
      exact hR _ S2 I3 g3 hx3 hS3 hc2 x3 ub vb rb (k3 _ _ ab)
  | succ n ih =>
    intro i s1 S1 bl bo hi I1 g1 hx hS hB x1 fI st hm
    obtain ⟨xs, hq, al⟩ := stay S1 g1 x1
    have hil : i < all.length := by omega
    have hd : all[i]? = some all[i] := List.getElem?_eq_getElem hil
    obtain ⟨x, hxi, ax⟩ := al.get hd
    obtain ⟨_, its, m, rv, hlen, e⟩ := I1.lstM hS
    rw [List.drop_eq_getElem_cons hil] at hm
    refine codeAny_builtin PySem.F.entry_min_loop ?_
    rw [Around.under_plainId PySem.F.plain_min_loop _]
    show wpAny _ X.A.in1 (seqItems? (.ref Sa) >>= _) _ _ _
    refine wpAny_bind (wpAny_seqItems e rfl ?_)
    show wpAny _ X.A.in1 (tryCatch (pyNext (.ref I)) _ >>= _) _ _ _
    refine wpAny_bind (wpAny_tryCatch (T.item i pins s1 sg S1.H xs x _ _ I1 fI st hq hxi fun u s2 ru I2 st2 => ?_))
    -- the key
    obtain ⟨oI, hoI, hcI⟩ := T.obj _ _ st2
    have I2p := I2.pinned (fp := [I]) (fun b hb => by rw [List.mem_singleton.mp hb]; exact fI) (fun b hb => by rw [List.mem_singleton.mp hb]; exact ⟨oI, hoI, hcI⟩)
    have pI : ∀ {H' : Hp} {s' : Shared}, Inv (X1 X) (pins ++ pinsAt [I] s2.heap) sg H' s' → s'.heap.get? I = some oI ∧ H' I = none := fun {H' s'} J =>
      let z := J.pin (I, oI) (List.mem_append_right _ (List.mem_append_right _ (mem_pinsAt (List.mem_singleton.mpr rfl) hoI)))
      ⟨z.1, z.2.1⟩
    show wpAny _ X.A.in1 (tryCatch (holding [u] (call (.ref q) [u])) _ >>= _) _ _ _
    unfold mmL at hm
    cases hk : F [all[i]] S1.c with
    | stk => rw [hk] at hm; cases hm
    | err y c => rw [hk] at hm; cases hm
    | ok kd c1 =>
      rw [hk] at hm
      have gk : ∀ {Qk : VK}, (∀ S2 v, Good (wd X) S2 → S2.c = c1 → Ext (wd X) S1 S2 → At (wd X) S2 v kd → Qk v S2.H) → Post (wd X) S1 (F [all[i]] S1.c) Qk (fun _ _ _ => False) := fun {Qk} h => by
        rw [hk]
        exact h
      refine wpAny_bind (wpAny_tryCatch (wpAny_holding (wpAny_call (codeAny_mono (run_g (X := X1 X) (vs := [x]) (ds := [all[i]]) (Qv := fun v H' => ∃ S2, S2.H = H' ∧ Good (wd X) S2 ∧ S2.c = c1 ∧ Ext (wd X) S1 S2 ∧ At (wd X) S2 v kd) G hr gd LamX.takes0 (hb s2 [u] I2.kIn rfl) I2p (.cons ru .nil) g1 ⟨ax, trivial⟩ rfl
        (gk fun S2 v g hc xx a => ⟨S2, rfl, g, hc, xx, a⟩)) fun rr s3 hq3 => ?_))))
      match rr, hq3 with
      | .error e, hq3 => exact hq3.elim
      | .ok (.ret uk), hq3 =>
        obtain ⟨vk, H3, I3, rk, S3, rfl, g3, hc3, x13, ak⟩ := hq3
        obtain ⟨hoI3, nI3⟩ := pI I3
        have st3 : tn (i + 1) s3.heap := T.keep _ _ _ st2 fun o ho => by rw [hoI] at ho; cases ho; exact hoI3
        have hx3 : S3.x = Sa :: S0.x := x13.hx.trans hx
        have hS3 : S3.H Sa = some (.lst bl) := (x13.hh Sa (by rw [hx]; exact List.mem_cons_self)).trans hS
        have x03 := x1.trans x13.zero
        have nx : ∀ {s5 : Shared} {S5 : Sta} {bl5 : List V} {bo5 : Option (D × D)}, Inv (X1 X) pins sg S5.H s5 → Good (wd X) S5 → S5.x = Sa :: S0.x → S5.H Sa = some (.lst bl5) → BestAt (wd X) S5 bl5 bo5 → Ext0 (wd X) S0 S5 → S5.H I = none → tn (i + 1) s5.heap → mmL fc F (all.drop (i + 1)) bo5 S5.c = .ok best cE →
            codeAny (model X.prog X.w) X.A (.builtin "min.loop" ⟨[.ref I, .ref q, .ref Sa], [("default", dv)]⟩) Rz s5 := fun {s5 S5 bl5 bo5} a1 a2 a3 a4 a5 a6 a7 a8 a9 => ih (i + 1) s5 S5 bl5 bo5 (by omega) a1 a2 a3 a4 a5 a6 (FpOk.at fI a7) a8 a9
        have put : ∀ {s5 : Shared} {S5 : Sta} {jts : List Value} {m5 : Nat}, Inv (X1 X) (pins ++ pinsAt [I] s2.heap) sg S5.H s5 → Good (wd X) S5 → Ext (wd X) S1 S5 → At (wd X) S5 vk kd → s5.heap.get? Sa = some { cls := .type "list", data := .seq jts.toArray m5 } → mmL fc F (all.drop (i + 1)) (some (all[i], kd)) S5.c = .ok best cE →
            codeAny (model X.prog X.w) X.A (.builtin "min.loop" ⟨[.ref I, .ref q, .ref Sa], [("default", dv)]⟩) Rz { s5 with heap := s5.heap.update Sa (Obj.mapSeq fun _ => #[u, uk]) } := fun {s5 S5 jts m5} I5 g5 x15 a5 e0 hm => by
          obtain ⟨h1, h2⟩ := pI I5
          have hS5 : S5.H Sa = some (.lst bl) := (x15.hh Sa (by rw [hx]; exact List.mem_cons_self)).trans hS
          obtain ⟨S4, hc4, I4, g4, hx4, hS4, hB4, x4, k4, ne4⟩ := seth_ok (bl' := [x, vk]) (b' := some (all[i], kd)) (its' := [u, uk]) (f := fun _ => #[u, uk]) g0 I5.unpinned g5 (x15.hx.trans hx) hS5 (x1.trans x15.zero) e0 rfl (.cons ru (.cons rk .nil)) (by simp) ⟨x15.keep _ _ ax, a5, trivial⟩
          refine nx I4 g4 hx4 hS4 hB4 x4 (by rw [ne4 I nI]; exact h2) ?_ (by rw [hc4]; exact hm)
          exact T.keep _ _ _ st2 fun o ho => (Heap.get?_update_other s5.heap _ (Ne.symm nI)).trans (by rw [hoI] at ho; cases ho; exact h1)
        obtain ⟨_, jts, m3, rv3, hlen3, e3⟩ := I3.lstM hS3
        cases bo with
        | none =>
          have hB : bl = [] := hB
          subst hB
          cases rv
          show wpAny _ X.A.in1 (updateSeq Sa (fun _ => #[u, uk]) >>= _) _ _ _
          refine wpAny_bind (wpAny_updateSeq e3 rfl ?_)
          rw [hname]
          subst hc3
          exact wpAny_pure ⟨plainId_quiet PySem.F.plain_min_loop _, put I3 g3 x13 ak e3 hm⟩
        | some b =>
          obtain ⟨d0, k0⟩ := b
          obtain ⟨vb, vk0, rfl, ab, ak0⟩ := AtL.two (show AtL (wd X) S1 bl [d0, k0] from hB)
          obtain ⟨ub, uk0, rfl, rb, rk0⟩ := vals2 rv
          subst hc3
          have hm : (match fc kd k0 S3.c with
            | some (.bl true, c') => mmL fc F (all.drop (i + 1)) (some (all[i], kd)) c'
            | some (.bl false, c') => mmL fc F (all.drop (i + 1)) (some (d0, k0)) c'
            | _ => .stk) = .ok best cE := hm
          obtain ⟨rc, ho, hs⟩ := cmp
          show wpAny _ X.A.in1 (tryCatch (holding [u, uk] (compareOp .Lt uk uk0 >>= _)) _ >>= _) _ _ _
          cases hf : fc kd k0 S3.c with
          | none => rw [hf] at hm; cases hm
          | some pr =>
            obtain ⟨rd, c4⟩ := pr
            rw [hf] at hm
            have kc := ho (pins ++ pinsAt [I] s2.heap) s3 sg S3.H vk vk0 uk uk0 (fun v H' => ∃ S4, S4.H = H' ∧ Good (wd X) S4 ∧ S4.c = c4 ∧ Ext (wd X) S3 S4 ∧ At (wd X) S4 v rd) I3 rk rk0 (hs S3 vk vk0 kd k0 _ g3 ak (x13.keep _ _ ak0) (by rw [hf]; exact fun S4 v g hc xx a => ⟨S4, rfl, g, hc, xx, a⟩))
            refine wpAny_bind (wpAny_tryCatch (wpAny_holding (wpAny_bind (wpAny_mono kc (fun w2 s4 hw => ?_) fun _ _ z => z.elim))))
            obtain ⟨vr, H4, I4, rr, S4, rfl, g4, hc4, x34, ar⟩ := hw
            have x14 := x13.trans x34
            have hS4 : S4.H Sa = some (.lst [vb, vk0]) := (x14.hh Sa (by rw [hx]; exact List.mem_cons_self)).trans hS
            obtain ⟨_, jt4, m4, rv4, hlen4, e4⟩ := I4.lstM hS4
            subst hc4
            obtain ⟨h1, h2⟩ := pI I4
            cases rd with
            | bl b =>
              cases (show vr = .bl b from ar)
              cases (show w2 = Value.bool b from rr)
              refine wpAny_bind (wpAny_holding (wpAny_truthy_bool (wpAny_bind (wpAny_letGo (wpAny_pure ?_)))))
              cases b with
              | true =>
                rw [if_pos rfl]
                refine wpAny_bind (wpAny_updateSeq e4 rfl (wpAny_bind (wpAny_letGo ?_)))
                rw [hname]
                exact wpAny_pure ⟨plainId_quiet PySem.F.plain_min_loop _, put I4 g4 x14 (x34.keep _ _ ak) e4 hm⟩
              | false =>
                rw [if_neg Bool.false_ne_true]
                refine wpAny_bind (wpAny_letGo ?_)
                rw [hname]
                refine wpAny_pure ⟨plainId_quiet PySem.F.plain_min_loop _, nx (bo5 := some (d0, k0)) I4.unpinned g4 (x14.hx.trans hx) hS4 ⟨x14.keep _ _ ab, x14.keep _ _ ak0, trivial⟩ (x1.trans x14.zero) h2 ?_ hm⟩
                exact T.keep _ _ _ st2 fun o ho => by rw [hoI] at ho; cases ho; exact h1
            | _ => cases hm
end
end Q
end
section
set_option Elab.async false
set_option linter.all false
set_option maxRecDepth 100000
namespace Q
open PySem PySem.Spec L2
variable [Tb]
def seqTg : Tg → Bool
  | .lst => true
  | .tup => true
  | .frl => true
  | _ => false
def mmF (fc : D → D → Cells → O) (F : FD) (d dd : D) (c : Cells) : R D := match d with
  | .nod t all => if seqTg t = true then (match mmL fc F all none c with
      | .ok (some (x, _)) c => .ok x c
      | .ok none c => .ok dd c
      | _ => .stk) else .stk
  | _ => .stk
theorem min_argsK (a k v : Value) : argsOk "min" ⟨[a], [(Str.ofString "key", k), (Str.ofString "default", v)]⟩ := by unfold argsOk; kernel_rfl
section
variable {X : Cx} {W : WX} {pins : List (Addr × Obj)} {sg : L2.St}
theorem call_minK {q : Addr} {kk : Nat} {fd : FuncData} {p : Str} {F : FD} {fc : D → D → Cells → O} {S : Sta} {s : Shared} {v vd : V} {u dv : Value} {d dd : D} {Qv : VK} {E : XK} (hc : X.calm = true) (G : FnG X.prog X.w X.K X.mg X.base kk q fd [p] F) (hr : Room kk (X1 X).A) (gd : X.A.guards = some []) (hb : Binds X.K fd [p] []) (cmp : OpF (X1 X) (compareOp .Lt) fc)
    (I : Inv X pins sg S.H s) (g : Good (wd X) S) (ru : RelV v u) (av : At (wd X) S v d) (rd : RelV vd dv) (ad : At (wd X) S vd dd) (z : Post (wd X) S (mmF fc F d dd S.c) Qv E) :
    wpAny (model X.prog X.w) X.A (call (.builtin "min") [u] [("key", .ref q), ("default", dv)]) (EP X pins sg Qv) X.xe s := by
  have hname : (toString "min" ++ toString ".loop" : String) = "min.loop" := by decide
  cases d with
  | nod t all =>
    have z : Post (wd X) S (if seqTg t = true then (match mmL fc F all none S.c with
      | .ok (some (x, _)) c => .ok x c
      | .ok none c => .ok dd c
      | _ => .stk) else .stk) Qv E := z
    split at z
    · rename_i ht
      refine PyProof.Rows.kmk_tree PySem.F.kind_min PySem.F.plain_min PySem.F.entry_min (min_argsK _ _ _) ?_
      show wpAny _ X.A.in1 (Builtin.Builtins.bindParams "min" ["key", "default"] 0 ⟨[], [(Str.ofString "key", .ref q), (Str.ofString "default", dv)]⟩ >>= _) _ _ s
      refine wpAny_bind (wpAny_of_eq (show Builtin.Builtins.bindParams "min" ["key", "default"] 0 ⟨[], [(Str.ofString "key", .ref q), (Str.ofString "default", dv)]⟩ = pure [some (.ref q), some dv] from rfl) ?_)
      refine wpAny_bind (wpAny_pure ?_)
      obtain ⟨l, xs, rfl, hh, al⟩ := view_at g av (show view S.c (.nod t all) = some (t, all) from rfl)
      cases ru
      have J := inv1 I
      -- the iterator's object, the list of the best
      have fin : ∀ (oI : Obj) (tn : Nat → Heap → Prop) (sq : Hp → List V → Prop), Nxt X s.heap.objs.size tn sq → (∀ S1, Good (wd X) S1 → Ext0 (wd X) S S1 → ∃ xs, sq S1.H xs ∧ AtL (wd X) S1 xs all) → (∀ h, h.get? s.heap.objs.size = some oI → tn 0 h) → oI.isFreed = false →
          codeAny (model X.prog X.w) X.A (.builtin "min.loop" ⟨[.ref s.heap.objs.size, .ref q, .ref (s.heap.push oI).objs.size], [("default", dv)]⟩) (fun r s' => match r with
            | .ok (.ret v) => EP X pins sg Qv v s'
            | .ok _ => False
            | .error e => X.xe e s') { s with heap := (s.heap.push oI).push { cls := .type "list", data := .seq #[] } } := fun oI tn sq T stay h0 hfr => by
        have J1 : Inv (X1 X) pins sg S.H { s with heap := s.heap.push oI } := J.kept (t' := s.toks) fun b o e => Heap.get?_push_of_some _ e
        have hn : S.H (s.heap.push oI).objs.size = none := I.hok.fresh (by rw [Heap.size_push]; exact Nat.le_succ _)
        have J2 := J1.lnew (ys := []) (its := []) (t' := s.toks) .nil (Nat.zero_le _)
        obtain ⟨g1, k1⟩ := g.hide (o := .lst []) hn trivial
        have nI : s.heap.objs.size ≠ (s.heap.push oI).objs.size := by rw [Heap.size_push]; exact Nat.ne_of_lt (Nat.lt_succ_self _)
        have x0 : Ext0 (wd X) S (S.hide (s.heap.push oI).objs.size (.lst [])) := ⟨List.prefix_refl _, k1, fun a ha => ⟨List.mem_cons_of_mem _ ha, by
          obtain ⟨_, w, e, _⟩ := g.hid a ha
          exact upd_ne (ne_of_none e hn)⟩⟩
        cases hm : mmL fc F all none S.c with
        | stk => rw [hm] at z; exact z.elim
        | err y c => rw [hm] at z; exact z.elim
        | ok best cE =>
          rw [hm] at z
          refine min_loop (bl := []) (bo := none) G hr gd hb cmp T (g.freshX hn) nI stay (fun s' S' I' g' hx' hS' hc' x' => ?_) all.length 0 _ (S.hide (s.heap.push oI).objs.size (.lst [])) (Nat.zero_add _) J2 g1 rfl upd_same rfl x0
            (J.fpOk (Nat.le_refl _) ((upd_ne nI).trans (I.hok.fresh (Nat.le_refl _)))) (h0 _ (Heap.get?_push_of_some _ (Heap.get?_push_size _ hfr))) hm
          have sub : ∀ a ∈ S.x, a ∈ S'.x := fun a ha => by rw [hx']; exact List.mem_cons_of_mem _ ha
          have g2 := g'.tell sub
          have x2 : Ext (wd X) S (S'.tell S.x) := ⟨x'.pre, fun v d a => at_tell sub v d (x'.keep v d a), rfl, fun a ha => (x'.hid a ha).2⟩
          cases best with
          | none => exact ⟨vd, S'.H, inv0 I.ok I', rd, z (S'.tell S.x) vd g2 hc' x2 (x2.keep _ _ ad)⟩
          | some b =>
            obtain ⟨xb, kb⟩ := b
            exact fun ub vb rb ab => ⟨vb, S'.H, inv0 I.ok I', rb, z (S'.tell S.x) vb g2 hc' x2 (at_tell sub _ _ ab)⟩
      have stL : ∀ S1, Good (wd X) S1 → Ext0 (wd X) S S1 → (t = .lst ∨ t = .frl) → ∃ xs, SqL X.K S1.H l xs ∧ AtL (wd X) S1 xs all := fun S1 g1 x1 h => by
        obtain ⟨l', ys, e, hh1, al1⟩ := view_at g1 (x1.keep _ _ av) (show view S1.c (.nod t all) = some (t, all) from rfl)
        cases e
        rcases h with rfl | rfl
        · exact ⟨ys, .of (hold_L hh1), al1⟩
        · exact ⟨ys, hold_F hh1, al1⟩
      cases t with
      | lst =>
        obtain ⟨its, rv, pl, _⟩ := I.list (.of (hold_L hh))
        refine wpAny_bind (wpAny_pyIter_list pl.isList (wpAny_bind (wpAny_newList ?_ (Nat.zero_le _))))
        rw [hname]
        exact wpAny_pure ⟨plainId_quiet PySem.F.plain_min_loop _, fin _ _ _ (nxt_lst hc l _) (fun S1 g1 x1 => stL S1 g1 x1 (.inl rfl)) (fun h e => ⟨_, e, rfl, rfl⟩) rfl⟩
      | frl =>
        obtain ⟨its, rv, pl, _⟩ := I.list (hold_F hh)
        refine wpAny_bind (wpAny_pyIter_list pl.isList (wpAny_bind (wpAny_newList ?_ (Nat.zero_le _))))
        rw [hname]
        exact wpAny_pure ⟨plainId_quiet PySem.F.plain_min_loop _, fin _ _ _ (nxt_lst hc l _) (fun S1 g1 x1 => stL S1 g1 x1 (.inr rfl)) (fun h e => ⟨_, e, rfl, rfl⟩) rfl⟩
      | tup =>
        obtain ⟨its, rv, pl, _⟩ := I.tuple (hold_T hh)
        refine wpAny_bind (wpAny_pyIter_tuple (show s.heap.IsTuple l its.toArray from pl) (wpAny_bind (wpAny_newList ?_ (Nat.zero_le _))))
        rw [hname]
        refine wpAny_pure ⟨plainId_quiet PySem.F.plain_min_loop _, fin _ _ _ (nxt_tup hc l _) (fun S1 g1 x1 => ?_) (fun h e => ⟨_, e, rfl, rfl⟩) rfl⟩
        obtain ⟨l', ys, e, hh1, al1⟩ := view_at g1 (x1.keep _ _ av) (show view S1.c (.nod .tup all) = some (.tup, all) from rfl)
        cases e
        exact ⟨ys, hold_T hh1, al1⟩
      | _ => cases ht
    · exact z.elim
  | _ => exact z.elim
end
end Q
end
section
set_option Elab.async false
set_option linter.all false
set_option maxRecDepth 100000
namespace Q
open PySem PySem.Spec L2
variable [Tb]
theorem max_argsK (a k v : Value) : argsOk "max" ⟨[a], [(Str.ofString "key", k), (Str.ofString "default", v)]⟩ := by unfold argsOk; kernel_rfl
section
variable {X : Cx} {W : WX} {pins : List (Addr × Obj)} {sg : L2.St}
theorem max_loop {q I Sa : Addr} {kk : Nat} {fd : FuncData} {p : Str} {F : FD} {fc : D → D → Cells → O} {tn : Nat → Heap → Prop} {sq : Hp → List V → Prop} {S0 : Sta} {all : List D} {best : Option (D × D)} {cE : Cells} {dv : Value} {Rz : Result → Shared → Prop}
    (G : FnG X.prog X.w X.K X.mg X.base kk q fd [p] F) (hr : Room kk (X1 X).A) (gd : X.A.guards = some []) (hb : Binds X.K fd [p] []) (cmp : OpF (X1 X) (compareOp .Gt) fc) (T : Nxt X I tn sq) (g0 : Sa ∉ S0.x) (nI : I ≠ Sa)
    (stay : ∀ S1, Good (wd X) S1 → Ext0 (wd X) S0 S1 → ∃ xs, sq S1.H xs ∧ AtL (wd X) S1 xs all)
    (hR : ∀ s' S', Inv (X1 X) pins sg S'.H s' → Good (wd X) S' → S'.x = Sa :: S0.x → S'.H Sa = some (.lst []) → S'.c = cE → Ext0 (wd X) S0 S' → (match best with
      | some (d, _) => ∀ u v, RelV v u → At (wd X) S' v d → Rz (.ok (.ret u)) s'
      | none => Rz (.ok (.ret dv)) s')) :
    ∀ (n i : Nat) (s1 : Shared) (S1 : Sta) (bl : List V) (bo : Option (D × D)), i + n = all.length → Inv (X1 X) pins sg S1.H s1 → Good (wd X) S1 → S1.x = Sa :: S0.x → S1.H Sa = some (.lst bl) → BestAt (wd X) S1 bl bo → Ext0 (wd X) S0 S1 → FpOk (X1 X) pins S1.H I → tn i s1.heap →
      mmL fc F (all.drop i) bo S1.c = .ok best cE → codeAny (model X.prog X.w) X.A (.builtin "max.loop" ⟨[.ref I, .ref q, .ref Sa], [("default", dv)]⟩) Rz s1 := by
  have hname : (toString "max" ++ toString ".loop" : String) = "max.loop" := by decide
  intro n
  induction n with
  | zero =>
    intro i s1 S1 bl bo hi I1 g1 hx hS hB x1 fI st hm
    have hl : i = all.length := by omega
    subst hl
    rw [List.drop_length] at hm
    have hm : R.ok bo S1.c = R.ok best cE := hm
    cases hm
    obtain ⟨xs, hq, al⟩ := stay S1 g1 x1
    obtain ⟨_, its, m, rv, hlen, e⟩ := I1.lstM hS
    refine codeAny_builtin PySem.F.entry_max_loop ?_
    rw [Around.under_plainId PySem.F.plain_max_loop _]
    show wpAny _ X.A.in1 (seqItems? (.ref Sa) >>= _) _ _ _
    refine wpAny_bind (wpAny_seqItems e rfl ?_)
    show wpAny _ X.A.in1 (tryCatch (pyNext (.ref I)) _ >>= _) _ _ _
    refine wpAny_bind (wpAny_tryCatch (T.done pins s1 sg S1.H xs _ _ I1 fI (by rw [al.len]; exact st) hq fun s2 I2 => ?_))
    obtain ⟨_, jts, m2, rv2, hlen2, e2⟩ := I2.lstM hS
    cases best with
    | none =>
      have hB : bl = [] := hB
      subst hB
      cases rv
      show wpAny _ X.A.in1 (rule _ >>= _) _ _ _
      refine wpAny_bind (wpAny_rule (wpAny_pure ?_))
      exact hR s2 S1 I2 g1 hx hS rfl x1
    | some b =>
      obtain ⟨d, kd⟩ := b
      obtain ⟨vb, vk, rfl, ab, ak⟩ := AtL.two (show AtL (wd X) S1 bl [d, kd] from hB)
      obtain ⟨ub, uk, rfl, rb, rk⟩ := vals2 rv
      show wpAny _ X.A.in1 (updateSeq Sa (fun _ => #[]) >>= _) _ _ _
      obtain ⟨S2, hc2, I3, g3, hx3, hS3, _, x3, k3, _⟩ := seth_ok (bl' := []) (b' := none) (its' := []) (f := fun _ => #[]) g0 I2 g1 hx hS x1 e2 rfl .nil (by simp) rfl
      refine wpAny_bind (wpAny_updateSeq e2 rfl (wpAny_bind (wpAny_letGo (wpAny_pure ?_))))
      exact hR _ S2 I3 g3 hx3 hS3 hc2 x3 ub vb rb (k3 _ _ ab)
  | succ n ih =>
    intro i s1 S1 bl bo hi I1 g1 hx hS hB x1 fI st hm
    obtain ⟨xs, hq, al⟩ := stay S1 g1 x1
    have hil : i < all.length := by omega
    have hd : all[i]? = some all[i] := List.getElem?_eq_getElem hil
    obtain ⟨x, hxi, ax⟩ := al.get hd
    obtain ⟨_, its, m, rv, hlen, e⟩ := I1.lstM hS
    rw [List.drop_eq_getElem_cons hil] at hm
    refine codeAny_builtin PySem.F.entry_max_loop ?_
    rw [Around.under_plainId PySem.F.plain_max_loop _]
    show wpAny _ X.A.in1 (seqItems? (.ref Sa) >>= _) _ _ _
    refine wpAny_bind (wpAny_seqItems e rfl ?_)
    show wpAny _ X.A.in1 (tryCatch (pyNext (.ref I)) _ >>= _) _ _ _
    refine wpAny_bind (wpAny_tryCatch (T.item i pins s1 sg S1.H xs x _ _ I1 fI st hq hxi fun u s2 ru I2 st2 => ?_))
    -- the key
    obtain ⟨oI, hoI, hcI⟩ := T.obj _ _ st2
    have I2p := I2.pinned (fp := [I]) (fun b hb => by rw [List.mem_singleton.mp hb]; exact fI) (fun b hb => by rw [List.mem_singleton.mp hb]; exact ⟨oI, hoI, hcI⟩)
    have pI : ∀ {H' : Hp} {s' : Shared}, Inv (X1 X) (pins ++ pinsAt [I] s2.heap) sg H' s' → s'.heap.get? I = some oI ∧ H' I = none := fun {H' s'} J =>
      let z := J.pin (I, oI) (List.mem_append_right _ (List.mem_append_right _ (mem_pinsAt (List.mem_singleton.mpr rfl) hoI)))
      ⟨z.1, z.2.1⟩
    show wpAny _ X.A.in1 (tryCatch (holding [u] (call (.ref q) [u])) _ >>= _) _ _ _
    unfold mmL at hm
    cases hk : F [all[i]] S1.c with
    | stk => rw [hk] at hm; cases hm
    | err y c => rw [hk] at hm; cases hm
    | ok kd c1 =>
      rw [hk] at hm
      have gk : ∀ {Qk : VK}, (∀ S2 v, Good (wd X) S2 → S2.c = c1 → Ext (wd X) S1 S2 → At (wd X) S2 v kd → Qk v S2.H) → Post (wd X) S1 (F [all[i]] S1.c) Qk (fun _ _ _ => False) := fun {Qk} h => by
        rw [hk]
        exact h
      refine wpAny_bind (wpAny_tryCatch (wpAny_holding (wpAny_call (codeAny_mono (run_g (X := X1 X) (vs := [x]) (ds := [all[i]]) (Qv := fun v H' => ∃ S2, S2.H = H' ∧ Good (wd X) S2 ∧ S2.c = c1 ∧ Ext (wd X) S1 S2 ∧ At (wd X) S2 v kd) G hr gd LamX.takes0 (hb s2 [u] I2.kIn rfl) I2p (.cons ru .nil) g1 ⟨ax, trivial⟩ rfl
        (gk fun S2 v g hc xx a => ⟨S2, rfl, g, hc, xx, a⟩)) fun rr s3 hq3 => ?_))))
      match rr, hq3 with
      | .error e, hq3 => exact hq3.elim
      | .ok (.ret uk), hq3 =>
        obtain ⟨vk, H3, I3, rk, S3, rfl, g3, hc3, x13, ak⟩ := hq3
        obtain ⟨hoI3, nI3⟩ := pI I3
        have st3 : tn (i + 1) s3.heap := T.keep _ _ _ st2 fun o ho => by rw [hoI] at ho; cases ho; exact hoI3
        have hx3 : S3.x = Sa :: S0.x := x13.hx.trans hx
        have hS3 : S3.H Sa = some (.lst bl) := (x13.hh Sa (by rw [hx]; exact List.mem_cons_self)).trans hS
        have x03 := x1.trans x13.zero
        have nx : ∀ {s5 : Shared} {S5 : Sta} {bl5 : List V} {bo5 : Option (D × D)}, Inv (X1 X) pins sg S5.H s5 → Good (wd X) S5 → S5.x = Sa :: S0.x → S5.H Sa = some (.lst bl5) → BestAt (wd X) S5 bl5 bo5 → Ext0 (wd X) S0 S5 → S5.H I = none → tn (i + 1) s5.heap → mmL fc F (all.drop (i + 1)) bo5 S5.c = .ok best cE →
            codeAny (model X.prog X.w) X.A (.builtin "max.loop" ⟨[.ref I, .ref q, .ref Sa], [("default", dv)]⟩) Rz s5 := fun {s5 S5 bl5 bo5} a1 a2 a3 a4 a5 a6 a7 a8 a9 => ih (i + 1) s5 S5 bl5 bo5 (by omega) a1 a2 a3 a4 a5 a6 (FpOk.at fI a7) a8 a9
        have put : ∀ {s5 : Shared} {S5 : Sta} {jts : List Value} {m5 : Nat}, Inv (X1 X) (pins ++ pinsAt [I] s2.heap) sg S5.H s5 → Good (wd X) S5 → Ext (wd X) S1 S5 → At (wd X) S5 vk kd → s5.heap.get? Sa = some { cls := .type "list", data := .seq jts.toArray m5 } → mmL fc F (all.drop (i + 1)) (some (all[i], kd)) S5.c = .ok best cE →
            codeAny (model X.prog X.w) X.A (.builtin "max.loop" ⟨[.ref I, .ref q, .ref Sa], [("default", dv)]⟩) Rz { s5 with heap := s5.heap.update Sa (Obj.mapSeq fun _ => #[u, uk]) } := fun {s5 S5 jts m5} I5 g5 x15 a5 e0 hm => by
          obtain ⟨h1, h2⟩ := pI I5
          have hS5 : S5.H Sa = some (.lst bl) := (x15.hh Sa (by rw [hx]; exact List.mem_cons_self)).trans hS
          obtain ⟨S4, hc4, I4, g4, hx4, hS4, hB4, x4, k4, ne4⟩ := seth_ok (bl' := [x, vk]) (b' := some (all[i], kd)) (its' := [u, uk]) (f := fun _ => #[u, uk]) g0 I5.unpinned g5 (x15.hx.trans hx) hS5 (x1.trans x15.zero) e0 rfl (.cons ru (.cons rk .nil)) (by simp) ⟨x15.keep _ _ ax, a5, trivial⟩
          refine nx I4 g4 hx4 hS4 hB4 x4 (by rw [ne4 I nI]; exact h2) ?_ (by rw [hc4]; exact hm)
          exact T.keep _ _ _ st2 fun o ho => (Heap.get?_update_other s5.heap _ (Ne.symm nI)).trans (by rw [hoI] at ho; cases ho; exact h1)
        obtain ⟨_, jts, m3, rv3, hlen3, e3⟩ := I3.lstM hS3
        cases bo with
        | none =>
          have hB : bl = [] := hB
          subst hB
          cases rv
          show wpAny _ X.A.in1 (updateSeq Sa (fun _ => #[u, uk]) >>= _) _ _ _
          refine wpAny_bind (wpAny_updateSeq e3 rfl ?_)
          rw [hname]
          subst hc3
          exact wpAny_pure ⟨plainId_quiet PySem.F.plain_max_loop _, put I3 g3 x13 ak e3 hm⟩
        | some b =>
          obtain ⟨d0, k0⟩ := b
          obtain ⟨vb, vk0, rfl, ab, ak0⟩ := AtL.two (show AtL (wd X) S1 bl [d0, k0] from hB)
          obtain ⟨ub, uk0, rfl, rb, rk0⟩ := vals2 rv
          subst hc3
          have hm : (match fc kd k0 S3.c with
            | some (.bl true, c') => mmL fc F (all.drop (i + 1)) (some (all[i], kd)) c'
            | some (.bl false, c') => mmL fc F (all.drop (i + 1)) (some (d0, k0)) c'
            | _ => .stk) = .ok best cE := hm
          obtain ⟨rc, ho, hs⟩ := cmp
          show wpAny _ X.A.in1 (tryCatch (holding [u, uk] (compareOp .Gt uk uk0 >>= _)) _ >>= _) _ _ _
          cases hf : fc kd k0 S3.c with
          | none => rw [hf] at hm; cases hm
          | some pr =>
            obtain ⟨rd, c4⟩ := pr
            rw [hf] at hm
            have kc := ho (pins ++ pinsAt [I] s2.heap) s3 sg S3.H vk vk0 uk uk0 (fun v H' => ∃ S4, S4.H = H' ∧ Good (wd X) S4 ∧ S4.c = c4 ∧ Ext (wd X) S3 S4 ∧ At (wd X) S4 v rd) I3 rk rk0 (hs S3 vk vk0 kd k0 _ g3 ak (x13.keep _ _ ak0) (by rw [hf]; exact fun S4 v g hc xx a => ⟨S4, rfl, g, hc, xx, a⟩))
            refine wpAny_bind (wpAny_tryCatch (wpAny_holding (wpAny_bind (wpAny_mono kc (fun w2 s4 hw => ?_) fun _ _ z => z.elim))))
            obtain ⟨vr, H4, I4, rr, S4, rfl, g4, hc4, x34, ar⟩ := hw
            have x14 := x13.trans x34
            have hS4 : S4.H Sa = some (.lst [vb, vk0]) := (x14.hh Sa (by rw [hx]; exact List.mem_cons_self)).trans hS
            obtain ⟨_, jt4, m4, rv4, hlen4, e4⟩ := I4.lstM hS4
            subst hc4
            obtain ⟨h1, h2⟩ := pI I4
            cases rd with
            | bl b =>
              cases (show vr = .bl b from ar)
              cases (show w2 = Value.bool b from rr)
              refine wpAny_bind (wpAny_holding (wpAny_truthy_bool (wpAny_bind (wpAny_letGo (wpAny_pure ?_)))))
              cases b with
              | true =>
                rw [if_pos rfl]
                refine wpAny_bind (wpAny_updateSeq e4 rfl (wpAny_bind (wpAny_letGo ?_)))
                rw [hname]
                exact wpAny_pure ⟨plainId_quiet PySem.F.plain_max_loop _, put I4 g4 x14 (x34.keep _ _ ak) e4 hm⟩
              | false =>
                rw [if_neg Bool.false_ne_true]
                refine wpAny_bind (wpAny_letGo ?_)
                rw [hname]
                refine wpAny_pure ⟨plainId_quiet PySem.F.plain_max_loop _, nx (bo5 := some (d0, k0)) I4.unpinned g4 (x14.hx.trans hx) hS4 ⟨x14.keep _ _ ab, x14.keep _ _ ak0, trivial⟩ (x1.trans x14.zero) h2 ?_ hm⟩
                exact T.keep _ _ _ st2 fun o ho => by rw [hoI] at ho; cases ho; exact h1
            | _ => cases hm
theorem call_maxK {q : Addr} {kk : Nat} {fd : FuncData} {p : Str} {F : FD} {fc : D → D → Cells → O} {S : Sta} {s : Shared} {v vd : V} {u dv : Value} {d dd : D} {Qv : VK} {E : XK} (hc : X.calm = true) (G : FnG X.prog X.w X.K X.mg X.base kk q fd [p] F) (hr : Room kk (X1 X).A) (gd : X.A.guards = some []) (hb : Binds X.K fd [p] []) (cmp : OpF (X1 X) (compareOp .Gt) fc)
    (I : Inv X pins sg S.H s) (g : Good (wd X) S) (ru : RelV v u) (av : At (wd X) S v d) (rd : RelV vd dv) (ad : At (wd X) S vd dd) (z : Post (wd X) S (mmF fc F d dd S.c) Qv E) :
    wpAny (model X.prog X.w) X.A (call (.builtin "max") [u] [("key", .ref q), ("default", dv)]) (EP X pins sg Qv) X.xe s := by
  have hname : (toString "max" ++ toString ".loop" : String) = "max.loop" := by decide
  cases d with
  | nod t all =>
    have z : Post (wd X) S (if seqTg t = true then (match mmL fc F all none S.c with
      | .ok (some (x, _)) c => .ok x c
      | .ok none c => .ok dd c
      | _ => .stk) else .stk) Qv E := z
    split at z
    · rename_i ht
      refine PyProof.Rows.kmk_tree PySem.F.kind_max PySem.F.plain_max PySem.F.entry_max (max_argsK _ _ _) ?_
      show wpAny _ X.A.in1 (Builtin.Builtins.bindParams "max" ["key", "default"] 0 ⟨[], [(Str.ofString "key", .ref q), (Str.ofString "default", dv)]⟩ >>= _) _ _ s
      refine wpAny_bind (wpAny_of_eq (show Builtin.Builtins.bindParams "max" ["key", "default"] 0 ⟨[], [(Str.ofString "key", .ref q), (Str.ofString "default", dv)]⟩ = pure [some (.ref q), some dv] from rfl) ?_)
      refine wpAny_bind (wpAny_pure ?_)
      obtain ⟨l, xs, rfl, hh, al⟩ := view_at g av (show view S.c (.nod t all) = some (t, all) from rfl)
      cases ru
      have J := inv1 I
      -- the iterator's object, the list of the best
      have fin : ∀ (oI : Obj) (tn : Nat → Heap → Prop) (sq : Hp → List V → Prop), Nxt X s.heap.objs.size tn sq → (∀ S1, Good (wd X) S1 → Ext0 (wd X) S S1 → ∃ xs, sq S1.H xs ∧ AtL (wd X) S1 xs all) → (∀ h, h.get? s.heap.objs.size = some oI → tn 0 h) → oI.isFreed = false →
          codeAny (model X.prog X.w) X.A (.builtin "max.loop" ⟨[.ref s.heap.objs.size, .ref q, .ref (s.heap.push oI).objs.size], [("default", dv)]⟩) (fun r s' => match r with
            | .ok (.ret v) => EP X pins sg Qv v s'
            | .ok _ => False
            | .error e => X.xe e s') { s with heap := (s.heap.push oI).push { cls := .type "list", data := .seq #[] } } := fun oI tn sq T stay h0 hfr => by
        have J1 : Inv (X1 X) pins sg S.H { s with heap := s.heap.push oI } := J.kept (t' := s.toks) fun b o e => Heap.get?_push_of_some _ e
        have hn : S.H (s.heap.push oI).objs.size = none := I.hok.fresh (by rw [Heap.size_push]; exact Nat.le_succ _)
        have J2 := J1.lnew (ys := []) (its := []) (t' := s.toks) .nil (Nat.zero_le _)
        obtain ⟨g1, k1⟩ := g.hide (o := .lst []) hn trivial
        have nI : s.heap.objs.size ≠ (s.heap.push oI).objs.size := by rw [Heap.size_push]; exact Nat.ne_of_lt (Nat.lt_succ_self _)
        have x0 : Ext0 (wd X) S (S.hide (s.heap.push oI).objs.size (.lst [])) := ⟨List.prefix_refl _, k1, fun a ha => ⟨List.mem_cons_of_mem _ ha, by
          obtain ⟨_, w, e, _⟩ := g.hid a ha
          exact upd_ne (ne_of_none e hn)⟩⟩
        cases hm : mmL fc F all none S.c with
        | stk => rw [hm] at z; exact z.elim
        | err y c => rw [hm] at z; exact z.elim
        | ok best cE =>
          rw [hm] at z
          refine max_loop (bl := []) (bo := none) G hr gd hb cmp T (g.freshX hn) nI stay (fun s' S' I' g' hx' hS' hc' x' => ?_) all.length 0 _ (S.hide (s.heap.push oI).objs.size (.lst [])) (Nat.zero_add _) J2 g1 rfl upd_same rfl x0
            (J.fpOk (Nat.le_refl _) ((upd_ne nI).trans (I.hok.fresh (Nat.le_refl _)))) (h0 _ (Heap.get?_push_of_some _ (Heap.get?_push_size _ hfr))) hm
          have sub : ∀ a ∈ S.x, a ∈ S'.x := fun a ha => by rw [hx']; exact List.mem_cons_of_mem _ ha
          have g2 := g'.tell sub
          have x2 : Ext (wd X) S (S'.tell S.x) := ⟨x'.pre, fun v d a => at_tell sub v d (x'.keep v d a), rfl, fun a ha => (x'.hid a ha).2⟩
          cases best with
          | none => exact ⟨vd, S'.H, inv0 I.ok I', rd, z (S'.tell S.x) vd g2 hc' x2 (x2.keep _ _ ad)⟩
          | some b =>
            obtain ⟨xb, kb⟩ := b
            exact fun ub vb rb ab => ⟨vb, S'.H, inv0 I.ok I', rb, z (S'.tell S.x) vb g2 hc' x2 (at_tell sub _ _ ab)⟩
      have stL : ∀ S1, Good (wd X) S1 → Ext0 (wd X) S S1 → (t = .lst ∨ t = .frl) → ∃ xs, SqL X.K S1.H l xs ∧ AtL (wd X) S1 xs all := fun S1 g1 x1 h => by
        obtain ⟨l', ys, e, hh1, al1⟩ := view_at g1 (x1.keep _ _ av) (show view S1.c (.nod t all) = some (t, all) from rfl)
        cases e
        rcases h with rfl | rfl
        · exact ⟨ys, .of (hold_L hh1), al1⟩
        · exact ⟨ys, hold_F hh1, al1⟩
      cases t with
      | lst =>
        obtain ⟨its, rv, pl, _⟩ := I.list (.of (hold_L hh))
        refine wpAny_bind (wpAny_pyIter_list pl.isList (wpAny_bind (wpAny_newList ?_ (Nat.zero_le _))))
        rw [hname]
        exact wpAny_pure ⟨plainId_quiet PySem.F.plain_max_loop _, fin _ _ _ (nxt_lst hc l _) (fun S1 g1 x1 => stL S1 g1 x1 (.inl rfl)) (fun h e => ⟨_, e, rfl, rfl⟩) rfl⟩
      | frl =>
        obtain ⟨its, rv, pl, _⟩ := I.list (hold_F hh)
        refine wpAny_bind (wpAny_pyIter_list pl.isList (wpAny_bind (wpAny_newList ?_ (Nat.zero_le _))))
        rw [hname]
        exact wpAny_pure ⟨plainId_quiet PySem.F.plain_max_loop _, fin _ _ _ (nxt_lst hc l _) (fun S1 g1 x1 => stL S1 g1 x1 (.inr rfl)) (fun h e => ⟨_, e, rfl, rfl⟩) rfl⟩
      | tup =>
        obtain ⟨its, rv, pl, _⟩ := I.tuple (hold_T hh)
        refine wpAny_bind (wpAny_pyIter_tuple (show s.heap.IsTuple l its.toArray from pl) (wpAny_bind (wpAny_newList ?_ (Nat.zero_le _))))
        rw [hname]
        refine wpAny_pure ⟨plainId_quiet PySem.F.plain_max_loop _, fin _ _ _ (nxt_tup hc l _) (fun S1 g1 x1 => ?_) (fun h e => ⟨_, e, rfl, rfl⟩) rfl⟩
        obtain ⟨l', ys, e, hh1, al1⟩ := view_at g1 (x1.keep _ _ av) (show view S1.c (.nod .tup all) = some (.tup, all) from rfl)
        cases e
        exact ⟨ys, hold_T hh1, al1⟩
      | _ => cases ht
    · exact z.elim
  | _ => exact z.elim
/-! ### < and > of tuples of ints -/
def fLtT (x y : D) (c : Cells) : O := match view c x, view c y with
  | some (.tup, xs), some (.tup, ys) => match intL xs, intL ys with
    | some ns, some ms => some (.bl (HT.lexLt ns ms), c)
    | _, _ => none
  | _, _ => none
theorem fLtT_ok (hu : X.A.units < cLine) : OpF X (compareOp .Lt) fLtT := by
  refine ⟨_, op_ltT hu, fun S x y dx dy Qv g ax ay p => ?_⟩
  obtain ⟨d, c, e, q⟩ := p.some
  unfold fLtT at e
  split at e
  · rename_i xs ys e1 e2
    split at e
    · rename_i ns ms e3 e4
      cases e
      obtain ⟨a, us, rfl, h1, l1⟩ := view_at g ax e1
      obtain ⟨b, ws, rfl, h2, l2⟩ := view_at g ay e2
      have u1 := intL_at e3 l1
      have u2 := intL_at e4 l2
      subst u1 u2
      exact ⟨a, b, ns, ms, rfl, rfl, hold_T h1, hold_T h2, q S _ g rfl .refl rfl⟩
    · cases e
  · cases e
def rGtT (K : PySem.W.Frag) : R2 := fun x y H Qv => ∃ (a b : Addr) (ns ms : List Int), x = .ref a ∧ y = .ref b ∧ SqT K H a (ns.map V.int) ∧ SqT K H b (ms.map V.int) ∧
  Qv (.bl (Ob.lexAt (fun j => decide (ns.getD j 0 = ms.getD j 0)) (fun j => decide (ms.getD j 0 < ns.getD j 0)) (decide (ns.length > ms.length)) 0 (min ns.length ms.length))) H
theorem op_gtT (hu : X.A.units < cLine) : OpR X (compareOp .Gt) (rGtT X.K) := by
  intro pins s sg H x y v u Qv I rx ry h
  obtain ⟨a, b, ns, ms, rfl, rfl, ha, hb, q⟩ := h
  cases rx
  cases ry
  obtain ⟨its, r1, p1, _⟩ := I.tuple ha
  obtain ⟨jts, r2, p2, _⟩ := I.tuple hb
  have i1 := Vals.ints r1
  have i2 := Vals.ints r2
  have k1 : its.toArray.size = ns.length := (List.size_toArray ..).trans i1.length
  have k2 : jts.toArray.size = ms.length := (List.size_toArray ..).trans i2.length
  have t1 : ∀ j (hj : j < its.toArray.size), ∃ t, its.toArray[j] = .int (ns.getD j 0) t := fun j hj => PyProof.Rows.IntsAre.int_at i1 _ _ (by simp at hj; simp [hj])
  have t2 : ∀ j (hj : j < jts.toArray.size), ∃ t, jts.toArray[j] = .int (ms.getD j 0) t := fun j hj => PyProof.Rows.IntsAre.int_at i2 _ _ (by simp at hj; simp [hj])
  have R := Ob.RcOp.tuples_gt (A := X.A) (s := s) (e := fun j => decide (ns.getD j 0 = ms.getD j 0)) (r := fun j => decide (ms.getD j 0 < ns.getD j 0)) p1 p2 hu (fun j h1 h2 => ?_) (fun j h1 h2 _ => ?_)
  · rw [k1, k2] at R
    exact R X.prog X.w X.xe (EP X pins sg Qv) ⟨.bl _, H, I, rfl, q⟩
  · obtain ⟨t, et⟩ := t1 j h1
    obtain ⟨t', et'⟩ := t2 j h2
    rw [et, et', show decide (ns.getD j 0 = ms.getD j 0) = (ns.getD j 0 == ms.getD j 0) from rfl]
    exact SeqAt.EqAt.int_int _ _ _ _
  · obtain ⟨t, et⟩ := t1 j h1
    obtain ⟨t', et'⟩ := t2 j h2
    rw [et, et']
    exact Ob.RcOp.gt_int _ _ _ _
def gtL : List Int → List Int → Bool
  | [], _ => false
  | _ :: _, [] => true
  | x :: xs, y :: ys => if x = y then gtL xs ys else decide (y < x)
theorem gtL_lex : ∀ (ns ms : List Int), Ob.lexAt (fun j => decide (ns.getD j 0 = ms.getD j 0)) (fun j => decide (ms.getD j 0 < ns.getD j 0)) (decide (ns.length > ms.length)) 0 (min ns.length ms.length) = gtL ns ms
  | [], ms => by
    rw [List.length_nil, Nat.zero_min, Ob.lexAt_zero]
    simp [gtL]
  | x :: ns, [] => by
    rw [List.length_nil, Nat.min_zero, Ob.lexAt_zero]
    simp [gtL]
  | x :: ns, y :: ms => by
    have ih := gtL_lex ns ms
    rw [List.length_cons, List.length_cons, Nat.succ_min_succ, Ob.lexAt_succ, lexAt_shift]
    simp only [List.getD_cons_zero, List.getD_cons_succ, gtL, decide_eq_true_eq]
    rw [show decide (ns.length + 1 > ms.length + 1) = decide (ns.length > ms.length) by simp, ih]
def fGtT (x y : D) (c : Cells) : O := match view c x, view c y with
  | some (.tup, xs), some (.tup, ys) => match intL xs, intL ys with
    | some ns, some ms => some (.bl (gtL ns ms), c)
    | _, _ => none
  | _, _ => none
theorem fGtT_ok (hu : X.A.units < cLine) : OpF X (compareOp .Gt) fGtT := by
  refine ⟨_, op_gtT hu, fun S x y dx dy Qv g ax ay p => ?_⟩
  obtain ⟨d, c, e, q⟩ := p.some
  unfold fGtT at e
  split at e
  · rename_i xs ys e1 e2
    split at e
    · rename_i ns ms e3 e4
      cases e
      obtain ⟨a, us, rfl, h1, l1⟩ := view_at g ax e1
      obtain ⟨b, ws, rfl, h2, l2⟩ := view_at g ay e2
      have u1 := intL_at e3 l1
      have u2 := intL_at e4 l2
      subst u1 u2
      exact ⟨a, b, ns, ms, rfl, rfl, hold_T h1, hold_T h2, q S _ g rfl .refl (by rw [gtL_lex]; rfl)⟩
    · cases e
  · cases e
/-! ### min(xs, key = f, default = e) -/
def mMM (fc : D → D → Cells → O) (F : FD) (ma md : ME) : ME := fun env c => (ma env c).bind fun d c => (md env c).bind fun dd c => mmF fc F d dd c
theorem se_mm {nm : Str} {id : String} {q : Addr} {F : FD} {fc : D → D → Cells → O} {a e kx : Expr} {ma md : ME} {kp dp p pos : Pos}
    (hcall : ∀ (S : Sta) (s : Shared) (v vd : V) (u dv : Value) (d dd : D) (Qv : VK) (E : XK) (pins : List (Addr × Obj)) (sg : L2.St), Inv X pins sg S.H s → Good (wd X) S → RelV v u → At (wd X) S v d → RelV vd dv → At (wd X) S vd dd → Post (wd X) S (mmF fc F d dd S.c) Qv E →
      wpAny (model X.prog X.w) X.A (call (.builtin id) [u] [("key", .ref q), ("default", dv)]) (EP X pins sg Qv) X.xe s)
    (hm : X.mg nm = none) (ha : SE X W a ma) (hk : PE X kx (tC (.ref q))) (hd : SE X W e md) (hg : Gl X nm := by rfl) (hv : bootBuiltins nm = some (.builtin id) := by decide +kernel) (hn : nm ≠ "__name__" := by decide) (hdb : (nm == ("__debug__" : Str)) = false := by decide)
    (he : backTo pos (starEach [a] X.env) = (false, eval a X.env) :: backTo pos (starEach [] X.env) := by rfl) (hpl : (backTo pos (starEach [a] X.env)).any (·.1) = false := by rfl) (hs : starEach [a] X.env = (false, eval a X.env) :: starEach [] X.env := by rfl)
    (hall : (backToKw pos (keywordEach [⟨some "key", kx, kp⟩, ⟨some "default", e, dp⟩] X.env)).all (·.1.isSome) = true := by rfl) (hnone : (backToKw pos (keywordEach [⟨some "key", kx, kp⟩, ⟨some "default", e, dp⟩] X.env)).any (·.1.isNone) = false := by rfl)
    (hks : (backToKw pos (keywordEach [⟨some "key", kx, kp⟩, ⟨some "default", e, dp⟩] X.env)).filterMap (·.1) = ([Str.ofString "key", Str.ofString "default"] : List Str) := by rfl) :
    SE X W (.Call (.Name nm p) [a] [⟨some "key", kx, kp⟩, ⟨some "default", e, dp⟩] pos) (mMM fc F ma md) := by
  obtain ⟨ta, pa, qa⟩ := ha
  obtain ⟨td, pd, qd⟩ := hd
  refine ⟨tE (wd X) (mMM fc F ma md) W, ⟨fun pins s sg H Qv I h0 => ?_⟩, fun S sg env Qv g en z => ⟨S, env, rfl, g, en, z⟩⟩
  obtain ⟨S, env, rfl, g, en, z⟩ := h0
  refine wpAny_Call_Name_kw (ld_blt I hg hm hv ?_ hn hdb)
  refine PyProof.Rows.callWith_kw (thn ((pa_cons pa pa_nil hs).run pos pins _ sg S.H (fun vs H1 => ∃ S1 v d, vs = [v] ∧ S1.H = H1 ∧ Good (wd X) S1 ∧ EnvAt (wd X) S1 sg env ∧ At (wd X) S1 v d ∧ Post (wd X) S1 ((md env S1.c).bind fun dd c => mmF fc F d dd c) Qv (WE W sg)) (I.tok _) ?_) fun us s1 hh => ?_) he hpl hall hnone
  · exact qa S sg env _ g en (post_bind z fun d S1 v e1 g1 x1 a1 p1 => ⟨S1, v, d, rfl, rfl, g1, en.ext x1, a1, p1⟩)
  · obtain ⟨vs, H1, I1, r1, S1, v, d, rfl, rfl, g1, en1, a1, p1⟩ := hh
    refine thn ((pk_cons hk (pk_cons pd pk_nil)).run pos pins s1 sg S1.H (fun zs H2 => ∃ S2 vd dd, zs = [.ref q, vd] ∧ S2.H = H2 ∧ Good (wd X) S2 ∧ At (wd X) S2 v d ∧ At (wd X) S2 vd dd ∧ Post (wd X) S2 (mmF fc F d dd S2.c) Qv (WE W sg)) I1 ?_) fun ws s2 hh => ?_
    · exact qd S1 sg env _ g1 en1 (post_bind p1 fun dd S2 vd e2 g2 x2 a2 p2 => ⟨S2, vd, dd, rfl, rfl, g2, x2.keep _ _ a1, a2, p2⟩)
    · obtain ⟨zs, H2, I2, r2, S2, vd, dd, rfl, rfl, g2, b1, b2, p2⟩ := hh
      rw [hks]
      obtain ⟨u, rfl, ru⟩ := vals1 r1
      obtain ⟨w1, w2, rfl, rw1, rw2⟩ := vals2 r2
      cases rw1
      exact hcall S2 s2 v vd u w2 d dd Qv _ pins sg I2 g2 ru b1 rw2 b2 p2
end
end Q
end
section
set_option Elab.async false
set_option linter.all false
set_option maxRecDepth 100000
namespace Q
open PySem PySem.Spec L2
variable [Tb]
section
variable {X : Cx} {W : WX} {pos : Pos} {x : Str}
/-! ### names in short -/
theorem v (i : Nat) (hN : X.N[i]? = some x := by rfl) (hv : Vis X.env.scope x := by first | exact Or.inl rfl | exact Or.inr (Or.inl rfl) | exact Or.inr (Or.inr rfl)) (hd : (x == ("__debug__" : Str)) = false := by decide)
    (hcd : (x == ("__classdict__" : Str)) = false := by decide) : SE X W (.Name x pos) (mVar i) := se_var (pe_var hN hv hd hcd)
theorem gStr {y : Str} {t : Tok} (hm : X.mg x = some (.str y t)) (hg : Gl X x := by rfl) (hd : (x == ("__debug__" : Str)) = false := by decide) : SE X W (.Name x pos) (mC (.str y)) :=
  se_glob (v := .str y) (pe_glob hg hm ⟨t, rfl⟩ hd) fun _ _ => rfl
theorem gInt {y : Int} {t : Tok} (hm : X.mg x = some (.int y t)) (hg : Gl X x := by rfl) (hd : (x == ("__debug__" : Str)) = false := by decide) : SE X W (.Name x pos) (mC (.int y)) :=
  se_glob (v := .int y) (pe_glob hg hm ⟨t, rfl⟩ hd) fun _ _ => rfl
theorem gTy {T : String} (hm : X.mg x = none) (hg : Gl X x := by rfl) (hv : bootBuiltins x = some (.type T) := by decide +kernel) (hn : x ≠ "__name__" := by decide) (hd : (x == ("__debug__" : Str)) = false := by decide) : PE X (.Name x pos) (tC (.ty T)) :=
  pe_bltn hg hm hv rfl hn hd
theorem gFn {a : Addr} (hm : X.mg x = some (.ref a)) (hg : Gl X x := by rfl) (hd : (x == ("__debug__" : Str)) = false := by decide) : PE X (.Name x pos) (tC (.ref a)) := pe_glob hg hm rfl hd
end
/-- the def's object and its name -/
def Df (K : PySem.W.Frag) (mg : Str → Option Value) (x : Str) (st : Stmt) : Prop := ∃ f fd, L2.Fun K x x st f fd ∧ mg x = some (.ref f)
/-- a def that does what F says, by its name -/
def Ok (P : Program) (w : World) (K : PySem.W.Frag) (mg : Str → Option Value) (base : Heap) (k : Nat) (x : Str) (st : Stmt) (ps : List Str) (F : FD) : Prop :=
  ∃ f fd, L2.Fun K x x st f fd ∧ mg x = some (.ref f) ∧ Binds K fd ps [] ∧ FnG P w K mg base k f fd ps F
def OkS (P : Program) (w : World) (K : PySem.W.Frag) (mg : Str → Option Value) (base : Heap) (k : Nat) (x : Str) (st : Stmt) (F : FD) : Prop :=
  ∃ f fd, L2.Fun K x x st f fd ∧ mg x = some (.ref f) ∧ FnS P w K mg base k f F
section
variable {P : Program} {w : World} {K : PySem.W.Frag} {mg : Str → Option Value} {base : Heap}
theorem FnS.mono {j k : Nat} {f : Addr} {F : FD} (h : FnS P w K mg base j f F) (le : j ≤ k) : FnS P w K mg base k f F := ⟨fun A l s S us vs ds Qv E hg hr => h.run A l s S us vs ds Qv E hg (hr.mono le)⟩
theorem ok_mk {x : Str} {st : Stmt} {N ps : List Str} {k : Nat} {m : MS} (D0 : Df K mg x st) (Sc : FnScope N ps (defScope st))
    (hbind : ∀ (kV doc pm : Value) (an : Option Addr) (cdv ct : Value) (us : List Value), us.length = ps.length → bindArgs (PySem.W.fnOf x x (defArgs st) (defBody st) (defScope st) .none kV doc pm an cdv ct) ⟨us, []⟩ = pure (ps.zip us))
    (hbody : ∀ f cdv A l s H E, A.guards = some [] → Room k (Xf P w K mg base N x st f cdv A l s H E).A → Takes (Xf P w K mg base N x st f cdv A l s H E) (WOf E) →
      PassesOwn (model P w) (Xf P w K mg base N x st f cdv A l s H E).A (Xf P w K mg base N x st f cdv A l s H E).env (Xf P w K mg base N x st f cdv A l s H E).xe →
      SB (Xf P w K mg base N x st f cdv A l s H E) (WOf E) (defBody st) m) : Ok P w K mg base (k + 1) x st ps (bodyF N.length m) := by
  obtain ⟨f, fd, F, h⟩ := D0
  exact ⟨f, fd, F, h, F.binds hbind, fn_body F Sc (hbody f)⟩
theorem okS_mk {x pv : Str} {st : Stmt} {N : List Str} {k : Nat} {m : MS} (D0 : Df K mg x st) (Sc : FnScope N [pv] (defScope st))
    (hbind : ∀ (kV doc pm : Value) (an : Option Addr) (cdv ct : Value) (us : List Value), bindArgs (PySem.W.fnOf x x (defArgs st) (defBody st) (defScope st) .none kV doc pm an cdv ct) ⟨us, []⟩ = (newTuple us >>= fun t => pure [(pv, t)]))
    (hbody : ∀ f cdv A l s H E, A.guards = some [] → Room k (Xf P w K mg base N x st f cdv A l s H E).A → Takes (Xf P w K mg base N x st f cdv A l s H E) (WOf E) →
      PassesOwn (model P w) (Xf P w K mg base N x st f cdv A l s H E).A (Xf P w K mg base N x st f cdv A l s H E).env (Xf P w K mg base N x st f cdv A l s H E).xe →
      SB (Xf P w K mg base N x st f cdv A l s H E) (WOf E) (defBody st) m) : OkS P w K mg base (k + 1) x st (starF N.length m) := by
  obtain ⟨f, fd, F, h⟩ := D0
  refine ⟨f, fd, F, h, fn_bodyS F Sc (fun us => ?_) (hbody f)⟩
  obtain ⟨oc, od, kV, doc, pm, an, cdv, ct, osl, rfl, lk, hcd⟩ := F.ex
  exact hbind kV doc pm an cdv ct us
end
section
variable {X : Cx} {W : WX} {pos p : Pos} {x : Str} {st : Stmt} {j k : Nat} {ps : List Str} {F : FD} {e : Expr} {es : List Expr} {ms : ML} {kws : List Keyword}
theorem se_ok (O : Ok X.prog X.w X.K X.mg X.base k x st ps F) (hr : Room j X.A) (gd : X.A.guards = some []) (tk : Takes X W) (ha : SA X W (e :: es) ms) (le : k ≤ j := by decide) (hg : Gl X x := by rfl) (hdb : (x == ("__debug__" : Str)) = false := by decide)
    (he : starEach (e :: es) X.env = (false, eval e X.env) :: starEach es X.env := by rfl) (hpl : (backTo pos (starEach es X.env)).any (·.1) = false := by rfl) : SE X W (.Call (.Name x p) (e :: es) [] pos) (mFn F ps.length ms) := by
  obtain ⟨f, fd, Fu, h, b, G⟩ := O
  exact se_fn0 (G.mono le) hr gd tk h Fu.kp b ha hg hdb he hpl
theorem se_okS (O : OkS X.prog X.w X.K X.mg X.base k x st F) (hr : Room j X.A) (gd : X.A.guards = some []) (tk : Takes X W) (ha : SA X W (e :: es) ms) (le : k ≤ j := by decide) (hg : Gl X x := by rfl) (hdb : (x == ("__debug__" : Str)) = false := by decide)
    (he : starEach (e :: es) X.env = (false, eval e X.env) :: starEach es X.env := by rfl) (hpl : (backTo pos (starEach es X.env)).any (·.1) = false := by rfl) : SE X W (.Call (.Name x p) (e :: es) [] pos) (mFnS F ms) := by
  obtain ⟨f, fd, Fu, h, G⟩ := O
  exact se_fnS (G.mono le) hr gd tk h Fu.kp ha hg hdb he hpl
theorem se_okS0 (O : OkS X.prog X.w X.K X.mg X.base k x st F) (hr : Room j X.A) (gd : X.A.guards = some []) (tk : Takes X W) (le : k ≤ j := by decide) (hg : Gl X x := by rfl) (hdb : (x == ("__debug__" : Str)) = false := by decide) : SE X W (.Call (.Name x p) [] [] pos) (mFnS F mNil) := by
  obtain ⟨f, fd, Fu, h, G⟩ := O
  exact se_fnS0 (G.mono le) hr gd tk h Fu.kp hg hdb
/-- min(xs, key = f, default = d), max(..) -/
theorem se_minK {q : Str} {a d : Expr} {ma md : ME} {kp dp pq : Pos} {pn : Str} (hc : X.calm = true) (O : Ok X.prog X.w X.K X.mg X.base k q st [pn] F) (hr : Room (j + 1) X.A) (gd : X.A.guards = some []) (hm : X.mg "min" = none) (ha : SE X W a ma) (hd : SE X W d md) (le : k ≤ j := by decide)
    (hgq : Gl X q := by rfl) (hdq : (q == ("__debug__" : Str)) = false := by decide) (hg : Gl X "min" := by rfl)
    (he : backTo pos (starEach [a] X.env) = (false, eval a X.env) :: backTo pos (starEach [] X.env) := by rfl) (hpl : (backTo pos (starEach [a] X.env)).any (·.1) = false := by rfl) (hs : starEach [a] X.env = (false, eval a X.env) :: starEach [] X.env := by rfl) :
    SE X W (.Call (.Name "min" p) [a] [⟨some "key", .Name q pq, kp⟩, ⟨some "default", d, dp⟩] pos) (mMM fLtT F ma md) := by
  obtain ⟨f, fd, Fu, h, b, G⟩ := O
  have hr1 : Room j (X1 X).A := hr.in1
  exact se_mm (q := f) (fun S s v vd u dv d dd Qv E pins sg I g ru av rd ad z => call_minK hc (G.mono le) hr1 gd b (fLtT_ok (Nat.lt_of_le_of_lt (Nat.le_add_right _ _) hr1.units)) I g ru av rd ad z) hm ha (gFn h hgq hdq) hd hg (by decide +kernel) (by decide) (by decide) he hpl hs
theorem se_maxK {q : Str} {a d : Expr} {ma md : ME} {kp dp pq : Pos} {pn : Str} (hc : X.calm = true) (O : Ok X.prog X.w X.K X.mg X.base k q st [pn] F) (hr : Room (j + 1) X.A) (gd : X.A.guards = some []) (hm : X.mg "max" = none) (ha : SE X W a ma) (hd : SE X W d md) (le : k ≤ j := by decide)
    (hgq : Gl X q := by rfl) (hdq : (q == ("__debug__" : Str)) = false := by decide) (hg : Gl X "max" := by rfl)
    (he : backTo pos (starEach [a] X.env) = (false, eval a X.env) :: backTo pos (starEach [] X.env) := by rfl) (hpl : (backTo pos (starEach [a] X.env)).any (·.1) = false := by rfl) (hs : starEach [a] X.env = (false, eval a X.env) :: starEach [] X.env := by rfl) :
    SE X W (.Call (.Name "max" p) [a] [⟨some "key", .Name q pq, kp⟩, ⟨some "default", d, dp⟩] pos) (mMM fGtT F ma md) := by
  obtain ⟨f, fd, Fu, h, b, G⟩ := O
  have hr1 : Room j (X1 X).A := hr.in1
  exact se_mm (q := f) (fun S s v vd u dv d dd Qv E pins sg I g ru av rd ad z => call_maxK hc (G.mono le) hr1 gd b (fGtT_ok (Nat.lt_of_le_of_lt (Nat.le_add_right _ _) hr1.units)) I g ru av rd ad z) hm ha (gFn h hgq hdq) hd hg (by decide +kernel) (by decide) (by decide) he hpl hs
theorem se_okK {r : Bool} {ks : List Str} (O : Ok X.prog X.w X.K X.mg X.base k x st ps F) (hr : Room j X.A) (gd : X.A.guards = some []) (tk : Takes X W)
    (hb : ∀ (kV doc pm : Value) (an : Option Addr) (cdv ct : Value) (us : List Value), us.length = ps.length → bindArgs (PySem.W.fnOf x x (defArgs st) (defBody st) (defScope st) .none kV doc pm an cdv ct) ⟨[], ks.zip us⟩ = pure (ps.zip (rv r us))) (ha : SK X W kws ms) (le : k ≤ j := by decide)
    (hall : (backToKw pos (keywordEach kws X.env)).all (·.1.isSome) = true := by rfl) (hks : (backToKw pos (keywordEach kws X.env)).filterMap (·.1) = ks := by rfl)
    (hg : Gl X x := by rfl) (hdb : (x == ("__debug__" : Str)) = false := by decide) (hpl : ((backTo pos (starEach [] X.env)).any (·.1) || (backToKw pos (keywordEach kws X.env)).any (·.1.isNone)) = false := by rfl) :
    SE X W (.Call (.Name x p) [] kws pos) (mFnK F ps.length r ms) := by
  obtain ⟨f, fd, Fu, h, b, G⟩ := O
  refine se_fnK0 (ks := ks) (r := r) (G.mono le) hr gd tk h Fu.kp (fun s us _ hl => ?_) ha hall hks hg hdb hpl
  obtain ⟨oc, od, kV, doc, pm, an, cdv, ct, osl, rfl, lk, hcd⟩ := Fu.ex
  exact .of_eq (hb kV doc pm an cdv ct us hl)
end
/-- an own exception whose __init__ keeps its argument as value -/
def ExD (P : Program) (w : World) (K : PySem.W.Frag) (mg : Str → Option Value) (base : Heap) (x : Str) : Prop :=
  ∃ C fI fd s v, OexC K C ∧ PySem.W.findIn K (.ref C) "__init__" = some (some (.ref fI)) ∧ PySem.W.typeIn K (.ref fI) = some (.type "function") ∧ FnOk P w K mg base C8.CX0 1 fI fd [s, v] (spI C "value") ∧ Binds K fd [s, v] [] ∧ mg x = some (.ref C)
section
variable {X : Cx} {W : WX} {pos p pos' : Pos} {x : Str} {j : Nat} {e : Expr} {ms : ML}
theorem ss_raiseX (hc : X.calm = true) (tk : Takes X W) (O : ExD X.prog X.w X.K X.mg X.base x) (hr : Room j X.A) (ha : SA X W [e] ms) (le : 2 ≤ j := by decide) (hg : Gl X x := by rfl)
    (hdb : (x == ("__debug__" : Str)) = false := by decide) (he : starEach [e] X.env = (false, eval e X.env) :: starEach [] X.env := by rfl) (hpl : (backTo pos (starEach [] X.env)).any (·.1) = false := by rfl) :
    SS X W (.Raise (some (.Call (.Name x p) [e] [] pos)) none pos') (sRaise x ["value"] ms) := by
  obtain ⟨C, fI, fd, s, v, T, iC, tI, F1, b, h⟩ := O
  exact ss_raise1 hc tk T iC tI F1 (hr.mono le) b C8.pass0 h ha hg hdb he hpl
end
end Q
end
section
set_option Elab.async false
set_option linter.all false
set_option maxRecDepth 100000
namespace Q
open PySem PySem.Spec L2
open PyProof.Rows (envOfC)
variable [Tb]
/-! ### a def whose code object is known: it makes lambdas -/
def DfC (K : PySem.W.Frag) (mg : Str → Option Value) (x : Str) (st : Stmt) (c : Addr) : Prop := ∃ (f : Addr) (oc : Value) (od : Option Addr) (kV doc pm : Value) (an : Option Addr) (ct : Value) (osl : Array (Option Value)),
  K.lookup f = some ⟨oc, od, .func (PySem.W.fnOf x x (defArgs st) (defBody st) (defScope st) .none kV doc pm an (.ref c) ct), osl⟩ ∧ PySem.W.codeIn K (.ref c) x = true ∧ PySem.W.keepIn K (.ref f) = true ∧ mg x = some (.ref f)
section
variable {P : Program} {w : World} {K : PySem.W.Frag} {mg : Str → Option Value} {base : Heap}
theorem ok_mkC {x : Str} {st : Stmt} {N ps : List Str} {k : Nat} {m : MS} {c : Addr} (D0 : DfC K mg x st c) (Sc : FnScope N ps (defScope st))
    (hbind : ∀ (kV doc pm : Value) (an : Option Addr) (cdv ct : Value) (us : List Value), us.length = ps.length → bindArgs (PySem.W.fnOf x x (defArgs st) (defBody st) (defScope st) .none kV doc pm an cdv ct) ⟨us, []⟩ = pure (ps.zip us))
    (hbody : ∀ f A l s H E, A.guards = some [] → Room k (Xf P w K mg base N x st f (.ref c) A l s H E).A → Takes (Xf P w K mg base N x st f (.ref c) A l s H E) (WOf E) →
      PassesOwn (model P w) (Xf P w K mg base N x st f (.ref c) A l s H E).A (Xf P w K mg base N x st f (.ref c) A l s H E).env (Xf P w K mg base N x st f (.ref c) A l s H E).xe →
      SB (Xf P w K mg base N x st f (.ref c) A l s H E) (WOf E) (defBody st) m) : Ok P w K mg base (k + 1) x st ps (bodyF N.length m) := by
  obtain ⟨f, oc, od, kV, doc, pm, an, ct, osl, lk, hcd, kp, h⟩ := D0
  have F : L2.Fun K x x st f (PySem.W.fnOf x x (defArgs st) (defBody st) (defScope st) .none kV doc pm an (.ref c) ct) := fun_mk lk hcd kp
  refine ⟨f, _, F, h, F.binds hbind, ⟨fun A l s S args us vs ds Qv E hgd hr e0 hb rv gd al hl p => ?_⟩⟩
  have hlen : vs.length = ps.length := al.len.trans hl
  have kk : ∀ y ∈ ps.zip us, (defScope st).names.lookup y.1 = some .local ∨ ((defScope st).names.lookup y.1 = some .cell ∧ ((cellsFrom (s.heap.objs.size + 1) (defScope st).names []).lookup y.1).isSome = true) := by
    intro y hy
    rcases Sc.par y.1 (List.of_mem_zip hy).1 with z | z
    · exact .inl z
    · exact .inr ⟨z, PySem.W.cellsFrom_some _ _ _ (.inl z)⟩
  have hK : K.In s.heap := e0.mod.kin.keeps fun b ob q => (e0.bs b ob q).1
  have hL : s.heap.NoLimit := e0.mod.nolimit.keeps fun b ob q => (e0.bs b ob q).1
  refine PySem.codeAny_call_function hr.depth (hK _ _ lk) rfl Sc.co Sc.gen rfl (PySem.W.codeRec_of hK hcd) (hb _ _ _ _ ?_)
  refine PySem.wpAny_newFunctionEnv_cells Sc.kind kk fun env he s1 xc => ?_
  subst he
  refine ⟨hL.keeps xc.toInCall.keep, codeAny_func ?_⟩
  have I : Inv (Xf P w K mg base N x st f (.ref c) A l s S.H E) [] (L2.start N vs) S.H s1 := inv_start Sc hr.hd e0 hlen rv xc
  have body := hbody f A l s S.H E hgd (hr.deeper _) (takes_of rfl rfl rfl rfl) (passes_of rfl)
  have run := body.run [] s1 (L2.start N vs) S.H { nx := fun _ H' => Qv .non H', rt := Qv } I ⟨S, enter N.length ds, rfl, gd, enter_at al, post_out p⟩
  refine wpAny_mono run (fun fl s' hs => ?_) fun e s' hs => hs
  have done : ∀ {sg : L2.St} {H' : Hp} {v : V} {u : Value}, Inv (Xf P w K mg base N x st f (.ref c) A l s S.H E) [] sg H' s' → RelV v u → Qv v H' → CE l P w S.H s Qv u s' := by
    intro sg H' v u J r q
    exact ⟨v, H', J.os, J.bare, J.base, J.hok, r, q⟩
  cases fl with
  | next =>
    obtain ⟨sg, H', J, q⟩ := hs
    exact done (v := .non) (u := .none) J rfl q
  | ret u =>
    obtain ⟨v, sg, H', J, r, q⟩ := hs
    exact done J r q
  | brk =>
    obtain ⟨_, _, _, q⟩ := hs
    exact q.elim
  | cont =>
    obtain ⟨_, _, _, q⟩ := hs
    exact q.elim
end
/-! ### facts of exception classes -/
/-- the class cls in a clause, and what an error of a class of ns answers to it -/
def ExHit (K : PySem.W.Frag) (mg : Str → Option Value) (ns : List Str) (cls : Str) : Prop := ∃ cc, mg cls = some (.ref cc) ∧ ∀ n ∈ ns, ∀ C, mg n = some (.ref C) → PySem.W.exmOne K (.ref C) (.ref cc) = some (decide (n = cls))
def hitOf (ns : List Str) (cls : Str) : Str → Option Bool := fun n => if n ∈ ns then some (decide (n = cls)) else none
/-- an error of the class cls in hand: its field f, its bases -/
structure ExSu (K : PySem.W.Frag) (mg : Str → Option Value) (cls f : Str) : Prop where
  xf : ∀ C, mg cls = some (.ref C) → XfC K C ∧ ExcC K C ∧ (PySem.W.clsIn K C).isSome = true ∧ PySem.W.findIn K (.ref C) f = some none
/-- an own base class of cls -/
def ExBase (K : PySem.W.Frag) (mg : Str → Option Value) (cls b : Str) : Prop := ∃ B, mg b = some (.ref B) ∧ ∀ C, mg cls = some (.ref C) → PySem.W.kitOne K (.ref C) (.ref B) = some true
def ExTy (K : PySem.W.Frag) (mg : Str → Option Value) (cls : Str) (T : String) : Prop := ∀ C, mg cls = some (.ref C) → PySem.W.kitOne K (.ref C) (.type T) = some true
section
variable {X : Cx} {W : WX}
theorem hit_of {ns : List Str} {cls : Str} {cc : Addr} (h : ∀ n ∈ ns, ∀ C, X.mg n = some (.ref C) → PySem.W.exmOne X.K (.ref C) (.ref cc) = some (decide (n = cls))) : ∀ n r C, hitOf ns cls n = some r → X.mg n = some (.ref C) → PySem.W.exmOne X.K (.ref C) (.ref cc) = some r := by
  intro n r C e hm
  unfold hitOf at e
  split at e
  · rename_i hn
    cases e
    exact h n hn C hm
  · cases e
theorem hit_is {ns : List Str} {cls n : Str} (h : hitOf ns cls n = some true) : n = cls := by
  unfold hitOf at h
  split at h
  · exact of_decide_eq_true (Option.some.inj h)
  · cases h
/-- except cls as n: name = ['tag', n.f, isinstance(n, A) and isinstance(n, T)] -/
def kTag (j : Nat) (tag f : Str) (x : Exn) : MS := sSet j (mLst (mCons (mC (.str tag)) (mCons (mFld x f) (mCons (mAndV (mC (.bl true)) (mC (.bl true))) mNil))))
theorem hq_tag {i j : Nat} {cls n y A Tn f tag : Str} {T : String} {ns : List Str} {clz : List Cla} {rest : List ExceptHandler} {p0 p1 p2 p3 p4 p5 p6 p7 p8 p9 pa pb pc pd pe pf pg : Pos} {jj : Nat} (hs : X.stack = X.env :: X.outer) (hf : X.env.frame = some X.env.locals) (hN : X.N.Nodup)
    (hh : ExHit X.K X.mg ns cls) (su : ExSu X.K X.mg cls f) (hA : ExBase X.K X.mg cls A) (hT : ExTy X.K X.mg cls T) (hTn : X.mg Tn = none) (him : X.mg "isinstance" = none) (hrest : HdOk X rest (wCls X W clz))
    (hi : X.N[i]? = some n := by rfl) (hj : X.N[j]? = some y := by rfl) (hln : X.env.kindOf n = some .local := by rfl) (hly : X.env.scope.names.lookup y = some .local := by rfl) (hgc : Gl X cls := by rfl) (hdc : (cls == ("__debug__" : Str)) = false := by decide)
    (hgA : Gl X A := by rfl) (hdA : (A == ("__debug__" : Str)) = false := by decide) (hgT : Gl X Tn := by rfl) (hvT : bootBuiltins Tn = some (.type T) := by decide +kernel) (hnT : Tn ≠ "__name__" := by decide) (hdT : (Tn == ("__debug__" : Str)) = false := by decide) (hgi : Gl X "isinstance" := by rfl)
    (hvn : Vis X.env.scope n := by exact .inl rfl) (hdn : (n == ("__debug__" : Str)) = false := by decide) (hcn : (n == ("__classdict__" : Str)) = false := by decide) :
    HdOk X (.ExceptHandler (some (.Name cls p0)) (some n) [.Assign [.Name y p1] (.List [.Constant (.str tag) jj p2, .Attribute (.Name n p3) f p4, .BoolOp .And [.Call (.Name "isinstance" p5) [.Name n p6, .Name A p7] [] p8, .Call (.Name "isinstance" p9) [.Name n pa, .Name Tn pb] [] pc] pd] pe) pf] pg :: rest)
      (wCls X W (⟨hitOf ns cls, i, kTag j tag f⟩ :: clz)) := by
  obtain ⟨cc, hcc, hall⟩ := hh
  obtain ⟨B, hB, hkB⟩ := hA
  refine hq_cons (c := .ref cc) hs hf hN ⟨hgc, hdc, .inl hcc⟩ hrest (hit_of hall) (fun a oe C d pn x hm ht hz hv => ?_) hi hln
  have ex : x.cls = cls := hit_is ht
  rw [ex] at hm
  obtain ⟨xf, ec, hcl, hno⟩ := su.xf C hm
  have pN : ∀ p, PE (X.suite a ((a, oe) :: pn)) (.Name n p) (tVar i) := fun p => pe_var (X := X.suite a ((a, oe) :: pn)) hi hvn hdn hcn
  exact sxs_set (Y := X.suite a ((a, oe) :: pn)) hN (sx_lst (sxa_cons (sx_se se_str) (sxa_cons (sx_fld xf hno hz hv (pN _)) (sxa_cons (sx_and (sx_isi (cV := .ref B) (cv := .ref B) ec hcl hz hv (pN _) (pe_glob (X := X.suite a ((a, oe) :: pn)) (v := .ref B) hgA hB rfl hdA) (fun u h => h) (hkB C hm) him hgi)
    (sx_one (sx_isi (cV := .ty T) (cv := .type T) ec hcl hz hv (pN _) (pe_bltn (X := X.suite a ((a, oe) :: pn)) (v := .ty T) hgT hTn hvT rfl hnT hdT) (fun u h => h) (hT C hm) him hgi))) sxa_nil)))) hj (Or.inl hly) rfl (Or.inr hly)
/-- the table of the code object at c knows the one name q -/
def LamT (base : Heap) (mg : Str → Option Value) (c : Addr) (q : Str) : Prop := ∃ P, LamX.TabB base mg c P ∧ (P, q) ∈ Tb.l ∧ ∀ p ∈ Tb.l, p.1 = P → p.2 = q
theorem se_told {x a q : Str} {st : Stmt} {c : Addr} {j k : Nat} {Ng : List Str} {params : Arguments} {body : Expr} {scope : Scope} {mb : ME} {p lpos pos : Pos} {toldF : (Cells → R D) → Cells → R D} {kb : D → (Cells → R D) → MS} (D0 : Df X.K X.mg x st) (Sg : FnScope Ng [a] (defScope st))
    (hbd : ∀ (kV doc pm : Value) (an : Option Addr) (cdv ct : Value) (us : List Value), us.length = [a].length → bindArgs (PySem.W.fnOf x x (defArgs st) (defBody st) (defScope st) .none kV doc pm an cdv ct) ⟨us, []⟩ = pure ([a].zip us))
    (hind : ∀ D0 F0 cc, (kb D0 F0 (enter Ng.length [D0]) cc).out = toldF F0 cc)
    (hG : ∀ (g : Addr) (cdv : Value) (D0 : D) (F0 : Cells → R D) (s : Shared) (H : Hp), Room (k + 1) (Zt X Ng x (defScope st) g cdv s H).A → (Zt X Ng x (defScope st) g cdv s H).A.guards = some [] →
      (∀ (Wi : WX) (pn : List (Addr × Obj)) (xe : Value → Shared → Prop) (p1 p2 : Pos), Takes ((Zt X Ng x (defScope st) g cdv s H).nox.tr pn xe) Wi → SE ((Zt X Ng x (defScope st) g cdv s H).nox.tr pn xe) Wi (.Call (.Name a p1) [] [] p2) (mAct D0 F0)) → SB (Zt X Ng x (defScope st) g cdv s H).nox WF (defBody st) (kb D0 F0))
    (TB : LamT X.base X.mg c q) (hr : Room j X.A) (gd : X.A.guards = some []) (L : LamX.LamS X.env.scope scope)
    (hbody : ∀ (E : XK) (A : Around) (outer : List PySem.Env) (s : Shared) (H : Hp) (f c' : Addr), A.guards = some [] → Room k (A.deeper (LamX.lamEnv X scope s.heap.objs.size f c')) → SE (LamX.lamCx X A outer s H E scope f c') (fun cl dd _ H => E cl dd H) body mb)
    (le : k + 2 ≤ j := by decide) (hcode : X.env.code = .ref c := by rfl) (hq : X.env.qual ++ "<lambda>" = q := by rfl) (hNg : Ng[0]? = some a := by rfl) (hva : Vis (defScope st) a := by exact .inl rfl) (hdef : defaultsOf params X.env = ([], []) := by rfl)
    (hbindL : ∀ (q : Str) (cl : List (Str × Addr)) (pm cv ctv : Value), bindArgs (PySem.W.kla_fn "<lambda>" q params body scope cl pm cv ctv) ⟨[], []⟩ = pure [] := by intros; rfl)
    (hg : Gl X x := by rfl) (hdb : (x == ("__debug__" : Str)) = false := by decide) (hd : (a == ("__debug__" : Str)) = false := by decide) (hcd : (a == ("__classdict__" : Str)) = false := by decide) :
    SE X W (.Call (.Name x p) [.Lambda params body scope lpos] [] pos) (mLam toldF mb) := by
  obtain ⟨g, fd, Fu, h⟩ := D0
  obtain ⟨P, tb, hP, hu⟩ := TB
  have b := Fu.binds hbd
  have kp := Fu.kp
  obtain ⟨oc, od, kV, doc, pm, an, cdv, ct, osl, rfl, lk, hcg⟩ := Fu.ex
  subst hq
  exact se_lam (k := k) h kp lk hcg b Sg hNg hva hind (fun D0 F0 s H hr2 act => hG g cdv D0 F0 s H hr2 gd act) tb hcode hP hu (hr.mono le) L hdef hbindL gd hbody hg hdb hd hcd
end
end Q
end
section
set_option Elab.async false
set_option linter.all false
set_option maxRecDepth 100000
set_option maxHeartbeats 1000000
namespace Q
open PySem PySem.Spec L2
open PyProof.Rows (AllBare IntsAre)
/-! ### the end of a law: the script, the tables, the call -/
/-- the start: the script (where the written part has it not) and the tables -/
noncomputable def startH (a : Addr) (vs : List Value) (ns : List Int) (ts : List Addr) (b : Bool) : Hp := fun p =>
  if b = true ∧ p = a then some (.frz { cls := .type "list", data := .seq vs.toArray } (.lst (ns.map V.int))) else if p ∈ ts then some (.tbl #[]) else none
theorem startH_cases {a : Addr} {vs : List Value} {ns : List Int} {ts : List Addr} {b : Bool} (p : Addr) :
    (b = true ∧ p = a ∧ startH a vs ns ts b p = some (.frz { cls := .type "list", data := .seq vs.toArray } (.lst (ns.map V.int)))) ∨ (p ∈ ts ∧ startH a vs ns ts b p = some (.tbl #[])) ∨ (p ∉ ts ∧ (b = true → p ≠ a) ∧ startH a vs ns ts b p = none) := by
  unfold startH
  by_cases h : b = true ∧ p = a
  · rw [if_pos h]
    exact .inl ⟨h.1, h.2, rfl⟩
  · rw [if_neg h]
    by_cases h2 : p ∈ ts
    · rw [if_pos h2]
      exact .inr (.inl ⟨h2, rfl⟩)
    · rw [if_neg h2]
      exact .inr (.inr ⟨h2, fun e z => h ⟨e, z⟩, rfl⟩)
section
variable {P : Program} {w : World} {K : PySem.W.Frag} {mg mb : Str → Option Value} {k : Nat} {fa a : Addr} {cs : List (Addr × Addr)} {nm x : Str} {st : Stmt} {F : FD} {s1 : Shared} {vs : List Value} {ns : List Int} {q : Str}
theorem law_callG [TI : Tb] (hTI : ∀ p ∈ TI.l, ∃ r ∈ cs, r.2 = p.1) (KX : K.In s1.heap) (hns : s1.heap.Ns mainGlobals mg) (hbi : s1.heap.Ns builtinsNs mb) (hbb : ∀ x : Str, x ≠ "__name__" → mb x = bootBuiltins x) (hlim : s1.heap.NoLimit) (hsy : ∃ mm, s1.heap.Ns sysModules mm) (hgen : s1.gens = #[])
    (hT : ∀ p ∈ cs, s1.heap.get? p.2 = some { cls := .none, data := .fields #[] }) (nT : ∀ p ∈ cs, K.lookup p.2 = none) (C : ∀ p ∈ cs, PySem.W.CodeHd s1.heap p.1 p.2)
    (hbm : ∃ (bm : Addr) (ob : Obj), mg "__builtins__" = some (.ref bm) ∧ bm ≠ builtinsNs ∧ s1.heap.get? bm = some ob ∧ ob.cls = .type "module" ∧ ob.dict = some builtinsNs ∧ ob.data = .plain)
    (ha : s1.heap.get? a = some { cls := .type "list", data := .seq vs.toArray }) (hi : IntsAre vs ns) (hl : ns.length ≤ sizeLine) (hr : Room k callerA)
    (hmg : mg nm = some (.ref fa)) (G : ∀ base : Heap, K.In base → base.Ns mainGlobals mg → (∀ p ∈ cs, LamX.TabB base mg p.1 p.2) → SysIn base → Ok P w K mg base k nm st [x] F)
    (hF : ∃ c, F [.nod .frl (ns.map D.int)] [] = .ok (.bl true) c) :
    codeAny (model P w) callerA (.call (.ref fa) ⟨[.ref a], []⟩) (fun r s' => r = .ok (.ret (.bool true)) ∧ OldK s1.heap s'.heap ∧ s'.os = s1.os ∧ AllBare s'.gens) s1 := by
  have rv : Vals (ns.map V.int) vs := vals_ints hi
  have lenV := hi.length
  obtain ⟨ts, hts⟩ : ∃ ts, ts = cs.map (·.2) := ⟨_, rfl⟩
  obtain ⟨b, hb⟩ : ∃ b, b = (K.lookup a).isNone := ⟨_, rfl⟩
  obtain ⟨H, hH⟩ : ∃ H, H = startH a vs ns ts b := ⟨_, rfl⟩
  have cas := fun p => startH_cases (a := a) (vs := vs) (ns := ns) (ts := ts) (b := b) p
  rw [← hH] at cas
  have tabOf : ∀ p ∈ ts, s1.heap.get? p = some { cls := .none, data := .fields #[] } := fun p hp => by
    rw [hts] at hp
    obtain ⟨r, hr1, rfl⟩ := List.mem_map.mp hp
    exact hT r hr1
  have aT : a ∉ ts := fun z => by
    have e := tabOf a z
    rw [ha] at e
    have z2 : Data.seq vs.toArray _ = Data.fields #[] := congrArg Obj.data (Option.some.inj e)
    cases z2
  -- what is no list and no empty record is not tracked
  have free : ∀ {p : Addr} {o : Obj}, s1.heap.get? p = some o → (∀ xs n, o.data ≠ .seq xs n) → o.data ≠ .fields #[] → H p = none := fun {p o} e n1 n2 => by
    rcases cas p with ⟨_, rfl, _⟩ | ⟨hp, _⟩ | ⟨_, _, z⟩
    · rw [ha] at e
      cases e
      exact (n1 _ _ rfl).elim
    · rw [tabOf p hp] at e
      cases e
      exact (n2 rfl).elim
    · exact z
  have nsF : ∀ {p : Addr} {m : Str → Option Value}, s1.heap.Ns p m → (hidT s1.heap H).Ns p m := fun {p m} ⟨o, es, ep, e, dd, rest⟩ =>
    ⟨o, es, ep, hidT_get e (free e (fun xs n z => by rw [dd] at z; cases z) fun z => by rw [dd] at z; cases z), dd, rest⟩
  have KB : K.In (hidT s1.heap H) := fun p o e => hidT_get (KX p o e) (by
    rcases cas p with ⟨hb1, rfl, _⟩ | ⟨hp, _⟩ | ⟨_, _, z⟩
    · rw [hb, e] at hb1
      cases hb1
    · rw [hts] at hp
      obtain ⟨r, hr1, rfl⟩ := List.mem_map.mp hp
      rw [nT r hr1] at e
      cases e
    · exact z)
  have hM : L2.Mod K mg (hidT s1.heap H) := ⟨KB, nsF hns, ⟨mb, nsF hbi, hbb⟩, let ⟨mc, h1, h2⟩ := hlim; ⟨mc, nsF h1, h2⟩⟩
  have hS : SysIn (hidT s1.heap H) := by
    obtain ⟨mm, hn⟩ := hsy
    obtain ⟨o, _, _, e, _⟩ := nsF hn
    exact ⟨o, e⟩
  have TB : ∀ p ∈ cs, LamX.TabB (hidT s1.heap H) mg p.1 p.2 := fun p hp => by
    refine ⟨?_, ?_, fun z => ?_⟩
    · obtain ⟨o, us, file, tf, flags, tg, inF, text, tt, e1, r1, r2, r3, rest⟩ := C p hp
      refine ⟨o, us, file, tf, flags, tg, inF, text, tt, hidT_get e1 (free e1 (fun xs n z => by rw [r2] at z; cases z) fun z => ?_), r1, r2, r3, rest⟩
      rw [r2] at z
      cases z
      simp at r3
    · obtain ⟨bm, ob, b1, b2, b3, b4, b5, b6⟩ := hbm
      refine ⟨bm, ob, b1, b2, fun z => ?_, fun z => ?_, hidT_get b3 (free b3 (fun xs n z => by rw [b6] at z; cases z) fun z => by rw [b6] at z; cases z), b4, b5, b6⟩
      · obtain ⟨o, es, ep, e, dd, _⟩ := hns
        rw [z, e] at b3
        cases b3
        rw [dd] at b6
        cases b6
      · rw [z, hT p hp] at b3
        cases b3
        cases b6
    · obtain ⟨o, es, ep, e, dd, _⟩ := hns
      rw [z, hT p hp] at e
      cases e
      cases dd
  have hok : HOk P w H s1.heap := fun p u e => by
    rcases cas p with ⟨_, rfl, z⟩ | ⟨hp, z⟩ | ⟨_, _, z⟩
    · rw [z] at e
      cases e
      exact ⟨ha, by rw [List.length_map]; exact hl, vs, _, rv, ha⟩
    · rw [z] at e
      cases e
      exact tabOf p hp
    · rw [z] at e
      cases e
  have e0 : Env0 P w K mg (hidT s1.heap H) callerA [] s1 H := ⟨rfl, hM, fun p o e => of_hidT e, Nat.le_of_eq (hidT_size _ _), trivial, fun p hp => absurd (show p ∈ ([] : List Addr) from hp) (by simp), hok, .of_eq hgen⟩
  -- the state of data: nothing but the script
  have g0 : Good ⟨K, mg⟩ ⟨H, [], [], []⟩ := by
    refine ⟨rfl, List.nodup_nil, fun p hp => absurd hp (by simp), fun i p cl e => by simp at e, fun p hp => ?_⟩
    obtain ⟨r, hr1, er⟩ := hTI p hp
    have hm : p.1 ∈ ts := by
      rw [hts, ← er]
      exact List.mem_map.mpr ⟨r, hr1, rfl⟩
    rcases cas p.1 with ⟨_, z, _⟩ | ⟨_, z⟩ | ⟨z, _⟩
    · exact absurd (z ▸ hm) aT
    · exact LamX.TabS.nil z
    · exact absurd hm z
  have aS : At ⟨K, mg⟩ ⟨H, [], [], []⟩ (.ref a) (.nod .frl (ns.map D.int)) := by
    refine ⟨a, ns.map V.int, rfl, ?_, atL_ints ns⟩
    rcases cas a with ⟨_, _, z⟩ | ⟨z, _⟩ | ⟨_, h2, _⟩
    · exact .inl ⟨by simp, by simp, _, z⟩
    · exact absurd z aT
    · refine .inr ?_
      cases hk : K.lookup a with
      | none =>
        rw [hk] at hb
        exact absurd rfl (h2 (by rw [hb]; rfl))
      | some o =>
        have e := KX a o hk
        rw [ha] at e
        cases e
        exact ⟨_, vs.toArray, _, hk, rfl, rfl, rfl, by rw [List.size_toArray, lenV]; exact hl, by simpa using rv⟩
  obtain ⟨cE, hF⟩ := hF
  obtain ⟨f, fd, _, hm2, bd, gf⟩ := G _ KB (nsF hns) TB hS
  have ef : f = fa := by
    rw [hmg] at hm2
    cases hm2
    rfl
  subst ef
  refine codeAny_mono (gf.run callerA [] s1 ⟨H, [], [], []⟩ ⟨[.ref a], []⟩ [.ref a] [.ref a] [.nod .frl (ns.map D.int)] (fun v _ => v = .bl true) (fun _ _ _ => False) rfl hr e0 (bd s1 [.ref a] KX rfl) (.cons rfl .nil) g0 ⟨aS, trivial⟩ rfl ?_) fun r s' h => ?_
  · rw [hF]
    exact fun S' v _ _ _ av => av
  · cases r with
    | error e =>
      obtain ⟨_, _, _, _, _, _, _, _, _, _, _, _, z⟩ := h
      exact z.elim
    | ok fl =>
      cases fl with
      | next => exact h.elim
      | brk => exact h.elim
      | cont => exact h.elim
      | ret u =>
        obtain ⟨v, H', os, bare, un, hok', r', qv⟩ := h
        have qv : v = .bl true := qv
        subst qv
        obtain rfl : u = Value.bool true := r'
        have kept : ∀ p o, p ∉ ts → s1.heap.get? p = some o → s'.heap.get? p = some o := fun p o np e => by
          rcases cas p with ⟨_, _, z⟩ | ⟨z, _⟩ | ⟨_, _, z⟩
          · obtain ⟨e1, _⟩ := hok p _ z
            obtain ⟨e2, _⟩ := hok' p _ (un.frzs p _ _ z)
            rw [e] at e1
            cases e1
            exact e2
          · exact absurd z np
          · exact un.keep p o e z (fun y => absurd (show p ∈ ([] : List Addr) from y) (by simp)) (by simp)
        have more : ∀ p ∈ ts, ∃ ps : Array Value, s'.heap.get? p = some { cls := .none, data := .fields ps } := fun p hp => by
          rcases cas p with ⟨_, z, _⟩ | ⟨_, z⟩ | ⟨z, _⟩
          · exact absurd (z ▸ hp) aT
          · obtain ⟨ps, y⟩ := un.tbls p #[] z
            exact ⟨_, hok' p _ y⟩
          · exact absurd hp z
        refine ⟨rfl, ⟨fun p o e => ?_, fun p o e => ?_⟩, os, bare⟩
        · by_cases hp : p ∈ ts
          · obtain ⟨ps, hm⟩ := more p hp
            have hp2 := hp
            rw [hts] at hp2
            obtain ⟨r, hr1, rfl⟩ := List.mem_map.mp hp2
            rw [hT r hr1] at e
            cases e
            exact .inr (.inl ⟨((C r hr1).tab (hT r hr1)).isCodeTable, rfl, #[], ps, rfl, by rw [Array.empty_append]; exact hm⟩)
          · exact .inl (kept p o hp e)
        · by_cases hp : p ∈ ts
          · obtain ⟨ps, hm⟩ := more p hp
            exact ⟨_, hm⟩
          · exact ⟨o, kept p o hp e⟩
end
end Q
end
section
set_option Elab.async false
set_option linter.all false
set_option maxRecDepth 100000
namespace Q
open PySem PySem.Spec L2 PySem.W PyProof.Rows
/-- what is known of the law's def at the head's heap h -/
def LawG (l : PySem.W.OpenLaw) (w : World) (K : PySem.W.Frag) (k n : Nat) (nm x : Str) (st : Stmt) (mg : Str → Option Value) (h : Heap) : Prop :=
  ∃ (TI : Tb) (cs : List (Addr × Addr)) (F : FD), (∀ p ∈ TI.l, ∃ r ∈ cs, r.2 = p.1) ∧ (∀ p ∈ cs, h.get? p.2 = some { cls := .none, data := .fields #[] }) ∧ (∀ p ∈ cs, K.lookup p.2 = none) ∧ (∀ p ∈ cs, PySem.W.CodeHd h p.1 p.2) ∧
    (∀ ns : List Int, ns.length ≤ n → (∀ z ∈ ns, Builtin.Int.intBits z ≤ 1048576) → ∃ c, F [.nod .frl (ns.map D.int)] [] = .ok (.bl true) c) ∧
    ∀ base : Heap, K.In base → base.Ns mainGlobals mg → (∀ p ∈ cs, LamX.TabB base mg p.1 p.2) → SysIn base → Ok l.prog w K mg base k nm st [x] F
theorem walk_G {l : PySem.W.OpenLaw} {n k : Nat} {q : Program} {loose : List Str} {XP : (Str → Option Value) → Heap → Prop} {YP : World → Heap → Prop} {d : DefRec} {K : Params → PySem.W.Frag} {x : Str} {st : Stmt}
    (hn : l.most = some n) (hn2 : n ≤ sizeLine) (hdf : d.params.defaults = []) (hq : PyProof.Rows.importsNone q = true) (hr : Room k callerA) (hY : ∀ (w : World) (h : Heap), YP w h → (K w.params).In h)
    (F : ∀ (w : World) (mg : Str → Option Value) (fa : Addr) (h : Heap), YP w h → (K w.params).In h → h.Ns mainGlobals mg → mg d.name = some (.ref fa) → LawG l w (K w.params) k n d.name x st mg h) :
    PySem.W.WalkO q loose XP YP l.row.toRowW d [] (fun f vs => PySem.call f vs) := by
  refine Att.attach_callB hn hdf fun w s0 s1 mg mb fa o pm cd doc a vs ns G Y ho hd hcd hmg hobj hints hlen hbits hg => ?_
  obtain ⟨TI, cs, Fl, hTI, hT, nT, C, hF, hG⟩ := F w mg fa _ Y (hY w _ Y) G.T.g hmg
  obtain ⟨mm, hsy, _⟩ := (G.T.seer hq).mods
  exact law_callG (TI := TI) hTI (hY w _ Y) G.T.g G.T.b G.T.builtins G.T.nolimit ⟨mm, hsy⟩ hg hT nT C G.T.bmain hobj hints (Nat.le_trans hlen hn2) hr hmg hG (hF ns hlen hbits)
end Q
end
section
set_option Elab.async false
set_option linter.all false
set_option maxRecDepth 100000
namespace Q
open PySem PySem.Spec L2
variable [Tb]
/-! ### what the head tells, put together -/
section
variable {K : PySem.W.Frag} {h : Heap} {mg : Str → Option Value} {x : Str} {st : Stmt} {f : Addr} {oc : Value} {od an : Option Addr} {osl : Array (Option Value)} {kV doc pm cdv ct : Value}
theorem df_mk (X : K.In h) (G : h.Ns mainGlobals mg) (a : PySem.W.nsIn K mainGlobals x = some (some (.ref f)))
    (l : K.lookup f = some ⟨oc, od, .func (PySem.W.fnOf x x (defArgs st) (defBody st) (defScope st) .none kV doc pm an cdv ct), osl⟩) (c : PySem.W.codeIn K cdv x = true) (k : PySem.W.keepIn K (.ref f) = true) : Df K mg x st := ⟨f, _, fun_mk l c k, PySem.W.mg_of X G a⟩
theorem dfC_mk {c0 : Addr} (X : K.In h) (G : h.Ns mainGlobals mg) (a : PySem.W.nsIn K mainGlobals x = some (some (.ref f)))
    (l : K.lookup f = some ⟨oc, od, .func (PySem.W.fnOf x x (defArgs st) (defBody st) (defScope st) .none kV doc pm an (.ref c0) ct), osl⟩) (c : PySem.W.codeIn K (.ref c0) x = true) (k : PySem.W.keepIn K (.ref f) = true) : DfC K mg x st c0 := ⟨f, oc, od, kV, doc, pm, an, ct, osl, l, c, k, PySem.W.mg_of X G a⟩
theorem str_mk {y : Str} {t : Tok} (X : K.In h) (G : h.Ns mainGlobals mg) (a : PySem.W.nsIn K mainGlobals x = some (some (.str y t))) : ∃ t, mg x = some (.str y t) := ⟨t, PySem.W.mg_of X G a⟩
/-- an own exception, one field -/
theorem exd_mk {P : Program} {w : World} {base : Heap} {C fI : Addr} {nm q s v : Str} {N : Addr} {bs bm : List Value} {qual : Str} {p1 p2 p3 p4 : Pos} {T : OexC K C} (X : K.In h) (G : h.Ns mainGlobals mg) (a : PySem.W.nsIn K mainGlobals x = some (some (.ref C)))
    (iC : PySem.W.findIn K (.ref C) "__init__" = some (some (.ref fI))) (tI : PySem.W.typeIn K (.ref fI) = some (.type "function"))
    (l : K.lookup fI = some ⟨oc, od, .func (PySem.W.fnOf "__init__" qual (defArgs st) (defBody st) (defScope st) .none kV doc pm an cdv ct), osl⟩) (c : PySem.W.codeIn K cdv qual = true) (k : PySem.W.keepIn K (.ref fI) = true)
    (hno : PySem.W.findIn K (.ref C) "value" = some none) (Sc : FnScope [s, v] [s, v] (defScope st)) (hb : defBody st = [.Assign [.Attribute (.Name s p1) "value" p2] (.Name v p3) p4]) (hs : Vis (defScope st) s) (hv : Vis (defScope st) v)
    (hsw : ∀ env, swapsWith (.Name v p3) (some (.Attribute (.Name s p1) "value" p2)) p4.line env = pure false)
    (hbd : ∀ (kV doc pm : Value) (an : Option Addr) (cdv ct : Value) (us : List Value), us.length = 2 → bindArgs (PySem.W.fnOf "__init__" qual (defArgs st) (defBody st) (defScope st) .none kV doc pm an cdv ct) ⟨us, []⟩ = pure ([s, v].zip us))
    (hd1 : (s == ("__debug__" : Str)) = false) (hd2 : (s == ("__classdict__" : Str)) = false) (hd3 : (v == ("__debug__" : Str)) = false) (hd4 : (v == ("__classdict__" : Str)) = false) : ExD P w K mg base x := by
  have F : L2.Fun K "__init__" qual st fI _ := fun_mk l c k
  exact ⟨C, fI, _, s, v, T, iC, tI, fn_init1 (k := 0) F Sc T hno hb hs hv hsw hd1 hd2 hd3 hd4, F.binds hbd, PySem.W.mg_of X G a⟩
theorem hit_mk {ns : List Str} {cls : Str} {cc : Addr} (X : K.In h) (G : h.Ns mainGlobals mg) (a : PySem.W.nsIn K mainGlobals cls = some (some (.ref cc)))
    (all : ∀ n ∈ ns, ∃ C, PySem.W.nsIn K mainGlobals n = some (some (.ref C)) ∧ PySem.W.exmOne K (.ref C) (.ref cc) = some (decide (n = cls))) : ExHit K mg ns cls := ⟨cc, PySem.W.mg_of X G a, fun n hn C hm => by
  obtain ⟨C', h1, h2⟩ := all n hn
  have e := PySem.W.mg_of X G h1
  rw [hm] at e
  cases e
  exact h2⟩
theorem su_mk {cls fl : Str} {C : Addr} (X : K.In h) (G : h.Ns mainGlobals mg) (a : PySem.W.nsIn K mainGlobals cls = some (some (.ref C))) (xf : XfC K C) (ec : ExcC K C) (hcl : (PySem.W.clsIn K C).isSome = true) (hno : PySem.W.findIn K (.ref C) fl = some none) : ExSu K mg cls fl := ⟨fun C' hm => by
  have e := PySem.W.mg_of X G a
  rw [hm] at e
  cases e
  exact ⟨xf, ec, hcl, hno⟩⟩
theorem base_mk {cls b : Str} {C B : Addr} (X : K.In h) (G : h.Ns mainGlobals mg) (a : PySem.W.nsIn K mainGlobals cls = some (some (.ref C))) (a2 : PySem.W.nsIn K mainGlobals b = some (some (.ref B))) (k : PySem.W.kitOne K (.ref C) (.ref B) = some true) : ExBase K mg cls b := ⟨B, PySem.W.mg_of X G a2, fun C' hm => by
  have e := PySem.W.mg_of X G a
  rw [hm] at e
  cases e
  exact k⟩
theorem ty_mk {cls : Str} {C : Addr} {T : String} (X : K.In h) (G : h.Ns mainGlobals mg) (a : PySem.W.nsIn K mainGlobals cls = some (some (.ref C))) (k : PySem.W.kitOne K (.ref C) (.type T) = some true) : ExTy K mg cls T := fun C' hm => by
  have e := PySem.W.mg_of X G a
  rw [hm] at e
  cases e
  exact k
/-- the table of a code object, over any base that has K -/
theorem lam_mk {base : Heap} {c0 P : Addr} {q : Str} (TB : LamX.TabB base mg c0 P) (hl : Tb.l = [(P, q)]) : LamT base mg c0 q := ⟨P, TB, by rw [hl]; exact List.mem_cons_self, fun p hp _ => by
  rw [hl] at hp
  rw [List.mem_singleton.mp hp]⟩
end
end Q
end
section
set_option Elab.async false
set_option linter.all false
set_option maxRecDepth 100000
set_option maxHeartbeats 1000000
namespace Q
open PySem PySem.Spec PyProof.Rows L2
/-! ### sorted(set of ints, reverse = b) -/
theorem gt_of_nodup : ∀ l : List Int, l.Pairwise (· ≥ ·) → l.Nodup → l.Pairwise (· > ·)
  | [], _, _ => .nil
  | x :: l, h, d => by
    obtain ⟨h1, h2⟩ := List.pairwise_cons.mp h
    obtain ⟨d1, d2⟩ := List.nodup_cons.mp d
    refine List.pairwise_cons.mpr ⟨fun y hy => ?_, gt_of_nodup l h2 d2⟩
    have le := h1 y hy
    have ne : x ≠ y := fun z => d1 (z ▸ hy)
    show y < x
    have le : y ≤ x := le
    omega
section
variable {P : Program} {w : World} {A : Around} {E : Value → Shared → Prop} {s : Shared} {a : Addr}
theorem sorted_setR {S : Int → Bool} {n : Nat} {Qv : Value → Shared → Prop} (R : SetR w s.heap a S n) (hh : A.handled = none) (hz : n ≤ sizeLine)
    (hQ : ∀ s' p (out : Array Value) (c : Nat) (ns : List Int), (∀ b o, s.heap.get? b = some o → s'.heap.get? b = some o) → s'.gens = s.gens → s'.os = s.os → s.heap.objs.size ≤ p →
      s'.heap.get? p = some (seqObj "list" out c) → IntsAre out.toList ns → ns.Pairwise (· > ·) → (∀ k, k ∈ ns ↔ S k = true) → ns.length = n → Qv (.ref p) s') :
    wpAny (model P w) A (call (.builtin "sorted") [.ref a] [(Str.ofString "reverse", .bool true)]) Qv E s := by
  obtain ⟨o, es, ep, t, ho, hex, hd, g, nd, hm, hb, hf, hn, hr, hl⟩ := R
  refine PyProof.Rows.call_function_entry_kw kind_sorted plain_sorted entry_sorted (args_sorted_rev _ _) ?_
  unfold Builtin.«sorted»
  refine wpAny_bind (m := checkCount "sorted" 1 1 _) (wpAny_pure ?_)
  refine wpAny_bind (collect_set (A := A.in1) hh ⟨o, ho, hex.1, hd⟩ hf hb hr hl fun s1 vs k1 hsz g1 o1 pm => ?_)
  have hvl : vs.length = n := (pm.length_eq.trans (by rw [List.length_map, Array.length_toList])).trans hn
  have hI : IntsAre vs (vs.map Builtin.Re.reRawOf) := ints_of vs fun v hv => by
    obtain ⟨e, he, q⟩ := List.mem_map.mp (pm.mem_iff.mp hv)
    obtain ⟨k, tk, h1, _⟩ := g e he
    exact ⟨k, tk, by rw [← q]; exact h1⟩
  have pk : (vs.map Builtin.Re.reRawOf).Perm (es.toList.map L2.keyOf) := by
    have q := pm.map Builtin.Re.reRawOf
    rw [List.map_map] at q
    exact q
  refine wpAny_bind (wpAny_newList ?_ (by rw [hvl]; exact hz))
  have hoL : (s1.heap.push (seqObj "list" vs.toArray 0)).get? s1.heap.objs.size = some (seqObj "list" vs.toArray 0) := Heap.get?_push_size _ rfl
  refine wpAny_bind (wpAny_holding (wpAny_call_entry_kw slot_list_sort ⟨_, hoL, rfl⟩ entry_list_sort ?_ (args_list_sort_rev _ _)))
  refine SrtR.list_sort_ordR (b := true) SrtO.swo_int hoL (by rw [hvl]; exact hz) (fun h2 => SrtO.ints_sortable hI h2) fun out hs hst => ⟨_, rfl, ?_⟩
  obtain ⟨ns, k2, k3, k4⟩ := SrtR.ints_outR hI hs hst
  obtain ⟨c, hc⟩ := sortedHeap_at (vs := vs) (out := out.toArray.reverse) hoL
  have pn : ns.Perm (es.toList.map L2.keyOf) := k3.trans pk
  refine wpAny_pure ⟨_, rfl, hQ _ s1.heap.objs.size _ c ns (fun b u e => ?_) g1 o1 hsz hc k2 (gt_of_nodup ns k4 (pn.nodup_iff.mpr nd)) (fun k => by rw [pn.mem_iff, ← hm k]) (by rw [pn.length_eq, List.length_map, Array.length_toList]; exact hn)⟩
  have q := k1 b u e
  have hlt := Heap.lt_size q
  show (sortedHeap _ s1.heap.objs.size vs _).get? b = some u
  rw [sortedHeap_old (Nat.ne_of_lt hlt) (by rw [size_push']; exact Nat.lt_succ_of_lt hlt)]
  exact Heap.get?_push_of_some _ q
end
end Q
end
section
set_option Elab.async false
set_option linter.all false
set_option maxRecDepth 100000
set_option maxHeartbeats 3200000
namespace Q
open PySem PySem.Spec PyProof.Rows L2
/-! ### set(a list of ints), with its order known -/
def freshS (w : World) : Obj := { cls := .type "set", dict := none, data := .set #[] 0 (.fresh 0 0 (!w.params.followText "set-order")) }
section
variable {P : Program} {w : World} {A : Around} {E : Value → Shared → Prop} {s : Shared}
theorem code_set_new1L (x : Value) {Q1 : Value → Shared → Prop} (h : Q1 (.ref s.heap.objs.size) { s with heap := s.heap.push (freshS w) }) :
    codeAny (model P w) A (.call (.builtin "set.__new__") ⟨[.type "set", x], []⟩) (wants Q1 E) s := by
  refine codeAny_of_tree ?_
  show wpAny _ A.in1 (checkBuiltinCall "set.__new__" ⟨[.type "set", x], []⟩ >>= fun _ => again (.builtin "set.__new__" ⟨[.type "set", x], []⟩)) _ _ s
  refine wpAny_bind (wpAny_of_eq (PySem.F.newCall_set_1 x) (wpAny_pure ⟨plainId_quiet F.plain_set_new _, codeAny_builtin F.entry_set_new ?_⟩))
  rw [Around.under_plainId F.plain_set_new _]
  unfold Builtin.«set.__new__» Builtin.Frozenset.newClass
  have hsub := sub_set_self
  obtain ⟨hp, g, d, tk, os⟩ := s
  dsimp only
  wp_walk
  refine wpAny_askSetting (wpAny_pure ?_)
  dsimp only
  simp only [newObj]
  exact wpAny_bind (wpAny_alloc (wpAny_pure (wpAny_pure h)))
end
section
variable {P : Program} {w : World} {A : Around} {R : Result → Shared → Prop} {I : Addr} {fp wr : List Addr} {G : Array GenState → Array GenState → Prop} {n : Nat} {Pv : Nat → Value → Prop} {St : Nat → Shared → Prop}
theorem setR_same {h : Heap} {a : Addr} {S S' : Int → Bool} {m m' : Nat} (x : SetR w h a S m) (e : ∀ k, S k = S' k) (em : m = m') : SetR w h a S' m' := by
  have es : S = S' := funext e
  rw [← es, ← em]
  exact x
theorem update_loopR (W : WalksS P w A.in1 I fp wr G n Pv St) (D0 : Addr) (hDf : D0 ∉ fp) (val : Nat → Int) (hval : ∀ i v, Pv i v → ∃ t, v = .int (val i) t) (hb : n + 1 < scanBound) :
    ∀ (k i : Nat) (s : Shared), n - i = k → i ≤ n → St i s → SetR w s.heap D0 (fun j => (firstMet val i).any (· == j)) (firstMet val i).length →
      (∀ s', Moved (D0 :: wr) G s s' → SetR w s'.heap D0 (fun j => (firstMet val n).any (· == j)) (firstMet val n).length → R (.ok (.ret .none)) s') →
      codeAny (model P w) A (.builtin "set.update.loop" ⟨[.ref D0, .ref I], []⟩) R s := by
  have hDw : D0 ∉ wr := fun h => hDf (W.sub _ h)
  have sub : ∀ b ∈ wr, b ∈ D0 :: wr := fun b hb => List.mem_cons_of_mem _ hb
  intro k
  induction k with
  | zero =>
    intro i s hk hi st hS hR
    obtain rfl : i = n := by omega
    refine codeAny_builtin PyProof.Rows.F.entry_set_update_loop ?_
    rw [Around.under_plainId PyProof.Rows.F.plain_set_update_loop _]
    show wpAny _ A.in1 (pyNext (.ref I) >>= _) _ _ s
    refine wpAny_bind (W.done s _ _ st fun s' hm => ?_)
    show wpAny _ A.in1 (ret Value.none) _ _ s'
    exact wpAny_pure (hR s' (hm.mono sub) (hS.at fun o e => hm.heap D0 _ hDw e))
  | succ k ih =>
    intro i s hk hi st hS hR
    have hlt : i < n := by omega
    refine codeAny_builtin PyProof.Rows.F.entry_set_update_loop ?_
    rw [Around.under_plainId PyProof.Rows.F.plain_set_update_loop _]
    show wpAny _ A.in1 (pyNext (.ref I) >>= _) _ _ s
    refine wpAny_bind (W.item i s _ _ hlt st fun v s2 hP st2 hm => ?_)
    obtain ⟨t, rfl⟩ := hval i v hP
    have hS2 := hS.at fun o e => hm.heap D0 _ hDw e
    have room : (firstMet val i).length + 1 < scanBound := Nat.lt_of_le_of_lt (Nat.succ_le_succ (firstMet_length_le val i)) (by omega)
    show wpAny _ A.in1 (holding [Value.int (val i) t] (setAdd D0 (.int (val i) t)) >>= _) _ _ s2
    refine wpAny_bind (wpAny_holding ?_)
    unfold setAdd
    refine wpAny_holding (wpAny_bind ((intKind P w).pyHash (k := val i) (intKind_is _ _ _ _) ?_))
    refine setR_add_hashed (s := { s2 with toks := s2.toks + 1 }) hS2 room fun h' sb r => ?_
    have hSi : SetR w h' D0 (fun j => (firstMet val (i + 1)).any (· == j)) (firstMet val (i + 1)).length := setR_same r (fun j => by rw [firstMet_succ, step_any]) (by rw [firstMet_succ, step_length])
    refine wpAny_pure ⟨plainId_quiet PyProof.Rows.F.plain_set_update_loop _, ih (i + 1) _ (by omega) hlt (W.frame _ s2 _ _ st2 (Nat.le_succ _) fun b hb o e => ?_) hSi fun s3 hm3 hS3 => ?_⟩
    · exact (sb.2 b (fun z => hDf (by rw [← z]; exact hb))).trans e
    · refine hR s3 (Moved.trans W.gtrans ((hm.mono sub).then_heap (Nat.le_succ _) fun b o hb e => ?_) hm3) hS3
      exact (sb.2 b (fun z => hb (by rw [z]; exact List.mem_cons_self))).trans e
end
end Q
end
section
set_option Elab.async false
set_option linter.all false
set_option maxRecDepth 100000
set_option maxHeartbeats 3200000
namespace Q
open PySem PySem.Spec PyProof.Rows L2
section
variable {P : Program} {w : World} {A : Around} {E : Value → Shared → Prop} {s : Shared}
/-- the state behind the creation of the set, ahead of the update -/
abbrev sF (w : World) (s : Shared) : Shared := { s with heap := s.heap.push (freshS w) }
theorem call_set_listR {l : Addr} {vs : Array Value} (ns : List Int) {Qv : Value → Shared → Prop} (hn : A.handled = none) (hl : s.heap.IsList l vs) (hi : IntsAre vs.toList ns) (hb : ns.length + 1 < scanBound)
    (hQ : ∀ (s' : Shared) (c : Nat), SetR w s'.heap s.heap.objs.size (fun j => decide (j ∈ ns)) c → c ≤ ns.length → (∀ b o, s.heap.get? b = some o → s'.heap.get? b = some o) → s'.gens = s.gens → s'.os = s.os → s'.drawn = s.drawn → Qv (.ref s.heap.objs.size) s') :
    wpAny (model P w) A (call (.type "set") [.ref l]) Qv E s := by
  have hz : vs.size = ns.length := by have q := IntsAre.length hi; rwa [Array.length_toList] at q
  obtain ⟨c, tl, h0⟩ := F.called_set.mro
  have h1 := F.called_set.made
  have h2 := F.called_set.sub
  have h3 := F.called_set.notType
  have h4 := F.called_set.canCreate
  have h5 := F.typeCall_set_1 (.ref l)
  refine wpAny_call (codeAny_of_tree ?_)
  show wpAny _ _ (callAny (.type "set") _) _ _ _
  refine wpAny_pure ⟨Code.quiet_builtin _ (by decide +kernel), codeAny_builtin F.entry_type_call ?_⟩
  rw [Around.under_plain (weight_type_call_type "set" [.ref l] []) rfl]
  repeat (any_goals (first | assumption | wp_step))
  refine codeAny_mono (code_set_new1L (.ref l) (E := E) (Q1 := fun v s1 => v = .ref s.heap.objs.size ∧ s1 = sF w s) ⟨rfl, rfl⟩) ?_
  intro rr s1 hr
  rcases rr with er | fl
  · exact hr
  rcases fl with _ | v | _ | _ <;> try exact hr.elim
  obtain ⟨rfl, rfl⟩ := hr
  have gS : (s.heap.push (freshS w)).get? s.heap.objs.size = some (freshS w) := Heap.get?_push_size _ rfl
  have tS : (sF w s).TypeIs (.ref s.heap.objs.size) "set" := ⟨_, gS, rfl⟩
  have k1 := F.called_set.init.lookup
  have k2 := F.called_set.init.bind (.ref s.heap.objs.size)
  repeat (any_goals (first | assumption | wp_step))
  refine codeAny_mono (codeAny_call_builtin (R := wants (fun r s2 => r = .none ∧ ∃ c, SetR w s2.heap s.heap.objs.size (fun j => decide (j ∈ ns)) c ∧ c ≤ ns.length ∧
    (∀ b o, s.heap.get? b = some o → s2.heap.get? b = some o) ∧ s2.gens = s.gens ∧ s2.os = s.os ∧ s2.drawn = s.drawn) E) F.called_set.init.plain F.entry_set_init (check_set_init_1 tS ?_)) ?_
  · obtain ⟨lo, glo, e1, nl, e2⟩ := hl
    obtain ⟨lcls, ldict, ldata, lslots⟩ := lo
    dsimp only at e1 e2
    subst e1 e2
    have gl2 : (s.heap.push (freshS w)).get? l = some _ := Heap.get?_push_of_some _ glo
    have hl2 : (s.heap.push (freshS w)).IsList l vs := ⟨_, gl2, rfl, nl, rfl⟩
    have z1 := F.sub_list_set
    have z2 := F.sub_list_frozenset
    have z3 : (Value.type "list" == Value.type "dict") = false := by decide
    unfold Builtin.«set.__init__» noKeywords Builtin.Frozenset.updateFrom
    generalize gI : pyIter = PI
    wp_walk
    subst gI
    refine wpAny_pyIter_list hl2 ?_
    refine wpAny_bind (wpAny_runValue ?_)
    have ll : l < s.heap.objs.size := Heap.lt_size glo
    have zz : (s.heap.push (freshS w)).objs.size = s.heap.objs.size + 1 := Heap.size_push ..
    have hn3 : A.in1.in1.in1.handled = none := by simp [hn]
    have nI : l ≠ (s.heap.push (freshS w)).objs.size := by rw [zz]; exact Nat.ne_of_lt (Nat.lt_succ_of_lt ll)
    refine set_update_ints ((Walks.list hn3 _ l nI vs).toS) s.heap.objs.size ?_ ns hz hb ?_ (vs.size - 0) 0 _ (by omega) (Nat.zero_le _)
      ⟨⟨_, Heap.get?_push_size _ rfl, rfl, rfl⟩, hl2.push _⟩ ⟨0, Nat.le_refl 0, setR_new_at (Heap.get?_push_of_some _ gS)⟩ ?_
    · rw [zz]; simp only [List.mem_cons, List.not_mem_nil, or_false, not_or]; exact ⟨Nat.ne_of_lt (Nat.lt_succ_self _), Nat.ne_of_gt ll⟩
    · intro i v hv
      have hi2 : i < ns.length := by rw [← hz]; exact (Array.getElem?_eq_some_iff.mp hv).1
      obtain ⟨t, e⟩ := IntsAre.int_at hi i v (by rw [Array.getElem?_toList]; exact hv)
      exact ⟨ns[i], t, List.getElem?_eq_getElem hi2, by rw [e, List.getD_eq_getElem?_getD, List.getElem?_eq_getElem hi2]; rfl⟩
    · intro s2 c2 hm hc hS
      show wpAny _ _ _ _ _ _
      refine wpAny_pure ?_
      show wpAny _ _ (ret Value.none) _ _ _
      rw [hz] at hc
      refine wpAny_pure ⟨rfl, c2, hS, hc, fun b o e => ?_, hm.gens, hm.os, hm.drawn⟩
      have q := Heap.lt_size e
      refine hm.heap b o ?_ (Heap.get?_push_of_some _ (Heap.get?_push_of_some _ e))
      rw [zz]
      simp only [List.mem_cons, List.not_mem_nil, or_false, not_or]
      exact ⟨Nat.ne_of_lt q, Nat.ne_of_lt (Nat.lt_succ_of_lt q)⟩
  · intro r2 s2 hr2
    rcases r2 with er | f2
    · exact hr2
    rcases f2 with _ | _ | _ | v2 <;> try exact hr2.elim
    obtain ⟨rfl, c2, hS, hc, hk, hg, ho, hd⟩ := hr2
    repeat (any_goals (first | assumption | wp_step))
    exact hQ _ c2 hS hc hk hg ho hd
end
end Q
end
section
set_option Elab.async false
set_option linter.all false
set_option maxRecDepth 100000
set_option maxHeartbeats 1600000
namespace Q
open PySem PySem.Spec L2
/-- set(list of ints) -/
def rSetL (K : PySem.W.Frag) (w : World) : List V → Hp → VK → Prop := fun vs H Qv => ∃ (l : Addr) (ns : List Int), vs = [.ref l] ∧ SqL K H l (ns.map V.int) ∧ ns.length < 60 ∧
  ∀ (p : Addr) (n : Nat), n ≤ ns.length → H p = none → Qv (.ref p) (upd H p (SetO w p (fun j => decide (j ∈ ns)) n))
theorem cr_setL {X : Cx} (hc : X.calm = true) : CallR X (.type "set") (rSetL X.K X.w) := by
  intro pins s sg H xs us Qv I r h
  obtain ⟨l, ns, rfl, hl, hz, q⟩ := h
  rw [Vals.ref1 r]
  obtain ⟨its, rv, ⟨lo, ln, g1, g2, g3, g4⟩, _⟩ := I.list hl
  refine call_set_listR ns (I.ok.hd hc) ⟨lo, g1, g2, ln, g4⟩ (ints_of_vals rv) (by unfold scanBound; omega) fun s1 n R hn k eg eo ed => ?_
  have hp : H s.heap.objs.size = none := I.hok.fresh (Nat.le_refl _)
  have J : Inv X pins sg (upd H s.heap.objs.size (SetO X.w s.heap.objs.size (fun j => decide (j ∈ ns)) n)) { s with heap := s1.heap, gens := s1.gens, drawn := s1.drawn, toks := s1.toks } :=
    I.call (ch := []) (Un.laid k (Nat.le_refl _) hp) (I.hok.laid k (Nat.le_refl _) (setO_new R)) (by rw [eg]; exact I.bare) (fun _ z => nomatch z)
  have e : s1 = { s with heap := s1.heap, gens := s1.gens, drawn := s1.drawn, toks := s1.toks } := by
    cases s1
    cases s
    cases eo
    rfl
  rw [e]
  exact ⟨.ref _, _, J, rfl, q _ n hn hp⟩
variable [Tb]
def insA (x : Int) : List Int → List Int
  | [] => [x]
  | y :: ys => if x < y then x :: y :: ys else if x = y then y :: ys else y :: insA x ys
def ascI (ns : List Int) : List Int := ns.foldr insA []
theorem mem_insA {x k : Int} : ∀ {ys : List Int}, k ∈ insA x ys ↔ k = x ∨ k ∈ ys
  | [] => by simp [insA]
  | y :: ys => by
    unfold insA
    split
    · simp
    · split
      · rename_i e; subst e; simp
      · rw [List.mem_cons, List.mem_cons, mem_insA (ys := ys)]; exact or_left_comm
theorem asc_insA {x : Int} : ∀ {ys : List Int}, ys.Pairwise (· < ·) → (insA x ys).Pairwise (· < ·)
  | [], _ => by simp [insA]
  | y :: ys, h => by
    obtain ⟨h1, h2⟩ := List.pairwise_cons.mp h
    unfold insA
    split
    · rename_i lt
      refine List.pairwise_cons.mpr ⟨fun z hz => ?_, h⟩
      rcases List.mem_cons.mp hz with e | e
      · omega
      · have := h1 z e
        omega
    · split
      · exact h
      · refine List.pairwise_cons.mpr ⟨fun z hz => ?_, asc_insA h2⟩
        rcases mem_insA.mp hz with e | e
        · omega
        · exact h1 z e
theorem mem_ascI {k : Int} : ∀ {ns : List Int}, k ∈ ascI ns ↔ k ∈ ns
  | [] => by simp [ascI]
  | n :: ns => by
    have e : ascI (n :: ns) = insA n (ascI ns) := rfl
    rw [e, mem_insA, mem_ascI (ns := ns), List.mem_cons]
theorem asc_ascI : ∀ {ns : List Int}, (ascI ns).Pairwise (· < ·)
  | [] => by simp [ascI]
  | n :: ns => asc_insA (asc_ascI (ns := ns))
theorem asc_ext : ∀ {a b : List Int}, a.Pairwise (· < ·) → b.Pairwise (· < ·) → (∀ k, k ∈ a ↔ k ∈ b) → a = b
  | [], [], _, _, _ => rfl
  | [], y :: ys, _, _, h => by have := (h y).mpr (by simp); simp at this
  | x :: xs, [], _, _, h => by have := (h x).mp (by simp); simp at this
  | x :: xs, y :: ys, ha, hb, h => by
    obtain ⟨a1, a2⟩ := List.pairwise_cons.mp ha
    obtain ⟨b1, b2⟩ := List.pairwise_cons.mp hb
    have e : x = y := by
      rcases List.mem_cons.mp ((h x).mp (by simp)) with e | e
      · exact e
      · rcases List.mem_cons.mp ((h y).mpr (by simp)) with e2 | e2
        · exact e2.symm
        · have := a1 y e2; have := b1 x e; omega
    subst e
    refine congrArg _ (asc_ext a2 b2 fun k => ⟨fun hk => ?_, fun hk => ?_⟩)
    · rcases List.mem_cons.mp ((h k).mp (List.mem_cons_of_mem _ hk)) with e | e
      · have := a1 k hk; omega
      · exact e
    · rcases List.mem_cons.mp ((h k).mpr (List.mem_cons_of_mem _ hk)) with e | e
      · have := b1 k hk; omega
      · exact e
def fSortedSet (d : D) (c : Cells) : O := ((lView c d).bind intL).bind fun ns => if ns.length < 60 then some (.lst ((ascI ns).map D.int), c) else none
theorem se_sortedSet {X : Cx} {W : WX} {a : Expr} {ma : ME} {p p2 pos pos2 : Pos} (hc : X.calm = true) (hm : X.mg "sorted" = none) (hm2 : X.mg "set" = none) (ha : SE X W a ma) (hg : Gl X "sorted" := by rfl) (hg2 : Gl X "set" := by rfl)
    (hs : starEach [a] X.env = (false, eval a X.env) :: starEach [] X.env := by rfl) : SE X W (.Call (.Name "sorted" p) [.Call (.Name "set" p2) [a] [] pos2] [] pos) (m1 fSortedSet ma) := by
  obtain ⟨ta, pa, qa⟩ := ha
  refine ⟨_, pe_callB (cr_sortedSet hc) hg hm (by decide +kernel) (pa_cons (pe_callTy (cr_setL hc) hg2 hm2 PyProof.Rows.boot_set (pa_cons pa pa_nil hs) (by decide) (by decide) hs) pa_nil (by rfl)) (by decide) (by decide), fun S sg env Qv g en z => ?_⟩
  refine qa S sg env _ g en (post_bind z fun x S1 v e1 g1 x1 a1 p1 => ?_)
  obtain ⟨d, c, e, q⟩ := p1.o.some
  obtain ⟨ns, e2, e3⟩ := Option.bind_eq_some_iff.mp e
  obtain ⟨es, e4, e5⟩ := Option.bind_eq_some_iff.mp e2
  split at e3
  · rename_i hz
    cases e3
    obtain ⟨l, us, rfl, hl, al⟩ := lView_at g1 a1 e4
    have hu := intL_at e5 al
    subst hu
    refine ⟨l, ns, rfl, hl, hz, fun pA n hn hp => ?_⟩
    refine ⟨pA, _, n, rfl, upd_same, by omega, fun ms pB h1 h2 h3 h4 => ?_⟩
    have em : ms = ascI ns := asc_ext h1 asc_ascI fun k => by rw [h2, mem_ascI, decide_eq_true_eq]
    subst em
    have xp := Sta.ext_put (T := wd X) (o := SetO X.w pA (fun j => decide (j ∈ ns)) n) g1 hp
    have gp := g1.put (o := SetO X.w pA (fun j => decide (j ∈ ns)) n) hp
    exact made (t := .lst) (S := S1.put pA (SetO X.w pA (fun j => decide (j ∈ ns)) n)) gp h4 (atL_ints (ascI ns)) upd_same fun S' v' g' ec x' a' => q S' v' g' ec (xp.trans x') a'
  · cases e3
end Q
end
section
set_option Elab.async false
set_option linter.all false
set_option maxRecDepth 100000
set_option maxHeartbeats 1600000
namespace Q
open PySem PySem.Spec L2
/-- sorted(found, reverse=True), found a tracked set of ints -/
def rSortedR (w : World) : List V → List V → Hp → VK → Prop := fun vs zs H Qv => ∃ (a : Addr) (S : Int → Bool) (n : Nat), vs = [.ref a] ∧ zs = [.bl true] ∧ H a = some (SetO w a S n) ∧ n < 64 ∧
  ∀ (ns : List Int) (p : Addr), ns.Pairwise (· > ·) → (∀ k, k ∈ ns ↔ S k = true) → ns.length = n → H p = none → Qv (.ref p) (upd H p (.lst (ns.map V.int)))
theorem cr_sortedR {X : Cx} (hc : X.calm = true) : CallRK X (.builtin "sorted") [Str.ofString "reverse"] (rSortedR X.w) := by
  intro pins s sg H xs zs us ws Qv I r rz h
  obtain ⟨a, S, n, rfl, rfl, ha, h6, q⟩ := h
  rw [Vals.ref1 r]
  cases rz with
  | cons z0 z1 =>
  cases z1
  cases z0
  have line : n ≤ sizeLine := by rw [sizeLine_eq]; omega
  refine sorted_setR (setO_get I ha) (I.ok.hd hc) line fun s1 p out c ns k eg eo hp e0 hi hd hm hl => ?_
  have fr : H p = none := I.hok.fresh hp
  have len : (ns.map V.int).length ≤ sizeLine := by rw [List.length_map, hl]; exact line
  have J : Inv X pins sg (upd H p (.lst (ns.map V.int))) { s with heap := s1.heap, gens := s1.gens, drawn := s1.drawn, toks := s1.toks } :=
    I.call (ch := []) (Un.laid k hp fr) (I.hok.laid k hp ⟨len, out.toList, c, vals_of_ints hi, e0⟩) (by rw [eg]; exact I.bare) (fun _ z => nomatch z)
  have e : s1 = { s with heap := s1.heap, gens := s1.gens, drawn := s1.drawn, toks := s1.toks } := by
    cases s1
    cases s
    cases eo
    rfl
  rw [e]
  exact ⟨.ref p, _, J, rfl, q ns p hd hm hl fr⟩
/-- a member joins a tracked set -/
theorem add_setO {X : Cx} {pins : List (Addr × Obj)} {sg : St} {H : Hp} {s : Shared} {E : Value → Shared → Prop} {D : Addr} {S : Int → Bool} {n : Nat} {k : Int} {t : Tok} {Qv : Value → Shared → Prop} (I : Inv X pins sg H s) (hD : H D = some (SetO X.w D S n)) (room : n + 1 < scanBound)
    (q : ∀ s1, Inv X pins sg (upd H D (SetO X.w D (fun j => S j || decide (j = k)) (if S k = true then n else n + 1))) s1 → Qv .none s1) :
    wpAny (model X.prog X.w) X.A (call (.builtin "set.add") [.ref D, .int k t]) Qv E s := by
  refine setR_add (setO_get I hD) room fun h1 sb R => q _ ?_
  have ⟨o, _, _, _, ho, _⟩ := R
  have mu : Mut (H D) := by rw [hD]; trivial
  exact I.write (e := D) (t' := s.toks + 1) mu (.inl rfl) (fun b u hb hu => (sb.2 b hb).trans hu) ⟨o, ho⟩ (setO_new R)
end Q
end
section
set_option Elab.async false
set_option linter.all false
set_option maxRecDepth 100000
set_option maxHeartbeats 3200000
namespace Q
open PySem PySem.Spec L2
/-! ### name = {elt for tg in iter if ..}, elt an int -/
/-- the set that these ints make at D -/
abbrev setI (w : World) (D : Addr) (ks : List Int) (n : Nat) : HO := SetO w D (fun j => decide (j ∈ ks)) n
theorem mu_set {w : World} {h : Heap} {D : Addr} {ks : List Int} {n : Nat} (x : SetR w h D (fun j => decide (j ∈ ks)) n) : Mu D (some (setI w D ks n)) := by
  have ⟨o, _, _, _, ho, _, hd, _⟩ := x
  exact ⟨h, o, x, ho, fun vs e => by rw [hd] at e; cases e⟩
/-- what the turns over J want; Dn at the end -/
def TurnI (w : World) (J : It) (g : TG) (tt : TT) (te : TE) (vs : List Nat) (sg : L2.St) (D : Addr) (Dn : Hp → Prop) (Wt : Nat → Nat → Hp → Prop) : Prop :=
  ∀ i m H0, Wt i m H0 → (J.stop i H0 ∧ Dn H0) ∨ (J.go i H0 ∧ ∃ Nx : Hp → Prop, (∀ H1, Nx H1 → ∃ k, k < m ∧ Wt (i + 1) k H1) ∧
    ∀ x H1, J.yld i H0 x H1 → g x (L2.wipe sg vs) H1 fun sg2 H2 => L2.wipe sg2 vs = L2.wipe sg vs ∧ tt sg2 H2 fun b H3 => (b = false → Nx H3) ∧
      (b = true → te sg2 H3 fun y H4 => ∃ (c : Int) (ks : List Int) (n : Nat), y = .int c ∧ H4 D = some (setI w D ks n) ∧ n < 60 ∧ ∀ n', n' ≤ n + 1 → Mu D (some (setI w D (ks ++ [c]) n')) → Nx (upd H4 D (setI w D (ks ++ [c]) n'))))
def tSetI (w : World) (wi : TI) (g : TG) (tt : TT) (te : TE) (vs : List Nat) : TE := fun sg H Qv => wi sg H fun J H1 => ∀ D, H1 D = none → Mu D (some (setI w D [] 0)) →
  ∃ Wt : Nat → Nat → Hp → Prop, (∃ m, Wt 0 m (upd H1 D (setI w D [] 0))) ∧ TurnI w J g tt te vs sg D (fun H2 => Qv (.ref D) H2) Wt
abbrev emptyS (w : World) : Obj := { cls := .type "set", dict := none, data := .set #[] 0 (.fresh 0 0 (!w.params.followText "set-order")) }
theorem empty_set {h : Heap} (w : World) : SetR w (h.push (emptyS w)) h.objs.size (fun j => decide (j ∈ ([] : List Int))) 0 := by
  have z := setR_fresh (h := h) w
  have e : (fun _ => false : Int → Bool) = fun j => decide (j ∈ ([] : List Int)) := by funext j; simp
  rw [e] at z
  exact z
theorem add_setI {X : Cx} {pins : List (Addr × Obj)} {sg : St} {H : Hp} {s : Shared} {E : Value → Shared → Prop} {D : Addr} {ks : List Int} {n : Nat} {k : Int} {t : Tok} {Qv : Value → Shared → Prop} (I : Inv X pins sg H s) (hD : H D = some (setI X.w D ks n)) (room : n < 60)
    (q : ∀ s1 n', n' ≤ n + 1 → Mu D (some (setI X.w D (ks ++ [k]) n')) → Inv X pins sg (upd H D (setI X.w D (ks ++ [k]) n')) s1 → Qv .none s1) :
    wpAny (model X.prog X.w) X.A (call (.builtin "set.add") [.ref D, .int k t]) Qv E s := by
  refine add_setO I hD (by unfold scanBound; omega) fun s1 J => ?_
  have e : (fun j => (decide (j ∈ ks)) || decide (j = k)) = fun j => decide (j ∈ ks ++ [k]) := by
    funext j
    simp
  have J2 : Inv X pins sg (upd H D (setI X.w D (ks ++ [k]) (if (decide (k ∈ ks)) = true then n else n + 1))) s1 := by
    unfold setI
    rw [← e]
    exact J
  refine q s1 _ ?_ (mu_set (setO_get J2 upd_same)) J2
  split <;> omega
section
variable {X : Cx} {wi : TI} {g : TG} {tt : TT} {te : TE} {elt tg iter : Expr} {ifs : List Expr} {scope : Scope} {own : List (Str × Nat)}
/-- the comprehension's context -/
abbrev Bk (X : Cx) (scope : Scope) (s : Shared) (H : Hp) (C : Addr) (cl : List (Str × Addr)) (fp : List Addr) : Cx := X.blk s H scope (compEnvC scope cl C X.env) fp
theorem setI_core {pins : List (Addr × Obj)} {st0 : Shared} {sg : L2.St} {Hs : Hp} {Qv : VK} {pos pos2 : Pos} {use : Option (Value → Sem Unit)} {Qf : Value → Shared → Prop} (hc : X.calm = true) (hN : X.N.Nodup) (I0 : Inv X pins sg Hs st0) (hi : PI X tg iter wi) (ok : BlkOk X.N X.env.scope scope own)
    (hg : ∀ s H C cl fp, PG (Bk X scope s H C cl fp) tg g) (ht : ∀ s H C cl fp, PTs (Bk X scope s H C cl fp) ifs tt) (he : ∀ s H C cl fp, PE (Bk X scope s H C cl fp) elt te) (hf : ∀ x, foldedSetIterable iter X.env x = pure x) (wish : tSetI X.w wi g tt te (own.map (·.2)) sg Hs Qv)
    (fin : ∀ D C s' m H', Inv X pins sg H' s' → Qv (.ref D) H' → s'.heap.Ns C m → FpOk X pins H' C → compPost (model X.prog X.w) X.A X.xe use Qf (.ref D) C (.ok .next) s') :
    wpAny (model X.prog X.w) X.A (comprehension (.SetComp elt [⟨tg, iter, ifs, 0⟩] scope pos) scope X.env pos2 (newSet (.type "set")) false (eval iter X.env) use) Qf X.xe st0 := by
  have clo : ∀ y ∈ scope.names, y.2 = .free → ∃ c, X.env.cells.lookup y.1 = some c := fun y hy e => (ok.free y hy e).elim (fun k => I0.ok.has _ (.inl k)) fun k => I0.ok.has _ (.inr k)
  refine wpAny_comprehension_free (use := use) rfl hf (closure_ok clo) ok.kind (fun y hy e => by rw [ok.uniq y hy, e]) (thn (hi.run pins st0 sg Hs _ I0 wish) fun xv s1 z1 => thn z1 fun itv s2 z2 => ?_)
  obtain ⟨it, fp, tn, J, HA, rfl, IA, TT, stA, fA, wish2⟩ := z2
  refine PpSet.newSet_ok (newEnv_comp ?_)
  have fresh : HA s2.heap.objs.size = none := IA.hok.fresh (Nat.le_refl _)
  obtain ⟨Wt, ⟨m0, w0⟩, turn⟩ := wish2 _ fresh (mu_set (empty_set (h := s2.heap) X.w))
  obtain ⟨D, hD⟩ : ∃ D, D = s2.heap.objs.size := ⟨_, rfl⟩
  rw [← hD] at fresh w0 turn ⊢
  obtain ⟨sB, hB⟩ : ∃ sB : Shared, sB = { s2 with heap := s2.heap.push (emptyS X.w) } := ⟨_, rfl⟩
  obtain ⟨HB, hHB⟩ : ∃ HB, HB = upd HA D (setI X.w D [] 0) := ⟨_, rfl⟩
  have IB : Inv X pins sg HB sB := by
    rw [hB, hHB, hD]
    exact IA.laid (t' := s2.toks) (fun b o e => Heap.get?_push_of_some _ e) (Nat.le_refl _) (setO_new (empty_set X.w))
  have keepB : ∀ b o, s2.heap.get? b = some o → sB.heap.get? b = some o := fun b o e => by
    rw [hB]
    exact Heap.get?_push_of_some _ e
  have fB : ∀ b ∈ fp, FpOk X pins HB b ∧ b < sB.heap.objs.size := fun b hb => by
    obtain ⟨o, eo, _⟩ := TT.obj _ _ stA b hb
    have lt := Heap.lt_size eo
    refine ⟨⟨?_, (fA b hb).2⟩, ?_⟩
    · rw [hHB, upd_ne (by rw [hD]; exact Nat.ne_of_lt lt)]
      exact (fA b hb).1
    · rw [hB, Heap.size_push]
      exact Nat.lt_succ_of_lt lt
  have stB : tn 0 sB.heap := TT.keep _ _ _ stA fun b _ o e => keepB b o e
  rw [← hB]
  rw [← hHB] at w0
  have IC := block_start IB ok hN fB
  have gB := hg sB HB sB.heap.objs.size (cellsFrom (sB.heap.objs.size + 1) scope.names (cloFrom X.env.cells scope.names [])) fp
  have tB := ht sB HB sB.heap.objs.size (cellsFrom (sB.heap.objs.size + 1) scope.names (cloFrom X.env.cells scope.names [])) fp
  have eB := he sB HB sB.heap.objs.size (cellsFrom (sB.heap.objs.size + 1) scope.names (cloFrom X.env.cells scope.names [])) fp
  obtain ⟨ce, hce⟩ : ∃ ce, ce = compEnvC scope (cellsFrom (sB.heap.objs.size + 1) scope.names (cloFrom X.env.cells scope.names [])) sB.heap.objs.size X.env := ⟨_, rfl⟩
  obtain ⟨sC, hC⟩ : ∃ sC : Shared, sC = { sB with heap := pushCells (sB.heap.push { cls := .type "dict", data := .dict #[] }) scope.names } := ⟨_, rfl⟩
  have noneB : ∀ b ∈ fp, HB b = none := fun b hb => (fB b hb).1.1
  show codeAny _ _ (.compStart (.SetComp elt [⟨tg, iter, ifs, 0⟩] scope pos) 0 (.ref it) (.ref D) (compEnvC scope (cellsFrom (sB.heap.objs.size + 1) scope.names (cloFrom X.env.cells scope.names [])) sB.heap.objs.size X.env)) (compPost (model X.prog X.w) X.A X.xe use Qf (.ref D) sB.heap.objs.size) { sB with heap := pushCells (sB.heap.push { cls := .type "dict", data := .dict #[] }) scope.names }
  unfold Bk at gB tB eB
  rw [← hce] at IC gB tB eB ⊢
  rw [← hC] at IC ⊢
  have locals : ce.locals = sB.heap.objs.size := by rw [hce]; rfl
  have stC : tn 0 sC.heap := TT.keep _ _ _ stB fun b _ o e => by rw [hC]; exact pushCells_keeps _ _ _ _ (Heap.get?_push_of_some _ e)
  have fpC : ∀ {sg' : L2.St} {H' : Hp} {s' : Shared}, Inv (X.blk sB HB scope ce fp) [] sg' H' s' → (∀ b ∈ fp, H' b = none) → ∀ b ∈ fp, FpOk (X.blk sB HB scope ce fp) [] H' b := fun {sg' H' s'} I' hn b hb =>
    ⟨hn b hb, (I'.ok.exf b hb).1, I'.ok.exfs b hb, .inl hb, fun x c e => (I'.ok.exf b hb).2 x c e, fun p hp => by
      have z : p ∈ ([] : List (Addr × Obj)) ++ [] := hp
      simp at z⟩
  have walk : codeAny (model X.prog X.w) X.A (.compLoop (.SetComp elt [⟨tg, iter, ifs, 0⟩] scope pos) 0 (.ref it) (.ref D) ce) (compPost (model X.prog X.w) X.A X.xe use Qf (.ref D) sB.heap.objs.size) sC := by
    refine PpSet.compLoopS_any (fun n s' => ∃ i H', Inv (X.blk sB HB scope ce fp) [] (L2.wipe sg (own.map (·.2))) H' s' ∧ tn i s'.heap ∧ (∀ b ∈ fp, H' b = none) ∧ Wt i n H') ?_ m0 ⟨0, HB, IC, stC, noneB, w0⟩
    rintro n sD ⟨i, HD, ID, stD, nD, wD⟩
    rcases turn i n HD wD with ⟨stop, dn⟩ | ⟨go, Nx, hNx, step⟩
    · refine thnF (TT.done (X.blk sB HB scope ce fp) rfl rfl rfl hc i [] sD _ HD (fun _ _ => False) ID (fpC ID nD) stD stop) fun r sE ⟨hr, IE⟩ => ?_
      subst hr
      have back : Inv X pins sg HD sE := IB.call' (ch := fp) IE.os IE.base IE.hok IE.bare fun b hb => ⟨(fB b hb).1.2.2.2.1, (fB b hb).1.2.1, (fB b hb).1.2.2.2.2.1, (fB b hb).1.2.2.2.2.2⟩
      have free : HD ce.locals = none := IE.free
      obtain ⟨m, hn, _⟩ := IE.loc
      have hn : sE.heap.Ns ce.locals m := hn
      rw [locals] at hn free
      exact fin D _ sE m HD back dn hn (IB.fpOk (Nat.le_refl _) free)
    · refine thnF (TT.item (X.blk sB HB scope ce fp) rfl rfl rfl hc i [] sD _ HD (fun _ _ => False) ID (fpC ID nD) stD go) fun r sE ⟨u, hr, zE⟩ => ?_
      subst hr
      refine thnF zE fun _ sF ⟨x, HF, IF, rF, yF, stF, nF⟩ => ?_
      refine thnF (gB.run _ sF _ HF x u _ (IF.pinned (fpC IF nF) (TT.obj _ _ stF)) rF (step x HF yF)) fun _ sG ⟨sgG, HG, IG, wG, qG⟩ => ?_
      refine thnF (tB.run _ sG sgG HG _ IG qG) fun b sL ⟨HL, IL, qL⟩ => ?_
      have next : ∀ {s' : Shared} {H' : Hp}, Inv (X.blk sB HB scope ce fp) ([] ++ pinsAt fp sF.heap) sgG H' s' → Nx H' → ∃ m, m < n ∧ ∃ i H', Inv (X.blk sB HB scope ce fp) [] (L2.wipe sg (own.map (·.2))) H' s' ∧ tn i s'.heap ∧ (∀ b ∈ fp, H' b = none) ∧ Wt i m H' := fun {s' H'} I' nx => by
        obtain ⟨k, hk, wk⟩ := hNx H' nx
        have pinned : ∀ b ∈ fp, ∀ o, sF.heap.get? b = some o → s'.heap.get? b = some o ∧ H' b = none := fun b hb o e => by
          have z := I'.pin (b, o) (List.mem_append_right _ (List.mem_append_right _ (mem_pinsAt hb e)))
          exact ⟨z.1, z.2.1⟩
        refine ⟨k, hk, i + 1, H', (I'.unpinned (pins := [])).weak ?_ (fun j v e => ?_), TT.keep _ _ _ stF fun b hb o e => (pinned b hb o e).1, fun b hb => ?_, wk⟩
        · rw [← wG, L2.wipe_length]
        · rw [← wG] at e
          exact (L2.wipe_some e).1
        · obtain ⟨o, e, _⟩ := TT.obj _ _ stF b hb
          exact (pinned b hb o e).2
      obtain ⟨no, yes⟩ := qL
      cases b with
      | false =>
        simp only [Bool.false_eq_true, if_false]
        exact next IL (no rfl)
      | true =>
        simp only [if_true]
        refine thnF (eB.run _ sL sgG HL _ IL (yes rfl)) fun zv sM ⟨yv, HM, IM, rM, c, ks, n0, ey, atD, lt, nx⟩ => ?_
        subst ey
        obtain ⟨t, rfl⟩ : ∃ t, zv = Value.int c t := rM
        exact add_setI (X := X.blk sB HB scope ce fp) IM atD lt fun sN n' hn mu IN => next IN (nx n' hn mu)
  exact PpSet.codeAny_compStart_set walk (TT.self X.A 0 _ _ _ stC walk)
theorem swaps_set {pos py : Pos} {y : Str} {l : Nat} {gs : List Comprehension} {env : PySem.Env} (hk : env.scope.kind = .function) (hy : env.scope.names.lookup y = some .local) (hl : (py.line == pos.line) = true) (ha : (scope.names.any fun z => z.1 == y && (z.2 == .local || z.2 == .cell)) = false) :
    swapsWith (.SetComp elt gs scope pos) (some (.Name y py)) l env = pure true := by
  have k1 : env.kindOf y = some .local := hy
  have k2 : env.blockKind = .function := by
    unfold Env.blockKind
    rw [hk]
    rfl
  unfold swapsWith
  simp only [k2, k1, ha, Expr.pos, hl]
  rfl
theorem ps_setI {i : Nat} {y : Str} {py pos spos : Pos} (hc : X.calm = true) (hN : X.N.Nodup) (hy : X.N[i]? = some y) (hl : X.env.scope.names.lookup y = some .local) (hsw : swapsWith (.SetComp elt [⟨tg, iter, ifs, 0⟩] scope pos) (some (.Name y py)) spos.line X.env = pure true) (hi : PI X tg iter wi) (ok : BlkOk X.N X.env.scope scope own)
    (hg : ∀ s H C cl fp, PG (Bk X scope s H C cl fp) tg g) (ht : ∀ s H C cl fp, PTs (Bk X scope s H C cl fp) ifs tt) (he : ∀ s H C cl fp, PE (Bk X scope s H C cl fp) elt te) (hf : ∀ x, foldedSetIterable iter X.env x = pure x) :
    PS X (.Assign [.Name y py] (.SetComp elt [⟨tg, iter, ifs, 0⟩] scope pos) spos) (tAsg (tSetI X.w wi g tt te (own.map (·.2))) (gName i)) := by
  refine ⟨fun pins s sg H Dn I z => ?_⟩
  rw [exec_Assign_Name_used _ _ _ _ hsw]
  refine wpAny_bind (wpAny_standAt (wpAny_bind ?_))
  show wpAny _ X.A (do let _ ← comprehension (.SetComp elt [⟨tg, iter, ifs, 0⟩] scope pos) scope X.env (firstIterPos [⟨tg, iter, ifs, 0⟩] pos) (newSet (.type "set")) false (eval iter X.env) (some (assign (.Name y py) X.env))) _ _ s
  have z : tSetI X.w wi g tt te (own.map (·.2)) sg H (fun x H1 => gName i x sg H1 Dn.nx) := z
  refine wpAny_bind (thn (setI_core (Qf := fun _ s' => SP X pins Dn .next s') hc hN I hi ok hg ht he hf z fun D C s1 m H1 I1 q hn f => ?_) fun _ s2 hq => wpAny_pure (wpAny_pure hq))
  show wpAny _ _ (assign (.Name y py) X.env (.ref D)) _ _ _
  refine wpAny_assign_Name (store_ok2 (v := V.ref D) I1 hN hy (.inl hl) rfl (fun s2 I2 ⟨a, sb, ha⟩ => ?_) (.inr hl))
  obtain ⟨f0, f1, f2, f3, f4, f5⟩ := f
  have ne : C ≠ a := ha.elim (fun e => by rw [e]; exact f1) fun e z => f4 y a e z.symm
  exact ⟨m, hn.sameBut sb ne, fun h3 sb3 => ⟨_, H1, I2.turned (t' := s2.toks) (fun b o hb e => (sb3.2 b hb).trans e) f0 f1 f3 f4 f5, q⟩⟩
end
end Q
end
section
set_option Elab.async false
set_option linter.all false
set_option maxRecDepth 100000
set_option maxHeartbeats 1600000
namespace Q
open PySem PySem.Spec L2
variable [Tb]
/-! ### name = {..}; return sorted(name, reverse=True) -/
/-- the ints that join the set, in sequence -/
def siS (s : Src) (g : MG) (vs : List Nat) (mt : MB) (me : ME) (env0 : Env) : Nat → Nat → List Int → Cells → R (List Int)
  | 0, _, _, _ => .stk
  | n + 1, i, acc, c => match s.get i c with
    | none => .stk
    | some none => .ok acc c
    | some (some d) => match g d (wipeE env0 vs) c with
      | none => .stk
      | some (env1, c1) => (mt env1 c1).ne.bind fun b c2 => if b = true then ((me env1 c2).ne.bind fun y c3 => match y with
          | .int k => if acc.length < 60 then siS s g vs mt me env0 n (i + 1) (acc ++ [k]) c3 else .stk
          | _ => .stk) else siS s g vs mt me env0 n (i + 1) acc c2
def siEnd (acc : List Int) (c : Cells) : RS := .ok (.rt (.cell c.length)) (c ++ [(.lst, (ascI acc).reverse.map D.int)])
def sSetSorted (i : Nat) (mi : MI) (g : MG) (vs : List Nat) (mt : MB) (me : ME) : MS := fun env c => if i < env.length then (mi env c).st env fun s c => (siS s g vs mt me env s.fuel 0 [] c).st env siEnd else .stk
theorem ne_st {a b a2 : Type} {T : Wd} {S0 S : Sta} {rel : Sta → b → a → Prop} {r : R a} {k : a → Cells → R a2} {env : Env} {kf : a2 → Cells → RS} {Dn : Ends} {W : WX} {Q2 : b → Hp → Prop} {E2 : XK} (h : PostS T S0 ((r.ne.bind k).st env kf) Dn W)
    (h2 : ∀ d S1 v, Good T S1 → Ext T S S1 → rel S1 v d → PostS T S0 ((k d S1.c).st env kf) Dn W → Q2 v S1.H) : PostG T S rel r Q2 E2 := by
  cases r with
  | ok d c =>
    intro S1 v g hc x a
    subst hc
    exact h2 d S1 v g x a h
  | err x c => exact False.elim h
  | stk => exact False.elim h
theorem setI_run {T : Wd} {w : World} {wi : TI} {mi : MI} {g : MG} {vs : List Nat} {mt : MB} {me : ME} {Dn : Ends} {W : WX} (hi : ∀ S sg env Rv, Good T S → EnvAt T S sg env → PostG T S (fun S' J s => ItOk T S' J s) (mi env S.c) Rv (WE W sg) → wi sg S.H Rv) :
    ∀ S sg env Qv, Good T S → EnvAt T S sg env → PostS T S ((mi env S.c).st env fun s c => (siS s g vs mt me env s.fuel 0 [] c).st env siEnd) Dn W →
      (∀ D ks n S1, Good T S1 → S1.H D = some (setI w D ks n) → n < 64 → PostS T S1 (siEnd ks S1.c) Dn W → Qv (.ref D) S1.H) → tSetI w wi (tG T g vs) (tB1 T mt WF) (tE T me WF) vs sg S.H Qv := by
  intro S sg env Qv gd en z hQ
  refine hi S sg env _ gd en (post_st z en fun s S0 J e1 g0 x0 io p0 => ?_)
  intro D0 hD mu0
  let Jn (i m : Nat) (H : Hp) : Prop := ∃ S1 acc n, S1.H = H ∧ Good T S1 ∧ S1.x = D0 :: S0.x ∧ S1.H D0 = some (setI w D0 acc n) ∧ n ≤ acc.length ∧ acc.length ≤ 60 ∧ Ext0 T S0 S1 ∧ PostS T S0 ((siS s g vs mt me env m i acc S1.c).st env siEnd) Dn W
  refine ⟨fun i m H => Jn i m H, ⟨s.fuel, ?_⟩, ?_⟩
  · obtain ⟨g1, k1⟩ := g0.hide (o := setI w D0 [] 0) hD mu0
    exact ⟨S0.hide D0 (setI w D0 [] 0), [], 0, rfl, g1, rfl, upd_same, Nat.le_refl _, Nat.zero_le _, ⟨List.prefix_refl _, k1, fun a ha => ⟨List.mem_cons_of_mem _ ha, by
      obtain ⟨_, u, e, _⟩ := g0.hid a ha
      exact upd_ne (ne_of_none e hD)⟩⟩, p0⟩
  · rintro i m H ⟨S1, acc, n, rfl, g1, hx, hD1, hn, hl60, x1, p1⟩
    cases m with
    | zero => exact p1.elim
    | succ m =>
      have it := io i S1 g1 x1
      unfold siS at p1
      cases e2 : s.get i S1.c with
      | none =>
        simp only [e2] at p1
        exact p1.elim
      | some o =>
        simp only [e2] at p1 it
        cases o with
        | none =>
          refine .inl ⟨it, ?_⟩
          have sub : ∀ a ∈ S0.x, a ∈ S1.x := fun a ha => by rw [hx]; exact List.mem_cons_of_mem _ ha
          have x2 : Ext T S0 (S1.tell S0.x) := ⟨x1.pre, fun v d a => at_tell sub v d (x1.keep v d a), rfl, fun a ha => (x1.hid a ha).2⟩
          have p2 : PostS T S0 (siEnd acc S1.c) Dn W := p1
          exact hQ D0 acc n (S1.tell S0.x) (g1.tell sub) hD1 (by omega) (PostS.ext x2 p2)
        | some d =>
          obtain ⟨i1, i2⟩ := it
          refine .inr ⟨i1, fun H' => Jn (i + 1) m H', fun H' h => ⟨m, Nat.lt_succ_self m, h⟩, fun v H' hy => ?_⟩
          obtain ⟨S2, rfl, g2, ec, x2, a2⟩ := i2 v H' hy
          simp only at p1
          refine ⟨S2, d, wipeE env vs, rfl, g2, (((en.ext x0).zero x1).ext x2).wipe vs, a2, ?_⟩
          rw [ec]
          cases e3 : g d (wipeE env vs) S1.c with
          | none =>
            simp only [e3] at p1
            exact p1.elim
          | some r =>
            obtain ⟨env1, c1⟩ := r
            simp only [e3] at p1
            intro S3 sg3 g3 hc3 x3 en3 w3
            subst hc3
            refine ⟨by rw [w3]; exact wipe_twice sg vs, S3, env1, rfl, g3, en3, ?_⟩
            refine ne_st (b := Bool) p1 fun bb S4 vb g4 x4 eb p4 => ?_
            cases eb
            have hid : ∀ {S' : Sta}, Ext T S1 S' → S'.x = D0 :: S0.x ∧ S'.H D0 = some (setI w D0 acc n) ∧ Ext0 T S0 S' := fun {S'} x => ⟨x.hx.trans hx, (x.hh D0 (by rw [hx]; exact List.mem_cons_self)).trans hD1, x1.trans x.zero⟩
            refine ⟨fun e => ?_, fun e => ?_⟩
            · subst e
              simp only [Bool.false_eq_true, if_false] at p4
              obtain ⟨q1, q2, q4⟩ := hid ((x2.trans x3).trans x4)
              exact ⟨S4, acc, n, rfl, g4, q1, q2, hn, hl60, q4, p4⟩
            · subst e
              simp only [if_true] at p4
              refine ⟨S4, env1, rfl, g4, en3.ext x4, ?_⟩
              refine ne_st (b := V) p4 fun y S5 vy g5 x5 ay p5 => ?_
              obtain ⟨q1, q2, q4⟩ := hid (((x2.trans x3).trans x4).trans x5)
              cases y with
              | int k =>
                simp only at p5
                split at p5
                · rename_i lt
                  refine ⟨k, acc, n, ay, q2, by omega, fun n' hn' mu => ?_⟩
                  obtain ⟨g6, k6⟩ := g5.seth (o := setI w D0 (acc ++ [k]) n') (p := D0) (by rw [q1]; exact List.mem_cons_self) mu
                  refine ⟨S5.seth D0 (setI w D0 (acc ++ [k]) n'), acc ++ [k], n', rfl, g6, q1, upd_same, by rw [List.length_append]; simp only [List.length_cons, List.length_nil]; omega, by rw [List.length_append]; simp only [List.length_cons, List.length_nil]; omega, ⟨q4.pre, fun v d a => k6 v d (q4.keep v d a), fun a ha => ⟨(q4.hid a ha).1, ?_⟩⟩, p5⟩
                  have ne : a ≠ D0 := fun z => g0.freshX hD (by rw [← z]; exact ha)
                  exact (upd_ne ne).trans (q4.hid a ha).2
                · exact p5.elim
              | _ => exact p5.elim
section
variable {X : Cx} {W : WX} {elt tg iter : Expr} {ifs : List Expr} {scope : Scope} {own : List (Str × Nat)}
theorem sb_setSorted {i : Nat} {y : Str} {py pos spos p p2 p3 kp pos2 rpos : Pos} {j : Nat} {mi : MI} {g : MG} {mt : MB} {me : ME} (hc : X.calm = true) (hN : X.N.Nodup) (hs : X.mg "sorted" = none) (hi : SI X W tg iter mi) (ok : BlkOk X.N X.env.scope scope own)
    (hg : ∀ (s : Shared) (H : Hp) (Ca : Addr) (cl : List (Str × Addr)) (fp : List Addr), PG (X.blk s H scope (compEnvC scope cl Ca X.env) fp) tg (tG (wd X) g (own.map (·.2))))
    (ht : ∀ (s : Shared) (H : Hp) (Ca : Addr) (cl : List (Str × Addr)) (fp : List Addr), PTs (X.blk s H scope (compEnvC scope cl Ca X.env) fp) ifs (tB1 (wd X) mt WF))
    (he : ∀ (s : Shared) (H : Hp) (Ca : Addr) (cl : List (Str × Addr)) (fp : List Addr), SE (X.blk s H scope (compEnvC scope cl Ca X.env) fp) WF elt me) (hy : X.N[i]? = some y := by rfl) (hyl : X.env.scope.names.lookup y = some .local := by rfl)
    (hv : Vis X.env.scope y := by first | exact Or.inl rfl | exact Or.inr (Or.inl rfl) | exact Or.inr (Or.inr rfl)) (hd : (y == ("__debug__" : Str)) = false := by decide) (hcd : (y == ("__classdict__" : Str)) = false := by decide) (hgs : Gl X "sorted" := by rfl)
    (hsw : swapsWith (.SetComp elt [⟨tg, iter, ifs, 0⟩] scope pos) (some (.Name y py)) spos.line X.env = pure true := by exact swaps_set rfl rfl rfl (by decide +kernel)) (hf : ∀ x, foldedSetIterable iter X.env x = pure x := by intro _; rfl)
    (h1 : starEach [Expr.Name y p2] X.env = (false, eval (.Name y p2) X.env) :: starEach [] X.env := by rfl) (h2 : backTo pos2 (starEach [Expr.Name y p2] X.env) = (false, eval (.Name y p2) X.env) :: backTo pos2 (starEach [] X.env) := by rfl) (h3 : (backTo pos2 (starEach [Expr.Name y p2] X.env)).any (·.1) = false := by rfl)
    (h4 : (backToKw pos2 (keywordEach [⟨some "reverse", .Constant (.bool true) j p3, kp⟩] X.env)).all (·.1.isSome) = true := by rfl) (h5 : (backToKw pos2 (keywordEach [⟨some "reverse", .Constant (.bool true) j p3, kp⟩] X.env)).any (·.1.isNone) = false := by rfl)
    (h6 : (backToKw pos2 (keywordEach [⟨some "reverse", .Constant (.bool true) j p3, kp⟩] X.env)).filterMap (·.1) = [Str.ofString "reverse"] := by rfl) :
    SB X W [.Assign [.Name y py] (.SetComp elt [⟨tg, iter, ifs, 0⟩] scope pos) spos, .Return (some (.Call (.Name "sorted" p) [.Name y p2] [⟨some "reverse", .Constant (.bool true) j p3, kp⟩] pos2)) rpos] (sSetSorted i mi g (own.map (·.2)) mt me) := by
  obtain ⟨t, pt, qt⟩ := hi
  refine PSs.imp (pss_cons (ps_setI (te := tE (wd X) me WF) hc hN hy hyl hsw pt ok hg ht (fun s H Ca cl fp => (he s H Ca cl fp).can) hf) (pss_one (ps_ret (pe_callBK (cr_sortedR hc) hgs hs (by decide +kernel) (pa_cons (pe_var hy hv hd hcd) pa_nil h1) (pk_cons pe_bl pk_nil) (by decide) (by decide) h2 h3 h4 h5 h6)))) fun Dn sg H ⟨S, env, e, gd, en, z⟩ => ?_
  subst e
  unfold sSetSorted at z
  split at z
  · rename_i lt
    show tSetI X.w t (tG (wd X) g (own.map (·.2))) (tB1 (wd X) mt WF) (tE (wd X) me WF) (own.map (·.2)) sg S.H (fun x H1 => tRet (tCKw (rSortedR X.w) (tCons (tVar i) tNil) (tCons (tC (V.bl true)) tNil)) Dn (sg.set i (some x)) H1)
    refine setI_run qt S sg env _ gd en z fun Da ks n S1 g1 hD hn p1 => ?_
    refine ⟨.ref Da, List.getElem?_set_self (by rw [en.len]; exact lt), Da, fun q => decide (q ∈ ks), n, rfl, rfl, hD, hn, fun ns pn hdesc hm _ hp => ?_⟩
    have em : ns = (ascI ks).reverse := by
      have e : ns.reverse = ascI ks := asc_ext (List.pairwise_reverse.mpr hdesc) asc_ascI fun q => by rw [List.mem_reverse, hm, mem_ascI, decide_eq_true_eq]
      rw [← e, List.reverse_reverse]
    subst em
    have al : AtL (wd X) S1 (((ascI ks).reverse).map V.int) (((ascI ks).reverse).map D.int) := atL_ints _
    exact madeC (t := .lst) g1 hp al upd_same trivial fun S' v' g' ec x' a' => p1 S' v' g' ec x' a'
  · exact z.elim
end
end Q
end
section
set_option Elab.async false
set_option linter.all false
set_option maxRecDepth 100000
namespace Q
open PySem PySem.Spec L2
variable [Tb]
/-! ### evaluation, step by step -/
section
variable {env e1 : Env} {c c1 c2 c3 c4 : Cells} {x y z d : D} {ma mb mo : ME} {ms : ML} {f : D → D → Cells → O}
theorem eC : mC d env c = .ok d c := rfl
theorem eV {i : Nat} (h : env[i]? = some (some d)) : mVar i env c = .ok d c := by
  unfold mVar
  rw [h]
theorem e2 (h1 : ma env c = .ok x c1) (h2 : mb env c1 = .ok y c2) (h3 : f x y c2 = some (z, c3)) : m2 f ma mb env c = .ok z c3 := by
  unfold m2
  rw [h1]
  show (mb env c1).bind _ = _
  rw [h2]
  show (f x y c2).r = _
  rw [h3]
  rfl
theorem e1' {f : D → Cells → O} (h1 : ma env c = .ok x c1) (h3 : f x c1 = some (z, c3)) : m1 f ma env c = .ok z c3 := by
  unfold m1
  rw [h1]
  show (f x c1).r = _
  rw [h3]
  rfl
theorem eNil : mNil env c = .ok [] c := rfl
theorem eCons {ds : List D} (h1 : ma env c = .ok x c1) (h2 : ms env c1 = .ok ds c2) : mCons ma ms env c = .ok (x :: ds) c2 := by
  unfold mCons
  rw [h1]
  show (ms env c1).bind _ = _
  rw [h2]
  rfl
theorem eTup {ds : List D} (h : ms env c = .ok ds c1) (hl : ds.length ≤ sizeLine := by first | decide | (simp only [List.length_cons, List.length_nil]; decide)) : mTup ms env c = .ok (.tup ds) c1 := by
  unfold mTup
  rw [h]
  exact if_pos hl
theorem eLst {ds : List D} (h : ms env c = .ok ds c1) (hl : ds.length ≤ sizeLine := by first | decide | (simp only [List.length_cons, List.length_nil]; decide)) : mLst ms env c = .ok (.lst ds) c1 := by
  unfold mLst
  rw [h]
  exact if_pos hl
theorem eLstC {ds : List D} (h : ms env c = .ok ds c1) (hl : ds.length ≤ sizeLine := by first | decide | (simp only [List.length_cons, List.length_nil]; decide)) : mLstC ms env c = .ok (.cell c1.length) (c1 ++ [(.lst, ds)]) := by
  unfold mLstC
  rw [h]
  exact if_pos hl
theorem eCall {g : List D → Cells → O} {ds : List D} (h : ms env c = .ok ds c1) (h2 : g ds c1 = some (z, c2)) : mCall g ms env c = .ok z c2 := by
  unfold mCall
  rw [h]
  show (g ds c1).r = _
  rw [h2]
  rfl
theorem eFn {F : FD} {n : Nat} {ds : List D} {r : R D} (h : ms env c = .ok ds c1) (hl : ds.length = n) (h2 : F ds c1 = r) : mFn F n ms env c = r := by
  unfold mFn
  rw [h]
  show (if ds.length = n then F ds c1 else .stk) = r
  rw [if_pos hl, h2]
theorem eFnK {F : FD} {n : Nat} {ds : List D} {r : R D} (h : ms env c = .ok ds c1) (hl : ds.length = n) (h2 : F ds c1 = r) : mFnK F n false ms env c = r := by
  unfold mFnK
  rw [h]
  show (if ds.length = n then F ds c1 else .stk) = r
  rw [if_pos hl, h2]
theorem eT {m : ME} {b : Bool} (h : m env c = .ok (.bl b) c1) : mT m env c = .ok b c1 := by
  unfold mT toB
  rw [h]
  rfl
theorem eTru {m : ME} {b : Bool} (h : m env c = .ok d c1) (h2 : truth c1 d = some b) : mTru m env c = .ok b c1 := by
  unfold mTru
  rw [h]
  show (match truth c1 d with | some b => R.ok b c1 | none => .stk) = _
  rw [h2]
theorem eNot {m : MB} {b : Bool} (h : m env c = .ok b c1) : mNot m env c = .ok (!b) c1 := by
  unfold mNot
  rw [h]
  rfl
theorem eAndT {m m' : MB} {r : R Bool} (h : m env c = .ok true c1) (h2 : m' env c1 = r) : mAndT m m' env c = r := by
  unfold mAndT
  rw [h]
  exact h2
theorem eAndF {m m' : MB} (h : m env c = .ok false c1) : mAndT m m' env c = .ok false c1 := by
  unfold mAndT
  rw [h]
  rfl
theorem eOrF {m m' : MB} {r : R Bool} (h : m env c = .ok false c1) (h2 : m' env c1 = r) : mOrT m m' env c = r := by
  unfold mOrT
  rw [h]
  exact h2
theorem eOrT {m m' : MB} (h : m env c = .ok true c1) : mOrT m m' env c = .ok true c1 := by
  unfold mOrT
  rw [h]
  rfl
theorem eAndV {m m' : ME} {r : R D} (h : m env c = .ok d c1) (ht : truth c1 d = some true) (h2 : m' env c1 = r) : mAndV m m' env c = r := by
  unfold mAndV
  rw [h]
  show (match truth c1 d with | some true => m' env c1 | some false => R.ok d c1 | none => .stk) = r
  rw [ht]
  exact h2
theorem eAndVF {m m' : ME} (h : m env c = .ok d c1) (ht : truth c1 d = some false) : mAndV m m' env c = .ok d c1 := by
  unfold mAndV
  rw [h]
  show (match truth c1 d with | some true => m' env c1 | some false => R.ok d c1 | none => .stk) = _
  rw [ht]
theorem eOrV {m m' : ME} {r : R D} (h : m env c = .ok d c1) (ht : truth c1 d = some false) (h2 : m' env c1 = r) : mOrV m m' env c = r := by
  unfold mOrV
  rw [h]
  show (match truth c1 d with | some true => R.ok d c1 | some false => m' env c1 | none => .stk) = r
  rw [ht]
  exact h2
theorem eOrVT {m m' : ME} (h : m env c = .ok d c1) (ht : truth c1 d = some true) : mOrV m m' env c = .ok d c1 := by
  unfold mOrV
  rw [h]
  show (match truth c1 d with | some true => R.ok d c1 | some false => m' env c1 | none => .stk) = _
  rw [ht]
theorem eNotV {m : ME} {b : Bool} (h : m env c = .ok d c1) (ht : truth c1 d = some b) : mNotV m env c = .ok (.bl (!b)) c1 := by
  unfold mNotV
  rw [h]
  show (match truth c1 d with | some b => R.ok (D.bl (!b)) c1 | none => .stk) = _
  rw [ht]
theorem eIfT {mt : MB} {r : R D} (h : mt env c = .ok true c1) (h2 : ma env c1 = r) : mIf mt ma mb env c = r := by
  unfold mIf
  rw [h]
  exact h2
theorem eIfF {mt : MB} {r : R D} (h : mt env c = .ok false c1) (h2 : mb env c1 = r) : mIf mt ma mb env c = r := by
  unfold mIf
  rw [h]
  exact h2
theorem eMe {T : String} {f : FM} {ds : List D} (h : mo env c = .ok d c1) (ht : isTy T c1 d = true) (h2 : ms env c1 = .ok ds c2) (h3 : f d ds c2 = some (z, c3)) : mMe T f mo ms env c = .ok z c3 := by
  unfold mMe
  rw [h]
  show (if isTy T c1 d = true then (ms env c1).bind fun ds c => (f d ds c).r else .stk) = _
  rw [if_pos ht, h2]
  show (f d ds c2).r = _
  rw [h3]
  rfl
theorem eMM {fc : D → D → Cells → O} {F : FD} {r : R D} (h : ma env c = .ok x c1) (h2 : mb env c1 = .ok y c2) (h3 : mmF fc F x y c2 = r) : mMM fc F ma mb env c = r := by
  unfold mMM
  rw [h]
  show (mb env c1).bind _ = _
  rw [h2]
  exact h3
/-! statements -/
theorem sqN {k k2 : MS} {r : RS} (h : k env c = .ok (.nx e1) c1) (h2 : k2 e1 c1 = r) : sSeq k k2 env c = r := by
  unfold sSeq
  rw [h]
  exact h2
theorem sqR {k k2 : MS} (h : k env c = .ok (.rt d) c1) : sSeq k k2 env c = .ok (.rt d) c1 := by
  unfold sSeq
  rw [h]
  rfl
theorem sqE {k k2 : MS} {xn : Exn} (h : k env c = .err xn e1 c1) : sSeq k k2 env c = .err xn e1 c1 := by
  unfold sSeq
  rw [h]
  rfl
theorem stR {m : ME} (h : m env c = .ok d c1) : sRet m env c = .ok (.rt d) c1 := by
  unfold sRet
  rw [h]
  rfl
theorem stRE {m : ME} {xn : Exn} (h : m env c = .err xn c1) : sRet m env c = .err xn env c1 := by
  unfold sRet
  rw [h]
  rfl
theorem stX {m : ME} (h : m env c = .ok d c1) : sExpr m env c = .ok (.nx env) c1 := by
  unfold sExpr
  rw [h]
  rfl
theorem stXE {m : ME} {xn : Exn} (h : m env c = .err xn c1) : sExpr m env c = .err xn env c1 := by
  unfold sExpr
  rw [h]
  rfl
theorem stS {i : Nat} {m : ME} (h : m env c = .ok d c1) : sSet i m env c = .ok (.nx (env.set i (some d))) c1 := by
  unfold sSet
  rw [h]
  rfl
theorem stIT {mt : MB} {k k2 : MS} {r : RS} (h : mt env c = .ok true c1) (h2 : k env c1 = r) : sIf mt k k2 env c = r := by
  unfold sIf
  rw [h]
  exact h2
theorem stIF {mt : MB} {k k2 : MS} {r : RS} (h : mt env c = .ok false c1) (h2 : k2 env c1 = r) : sIf mt k k2 env c = r := by
  unfold sIf
  rw [h]
  exact h2
theorem stAsg {g : MG} {m : ME} (h : m env c = .ok d c1) (h2 : g d env c1 = some (e1, c2)) : sAsg g m env c = .ok (.nx e1) c2 := by
  unfold sAsg
  rw [h]
  show Oe (g d env c1) = _
  rw [h2]
  rfl
theorem stPar {i j : Nat} (h : ma env c = .ok x c1) (h2 : mb env c1 = .ok y c2) : sPar i j ma mb env c = .ok (.nx ((env.set i (some x)).set j (some y))) c2 := by
  unfold sPar
  rw [h]
  show (mb env c1).st _ _ = _
  rw [h2]
  rfl
theorem stRaise {cls : Str} {ks : List Str} {ds : List D} (h : ms env c = .ok ds c1) (hl : ds.length = ks.length) : sRaise cls ks ms env c = .err ⟨cls, ks, ds⟩ env c1 := by
  unfold sRaise
  rw [h]
  exact if_pos hl
/-! defs -/
theorem bodyR {n : Nat} {k : MS} {ds : List D} (h : k (enter n ds) c = .ok (.rt d) c1) : bodyF n k ds c = .ok d c1 := by
  unfold bodyF
  rw [h]
  rfl
theorem bodyN {n : Nat} {k : MS} {ds : List D} (h : k (enter n ds) c = .ok (.nx e1) c1) : bodyF n k ds c = .ok .non c1 := by
  unfold bodyF
  rw [h]
  rfl
theorem bodyE {n : Nat} {k : MS} {ds : List D} {xn : Exn} (h : k (enter n ds) c = .err xn e1 c1) : bodyF n k ds c = .err xn c1 := by
  unfold bodyF
  rw [h]
  rfl
end
/-! ### walks -/
theorem srcT_get {t : Tg} {d : D} {n i : Nat} {c : Cells} {ds : List D} (h : view c d = some (t, ds)) : (srcT t d n).get i c = some ds[i]? := by
  unfold srcT
  dsimp only
  rw [h]
  exact if_pos rfl
/-- lists and tuples -/
def sqTg : Tg → Bool
  | .lst => true
  | .frl => true
  | .tup => true
  | _ => false
theorem eWalk {m : ME} {env : Env} {c c1 : Cells} {d : D} {t : Tg} {ds : List D} (h : m env c = .ok d c1) (hv : view c1 d = some (t, ds)) (ht : sqTg t = true) : mWalk m env c = .ok (srcT t d (ds.length + 1)) c1 := by
  unfold mWalk
  rw [h]
  show (match view c1 d with
    | some (.lst, ds) => R.ok (srcT .lst d (ds.length + 1)) c1
    | some (.frl, ds) => .ok (srcT .frl d (ds.length + 1)) c1
    | some (.tup, ds) => .ok (srcT .tup d (ds.length + 1)) c1
    | _ => .stk) = _
  rw [hv]
  cases t <;> first | rfl | cases ht
/-- a for over a sequence that stays as it is: Jn of env and cells before the i-th turn -/
theorem for_inv {t : Tg} {d : D} {ds : List D} {g : MG} {k : MS} (Jn : Nat → Env → Cells → Prop) (hv : ∀ i env c, Jn i env c → view c d = some (t, ds))
    (step : ∀ i x env c, ds[i]? = some x → Jn i env c → ∃ e1 c1, g x env c = some (e1, c1) ∧ ((∃ e2 c2, k e1 c1 = .ok (.nx e2) c2 ∧ Jn (i + 1) e2 c2))) :
    ∀ n i env c, Jn i env c → i ≤ ds.length → ds.length < n + i → ∃ e2 c2, forS (srcT t d (ds.length + 1)) g k n i env c = .ok (.nx e2) c2 ∧ Jn ds.length e2 c2
  | 0, i, env, c, _, h1, h2 => by omega
  | n + 1, i, env, c, J, h1, h2 => by
    have e := srcT_get (n := ds.length + 1) (i := i) (hv i env c J)
    unfold forS
    rw [e]
    by_cases hi : i < ds.length
    · obtain ⟨e1, c1, q1, e2, c2, q2, J2⟩ := step i ds[i] env c (List.getElem?_eq_getElem hi) J
      rw [List.getElem?_eq_getElem hi]
      dsimp only
      rw [q1]
      dsimp only
      rw [q2]
      exact for_inv Jn hv step n (i + 1) e2 c2 J2 (by omega) (by omega)
    · rw [List.getElem?_eq_none (by omega)]
      have : i = ds.length := by omega
      subst this
      exact ⟨env, c, rfl, J⟩
/-- a comprehension over a sequence: Jn before the i-th turn, with what is there by then -/
theorem lc_inv {s : Src} {ds : List D} {g : MG} {vs : List Nat} {tt : MB} {te : ME} {env : Env} (Jn : Nat → List D → Cells → Prop) (hs : ∀ i acc c, Jn i acc c → s.get i c = some ds[i]?) (small : ∀ i acc c, Jn i acc c → acc.length < sizeLine)
    (step : ∀ i x acc c, ds[i]? = some x → Jn i acc c → ∃ e1 c1, g x (wipeE env vs) c = some (e1, c1) ∧ ((∃ c2, tt e1 c1 = .ok false c2 ∧ Jn (i + 1) acc c2) ∨ ∃ c2 y c3, tt e1 c1 = .ok true c2 ∧ te e1 c2 = .ok y c3 ∧ Jn (i + 1) (acc ++ [y]) c3)) :
    ∀ n i acc c, Jn i acc c → i ≤ ds.length → ds.length < n + i → ∃ acc2 c2, lcS s g vs tt te env n i acc c = .ok acc2 c2 ∧ Jn ds.length acc2 c2
  | 0, i, acc, c, _, h1, h2 => by omega
  | n + 1, i, acc, c, J, h1, h2 => by
    have e := hs i acc c J
    unfold lcS
    rw [e]
    by_cases hi : i < ds.length
    · obtain ⟨e1, c1, q1, q2⟩ := step i ds[i] acc c (List.getElem?_eq_getElem hi) J
      rw [List.getElem?_eq_getElem hi]
      dsimp only
      rw [q1]
      dsimp only
      rcases q2 with ⟨c2, q3, J2⟩ | ⟨c2, y, c3, q3, q4, J2⟩
      · rw [q3]
        exact lc_inv Jn hs small step n (i + 1) acc c2 J2 (by omega) (by omega)
      · rw [q3]
        show ∃ acc2 c4, ((te e1 c2).ne.bind fun y c3 => if acc.length < sizeLine then lcS s g vs tt te env n (i + 1) (acc ++ [y]) c3 else .stk) = R.ok acc2 c4 ∧ Jn ds.length acc2 c4
        rw [q4]
        show ∃ acc2 c2, (if acc.length < sizeLine then lcS s g vs tt te env n (i + 1) (acc ++ [y]) c3 else .stk) = R.ok acc2 c2 ∧ Jn ds.length acc2 c2
        rw [if_pos (small i acc c J)]
        exact lc_inv Jn hs small step n (i + 1) (acc ++ [y]) c3 J2 (by omega) (by omega)
    · rw [List.getElem?_eq_none (by omega)]
      have : i = ds.length := by omega
      subst this
      exact ⟨acc, c, rfl, J⟩
end Q
end
section
set_option Elab.async false
set_option linter.all false
set_option maxRecDepth 100000
namespace Q
open PySem PySem.Spec L2
variable [Tb]
/-! ### the head's facts of own exceptions with one field, value -/
/-- the first def within a class -/
def clsDef (s : Stmt) : Stmt := match s with
  | .ClassDef _ _ _ b _ _ _ _ _ _ _ => b.getD 0 (.Pass ⟨0, 0, 0, 0⟩)
  | s => s
structure InitS (st : Stmt) (p1 p2 p3 p4 : Pos) : Prop where
  sc : FnScope ["self", "value"] ["self", "value"] (defScope st)
  bd : defBody st = [.Assign [.Attribute (.Name "self" p1) "value" p2] (.Name "value" p3) p4]
  vs : Vis (defScope st) "self"
  vv : Vis (defScope st) "value"
  sw : ∀ env, swapsWith (.Name "value" p3) (some (.Attribute (.Name "self" p1) "value" p2)) p4.line env = pure false
  bi : ∀ (q : Str) (kV doc pm : Value) (an : Option Addr) (cdv ct : Value) (us : List Value), us.length = 2 → bindArgs (PySem.W.fnOf "__init__" q (defArgs st) (defBody st) (defScope st) .none kV doc pm an cdv ct) ⟨us, []⟩ = pure ((["self", "value"] : List Str).zip us)
section
variable {K : PySem.W.Frag} {h : Heap} {mg : Str → Option Value}
/-- what k_is tells of one class -/
structure XF (K : PySem.W.Frag) (C : Addr) : Prop where
  ga : PySem.W.findIn K (.ref C) "__getattribute__" = some (some (.builtin "BaseException.__getattribute__"))
  gg : PySem.W.findIn K (.ref C) "__getattr__" = some none
  sa : PySem.W.findIn K (.ref C) "__setattr__" = some (some (.builtin "object.__setattr__"))
  ca : PySem.W.findIn K (.ref C) "__class__" = some (some (.builtin "object.__class__"))
  nv : PySem.W.findIn K (.ref C) "value" = some none
  eC : PySem.W.subIn K (.ref C) (.type "BaseException") = some true
  tC : PySem.W.typeIn K (.ref C) = some (.type "type")
  kC : PySem.W.keepIn K (.ref C) = true
  hC : PySem.W.hasDictIn K C = true
  m : PySem.W.mroIn K C (.type "object") = some true
theorem exd_of {P : Program} {w : World} {x : Str} {st : Stmt} {p1 p2 p3 p4 : Pos} (Z : InitS st p1 p2 p3 p4) (X : K.In h) (G : h.Ns mainGlobals mg) {C fI : Addr} {nm q : Str} {N : Addr} {bs bm : List Value} {sn : List Str} {sub : List Value} {ab : Bool} {col : Option Bool} {dd : Option Addr} {m0 m1 m2 m3 m5 : Option Value}
    {qual : Str} {oc : Value} {od an : Option Addr} {osl : Array (Option Value)} {kV doc pm cdv ct : Value} (aC : PySem.W.nsIn K mainGlobals x = some (some (.ref C))) (F : XF K C)
    (xL : K.lookup C = some (excClassObj nm q C N bs bm true sn sub ab col dd m0 m1 m2 m3 m5 "ValueError.__new__")) (rv : PySem.HandSPX.refsVE bm = true)
    (iC : PySem.W.findIn K (.ref C) "__init__" = some (some (.ref fI))) (tI : PySem.W.typeIn K (.ref fI) = some (.type "function"))
    (l : K.lookup fI = some ⟨oc, od, .func (PySem.W.fnOf "__init__" qual (defArgs st) (defBody st) (defScope st) .none kV doc pm an cdv ct), osl⟩) (c : PySem.W.codeIn K cdv qual = true) (k : PySem.W.keepIn K (.ref fI) = true) : ∀ base : Heap, ExD P w K mg base x := fun base => by
  have T : OexC K C := ⟨⟨_, _, _, _, _, _, _, _, _, _, _, _, _, _, _, xL, rv⟩, F.sa, F.eC, F.tC, F.kC⟩
  exact exd_mk (nm := nm) (q := q) (N := N) (bs := bs) (bm := bm) (T := T) X G aC iC tI l c k F.nv Z.sc Z.bd Z.vs Z.vv Z.sw (fun kV doc pm an cdv ct us hu => Z.bi _ kV doc pm an cdv ct us hu) (by decide) (by decide) (by decide) (by decide)
theorem kit_ref {C B : Addr} (hB : PySem.W.hasDictIn K B = true) (tB : PySem.W.typeIn K (.ref B) = some (.type "type")) (s : PySem.W.subIn K (.ref C) (.ref B) = some true) : PySem.W.kitOne K (.ref C) (.ref B) = some true := by
  obtain ⟨cd, hc, _⟩ := PySem.W.any_some hB
  unfold PySem.W.kitOne
  split
  · rfl
  · show (if ((PySem.W.clsIn K B).isSome && PySem.W.typeIn K (.ref B) == some (.type "type")) = true then PySem.W.subIn K (.ref C) (.ref B) else none) = _
    rw [hc, tB, if_pos (by rfl)]
    exact s
theorem kit_tyV {C : Addr} (s : PySem.W.subIn K (.ref C) (.type "ValueError") = some true) : PySem.W.kitOne K (.ref C) (.type "ValueError") = some true := by
  unfold PySem.W.kitOne
  split
  · rfl
  · show (if PySem.W.kitMeta "ValueError" = true then PySem.W.subIn K (.ref C) (.type "ValueError") else none) = _
    rw [if_pos (by decide +kernel)]
    exact s
theorem XF.su {x : Str} {C : Addr} (F : XF K C) (X : K.In h) (G : h.Ns mainGlobals mg) (a : PySem.W.nsIn K mainGlobals x = some (some (.ref C))) (hn : PySem.W.specialIn K (.builtin "object.__class__") "__get__" = some (some (.builtin "getset_descriptor.__get__"))) (ht : PySem.W.takesIn K (.builtin "object.__class__") = some true) : ExSu K mg x "value" := by
  obtain ⟨cd, hc, _⟩ := PySem.W.any_some F.hC
  exact su_mk X G a ⟨F.ga, F.gg, F.eC, F.hC⟩ ⟨F.ga, F.gg, F.eC, F.hC, F.ca, hn, ht, F.m⟩ (by rw [hc]; rfl) F.nv
end
end Q
end
section
set_option Elab.async false
set_option linter.all false
set_option maxRecDepth 100000
namespace Q
open PySem PySem.Spec L2
variable [Tb]
/-! ### instances of own classes: cells with fields -/
theorem putF_new {f : Str} {v : V} : ∀ {ks : List Str} {xs : List V}, ks.length = xs.length → f ∉ ks → putF f v (ks.zip xs) = (ks ++ [f]).zip (xs ++ [v])
  | [], [], _, _ => rfl
  | k :: ks, x :: xs, h, n => by
    have n1 : k ≠ f := fun z => n (by rw [z]; exact List.mem_cons_self)
    show (if k = f then (k, v) :: ks.zip xs else (k, x) :: putF f v (ks.zip xs)) = _
    rw [if_neg n1, putF_new (ks := ks) (xs := xs) (by simpa using h) fun z => n (List.mem_cons_of_mem _ z)]
    rfl
  | [], _ :: _, h, _ => by simp at h
  | _ :: _, [], h, _ => by simp at h
theorem lookup_none {f : Str} : ∀ {ks : List Str} {xs : List V}, f ∉ ks → (ks.zip xs).lookup f = none
  | [], _, _ => rfl
  | _ :: _, [], _ => rfl
  | k :: ks, x :: xs, n => by
    have n1 : (f == k) = false := beq_eq_false_iff_ne.mpr fun z => n (by rw [z]; exact List.mem_cons_self)
    show (match f == k with | true => some x | false => (ks.zip xs).lookup f) = none
    rw [n1]
    exact lookup_none fun z => n (List.mem_cons_of_mem _ z)
theorem view_obj {T : Wd} {S : Sta} {v : V} {d : D} {C : Str} {ks : List Str} {ds : List D} (g : Good T S) (h : At T S v d) (e : view S.c d = some (.obj C ks, ds)) :
    ∃ a xs Ca dx, v = .ref a ∧ ks.length = xs.length ∧ T.mg C = some (.ref Ca) ∧ S.H a = some (.ins Ca dx (ks.zip xs)) ∧ AtL T S xs ds := by
  obtain ⟨a, xs, rfl, q, l⟩ := view_at g h e
  rcases q with ⟨hl, Ca, dx, g1, g2⟩ | q
  · exact ⟨a, xs, Ca, dx, rfl, hl, g1, g2, l⟩
  · exact q.elim
section
variable {X : Cx} {W : WX} {e o value : Expr} {pos pos' : Pos} {me mo mv : ME} {f : Str}
/-- e.f, a field of an instance of one of the classes cls -/
def fFld (cls : List Str) (f : Str) (d : D) (c : Cells) : O := match view c d with
  | some (.obj C ks, ds) => if C ∈ cls then (lookF ks ds f).map fun x => (x, c) else none
  | _ => none
/-- the classes cls have no attribute f of their own -/
def FldIn (K : PySem.W.Frag) (mg : Str → Option Value) (cls : List Str) (f : Str) : Prop := ∀ C ∈ cls, ∃ Ca, mg C = some (.ref Ca) ∧ Cls K Ca ∧ NoAttr K Ca f
theorem se_fld {cls : List Str} (he : SE X W e me) (hc : FldIn X.K X.mg cls f) (hb : attributeBase e f X.env (eval e X.env) = eval e X.env := by rfl) : SE X W (.Attribute e f pos) (m1 (fFld cls f) me) := by
  obtain ⟨t, p, q⟩ := he
  refine ⟨_, pe_fld p hb, fun S sg env Qv g en z => ?_⟩
  refine q S sg env _ g en (post_bind z fun d S1 v e1 g1 x1 a1 p1 => ?_)
  obtain ⟨r, c', e2, q2⟩ := p1.o.some
  unfold fFld at e2
  split at e2
  · rename_i C ks ds hv
    split at e2
    · rename_i hm
      obtain ⟨y, e3, e4⟩ := Option.map_eq_some_iff.mp e2
      cases e4
      obtain ⟨a, xs, Ca, dx, rfl, hl, h1, h2, l⟩ := view_obj g1 a1 hv
      obtain ⟨Cb, h3, h4, h5⟩ := hc C hm
      have h1 : X.mg C = some (.ref Ca) := h1
      rw [h1] at h3
      cases h3
      obtain ⟨u, h6, h7⟩ := lookF_at l e3
      exact ⟨a, Ca, dx, _, u, rfl, h2, h4, h5, h6, q2 S1 u g1 rfl .refl h7⟩
    · cases e2
  · cases e2
/-- o.f = value, a new field of an instance that is a cell -/
def fSto (cls : List Str) (f : Str) (x y : D) (c : Cells) : Option Cells := match x with
  | .cell k => match c[k]? with
    | some (.obj C ks, ds) => if C ∈ cls ∧ f ∉ ks ∧ ks.length < 100 then some (c.set k (.obj C (ks ++ [f]), ds ++ [y])) else none
    | _ => none
  | _ => none
def sSto (cls : List Str) (f : Str) (mo mv : ME) : MS := fun env c => (mv env c).st env fun y c => (mo env c).st env fun x c => match fSto cls f x y c with
  | some c => .ok (.nx env) c
  | none => .stk
theorem ss_sto {cls : List Str} (ho : SE X W o mo) (hv : SE X W value mv) (hc : FldIn X.K X.mg cls f) (hs : swapsWith value (some (.Attribute o f pos')) pos.line X.env = pure false := by rfl) : SS X W (.Assign [.Attribute o f pos'] value pos) (sSto cls f mo mv) := by
  obtain ⟨to, po, qo⟩ := ho
  obtain ⟨tv, pv, qv⟩ := hv
  refine PS.imp (ps_fld po pv hs) fun Dn sg H ⟨S, env, eq, g, en, z⟩ => ?_
  subst eq
  refine qv S sg env _ g en (post_st z en fun y S1 v e1 g1 x1 a1 p1 => ?_)
  refine qo S1 sg env _ g1 (en.ext x1) (post_st p1 (en.ext x1) fun x S2 u e2 g2 x2 a2 p2 => ?_)
  cases hf : fSto cls f x y S2.c with
  | none =>
    rw [hf] at p2
    exact p2.elim
  | some c' =>
    rw [hf] at p2
    have p2 : PostS (wd X) S2 (.ok (.nx env) c') Dn W := p2
    unfold fSto at hf
    split at hf
    · rename_i k
      split at hf
      · rename_i C ks ds hk
        split at hf
        · rename_i hm
          cases hf
          obtain ⟨hm, hn, hl100⟩ := hm
          obtain ⟨a, rfl, hr⟩ : ∃ a, u = .ref a ∧ S2.r[k]? = some a := a2
          obtain ⟨xs, hh, mu, l⟩ := g2.at' k a (.obj C ks, ds) hr hk
          obtain ⟨hl, Ca, dx, h1, h2⟩ : ks.length = xs.length ∧ ∃ Ca dx, X.mg C = some (.ref Ca) ∧ S2.H a = some (.ins Ca dx (ks.zip xs)) := hh
          obtain ⟨Cb, h3, h4, h5⟩ := hc C hm
          rw [h1] at h3
          cases h3
          have hz : (ks.zip xs).length < 1000 := by rw [List.length_zip]; omega
          refine ⟨a, Ca, dx, _, rfl, h2, h4, h5, hz, ?_⟩
          have lk : (ks ++ [f]).length = (xs ++ [v]).length := by simp [hl]
          have l2 : AtL (wd X) S2 (xs ++ [v]) (ds ++ [y]) := l.append ⟨x2.keep _ _ a1, trivial⟩
          have gs := Good.set (o := .ins Ca dx (putF f v (ks.zip xs))) (cl := (.obj C (ks ++ [f]), ds ++ [y])) g2 hr (show Hold (wd X) (upd S2.H a (.ins Ca dx (putF f v (ks.zip xs)))) a (xs ++ [v]) (.obj C (ks ++ [f])) from ⟨lk, Ca, dx, h1, by rw [upd_same, putF_new hl hn]⟩) trivial l2
          have xs' := Sta.ext_set (o := .ins Ca dx (putF f v (ks.zip xs))) (cl := (.obj C (ks ++ [f]), ds ++ [y])) g2 hr
          exact p2 (S2.set k a (.ins Ca dx (putF f v (ks.zip xs))) (.obj C (ks ++ [f]), ds ++ [y])) sg gs rfl xs' (((en.ext x1).ext x2).ext xs')
        · cases hf
      · cases hf
    · cases hf
end
end Q
end
section
set_option Elab.async false
set_option linter.all false
set_option maxRecDepth 100000
set_option maxHeartbeats 1600000
namespace Q
open PySem PySem.Spec L2
open PyProof.Rows (envOfC)
variable [Tb]
section
variable {P : Program} {w : World} {K : PySem.W.Frag} {mg : Str → Option Value} {base : Heap}
/-- a def that all positional arguments are given to -/
theorem FnG.s {k : Nat} {f : Addr} {fd : FuncData} {ps : List Str} {F : FD} (G : FnG P w K mg base k f fd ps F) (b : Binds K fd ps []) : FnS P w K mg base k f (fun ds c => if ds.length = ps.length then F ds c else .stk) := by
  refine ⟨fun A l s S us vs ds Qv E hg hr e0 hv g al p => ?_⟩
  split at p
  · rename_i hl
    have hu : (us ++ []).length = ps.length := by rw [List.append_nil, ← hv.length, al.len]; exact hl
    have hk : K.In s.heap := e0.mod.kin.keeps fun b ob q => (e0.bs b ob q).1
    have bb := b s us hk hu
    rw [List.append_nil] at bb
    exact G.run A l s S ⟨us, []⟩ us vs ds Qv E hg hr e0 bb hv g al hl p
  · exact p.elim
/-- nothing is promised -/
theorem fnS_stk {k : Nat} {f : Addr} : FnS P w K mg base k f (fun _ _ => .stk) := ⟨fun A l s S us vs ds Qv E _ _ _ _ _ _ p => False.elim p⟩
theorem fnG_stk {k : Nat} {f : Addr} {fd : FuncData} {ps : List Str} : FnG P w K mg base k f fd ps (fun _ _ => .stk) := ⟨fun A l s S args us vs ds Qv E _ _ _ _ _ _ _ _ p => False.elim p⟩
/-- def m(self, *values) -/
def selfStarF (n : Nat) (k : MS) : FD := fun ds c => match ds with
  | d :: rest => if rest.length ≤ sizeLine then (k (enter n [d, .tup rest]) c).out else .stk
  | [] => .stk
theorem fn_bodySS {x qual sv pv : Str} {st : Stmt} {f : Addr} {fd : FuncData} {N : List Str} {k : Nat} {m : MS} (F : Fun K x qual st f fd) (Sc : FnScope N [sv, pv] (defScope st))
    (hb : ∀ (o : Value) (us : List Value), bindArgs fd ⟨o :: us, []⟩ = (newTuple us >>= fun t => pure [(sv, o), (pv, t)]))
    (hbody : ∀ cdv A l s H E, A.guards = some [] → Room k (Xf P w K mg base N qual st f cdv A l s H E).A → Takes (Xf P w K mg base N qual st f cdv A l s H E) (WOf E) →
      PassesOwn (model P w) (Xf P w K mg base N qual st f cdv A l s H E).A (Xf P w K mg base N qual st f cdv A l s H E).env (Xf P w K mg base N qual st f cdv A l s H E).xe →
      SB (Xf P w K mg base N qual st f cdv A l s H E) (WOf E) (defBody st) m) : FnS P w K mg base (k + 1) f (selfStarF N.length m) := by
  obtain ⟨oc, od, kV, doc, pm, an, cdv, ct, osl, rfl, lk, hcd⟩ := F.ex
  refine ⟨fun A l s S us0 vs0 ds0 Qv E hgd hr e0 hv0 gd al0 p => ?_⟩
  cases ds0 with
  | nil => exact p.elim
  | cons d ds =>
    cases vs0 with
    | nil => exact al0.elim
    | cons vo vs =>
      cases hv0 with
      | cons ro hv =>
        rename_i uo us
        obtain ⟨ao, al⟩ : At ⟨K, mg⟩ S vo d ∧ AtL ⟨K, mg⟩ S vs ds := al0
        unfold selfStarF at p
        dsimp only at p
        split at p
        · rename_i hz
          have hzu : us.length ≤ sizeLine := by rw [← hv.length, al.len]; exact hz
          have hzv : vs.length ≤ sizeLine := by rw [al.len]; exact hz
          have hn : S.H s.heap.objs.size = none := e0.hok.fresh (Nat.le_refl _)
          refine StX.run_bnd (N := N) (ps := [sv, pv]) lk hcd Sc hr e0 (G := fun xs H2 => ∃ q, S.H q = none ∧ xs = [vo, V.ref q] ∧ H2 = upd S.H q (.tup vs)) (fun A' Ex Q' h => ?_) fun s2 H2 xs ⟨q, hq, ex, eH⟩ hr' => ?_
          · rw [hb uo us]
            refine wpAny_bind (wpAny_newTuple (wpAny_pure ?_) hzu)
            have new : ObjOk P w (upd S.H s.heap.objs.size (.tup vs)) (s.heap.push ({ cls := .type "tuple", data := .seq us.toArray } : Obj)) s.heap.objs.size (.tup vs) := ⟨hzv, us, hv, ⟨_, Heap.get?_push_size _ rfl, rfl, _, rfl⟩⟩
            have un := StX.un_laid (fs := frs l) (s := s) (o := ({ cls := .type "tuple", data := .seq us.toArray } : Obj)) (u := .tup vs) hn
            exact h _ _ [vo, V.ref s.heap.objs.size] [uo, Value.ref s.heap.objs.size] (StX.env0_laid e0 new) un rfl (fun e s' => StX.cxUp l s S.H _ _ E e s' un (fun b o y => Heap.get?_push_of_some _ y) rfl) (.cons ro (.cons rfl .nil)) rfl ⟨_, hn, rfl, rfl⟩
          · subst ex eH
            have body := hbody cdv A l s2 (upd S.H q (.tup vs)) E hgd hr' (takes_of rfl rfl rfl rfl) (passes_of rfl)
            have x1 := Sta.ext_put (T := ⟨K, mg⟩) (o := .tup vs) gd hq
            refine ⟨_, body, S.put q (.tup vs), enter N.length [d, .tup ds], rfl, gd.put hq, enter_at (vs := [vo, .ref q]) (ds := [d, .tup ds]) ⟨x1.keep _ _ ao, ⟨q, vs, rfl, .inl ⟨gd.fresh hq, gd.freshX hq, upd_same⟩, x1.list al⟩, trivial⟩, post_out (PostG.ext x1 p)⟩
        · exact p.elim
/-! ### methods -/
/-- the class C has the method m, which does what F says -/
def MetE (P : Program) (w : World) (K : PySem.W.Frag) (mg : Str → Option Value) (base : Heap) (k : Nat) (m : Str) (C : Str) (F : FD) : Prop :=
  ∃ Ca g, mg C = some (.ref Ca) ∧ Cls K Ca ∧ Meth K Ca m g ∧ FnS P w K mg base k g F
/-- .. the property f -/
def PrpE (P : Program) (w : World) (K : PySem.W.Frag) (mg : Str → Option Value) (base : Heap) (k : Nat) (f : Str) (C : Str) (F : FD) : Prop :=
  ∃ Ca p g, mg C = some (.ref Ca) ∧ Cls K Ca ∧ PropOf K Ca f p g ∧ FnS P w K mg base k g F
/-- .. and is made by an __init__ that does what F says -/
def MkE (P : Program) (w : World) (K : PySem.W.Frag) (mg : Str → Option Value) (base : Heap) (k : Nat) (C : Str) (F : FD) : Prop :=
  ∃ Ca g, mg C = some (.ref Ca) ∧ Mk K Ca g ∧ FnS P w K mg base k g F
end
section
variable {X : Cx} {W : WX} {e o : Expr} {es : List Expr} {pos apos p : Pos} {me mo : ME} {ms : ML} {k j : Nat} {f m x : Str}
/-- o.m(..), by the class of o -/
def mMet (tbl : List (Str × FD)) (m : Str) (mo : ME) (ms : ML) : ME := fun env c => (mo env c).bind fun d c => match view c d with
  | some (.obj C ks, _) => if m ∈ ks then .stk else match tbl.lookup C with
    | some F => (ms env c).bind fun xs c => F (d :: xs) c
    | none => .stk
  | _ => .stk
theorem se_met {pl : Sem Bool} {tbl : List (Str × FD)} (ht : ∀ C F, tbl.lookup C = some F → MetE X.prog X.w X.K X.mg X.base k m C F) (hr : Room k X.A) (gd : X.A.guards = some []) (tk : Takes X W) (ho : SE X W o mo) (ha : SA X W (e :: es) ms)
    (hst : starEach (e :: es) X.env = (false, eval e X.env) :: starEach es X.env := by rfl) (hpl : (backTo pos (starEach es X.env)).any (·.1) = false := by rfl)
    (hev : eval (.Call (.Attribute o m apos) (e :: es) [] pos) X.env = (do
      let ov ← eval o X.env
      standAt apos.atName
      let (f, first) ← holding [ov] (getMethod ov m pl)
      callWith pos f first (backTo pos (starEach (e :: es) X.env)) (backToKw pos (keywordEach [] X.env))) := by rfl) : SE X W (.Call (.Attribute o m apos) (e :: es) [] pos) (mMet tbl m mo ms) := by
  obtain ⟨to, po, qo⟩ := ho
  obtain ⟨ta, pa, qa⟩ := ha
  refine ⟨tE (wd X) (mMet tbl m mo ms) W, ⟨fun pins s sg H Qv I h => ?_⟩, fun S sg env Qv g en z => ⟨S, env, rfl, g, en, z⟩⟩
  obtain ⟨S, env, rfl, g, en, z⟩ := h
  refine PySem.W.methodCall_KW (pl := pl) (thn (po.run pins s sg S.H (fun v H1 => ∃ S1 d C ks ds F, S1.H = H1 ∧ Good (wd X) S1 ∧ EnvAt (wd X) S1 sg env ∧ At (wd X) S1 v d ∧ view S1.c d = some (.obj C ks, ds) ∧ m ∉ ks ∧ tbl.lookup C = some F ∧ Post (wd X) S1 ((ms env S1.c).bind fun xs c => F (d :: xs) c) Qv (WE W sg)) I ?_) fun u s1 hh => ?_) hev
  · refine qo S sg env _ g en (post_bind z fun d S1 v e1 g1 x1 a1 p1 => ?_)
    split at p1
    · rename_i C ks ds hv
      split at p1
      · exact p1.elim
      · rename_i hm
        split at p1
        · rename_i F hF
          exact ⟨S1, d, C, ks, ds, F, rfl, g1, en.ext x1, a1, hv, hm, hF, p1⟩
        · exact p1.elim
    · exact p1.elim
  · obtain ⟨v, H1, I1, rx, S1, d, C, ks, ds, F, rfl, g1, en1, a1, hv, hm, hF, p1⟩ := hh
    obtain ⟨a, xs, Ca, dx, rfl, hl, h1, h2, l⟩ := view_obj g1 a1 hv
    obtain ⟨Cb, mt, h3, hcl, hmeth, G⟩ := ht C F hF
    have h1 : X.mg C = some (.ref Ca) := h1
    rw [h1] at h3
    cases h3
    obtain rfl : u = Value.ref a := rx
    refine getmeth_ok I1 h2 hcl hmeth (lookup_none hm) ?_
    refine PySem.W.callWith_K (first := [.ref a]) (h₀ := X.base) I1.ok.mod.kin hmeth.kp (thn (pa.run pos pins s1 sg S1.H (fun vs H2 => ∃ S2 xs, S2.H = H2 ∧ Good (wd X) S2 ∧ At (wd X) S2 (.ref a) d ∧ AtL (wd X) S2 vs xs ∧ Post (wd X) S2 (F (d :: xs) S2.c) Qv (WE W sg)) I1 ?_) fun us s2 hh2 => ?_) hst hpl
    · exact qa S1 sg env _ g1 en1 (post_bind p1 fun xs S2 vs e2 g2 x2 a2 p2 => ⟨S2, xs, rfl, g2, x2.keep _ _ a1, a2, p2⟩)
    · obtain ⟨vs, H2, I2, r2, S2, xs2, rfl, g2, a2, al2, p2⟩ := hh2
      refine ⟨I2.kIn, wpAny_call (codeAny_mono (run_s (us := .ref a :: us) (vs := .ref a :: vs) (ds := d :: xs2) G hr gd tk I2 (.cons rfl r2) g2 ⟨a2, al2⟩ p2) fun rr s' hq => ?_)⟩
      match rr, hq with
      | .ok (.ret v), hq => exact hq
      | .error e, hq => exact hq
theorem se_met0 {pl : Sem Bool} {tbl : List (Str × FD)} (ht : ∀ C F, tbl.lookup C = some F → MetE X.prog X.w X.K X.mg X.base k m C F) (hr : Room k X.A) (gd : X.A.guards = some []) (tk : Takes X W) (ho : SE X W o mo)
    (hev : eval (.Call (.Attribute o m apos) [] [] pos) X.env = (do
      let ov ← eval o X.env
      standAt apos.atName
      let (f, first) ← holding [ov] (getMethod ov m pl)
      callWith pos f first (backTo pos (starEach [] X.env)) (backToKw pos (keywordEach [] X.env))) := by rfl) : SE X W (.Call (.Attribute o m apos) [] [] pos) (mMet tbl m mo mNil) := by
  obtain ⟨to, po, qo⟩ := ho
  refine ⟨tE (wd X) (mMet tbl m mo mNil) W, ⟨fun pins s sg H Qv I h => ?_⟩, fun S sg env Qv g en z => ⟨S, env, rfl, g, en, z⟩⟩
  obtain ⟨S, env, rfl, g, en, z⟩ := h
  refine PySem.W.methodCall_KW (pl := pl) (thn (po.run pins s sg S.H (fun v H1 => ∃ S1 d C ks ds F, S1.H = H1 ∧ Good (wd X) S1 ∧ At (wd X) S1 v d ∧ view S1.c d = some (.obj C ks, ds) ∧ m ∉ ks ∧ tbl.lookup C = some F ∧ Post (wd X) S1 (F [d] S1.c) Qv (WE W sg)) I ?_) fun u s1 hh => ?_) hev
  · refine qo S sg env _ g en (post_bind z fun d S1 v e1 g1 x1 a1 p1 => ?_)
    split at p1
    · rename_i C ks ds hv
      split at p1
      · exact p1.elim
      · rename_i hm
        split at p1
        · rename_i F hF
          exact ⟨S1, d, C, ks, ds, F, rfl, g1, a1, hv, hm, hF, p1⟩
        · exact p1.elim
    · exact p1.elim
  · obtain ⟨v, H1, I1, rx, S1, d, C, ks, ds, F, rfl, g1, a1, hv, hm, hF, p1⟩ := hh
    obtain ⟨a, xs, Ca, dx, rfl, hl, h1, h2, l⟩ := view_obj g1 a1 hv
    obtain ⟨Cb, mt, h3, hcl, hmeth, G⟩ := ht C F hF
    have h1 : X.mg C = some (.ref Ca) := h1
    rw [h1] at h3
    cases h3
    obtain rfl : u = Value.ref a := rx
    refine getmeth_ok I1 h2 hcl hmeth (lookup_none hm) ?_
    refine PySem.W.callWith_K0 (first := [.ref a]) I1.kIn hmeth.kp (wpAny_call (codeAny_mono (run_s (us := [.ref a]) (vs := [.ref a]) (ds := [d]) G hr gd tk I1 (.cons rfl .nil) g1 ⟨a1, trivial⟩ p1) fun rr s' hq => ?_))
    match rr, hq with
    | .ok (.ret v), hq => exact hq
    | .error e, hq => exact hq
end
end Q
end
section
set_option Elab.async false
set_option linter.all false
set_option maxRecDepth 100000
set_option maxHeartbeats 1600000
namespace Q
open PySem PySem.Spec L2
variable [Tb]
section
variable {X : Cx} {W : WX} {e o : Expr} {es : List Expr} {pos apos p : Pos} {me mo : ME} {ms : ML} {k j : Nat} {f m x : Str}
/-- o.f, a property, by the class of o; the getter raises nothing -/
def mPrp (tbl : List (Str × FD)) (mo : ME) : ME := fun env c => (mo env c).bind fun d c => match view c d with
  | some (.obj C _, _) => match tbl.lookup C with
    | some F => (F [d] c).ne
    | none => .stk
  | _ => .stk
theorem ne_post {T : Wd} {S : Sta} {r : R D} {Qv : VK} {E : XK} (h : Post T S r.ne Qv E) : Post T S r Qv (fun _ _ _ => False) := by
  cases r with
  | ok d c => exact h
  | err x c => exact False.elim h
  | stk => exact False.elim h
theorem se_prp {tbl : List (Str × FD)} (ht : ∀ C F, tbl.lookup C = some F → PrpE X.prog X.w X.K X.mg X.base k f C F) (hr : Room (k + 1) X.A) (gd : X.A.guards = some []) (ho : SE X W o mo) (hab : attributeBase o f X.env (eval o X.env) = eval o X.env := by rfl) :
    SE X W (.Attribute o f pos) (mPrp tbl mo) := by
  obtain ⟨to, po, qo⟩ := ho
  refine ⟨tE (wd X) (mPrp tbl mo) W, ⟨fun pins s sg H Qv I h => ?_⟩, fun S sg env Qv g en z => ⟨S, env, rfl, g, en, z⟩⟩
  obtain ⟨S, env, rfl, g, en, z⟩ := h
  refine attr_of hab (thn (po.run pins s sg S.H (fun v H1 => ∃ S1 d C ks ds F, S1.H = H1 ∧ Good (wd X) S1 ∧ At (wd X) S1 v d ∧ view S1.c d = some (.obj C ks, ds) ∧ tbl.lookup C = some F ∧ Post (wd X) S1 (F [d] S1.c) Qv (fun _ _ _ => False)) I ?_) fun u s1 hh => ?_)
  · refine qo S sg env _ g en (post_bind z fun d S1 v e1 g1 x1 a1 p1 => ?_)
    split at p1
    · rename_i C ks ds hv
      split at p1
      · rename_i F hF
        exact ⟨S1, d, C, ks, ds, F, rfl, g1, a1, hv, hF, ne_post p1⟩
      · exact p1.elim
    · exact p1.elim
  · obtain ⟨v, H1, I1, rx, S1, d, C, ks, ds, F, rfl, g1, a1, hv, hF, p1⟩ := hh
    obtain ⟨a, xs, Ca, dx, rfl, hl, h1, h2, l⟩ := view_obj g1 a1 hv
    obtain ⟨Cb, pp, gg, h3, hcl, hp, G⟩ := ht C F hF
    have h1 : X.mg C = some (.ref Ca) := h1
    rw [h1] at h3
    cases h3
    obtain rfl : u = Value.ref a := rx
    obtain ⟨mA, OO, _, _, _, _⟩ := ins_get I1.hok h2
    obtain ⟨od, J, _⟩ := OO.look
    obtain ⟨rest, hrec⟩ := hp.rec_
    have I2 := I1.tok (s1.toks + 1)
    have isC : (PySem.W.clsIn X.K Ca).isSome = true := by
      obtain ⟨cd, hc, _⟩ := PySem.W.any_some hcl.hd
      rw [hc]
      rfl
    refine PySem.W.get_bind I1.kIn J (PySem.W.plainGet_of (hcl.get f)).1 (PySem.W.findObj_data isC hp.at_ hp.get hp.tak) (PySem.W.plainGet_of (hcl.get f)).2 (wpAny_call (PySem.W.prop_get (s := { s1 with toks := s1.toks + 1 }) I1.kIn hrec ?_))
    refine codeAny_mono (G.run X.A.in1 X.stack { s1 with toks := s1.toks + 1 } S1 [.ref a] [.ref a] [d] Qv (fun _ _ _ => False) gd hr.in1 I2.env0.in1 (.cons rfl .nil) g1 ⟨a1, trivial⟩ p1) fun r s' hq => ?_
    cases r with
    | error er =>
      obtain ⟨_, _, _, _, _, _, _, _, _, _, _, _, z⟩ := hq
      exact z.elim
    | ok fl =>
      cases fl with
      | ret u2 =>
        obtain ⟨v2, H2, I3, rv, q3⟩ := I2.after hq
        show wpAny _ _ (handedOut u2) _ _ _
        rw [PySem.W.handedOut_of (handed_of rv)]
        exact wpAny_pure ⟨v2, H2, I3, rv, q3⟩
      | next => exact hq.elim
      | brk => exact hq.elim
      | cont => exact hq.elim
/-- C(..): a new cell, which __init__ fills -/
def mMk (C : Str) (F : FD) (ms : ML) : ME := fun env c => (ms env c).bind fun xs c => (F (.cell c.length :: xs) (c ++ [(.obj C [], [])])).bind fun r c2 => match r with
  | .non => .ok (.cell c.length) c2
  | _ => .stk
theorem make_guards {A : Around} {C : Addr} {us : List Value} {kw : List (Str × Value)} (h : A.guards = some []) : (A.under (.builtin "type.__call__" ⟨.ref C :: us, kw⟩)).guards = some [] := by
  first | exact h | (simp [Around.under, Code.guards, Code.isGuard, guardIds, pushGuards, h])
theorem run_mk {pins : List (Addr × Obj)} {sg : L2.St} {S : Sta} {s : Shared} {Qv : VK} {us : List Value} {vs : List V} {ds : List D} {C : Str} {F : FD} (M : MkE X.prog X.w X.K X.mg X.base k C F) (hr : Room (k + 1) X.A) (gd : X.A.guards = some []) (tk : Takes X W)
    (I : Inv X pins sg S.H s) (r : Vals vs us) (g : Good (wd X) S) (al : AtL (wd X) S vs ds)
    (h : Post (wd X) S ((F (.cell S.c.length :: ds) (S.c ++ [(.obj C [], [])])).bind fun r c2 => match r with
      | .non => .ok (.cell S.c.length) c2
      | _ => .stk) Qv (WE W sg)) : ∃ Ca, X.mg C = some (.ref Ca) ∧ PySem.W.keepIn X.K (.ref Ca) = true ∧ wpAny (model X.prog X.w) X.A (call (.ref Ca) us) (EP X pins sg Qv) X.xe s := by
  obtain ⟨Ca, gI, hm, mk, G⟩ := M
  refine ⟨Ca, hm, mk.kp, ?_⟩
  obtain ⟨xa, hxa⟩ : ∃ xa, xa = s.heap.objs.size + 1 := ⟨_, rfl⟩
  have f1 : S.H s.heap.objs.size = none := I.hok.fresh (Nat.le_refl _)
  have f2 : S.H xa = none := I.hok.fresh (by rw [hxa]; exact Nat.le_succ _)
  have ne : xa ≠ s.heap.objs.size := by rw [hxa]; exact Nat.succ_ne_self _
  have g1 := g.put (o := .own xa) f1
  have f3 : (S.put s.heap.objs.size (.own xa)).H xa = none := (upd_ne ne).trans f2
  have x1 := Sta.ext_put (T := wd X) (o := .own xa) g f1
  have hold : Hold (wd X) (upd (S.put s.heap.objs.size (.own xa)).H xa (.ins Ca s.heap.objs.size [])) xa [] (.obj C []) := ⟨rfl, Ca, s.heap.objs.size, hm, upd_same⟩
  have g2 := g1.add (cl := (.obj C [], [])) f3 hold trivial trivial
  have x2 := Sta.ext_add (o := .ins Ca s.heap.objs.size []) (cl := (.obj C [], [])) g1 f3
  obtain ⟨S2, hS2⟩ : ∃ S2, S2 = (S.put s.heap.objs.size (.own xa)).add xa (.ins Ca s.heap.objs.size []) (.obj C [], []) := ⟨_, rfl⟩
  rw [← hS2] at g2 x2
  have cS : S2.c = S.c ++ [(.obj C [], [])] := by rw [hS2]; rfl
  have hH : S2.H = upd (upd S.H s.heap.objs.size (.own xa)) xa (.ins Ca s.heap.objs.size []) := by rw [hS2]; rfl
  have rS : S2.r[S.c.length]? = some xa := by
    rw [hS2]
    show (S.r ++ [xa])[S.c.length]? = some xa
    rw [← g.len, List.getElem?_append_right (Nat.le_refl _), Nat.sub_self]
    rfl
  have I2 := Inv.made (C := Ca) I
  have xx := x1.trans x2
  have aself : At (wd X) S2 (.ref xa) (.cell S.c.length) := ⟨xa, rfl, rS⟩
  have post : Post (wd X) S2 (F (.cell S.c.length :: ds) S2.c) (fun v H2 => v = .non ∧ Qv (.ref xa) H2) (WE W sg) := by
    rw [cS]
    refine post_bind (PostG.ext xx h) fun d S3 v e1 g3 x3 a3 p3 => ?_
    split at p3
    · exact ⟨a3, p3 S3 (.ref xa) g3 rfl .refl (x3.keep _ _ aself)⟩
    · exact p3.elim
  rw [hxa] at aself hH
  refine wpAny_call (make_map (f := gI) I.kIn mk.makes mk.init (beq_iff_eq.mp mk.fn) ?_)
  have run := G.run _ X.stack { s with heap := (s.heap.push PySem.W.emptyDict).push (PySem.W.instObj Ca s.heap.objs.size) } S2 (.ref (s.heap.objs.size + 1) :: us) (.ref (s.heap.objs.size + 1) :: vs) (.cell S.c.length :: ds) (fun v H2 => v = .non ∧ Qv (.ref xa) H2) (WE W sg) (make_guards (C := Ca) (us := us) (kw := []) gd) (hr.make Ca us [])
    (by rw [hH]; exact I2.env0.make Ca us []) (.cons rfl r) g2 ⟨aself, xx.list al⟩ post
  rw [hH] at run
  refine codeAny_mono run fun r s' hq => ?_
  cases r with
  | error e => exact tk _ _ (XE.of_call I2 (fun _ _ _ z => z) hq)
  | ok fl =>
    cases fl with
    | ret u =>
      obtain ⟨v, H', I3, rv, ev, q3⟩ := I2.after hq
      subst ev
      rw [hxa] at q3
      exact ⟨rv, ⟨V.ref (s.heap.objs.size + 1), H', I3, rfl, q3⟩⟩
    | next => exact hq.elim
    | brk => exact hq.elim
    | cont => exact hq.elim
theorem se_mk {C : Str} {F : FD} (M : MkE X.prog X.w X.K X.mg X.base k C F) (hr : Room (k + 1) X.A) (gd : X.A.guards = some []) (tk : Takes X W) (ha : SA X W (e :: es) ms) (hg : Gl X C := by rfl) (hdb : (C == ("__debug__" : Str)) = false := by decide)
    (he : starEach (e :: es) X.env = (false, eval e X.env) :: starEach es X.env := by rfl) (hpl : (backTo pos (starEach es X.env)).any (·.1) = false := by rfl) : SE X W (.Call (.Name C p) (e :: es) [] pos) (mMk C F ms) := by
  obtain ⟨Ca, gI, hm, mk, G⟩ := M
  obtain ⟨t, pa, q⟩ := ha
  refine ⟨tE (wd X) (mMk C F ms) W, ⟨fun pins s sg H Qv I h => ?_⟩, fun S sg env Qv g en z => ⟨S, env, rfl, g, en, z⟩⟩
  obtain ⟨S, env, rfl, g, en, z⟩ := h
  refine wpAny_Call_Name_kw (ld_glob I hg hm ?_ hdb)
  refine PySem.W.callWith_K (h₀ := X.base) I.ok.mod.kin mk.kp (thn (pa.run pos pins s sg S.H (fun vs H1 => ∃ S1 xs, S1.H = H1 ∧ Good (wd X) S1 ∧ AtL (wd X) S1 vs xs ∧ Post (wd X) S1 ((F (.cell S1.c.length :: xs) (S1.c ++ [(.obj C [], [])])).bind fun r c2 => match r with
      | .non => .ok (.cell S1.c.length) c2
      | _ => .stk) Qv (WE W sg)) I ?_) fun us s1 hh => ?_) he hpl
  · exact q S sg env _ g en (post_bind z fun xs S1 vs e1 g1 x1 a1 p1 => ⟨S1, xs, rfl, g1, a1, p1⟩)
  · obtain ⟨vs, H1, I1, r, S1, xs, rfl, g1, a1, p1⟩ := hh
    obtain ⟨Cb, hm2, _, run⟩ := run_mk ⟨Ca, gI, hm, mk, G⟩ hr gd tk I1 r g1 a1 p1
    rw [hm] at hm2
    cases hm2
    exact ⟨I1.kIn, run⟩
end
end Q
end
section
set_option Elab.async false
set_option linter.all false
set_option maxRecDepth 100000
namespace Q
open PySem PySem.Spec L2
variable [Tb]
/-- a class whose instances tell their type plainly -/
structure OwnTy (K : PySem.W.Frag) (C : Addr) : Prop where
  cl : Cls K C
  ha : PySem.W.findIn K (.ref C) "__class__" = some (some (.builtin "object.__class__"))
  hn : PySem.W.specialIn K (.builtin "object.__class__") "__get__" = some (some (.builtin "getset_descriptor.__get__"))
  htk : PySem.W.takesIn K (.builtin "object.__class__") = some true
  hm : PySem.W.mroIn K C (.type "object") = some true
/-- what isinstance(x, C) wants of the class C: cls has the classes of instances with the answer for each -/
structure IsC (K : PySem.W.Frag) (mg : Str → Option Value) (cls : List (Str × Bool)) (Ca : Addr) : Prop where
  bt : ∀ t ∈ ["NoneType", "bool", "int", "str", "list", "tuple", "dict"], PySem.W.kitOne K (.type t) (.ref Ca) = some false
  own : ∀ B b, cls.lookup B = some b → ∃ Ba, mg B = some (.ref Ba) ∧ OwnTy K Ba ∧ PySem.W.kitOne K (.ref Ba) (.ref Ca) = some b
def IsD (K : PySem.W.Frag) (mg : Str → Option Value) (cls : List (Str × Bool)) (C : Str) : Prop := ∃ Ca, mg C = some (.ref Ca) ∧ IsC K mg cls Ca
def fIsO (cls : List (Str × Bool)) (d : D) (c : Cells) : O := match tyD c d with
  | some t => if t ∈ ["NoneType", "bool", "int", "str", "list", "tuple", "dict"] then some (.bl false, c) else none
  | none => match view c d with
    | some (.obj B _, _) => (cls.lookup B).map fun b => (.bl b, c)
    | _ => none
section
variable {X : Cx} {W : WX} {a : Expr} {pos p pT : Pos} {ma : ME} {C : Str}
theorem se_iso {cls : List (Str × Bool)} (ha : SE X W a ma) (hc : IsD X.K X.mg cls C) (hm : X.mg "isinstance" = none) (hgC : Gl X C := by rfl) (hdC : (C == ("__debug__" : Str)) = false := by decide) (hg : Gl X "isinstance" := by rfl)
    (hs : starEach [a, .Name C pT] X.env = (false, eval a X.env) :: starEach [.Name C pT] X.env := by rfl) (hs2 : starEach [.Name C pT] X.env = (false, eval (.Name C pT) X.env) :: starEach [] X.env := by rfl) (hpl : (backTo pos (starEach [.Name C pT] X.env)).any (·.1) = false := by rfl) :
    SE X W (.Call (.Name "isinstance" p) [a, .Name C pT] [] pos) (m1 (fIsO cls) ma) := by
  obtain ⟨ta, pa, qa⟩ := ha
  obtain ⟨Ca, hC, I⟩ := hc
  refine ⟨_, pe_callB call_isi hg hm (by decide +kernel) (pa_cons pa (pa_cons (gFn hC hgC hdC) pa_nil hs2) hs) (by decide) (by decide) hs hpl, fun S sg env Qv g en z => ?_⟩
  refine qa S sg env _ g en (post_bind z fun d S1 v e1 g1 x1 a1 p1 => ?_)
  obtain ⟨r, c', e, q⟩ := p1.o.some
  unfold fIsO at e
  split at e
  · rename_i t et
    split at e
    · rename_i ht
      cases e
      exact ⟨v, .ref Ca, _, _, false, rfl, .own Ca, tyD_at g1 et a1, I.bt t ht, q S1 _ g1 rfl .refl rfl⟩
    · cases e
  · split at e
    · rename_i B ks ds hv
      obtain ⟨b, e3, e4⟩ := Option.map_eq_some_iff.mp e
      cases e4
      obtain ⟨o, xs, Ba, dx, rfl, hl, h1, h2, l⟩ := view_obj g1 a1 hv
      obtain ⟨Bb, h3, ot, hk⟩ := I.own B b e3
      have h1 : X.mg B = some (.ref Ba) := h1
      rw [h1] at h3
      cases h3
      exact ⟨.ref o, .ref Ca, .ref Ba, _, b, rfl, .own Ca, .base (.ins h2 ot.cl ot.ha ot.hn ot.htk ot.hm), hk, q S1 _ g1 rfl .refl rfl⟩
    · cases e
/-! ### a module's tuple of texts -/
def KT (K : PySem.W.Frag) (mg : Str → Option Value) (x : Str) (ss : List Str) : Prop :=
  ∃ a o its n, mg x = some (.ref a) ∧ K.lookup a = some o ∧ o.cls = .type "tuple" ∧ o.data = .seq its n ∧ its.size ≤ sizeLine ∧ Vals (ss.map V.str) its.toList
theorem atL_strs {T : Wd} {S : Sta} : ∀ ss : List Str, AtL T S (ss.map V.str) (ss.map D.str)
  | [] => trivial
  | s :: ss => ⟨rfl, atL_strs ss⟩
theorem se_kt {x : Str} {ss : List Str} (h : KT X.K X.mg x ss) (hg : Gl X x := by rfl) (hd : (x == ("__debug__" : Str)) = false := by decide) : SE X W (.Name x p) (mC (.tup (ss.map D.str))) := by
  obtain ⟨a, o, its, n, h1, h2, h3, h4, h5, h6⟩ := h
  exact se_globK (gFn h1 hg hd) fun S => ⟨a, ss.map V.str, rfl, .inr ⟨o, its, n, h2, h3, h4, h5, h6⟩, atL_strs ss⟩
end
end Q
end
section
set_option Elab.async false
set_option linter.all false
set_option maxRecDepth 100000
namespace Q
open PySem PySem.Spec L2
variable [Tb]
section
variable {X : Cx} {W : WX} {a b e i o : Expr} {pos p apos cpos : Pos} {ma mb mo me mi : ME}
/-! ### list.pop -/
theorem AtL.eraseIdx {T : Wd} {S : Sta} : ∀ {xs : List V} {ds : List D} (n : Nat), AtL T S xs ds → AtL T S (xs.eraseIdx n) (ds.eraseIdx n)
  | [], [], n, _ => by simp [AtL]
  | x :: xs, d :: ds, 0, h => h.2
  | x :: xs, d :: ds, n + 1, h => by
    obtain ⟨h1, h2⟩ : At T S x d ∧ AtL T S xs ds := h
    exact ⟨h1, AtL.eraseIdx n h2⟩
  | [], _ :: _, _, h => h.elim
  | _ :: _, [], _, h => h.elim
theorem set_lst2 {S : Sta} {k : Nat} {l : Addr} {us : List V} {xs : List D} {Qv : VK} {y : V} {d : D} (g : Good (wd X) S) (h : S.r[k]? = some l) (al : AtL (wd X) S us xs) (ay : At (wd X) S y d)
    (q : ∀ S' v, Good (wd X) S' → S'.c = S.c.set k (.lst, xs) → Ext (wd X) S S' → At (wd X) S' v d → Qv v S'.H) : Qv y (upd S.H l (.lst us)) := set_lst g h al ay q
def fPopAt : FM := fun d ds c => match d, ds with
  | .cell k, [.int i] => match c[k]? with
    | some (.lst, xs) => if -(2 ^ 63) ≤ i ∧ i < 2 ^ 63 then match seqIndex? i xs.length with
      | some n => (xs[n]?).map fun y => (y, c.set k (.lst, xs.eraseIdx n))
      | none => none
      else none
    | _ => none
  | _, _ => none
theorem fPopAt_ok : MeF X "list.pop" fPopAt := by
  refine ⟨_, mt_popAt, fun S x vs d ds Qv g ax al p => ?_⟩
  obtain ⟨r, c', e, q⟩ := p.some
  unfold fPopAt at e
  split at e
  · split at e
    · rename_i hc
      split at e
      · rename_i hz
        split at e
        · rename_i n hn
          obtain ⟨y, hy, e2⟩ := Option.map_eq_some_iff.mp e
          cases e2
          obtain ⟨l, us, rfl, h1, h2, h3⟩ := cell_lst g ax hc
          obtain ⟨iv, rfl, ai⟩ := al.one
          cases (show iv = _ from ai)
          obtain ⟨v, hv, av⟩ := h3.get hy
          exact ⟨l, us, _, n, v, rfl, rfl, h2, hz.1, hz.2, by rw [h3.len]; exact hn, hv, set_lst g h1 (h3.eraseIdx n) av q⟩
        · cases e
      · cases e
    · cases e
  · cases e
/-! ### str.join -/
def strL : List D → Option (List Str)
  | [] => some []
  | .str i :: ds => (strL ds).map (i :: ·)
  | _ => none
theorem strL_at {T : Wd} {S : Sta} : ∀ {ds : List D} {xs : List V} {ns : List Str}, strL ds = some ns → AtL T S xs ds → xs = ns.map V.str
  | [], [], ns, e, _ => by cases e; rfl
  | .str i :: ds, x :: xs, ns, e, h => by
    obtain ⟨h1, h2⟩ : At T S x (.str i) ∧ AtL T S xs ds := h
    obtain ⟨ms, e1, e2⟩ := Option.map_eq_some_iff.mp (show (strL ds).map (i :: ·) = some ns from e)
    subst e2
    rw [strL_at e1 h2, List.map_cons, show x = .str i from h1]
  | [], _ :: _, _, _, h => h.elim
  | _ :: _, [], _, _, h => h.elim
def fJoin (x y : D) (c : Cells) : O := match x with
  | .str a => ((seqView c y).bind strL).bind fun ys => if (ys.map (·.length)).sum + ys.length * a.length ≤ 16777216 then some (.str (Txt.join a ys), c) else none
  | _ => none
def mJoin (mo me : ME) : ME := fun env c => (mo env c).bind fun x c => match x with
  | .str _ => (me env c).bind fun y c => (fJoin x y c).r
  | _ => .stk
theorem se_join (ho : SE X W o mo) (he : SE X W e me) (hs : starEach [e] X.env = [(false, eval e X.env)] := by rfl) (hbase : attributeBase o "join" X.env (eval o X.env) = eval o X.env := by rfl) (hline : (apos.endLine == pos.line) = true := by rfl) :
    SE X W (.Call (.Attribute o "join" apos) [e] [] pos) (mJoin mo me) := by
  obtain ⟨to, po, qo⟩ := ho
  obtain ⟨te, pe, qe⟩ := he
  refine ⟨_, pe_join po pe hs hbase hline, fun S sg env Qv g en z => ?_⟩
  refine qo S sg env _ g en (post_bind z fun x S1 v e1 g1 x1 a1 p1 => ?_)
  split at p1
  · rename_i t
    cases (show v = .str t from a1)
    refine ⟨⟨_, rfl⟩, qe S1 sg env _ g1 (en.ext x1) (post_bind p1 fun y S2 u e2 g2 x2 a2 p2 => ?_)⟩
    obtain ⟨r, c', e3, q⟩ := p2.o.some
    unfold fJoin at e3
    obtain ⟨ys, e4, e5⟩ := Option.bind_eq_some_iff.mp e3
    obtain ⟨ds, e6, e7⟩ := Option.bind_eq_some_iff.mp e4
    split at e5
    · rename_i hz
      cases e5
      obtain ⟨p, xs, rfl, h, l⟩ := seqView_at g2 a2 e6
      have hx := strL_at e7 l
      subst hx
      exact ⟨t, p, ys, rfl, rfl, h, hz, q S2 _ g2 rfl .refl rfl⟩
    · cases e5
  · exact p1.elim
/-! ### d[k] -/
def fDix (d k : D) (c : Cells) : O := match view c d, keyOf k with
  | some (.dic ks, ds), some kk => (lookD ks ds kk).map fun x => (x, c)
  | _, _ => none
theorem se_dix (hu : X.A.units + 1 < cLine) (ho : SE X W o mo) (hi : SE X W i mi) (hs : NoSl i := by exact fun _ _ => rfl) : SE X W (.Subscript o i pos) (m2 fDix mo mi) := by
  obtain ⟨to, po, qo⟩ := ho
  obtain ⟨ti, pi, qi⟩ := hi
  refine ⟨_, pe_dget hu po pi hs, fun S sg env Qv g en z => ?_⟩
  refine qo S sg env _ g en (post_bind z fun d S1 v e1 g1 x1 a1 p1 => ?_)
  refine qi S1 sg env _ g1 (en.ext x1) (post_bind p1 fun k S2 u e2 g2 x2 a2 p2 => ?_)
  obtain ⟨r, c', e, q⟩ := p2.o.some
  unfold fDix at e
  split at e
  · rename_i ks ds kk e0 ek
    obtain ⟨y, e3, e4⟩ := Option.map_eq_some_iff.mp e
    cases e4
    obtain ⟨b, xs, rfl, h1, l⟩ := view_at g2 (x2.keep _ _ a1) e0
    rcases h1 with ⟨hz, h1⟩ | h1
    · have eu := keyOf_at ek a2
      have lk := lookD_at (k := kk) l hz
      rw [e3] at lk
      obtain ⟨w, h3, h4⟩ := lk
      exact ⟨b, w, rfl, .inl ⟨_, kk, .of h1, eu, h3.symm⟩, q S2 w g2 rfl .refl h4⟩
    · exact h1.elim
  · cases e
end
end Q
end
section
set_option Elab.async false
set_option linter.all false
set_option maxRecDepth 100000
set_option maxHeartbeats 1600000
namespace Q
open PySem PySem.Spec L2
variable [Tb]
/-- the class C has the special method nm, a def that does what F says -/
def SpcE (P : Program) (w : World) (K : PySem.W.Frag) (mg : Str → Option Value) (base : Heap) (k : Nat) (nm : Str) (C : Str) (F : FD) : Prop :=
  ∃ Ca g, mg C = some (.ref Ca) ∧ PySem.W.findIn K (.ref Ca) nm = some (some (.ref g)) ∧ PySem.W.isFn K (.ref g) = true ∧ FnS P w K mg base k g F
section
variable {X : Cx} {W : WX} {e o : Expr} {es : List Expr} {pos apos p : Pos} {me mo : ME} {ms : ML} {k j : Nat} {f m x : Str}
/-- a special method of an instance that gives a text -/
def txtO (tbl : List (Str × FD)) (d : D) (c : Cells) : O := match view c d with
  | some (.obj C _, _) => match tbl.lookup C with
    | some F => match F [d] c with
      | .ok (.str y) c' => some (.str y, c')
      | _ => none
    | none => none
  | _ => none
theorem txt_run {nm : Str} {pins : List (Addr × Obj)} {sg : L2.St} {S : Sta} {s : Shared} {A : Around} {Qv : VK} {E : Value → Shared → Prop} {v : V} {u : Value} {d y : D} {c : Cells} {tbl : List (Str × FD)} (ht : ∀ C F, tbl.lookup C = some F → SpcE X.prog X.w X.K X.mg X.base k nm C F)
    (I : Inv X pins sg S.H s) (g : Good (wd X) S) (a : At (wd X) S v d) (r : RelV v u) (e : txtO tbl d S.c = some (y, c)) (hr : Room k A) (gd : A.guards = some []) (e0 : ∀ s', Inv X pins sg S.H s' → Env0 X.prog X.w X.K X.mg X.base A X.stack s' S.H)
    (q : ∀ S' v', Good (wd X) S' → S'.c = c → Ext (wd X) S S' → At (wd X) S' v' y → Qv v' S'.H) :
    ∃ (b : Addr) (ox : Obj) (C : Addr) (od : Option Obj) (gf : Addr), u = .ref b ∧ PySem.W.InstAt s.heap b ox C od ∧ PySem.W.findIn X.K (.ref C) nm = some (some (.ref gf)) ∧ PySem.W.isFn X.K (.ref gf) = true ∧
      ∀ s', Inv X pins sg S.H s' → wpAny (model X.prog X.w) A (call (.ref gf) [.ref b]) (PySem.W.StrBack (EP X pins sg Qv)) E s' := by
  unfold txtO at e
  split at e
  · rename_i C ks ds hv
    split at e
    · rename_i F hF
      split at e
      · rename_i y' c' he
        cases e
        obtain ⟨b, xs, Ca, dx, rfl, hl, h1, h2, l⟩ := view_obj g a hv
        obtain ⟨Cb, gf, h3, hs, hf, G⟩ := ht C F hF
        have h1 : X.mg C = some (.ref Ca) := h1
        rw [h1] at h3
        cases h3
        obtain rfl : u = Value.ref b := r
        obtain ⟨mA, OO, _, _, _, _⟩ := ins_get I.hok h2
        obtain ⟨od, J, _⟩ := OO.look
        refine ⟨b, _, Ca, _, gf, rfl, J, hs, hf, fun s' I' => ?_⟩
        have post : Post (wd X) S (F [d] S.c) (fun v H => (∃ z, v = .str z) ∧ Qv v H) (fun _ _ _ => False) := by
          rw [he]
          intro S' v' g' hc x a'
          exact ⟨⟨_, a'⟩, q S' v' g' hc x a'⟩
        refine wpAny_call (codeAny_mono (G.run A X.stack s' S [.ref b] [.ref b] [d] _ _ gd hr (e0 s' I') (.cons rfl .nil) g ⟨a, trivial⟩ post) fun rr s2 hq => ?_)
        cases rr with
        | error er =>
          obtain ⟨_, _, _, _, _, _, _, _, _, _, _, _, z⟩ := hq
          exact z.elim
        | ok fl =>
          cases fl with
          | ret u2 =>
            obtain ⟨v2, H2, I3, rv, ⟨zz, ez⟩, q3⟩ := I'.after hq
            subst ez
            obtain ⟨t, rfl⟩ := rv
            exact ⟨.str zz, H2, I3, ⟨t, rfl⟩, q3⟩
          | next => exact hq.elim
          | brk => exact hq.elim
          | cont => exact hq.elim
      · cases e
    · cases e
  · cases e
/-- str(x) -/
def bStrO (tbl : List (Str × FD)) : List D → Cells → O
  | [d], c => txtO tbl d c
  | _, _ => none
theorem bStrO_ok {tbl : List (Str × FD)} (ht : ∀ C F, tbl.lookup C = some F → SpcE X.prog X.w X.K X.mg X.base k "__str__" C F) (hr : Room (k + 2) X.A) (gd : X.A.guards = some []) : CaF X (.type "str") (bStrO tbl) := by
  refine CaF.mk fun pins s sg S xs us ds d c Qv I r g al e q => ?_
  unfold bStrO at e
  split at e
  · obtain ⟨v, rfl, a⟩ := al.one
    obtain ⟨u, rfl, ru⟩ := vals1 r
    obtain ⟨b, ox, C, od, gf, rfl, J, hs, hf, run⟩ := txt_run (A := X.A.in1.in1) (E := X.xe) ht I g a ru e hr.in1.in1 gd (fun s' I' => I'.env0.in1.in1) q
    exact PySem.W.kso_call (by have := hr.in1.in1.units; omega) I.kIn J hs hf (run s I)
  · cases e
/-- repr(x) -/
def bReprO (tbl : List (Str × FD)) : List D → Cells → O
  | [d], c => txtO tbl d c
  | _, _ => none
theorem bReprO_ok {tbl : List (Str × FD)} (ht : ∀ C F, tbl.lookup C = some F → SpcE X.prog X.w X.K X.mg X.base k "__repr__" C F) (hr : Room (k + 1) X.A) (gd : X.A.guards = some []) : CaF X (.builtin "repr") (bReprO tbl) := by
  refine CaF.mk fun pins s sg S xs us ds d c Qv I r g al e q => ?_
  unfold bReprO at e
  split at e
  · obtain ⟨v, rfl, a⟩ := al.one
    obtain ⟨u, rfl, ru⟩ := vals1 r
    obtain ⟨b, ox, C, od, gf, rfl, J, hs, hf, run⟩ := txt_run (A := X.A.in1) (E := X.xe) ht I g a ru e hr.in1 gd (fun s' I' => I'.env0.in1) q
    obtain ⟨m, hF⟩ := I.fr
    exact PySem.W.repr_K (by have := hr.in1.units; omega) hF I.ok.mod.kin J hs hf (run s I)
  · cases e
/-! ### f-strings -/
/-- {x} of an instance -/
def mFmtO (tbl : List (Str × FD)) (mo : ME) : ME := m1 (txtO tbl) mo
theorem se_fmtO {tbl : List (Str × FD)} (ht : ∀ C F, tbl.lookup C = some F → SpcE X.prog X.w X.K X.mg X.base k "__str__" C F ∧ ∃ Ca, X.mg C = some (.ref Ca) ∧ PySem.W.findIn X.K (.ref Ca) "__format__" = some (some (.builtin "object.__format__")) ∧ PySem.W.mroIn X.K Ca (.type "object") = some true)
    (hr : Room (k + 1) X.A) (gd : X.A.guards = some []) (ho : SE X W o mo) : SE X W (.FormattedValue o (-1) none pos) (mFmtO tbl mo) := by
  obtain ⟨to, po, qo⟩ := ho
  refine ⟨tE (wd X) (mFmtO tbl mo) W, ⟨fun pins s sg H Qv I h => ?_⟩, fun S sg env Qv g en z => ⟨S, env, rfl, g, en, z⟩⟩
  obtain ⟨S, env, rfl, g, en, z⟩ := h
  refine wpAny_FormattedValue_plain (thn (po.run pins s sg S.H (fun v H1 => ∃ S1 d, S1.H = H1 ∧ Good (wd X) S1 ∧ At (wd X) S1 v d ∧ Post (wd X) S1 (txtO tbl d S1.c).r Qv (WE W sg)) I ?_) fun u s1 hh => ?_)
  · exact qo S sg env _ g en (post_bind z fun d S1 v e1 g1 x1 a1 p1 => ⟨S1, d, rfl, g1, a1, p1⟩)
  · obtain ⟨v, H1, I1, rx, S1, d, rfl, g1, a1, p1⟩ := hh
    obtain ⟨y, c, e, q⟩ := p1.o.some
    have hfm : ∃ C F, tbl.lookup C = some F ∧ ∃ ks ds, view S1.c d = some (.obj C ks, ds) := by
      unfold txtO at e
      split at e
      · rename_i C ks ds hv
        split at e
        · rename_i F hF
          exact ⟨C, F, hF, ks, ds, hv⟩
        · cases e
      · cases e
    obtain ⟨C, F, hF, ks, ds, hv⟩ := hfm
    obtain ⟨b1, xs1, Ca1, dx1, ev1, _, h11, h12, _⟩ := view_obj g1 a1 hv
    obtain ⟨_, Cf, h13, hft, hmr⟩ := ht C F hF
    have h11 : X.mg C = some (.ref Ca1) := h11
    rw [h11] at h13
    cases h13
    obtain ⟨b, ox, C2, od, gf, rfl, J, hs, hf, run⟩ := txt_run (A := X.A.in1) (E := X.xe) (fun C F h => (ht C F h).1) I1 g1 a1 rx e hr.in1 gd (fun s' I' => I'.env0.in1) q
    subst ev1
    cases (show Value.ref b = Value.ref b1 from rx)
    obtain ⟨mA, OO, _, _, _, _⟩ := ins_get I1.hok h12
    obtain ⟨od2, J2, _⟩ := OO.look
    have eC : C2 = Ca1 := by
      have t1 := J.at_
      have t2 := J2.at_
      rw [t1] at t2
      have c1 := J.cls
      have c2 := J2.cls
      cases t2
      rw [c1] at c2
      cases c2
      rfl
    subst eC
    exact PySem.W.kfo_fieldS (by have := hr.in1.units; omega) I1.kIn J hft hmr hs hf (run _ (I1.tok _))
end
end Q
end
section
set_option Elab.async false
set_option linter.all false
set_option maxRecDepth 100000
set_option maxHeartbeats 1600000
namespace GQ
open PySem PySem.SeqAt
open AutoSeq1 (wpAny_loadPart')
open MeetsSeq MeetsSeq2 MeetsSeq3 SeqRoads2
section
variable {prog : Program} {w : World} {A : Around} {R : Result → Shared → Prop}
/-- two tuples, with both answers -/
theorem tuple_eqB (l b : Addr) (items items2 : Array Value) (n n2 : Nat) (dd dd2 : Option Addr) (sl sl2 : Array (Option Value)) (I : Shared → Prop) (rs : Nat → Bool) (res : Bool)
    (hall : (∀ i, i < items.size → i < items2.size → rs i = true) → res = (items.size == items2.size)) (hone : ∀ i, i < items.size → i < items2.size → rs i = false → res = false)
    (turn : ∀ i (h1 : i < items.size) (h2 : i < items2.size) s, I s → wpAny (model prog w) A.in1 (eqBool items[i] items2[i]) (fun r s' => r = rs i ∧ I s') (fun e s' => R (.error e) s') s)
    (fin : ∀ s, I s → R (.ok (.ret (.bool res))) s) {s : Shared} (hl1 : s.heap.get? l = some { cls := .type "tuple", dict := dd, data := .seq items n, slots := sl }) (hb1 : s.heap.get? b = some { cls := .type "tuple", dict := dd2, data := .seq items2 n2, slots := sl2 }) (h : I s) :
    wpAny (model prog w) A.in1 (Builtin.«tuple.__eq__» ⟨[.ref l, .ref b], []⟩) (FinOf prog w A R) (fun e s' => R (.error e) s') s := by
  have f2 := AutoSeq1.sub_tuple_tuple
  have hZ : (items.toList.zip items2.toList).length = min items.size items2.size := by simp
  have h0 := h
  obtain ⟨hp, g, d, tk, os⟩ := s
  wp_walk using wpAny_loadPart' hl1, wpAny_loadPart' hb1, wpAny_forIn_list _ (fun rest b s' => b.1 = none ∧ ∃ i, rest = (items.toList.zip items2.toList).drop i ∧ (∀ j, j < i → j < items.size → j < items2.size → rs j = true) ∧ I s') _
  case turn =>
    rintro ⟨y, x⟩ rest b s' ⟨hb', i, hz, hi, hI⟩
    have hlt : i < (items.toList.zip items2.toList).length := by
      rcases Nat.lt_or_ge i (items.toList.zip items2.toList).length with h' | h'
      · exact h'
      · rw [List.drop_of_length_le h'] at hz; cases hz
    have h1 : i < items.size := by omega
    have h2 : i < items2.size := by omega
    rw [List.drop_eq_getElem_cons hlt] at hz
    injection hz with hyx hrest
    have hy : y = items[i] := by have := congrArg Prod.fst hyx; simpa using this
    have hx : x = items2[i] := by have := congrArg Prod.snd hyx; simpa using this
    subst hy hx
    refine wpAny_bind (wpAny_mono (turn i h1 h2 s' hI) (fun r s2 q2 => ?_) fun _ _ x => x)
    obtain ⟨hr, q2⟩ := q2
    cases hrs : rs i with
    | true =>
      rw [hrs] at hr
      subst hr
      wp_walk
      exact ⟨rfl, i + 1, hrest, fun j hj k1 k2 => by
        rcases Nat.lt_or_ge j i with z | z
        · exact hi j z k1 k2
        · have : j = i := by omega
          rw [this]
          exact hrs, q2⟩
    | false =>
      rw [hrs] at hr
      subst hr
      have hR : R (.ok (.ret (.bool res))) s2 := fin s2 q2
      rw [hone i h1 h2 hrs] at hR
      wp_walk
      exact hR
  case fin =>
    rintro ⟨b1, b2⟩ s' ⟨hb', i, hz, hi, hI⟩
    simp only at hb'
    subst hb'
    have hge : min items.size items2.size ≤ i := by
      rcases Nat.lt_or_ge i (items.toList.zip items2.toList).length with h' | h'
      · rw [List.drop_eq_getElem_cons h'] at hz; cases hz
      · rw [← hZ]; exact h'
    have hR : R (.ok (.ret (.bool res))) s' := fin s' hI
    rw [hall fun j k1 k2 => hi j (by omega) k1 k2] at hR
    wp_walk
    simpa [Builtin.Tuple.tupleCompareSizes] using hR
  case h =>
    exact ⟨rfl, 0, rfl, fun j hj => absurd hj (Nat.not_lt_zero j), h0⟩
end
end GQ
namespace GQ
open PySem PySem.SeqAt
section
variable {prog : Program} {w : World} {A : Around} {E : Value → Shared → Prop} {s : Shared}
theorem rc_tupB {l b : Addr} {items items2 : Array Value} {Q : Value → Shared → Prop} (hu : A.units < cLine) (I : Shared → Prop) (rs : Nat → Bool) (res : Bool)
    (hall : (∀ i, i < items.size → i < items2.size → rs i = true) → res = (items.size == items2.size)) (hone : ∀ i, i < items.size → i < items2.size → rs i = false → res = false)
    (hl : s.heap.IsTuple l items) (hb : s.heap.IsTuple b items2)
    (turn : ∀ i (h1 : i < items.size) (h2 : i < items2.size) s, I s → wpAny (model prog w) A.in1 (eqBool items[i] items2[i]) (fun r s' => r = rs i ∧ I s') E s)
    (fin : ∀ s, I s → Q (.bool res) s) (h : I s) : wpAny (model prog w) A (richCompare .Eq (.ref l) (.ref b)) Q E s := by
  obtain ⟨⟨cls, dd, data, sl⟩, ho, hc, n, hd⟩ := id hl
  obtain ⟨⟨cls2, dd2, data2, sl2⟩, ho2, hc2, n2, hd2⟩ := id hb
  simp only at hc hd hc2 hd2
  subst hc hd hc2 hd2
  refine wpAny_richCompare_same_room (op := .Eq) ⟨_, ho, rfl⟩ ⟨_, ho2, rfl⟩ F.slot_tuple_eq (call_here F.slot_tuple_eq ⟨_, ho, rfl⟩ F.entry_tuple_eq (F.args_tuple_eq_2 _ _) ?_) hu
  exact tuple_eqB (R := wants (fun v s' => v ≠ .notImplemented ∧ Q v s') E) l b items items2 n n2 dd dd2 sl sl2 I rs res hall hone turn (fun s' q => ⟨(fun x => nomatch x), fin s' q⟩) ho ho2 h
end
end GQ
end
section
set_option Elab.async false
set_option linter.all false
set_option maxRecDepth 100000
set_option maxHeartbeats 1600000
namespace Q
open PySem PySem.Spec L2
variable [Tb]
/-! ### == by own methods, with both answers -/
abbrev FB := D → D → Cells → Option Bool
section
variable {X : Cx} {n : Nat}
def Still (X : Cx) (pins : List (Addr × Obj)) (sg : L2.St) (S : Sta) (s' : Shared) : Prop := ∃ S', Good (wd X) S' ∧ S'.c = S.c ∧ Q.Ext (wd X) S S' ∧ Inv X pins sg S'.H s'
theorem Still.trans {pins : List (Addr × Obj)} {sg : L2.St} {S S1 : Sta} {s' : Shared} (c : S1.c = S.c) (x : Q.Ext (wd X) S S1) (h : Still X pins sg S1 s') : Still X pins sg S s' := by
  obtain ⟨S2, g, c2, x2, I⟩ := h
  exact ⟨S2, g, c2.trans c, x.trans x2, I⟩
def EqQ (X : Cx) (n : Nat) (f : FB) : Prop :=
  ∀ (A : Around) (pins : List (Addr × Obj)) (s : Shared) (sg : L2.St) (S : Sta) (x y : V) (u v : Value) (dx dy : D) (b : Bool), Sub X n A → A.guards = some [] → Inv X pins sg S.H s → Good (wd X) S → At (wd X) S x dx → At (wd X) S y dy → RelV x u → RelV y v → f dx dy S.c = some b →
    wpAny (model X.prog X.w) A (eqBool u v) (fun r s' => r = b ∧ Still X pins sg S s') X.xe s
def RcQ (X : Cx) (n : Nat) (f : FB) : Prop :=
  ∀ (A : Around) (pins : List (Addr × Obj)) (s : Shared) (sg : L2.St) (S : Sta) (x y : V) (u v : Value) (dx dy : D) (b : Bool), Sub X n A → A.guards = some [] → Inv X pins sg S.H s → Good (wd X) S → At (wd X) S x dx → At (wd X) S y dy → RelV x u → RelV y v → f dx dy S.c = some b →
    wpAny (model X.prog X.w) A (richCompare .Eq u v) (fun r s' => r = .bool b ∧ Still X pins sg S s') X.xe s
def bFlat : FB := fun x y _ => match flat x, flat y with
  | some u, some w => some (eqV u w)
  | _, _ => none
theorem eqQ_flat : EqQ X 0 bFlat := by
  intro A pins s sg S x y u v dx dy b sb gd I g ax ay rx ry e
  unfold bFlat at e
  split at e
  · rename_i p q e1 e2
    cases e
    obtain ⟨rfl, f1⟩ := flat_at e1 ax
    obtain ⟨rfl, f2⟩ := flat_at e2 ay
    exact eqAt_V (A := A) (s := s) rx ry f1 f2 X.prog X.w X.xe _ ⟨rfl, S, g, rfl, .refl, I⟩
  · cases e
/-- item by item -/
def bAllB (f : FB) : List D → List D → Cells → Option Bool
  | d :: ds, e :: es, c => match f d e c, bAllB f ds es c with
    | some b, some b' => some (b && b')
    | _, _ => none
  | [], [], _ => some true
  | _, _, _ => some false
theorem allB_spec {f : FB} {c : Cells} : ∀ {ds es : List D} {r : Bool}, bAllB f ds es c = some r → ∃ rs : Nat → Bool, (∀ i d e, ds[i]? = some d → es[i]? = some e → f d e c = some (rs i)) ∧
    ((∀ i, i < ds.length → i < es.length → rs i = true) → r = (ds.length == es.length)) ∧ (∀ i, i < ds.length → i < es.length → rs i = false → r = false)
  | [], [], r, h => by
    cases h
    exact ⟨fun _ => true, fun i d e h => by simp at h, fun _ => rfl, fun i h => absurd h (Nat.not_lt_zero i)⟩
  | [], e :: es, r, h => by
    cases h
    exact ⟨fun _ => true, fun i d e h => by simp at h, fun _ => by simp, fun i h => absurd h (Nat.not_lt_zero i)⟩
  | d :: ds, [], r, h => by
    cases h
    exact ⟨fun _ => true, fun i d e _ h => by simp at h, fun _ => by simp, fun i _ h => absurd h (Nat.not_lt_zero i)⟩
  | d :: ds, e :: es, r, h => by
    unfold bAllB at h
    split at h
    · rename_i b b' h1 h2
      cases h
      obtain ⟨rs, k1, k2, k3⟩ := allB_spec h2
      refine ⟨fun i => match i with | 0 => b | i + 1 => rs i, fun i d' e' q1 q2 => ?_, fun q => ?_, fun i q1 q2 q3 => ?_⟩
      · cases i with
        | zero => simp at q1 q2; subst q1 q2; exact h1
        | succ i => exact k1 i d' e' (by simpa using q1) (by simpa using q2)
      · have q0 : b = true := q 0 (by simp) (by simp)
        have q' : b' = (ds.length == es.length) := k2 fun i z1 z2 => q (i + 1) (by simpa using z1) (by simpa using z2)
        rw [q0, q', Bool.true_and]
        simp
      · cases i with
        | zero => rw [show b = false from q3]; rfl
        | succ i => rw [k3 i (by simpa using q1) (by simpa using q2) q3, Bool.and_false]
    · cases h
def bTupB (f : FB) : FB := fun x y c => match view c x, view c y with
  | some (.tup, ds), some (.tup, es) => bAllB f ds es c
  | _, _ => none
theorem rcQ_tup {f : FB} (h : EqQ X n f) : RcQ X (n + 1) (bTupB f) := by
  intro A pins s sg S x y u v dx dy b sb gd I g ax ay rx ry e
  unfold bTupB at e
  split at e
  · rename_i ds es e1 e2
    obtain ⟨a, xs, rfl, q1, l1⟩ := view_at g ax e1
    obtain ⟨a', ys, rfl, q2, l2⟩ := view_at g ay e2
    obtain rfl : u = Value.ref a := rx
    obtain rfl : v = Value.ref a' := ry
    obtain ⟨its, r1, t1, z1⟩ := I.tuple (hold_T q1)
    obtain ⟨its2, r2, t2, z2⟩ := I.tuple (hold_T q2)
    obtain ⟨rs, k1, k2, k3⟩ := allB_spec e
    have n1 : its.toArray.size = ds.length := by rw [List.size_toArray, ← r1.length, l1.len]
    have n2 : its2.toArray.size = es.length := by rw [List.size_toArray, ← r2.length, l2.len]
    refine GQ.rc_tupB sb.room.units0 (Still X pins sg S) rs b (by rw [n1, n2]; exact k2) (by rw [n1, n2]; exact k3) t1 t2 (fun i h1 h2 s' q => ?_) (fun s' q => ⟨rfl, q⟩) ⟨S, g, rfl, .refl, I⟩
    obtain ⟨S1, g1, c1, x1, I1⟩ := q
    have i1 : i < ds.length := by rw [← n1]; exact h1
    have i2 : i < es.length := by rw [← n2]; exact h2
    obtain ⟨vx, hvx, avx⟩ := l1.get (List.getElem?_eq_getElem i1)
    obtain ⟨vy, hvy, avy⟩ := l2.get (List.getElem?_eq_getElem i2)
    obtain ⟨u1, hu1, ru1⟩ := r1.get hvx
    obtain ⟨u2, hu2, ru2⟩ := r2.get hvy
    have g1' : its[i]? = some its.toArray[i] := by
      have h1' : i < its.length := by simpa using h1
      rw [List.getElem?_eq_getElem h1'] <;> simp
    have g2' : its2[i]? = some its2.toArray[i] := by
      have h2' : i < its2.length := by simpa using h2
      rw [List.getElem?_eq_getElem h2'] <;> simp
    rw [g1'] at hu1
    rw [g2'] at hu2
    rw [Option.some.inj hu1, Option.some.inj hu2]
    have fe := k1 i _ _ (List.getElem?_eq_getElem i1) (List.getElem?_eq_getElem i2)
    refine wpAny_mono (h A.in1 pins s' sg S1 vx vy u1 u2 _ _ (rs i) sb.in1 gd I1 g1 (x1.keep _ _ avx) (x1.keep _ _ avy) ru1 ru2 (by rw [c1]; exact fe)) (fun r s2 q => ?_) fun _ _ x => x
    exact ⟨q.1, q.2.trans c1 x1⟩
  · cases e
/-- an own class whose == is a def -/
structure EqC (P : Program) (w : World) (K : PySem.W.Frag) (mg : Str → Option Value) (base : Heap) (k : Nat) (C : Str) (F : FD) (all : List Str) : Prop where
  ex : ∃ Ca g, mg C = some (.ref Ca) ∧ PySem.W.findIn K (.ref Ca) "__eq__" = some (some (.ref g)) ∧ PySem.W.isFn K (.ref g) = true ∧ FnS P w K mg base k g F ∧ ∀ B ∈ all, ∀ Ba, mg B = some (.ref Ba) → PySem.W.notFirst K Ca (.ref Ba) = true
open Classical in
noncomputable def bCall (F : FD) : FB := fun x y c => match F [x, y] c with
  | .ok (.bl b) c' => if c' = c then some b else none
  | _ => none
/-- two instances -/
noncomputable def bOwnR (tbl : List (Str × FD)) (all : List Str) : FB := fun x y c => match view c x, view c y with
  | some (.obj C _, _), some (.obj B _, _) => match tbl.lookup C with
    | some F => if B ∈ all then bCall F x y c else none
    | none => none
  | _, _ => none
theorem eq_call {A : Around} {pins : List (Addr × Obj)} {s : Shared} {sg : L2.St} {S : Sta} {x y : V} {u v : Value} {dx dy : D} {b : Bool} {k : Nat} {gf : Addr} {F : FD} (G : FnS X.prog X.w X.K X.mg X.base k gf F) (sb : Sub X k A) (gd : A.guards = some []) (I : Inv X pins sg S.H s) (g : Good (wd X) S)
    (ax : At (wd X) S x dx) (ay : At (wd X) S y dy) (rx : RelV x u) (ry : RelV y v) (e : bCall F dx dy S.c = some b) {E : Value → Shared → Prop} :
    wpAny (model X.prog X.w) A (call (.ref gf) [u, v]) (fun r s' => r = .bool b ∧ Still X pins sg S s') E s := by
  unfold bCall at e
  split at e
  · rename_i b' c' he
    split at e
    · rename_i hc
      cases e
      have post : Post (wd X) S (F [dx, dy] S.c) (fun r H => r = .bl b ∧ ∃ S', S'.H = H ∧ Good (wd X) S' ∧ S'.c = S.c ∧ Q.Ext (wd X) S S') (fun _ _ _ => False) := by
        rw [he, hc]
        intro S' v' g' hc' x' a'
        exact ⟨a', S', rfl, g', hc', x'⟩
      have e0 : Env0 X.prog X.w X.K X.mg X.base A X.stack s S.H := by
        have e := I.env0
        exact ⟨by rw [sb.fr]; exact e.frames, e.mod, e.bs, e.bsz, e.funs, e.frf, e.hok, e.bare⟩
      refine wpAny_call (codeAny_mono (G.run A X.stack s S [u, v] [x, y] [dx, dy] _ _ gd sb.room e0 (.cons rx (.cons ry .nil)) g ⟨ax, ay, trivial⟩ post) fun rr s2 hq => ?_)
      cases rr with
      | error er =>
        obtain ⟨_, _, _, _, _, _, _, _, _, _, _, _, z⟩ := hq
        exact z.elim
      | ok fl =>
        cases fl with
        | ret u2 =>
          obtain ⟨v2, H2, I3, rv, ⟨ev, S', eH, g', hc', x'⟩⟩ := I.after hq
          subst ev eH
          cases rv
          exact ⟨rfl, S', g', hc', x', I3⟩
        | next => exact hq.elim
        | brk => exact hq.elim
        | cont => exact hq.elim
    · cases e
  · cases e
theorem rcQ_own {tbl : List (Str × FD)} {all : List Str} {k : Nat} (ht : ∀ C F, tbl.lookup C = some F → EqC X.prog X.w X.K X.mg X.base k C F all) : RcQ X k (bOwnR tbl all) := by
  intro A pins s sg S x y u v dx dy b sb gd I g ax ay rx ry e
  unfold bOwnR at e
  split at e
  · rename_i C ks ds B ks' ds' hv hv'
    split at e
    · rename_i F hF
      split at e
      · rename_i hB
        obtain ⟨a, xs, Ca, dxx, rfl, hl, h1, h2, l⟩ := view_obj g ax hv
        obtain ⟨a', xs', Ba, dxy, rfl, hl', h1', h2', l'⟩ := view_obj g ay hv'
        obtain ⟨Cb, gf, h3, hs, hf, G, hn⟩ := (ht C F hF).ex
        have h1 : X.mg C = some (.ref Ca) := h1
        rw [h1] at h3
        cases h3
        obtain rfl : u = Value.ref a := rx
        obtain rfl : v = Value.ref a' := ry
        obtain ⟨mA, OO, _, _, _, _⟩ := ins_get I.hok h2
        obtain ⟨od, J, _⟩ := OO.look
        obtain ⟨mB, OO', _, _, _, _⟩ := ins_get I.hok h2'
        obtain ⟨od', J', _⟩ := OO'.look
        obtain ⟨m, hF'⟩ := I.fr
        refine PySem.W.cmp_K (op := .Eq) (tb := .ref Ba) sb.room.units0 hF' I.ok.mod.kin J J'.type (hn B hB Ba h1') hs hf ?_
        refine wpAny_mono (eq_call G sb gd I g ax ay rfl rfl e) (fun r s' q => ?_) fun _ _ z => z
        obtain ⟨rfl, q⟩ := q
        exact ⟨rfl, q⟩
      · cases e
    · cases e
  · cases e
/-- .. inside a built-in: the same object is equal to itself -/
noncomputable def bOwn (tbl : List (Str × FD)) (all : List Str) : FB := fun x y c => match x, y with
  | .cell i, .cell j => if i = j then some true else bOwnR tbl all x y c
  | _, _ => none
theorem eqQ_own {tbl : List (Str × FD)} {all : List Str} {k : Nat} (ht : ∀ C F, tbl.lookup C = some F → EqC X.prog X.w X.K X.mg X.base k C F all) : EqQ X k (bOwn tbl all) := by
  intro A pins s sg S x y u v dx dy b sb gd I g ax ay rx ry e
  unfold bOwn at e
  split at e
  · rename_i i j
    obtain ⟨a, rfl, ha⟩ : ∃ a, x = .ref a ∧ S.r[i]? = some a := ax
    obtain ⟨a', rfl, ha'⟩ : ∃ a, y = .ref a ∧ S.r[j]? = some a := ay
    obtain rfl : u = Value.ref a := rx
    obtain rfl : v = Value.ref a' := ry
    split at e
    · rename_i hij
      cases e
      subst hij
      rw [ha] at ha'
      cases ha'
      exact SeqAt.EqAt.same (A := A) (s := s) (.ref a) X.prog X.w X.xe _ ⟨rfl, S, g, rfl, .refl, I⟩
    · rename_i hij
      have hne : a ≠ a' := fun z => by
        subst z
        obtain ⟨h1, e1⟩ := List.getElem?_eq_some_iff.mp ha
        obtain ⟨h2, e2⟩ := List.getElem?_eq_some_iff.mp ha'
        exact hij ((List.getElem_inj g.nd).mp (e1.trans e2.symm))
      refine GQ.eqBool_refG hne (wpAny_mono (rcQ_own ht A pins s sg S (.ref a) (.ref a') _ _ (.cell i) (.cell j) b sb gd I g ⟨a, rfl, ha⟩ ⟨a', rfl, ha'⟩ rfl rfl e) (fun r s' q => ?_) fun _ _ x => x)
      obtain ⟨hr', q⟩ := q
      exact ⟨b, hr', rfl, q⟩
  · cases e
/-- as an operator -/
def opB (f : FB) : D → D → Cells → O := fun x y c => (f x y c).map fun b => (.bl b, c)
theorem RcQ.op {f : FB} (h : RcQ X n f) (hr : Room n X.A) (gd : X.A.guards = some []) : OpF X (compareOp .Eq) (opB f) := by
  refine ⟨fun x y H Qv => ∃ S dx dy, S.H = H ∧ Good (wd X) S ∧ At (wd X) S x dx ∧ At (wd X) S y dy ∧ PostO (wd X) S (opB f dx dy S.c) Qv, fun pins s sg H x y v u Qv I rx ry q => ?_, fun S x y dx dy Qv g ax ay p => ⟨S, dx, dy, rfl, g, ax, ay, p⟩⟩
  obtain ⟨S, dx, dy, rfl, g, ax, ay, p⟩ := q
  obtain ⟨d, c, e, q⟩ := p.some
  obtain ⟨b, e1, e2⟩ := Option.map_eq_some_iff.mp e
  cases e2
  show wpAny (model X.prog X.w) X.A (richCompare .Eq v u) (EP X pins sg Qv) X.xe s
  refine wpAny_mono (h X.A pins s sg S x y v u dx dy b ⟨hr, rfl⟩ gd I g ax ay rx ry e1) (fun r s' z => ?_) fun _ _ x => x
  obtain ⟨rfl, S', g', hc, x', I'⟩ := z
  exact ⟨.bl b, S'.H, I', rfl, q S' _ g' hc x' rfl⟩
end
end Q
end
section
set_option Elab.async false
set_option linter.all false
set_option maxRecDepth 100000
set_option maxHeartbeats 1600000
namespace PySem.W
open PySem PySem.Spec PyProof.Rows
section
variable {prog : Program} {w : World} {M : Model} {A : Around} {E : Value → Shared → Prop} {s : Shared} {K : Frag} {x y C B L f f2 : Addr} {h₀ : Heap} {m : Str → Option Value} {ox : Obj} {od : Option Obj} {nm : String}
/-- an operator of two instances of own classes, none below the other -/
theorem qk_binO {op : Operator} {rc rb : Option Value} {Q : Value → Shared → Prop} (F : Fr h₀ L s.heap m) (X₀ : K.In h₀) (I : InstAt s.heap x ox C od) (hy : Looks (model prog w) s.heap (typeOf (.ref y)) (.ref B)) (hne : C ≠ B) (hc : selfFirst K C = true) (hb : selfFirst K B = true)
    (hs : findIn K (.ref C) (PySem.dunder op.info.2) = some (some (.ref f))) (hf : isFn K (.ref f) = true) (hr : findIn K (.ref C) (dunderR op.info.2) = some rc) (hp : rc = none ∨ ∃ g : Addr, rc = some (.ref g))
    (hs2 : findIn K (.ref B) (PySem.dunder op.info.2) = some (some (.ref f2))) (hr2 : findIn K (.ref B) (dunderR op.info.2) = some rb) (hp2 : rb = none ∨ ∃ g : Addr, rb = some (.ref g)) (hsub : subIn K (.ref B) (.ref C) = some false)
    (h : wpAny (model prog w) A (call (.ref f) [.ref x, .ref y]) (CmpBack Q) E s) : wpAny (model prog w) A (binaryOp op (.ref x) (.ref y)) Q E s := by
  have X := X₀.keeps F.keep
  obtain ⟨cd, rest, hcd, hm⟩ := ksp_first hc
  obtain ⟨cd2, rest2, hcd2, hm2⟩ := ksp_first hb
  rcases hi : op.info with ⟨sym, nm'⟩
  rw [hi] at hs hr hs2 hr2
  dsimp only at hs hr hs2 hr2
  have one := ksp_try X I hs hf h
  obtain ⟨hh, g, d, tt, os⟩ := s
  have L1 : Looks (model prog w) hh (typeOf (.ref x)) (.ref C) := I.type
  have L2 : Looks (model prog w) hh (typeOf (.ref y)) (.ref B) := hy
  have L3 : Looks (model prog w) hh (fillsNumberSlot (.ref C) nm') true := fills_K X hcd hm hs
  have L4 : Looks (model prog w) hh (fillsNumberSlot (.ref B) nm') true := fills_K X hcd2 hm2 hs2
  have L5 : Looks (model prog w) hh (isSubtype (.ref B) (.ref C)) false := looks_subIn X hsub
  have L6 : Looks (model prog w) hh (numberSlotInPython (.ref C) nm') true := ksp_inPy X hs hr hp
  have L7 : Looks (model prog w) hh (numberSlotInPython (.ref B) nm') true := ksp_inPy X hs2 hr2 hp2
  have hne : (Value.ref C == Value.ref B) = false := Bool.eq_false_iff.mpr fun q => by cases beq_iff_eq.mp q; exact hne rfl
  simp only [binaryOp, hi]
  refine wpAny_holding (wpAny_bind ?_)
  unfold binaryOp1
  refine wpAny_bind (L1.at (wpAny_bind (L2.at (wpAny_bind (L3.at ?_)))))
  simp only [hne, Bool.false_eq_true, if_false]
  ksp_lk
  refine wpAny_mono one (fun r s' hr' => ?_) fun _ _ e => e
  obtain ⟨v, rfl, hq⟩ := hr'
  ksp_lk
  exact hq
end
end PySem.W
namespace Q
open PySem PySem.Spec L2
variable [Tb]
theorem sub_bt {K : PySem.W.Frag} {C : Addr} : ∀ t ∈ ["NoneType", "bool", "int", "str", "list", "tuple", "dict"], PySem.W.subIn K (.type t) (.ref C) = some false := by
  have e : ∀ t ∈ ["NoneType", "bool", "int", "str", "list", "tuple", "dict"], (PySem.fastBuiltinMro t).elim false (fun l => l.all fun v => match v with | .type _ => true | _ => false) = true := by decide +kernel
  intro t ht
  have h1 := e t ht
  show (PySem.fastBuiltinMro t).map (·.contains (.ref C)) = some false
  cases hm : PySem.fastBuiltinMro t with
  | none => rw [hm] at h1; cases h1
  | some l =>
    rw [hm] at h1
    show some (l.contains (.ref C)) = some false
    congr 1
    rw [Bool.eq_false_iff]
    intro z
    have z2 := List.contains_iff_mem.mp z
    have := List.all_eq_true.mp h1 _ z2
    simp at this
section
variable {X : Cx} {n k : Nat}
/-- an instance and a value of a built-in type -/
noncomputable def bOwnT (tbl : List (Str × FD)) : FB := fun x y c => match view c x, tyD c y with
  | some (.obj C _, _), some t => match tbl.lookup C with
    | some F => if t ∈ ["NoneType", "bool", "int", "str", "list", "tuple", "dict"] then bCall F x y c else none
    | none => none
  | _, _ => none
theorem rcQ_ownT {tbl : List (Str × FD)} {all : List Str} (ht : ∀ C F, tbl.lookup C = some F → EqC X.prog X.w X.K X.mg X.base k C F all) : RcQ X k (bOwnT tbl) := by
  intro A pins s sg S x y u v dx dy b sb gd I g ax ay rx ry e
  unfold bOwnT at e
  split at e
  · rename_i C ks ds t hv et
    split at e
    · rename_i F hF
      split at e
      · rename_i hB
        obtain ⟨a, xs, Ca, dxx, rfl, hl, h1, h2, l⟩ := view_obj g ax hv
        obtain ⟨Cb, gf, h3, hs, hf, G, hn⟩ := (ht C F hF).ex
        have h1 : X.mg C = some (.ref Ca) := h1
        rw [h1] at h3
        cases h3
        obtain rfl : u = Value.ref a := rx
        obtain ⟨mA, OO, _, _, _, _⟩ := ins_get I.hok h2
        obtain ⟨od, J, _⟩ := OO.look
        obtain ⟨m, hF'⟩ := I.fr
        obtain ⟨P, Z, p, _⟩ := kit_of I ry (tyD_at g et ay)
        have hnf : PySem.W.notFirst X.K Ca (.type t) = true := by
          unfold PySem.W.notFirst
          rw [sub_bt t hB]
          simp
        refine PySem.W.cmp_K (op := .Eq) (tb := .type t) sb.room.units0 hF' I.ok.mod.kin J (Z.ty _ _ I.kIn p) hnf hs hf ?_
        refine wpAny_mono (eq_call G sb gd I g ax ay rfl ry e) (fun r s' q => ?_) fun _ _ z => z
        obtain ⟨rfl, q⟩ := q
        exact ⟨rfl, q⟩
      · cases e
    · cases e
  · cases e
/-! ### operators of two instances -/
/-- C has the operator's method, and none of the classes all lies below another one -/
structure BinC (P : Program) (w : World) (K : PySem.W.Frag) (mg : Str → Option Value) (base : Heap) (k : Nat) (op : Operator) (C : Str) (F : FD) (all : List Str) : Prop where
  ex : ∃ Ca g, mg C = some (.ref Ca) ∧ PySem.W.findIn K (.ref Ca) (PySem.dunder op.info.2) = some (some (.ref g)) ∧ PySem.W.isFn K (.ref g) = true ∧ FnS P w K mg base k g F ∧ PySem.W.selfFirst K Ca = true ∧ PySem.W.findIn K (.ref Ca) (PySem.dunderR op.info.2) = some none ∧
    ∀ B ∈ all, B ≠ C → ∃ Ba g2, mg B = some (.ref Ba) ∧ Ca ≠ Ba ∧ PySem.W.selfFirst K Ba = true ∧ PySem.W.findIn K (.ref Ba) (PySem.dunder op.info.2) = some (some (.ref g2)) ∧ PySem.W.findIn K (.ref Ba) (PySem.dunderR op.info.2) = some none ∧ PySem.W.subIn K (.ref Ba) (.ref Ca) = some false
def fBinO (tbl : List (Str × FD)) (all : List Str) (x y : D) (c : Cells) : O := match view c x, view c y with
  | some (.obj C _, _), some (.obj B _, _) => match tbl.lookup C with
    | some F => if B ∈ all then match F [x, y] c with
      | .ok (.cell i) c' => some (.cell i, c')
      | _ => none
      else none
    | none => none
  | _, _ => none
theorem fBinO_ok {op : Operator} {tbl : List (Str × FD)} {all : List Str} (ht : ∀ C F, tbl.lookup C = some F → BinC X.prog X.w X.K X.mg X.base k op C F all) (hr : Room k X.A) (gd : X.A.guards = some []) : OpF X (binaryOp op) (fBinO tbl all) := by
  refine ⟨fun x y H Qv => ∃ S dx dy, S.H = H ∧ Good (wd X) S ∧ At (wd X) S x dx ∧ At (wd X) S y dy ∧ PostO (wd X) S (fBinO tbl all dx dy S.c) Qv, fun pins s sg H x y u v Qv I rx ry q => ?_, fun S x y dx dy Qv g ax ay p => ⟨S, dx, dy, rfl, g, ax, ay, p⟩⟩
  obtain ⟨S, dx, dy, rfl, g, ax, ay, p⟩ := q
  obtain ⟨d, c, e, q⟩ := p.some
  unfold fBinO at e
  split at e
  · rename_i C ks ds B ks' ds' hv hv'
    split at e
    · rename_i F hF
      split at e
      · rename_i hB
        split at e
        · rename_i i c' he
          cases e
          obtain ⟨a, xs, Ca, dxx, rfl, hl, h1, h2, l⟩ := view_obj g ax hv
          obtain ⟨a', xs', Ba, dxy, rfl, hl', h1', h2', l'⟩ := view_obj g ay hv'
          obtain ⟨Cb, gf, h3, hs, hf, G, sf, hr0, oth⟩ := (ht C F hF).ex
          have h1 : X.mg C = some (.ref Ca) := h1
          rw [h1] at h3
          cases h3
          obtain rfl : u = Value.ref a := rx
          obtain rfl : v = Value.ref a' := ry
          obtain ⟨mA, OO, _, _, _, _⟩ := ins_get I.hok h2
          obtain ⟨od, J, _⟩ := OO.look
          obtain ⟨mB, OO', _, _, _, _⟩ := ins_get I.hok h2'
          obtain ⟨od', J', _⟩ := OO'.look
          obtain ⟨m, hF'⟩ := I.fr
          have post : Post (wd X) S (F [dx, dy] S.c) (fun v H => (∃ b, v = .ref b) ∧ Qv v H) (fun _ _ _ => False) := by
            rw [he]
            intro S' v' g' hc x' a''
            exact ⟨let ⟨b, hb, _⟩ := a''; ⟨b, hb⟩, q S' v' g' hc x' a''⟩
          have run : wpAny (model X.prog X.w) X.A (call (.ref gf) [.ref a, .ref a']) (PySem.W.CmpBack (EP X pins sg Qv)) X.xe s := by
            refine wpAny_call (codeAny_mono (G.run X.A X.stack s S [.ref a, .ref a'] [.ref a, .ref a'] [dx, dy] _ _ gd hr I.env0 (.cons rfl (.cons rfl .nil)) g ⟨ax, ay, trivial⟩ post) fun rr s2 hq => ?_)
            cases rr with
            | error er =>
              obtain ⟨_, _, _, _, _, _, _, _, _, _, _, _, z⟩ := hq
              exact z.elim
            | ok fl =>
              cases fl with
              | ret u2 =>
                obtain ⟨v2, H2, I3, rv, ⟨b, ev⟩, q3⟩ := I.after hq
                subst ev
                obtain rfl : u2 = Value.ref b := rv
                exact ⟨.ref b, H2, I3, rfl, q3⟩
              | next => exact hq.elim
              | brk => exact hq.elim
              | cont => exact hq.elim
          by_cases hBC : B = C
          · subst hBC
            have h1' : X.mg B = some (.ref Ba) := h1'
            rw [h1] at h1'
            cases h1'
            exact PySem.W.binop_K hF' I.ok.mod.kin J J'.type sf hs hf run
          · obtain ⟨Bb, g2, hm2, ne, sf2, hs2, hr2, hsub⟩ := oth B hB hBC
            have h1' : X.mg B = some (.ref Ba) := h1'
            rw [h1'] at hm2
            cases hm2
            exact PySem.W.qk_binO hF' I.ok.mod.kin J J'.type ne sf sf2 hs hf hr0 (.inl rfl) hs2 hr2 (.inl rfl) hsub run
        · cases e
      · cases e
    · cases e
  · cases e
end
end Q
end
section
set_option Elab.async false
set_option linter.all false
set_option maxRecDepth 100000
set_option maxHeartbeats 1600000
namespace PySem.W
open PySem PySem.Spec PyProof.Rows
open Builtin
section
variable {prog : Program} {w : World} {A : Around} {E : Value → Shared → Prop} {s : Shared} {K : Frag} {x C L f : Addr} {h₀ : Heap} {m : Str → Option Value} {ox : Obj} {od : Option Obj} {b tb : Value}
theorem qk_neEntry (X : K.In s.heap) (I : InstAt s.heap x ox C od) (hu : A.units < cLine) (hs : findIn K (.ref C) "__eq__" = some (some (.ref f))) (hf : isFn K (.ref f) = true) {Q : PySem.Fin → Shared → Prop}
    (hcall : wpAny (model prog w) A (call (.ref f) [.ref x, b]) (fun v s' => ∃ r, v = .bool r ∧ Q (.done (.ret (.bool (!r)))) s') E s) :
    wpAny (model prog w) A (Builtin.«object.__ne__» ⟨[.ref x, b], []⟩) Q E s := by
  unfold Builtin.«object.__ne__»
  repeat (first
    | with_reducible refine wpAny_cRoomFor hu ?_
    | (refine wpAny_bind (m := callSpecialIfBound? (.ref x) (Str.ofString "__eq__") [b])
        (ifBound_K X I hs hf (wpAny_mono hcall (fun r s' hr => by
          obtain ⟨b, rfl, hq⟩ := hr
          repeat (first | exact hq | exact wpAny_pure hq | exact wpAny_truthy_bool hq | (refine wpAny_bind (m := truthy (.bool _)) (wpAny_truthy_bool ?_)) | wp_step)) fun _ _ e => e)))
    | wp_step)
theorem qk_ifNe {args : List Value} {Q : Option Value → Shared → Prop} {M : Model} (X : K.In s.heap) (I : InstAt s.heap x ox C od) (hs : findIn K (.ref C) "__ne__" = some (some (.builtin "object.__ne__")))
    (h : wpAny M A (call (.builtin "object.__ne__") (.ref x :: args)) (fun v => Q (some v)) E s) : wpAny M A (callSpecialIfBound? (.ref x) "__ne__" args) Q E s := by
  simp only [callSpecialIfBound?, bindSpecialIfBound?]
  refine wpAny_holding (wpAny_bind (wpAny_bind (wpAny_bind (I.type.here ((looks_findIn X hs).here ?_)))))
  refine wpAny_bind (wpAny_askSetting (wpAny_ite ?_))
  have fin : wpAny M A (call (.builtin "object.__ne__") ([.ref x] ++ args) >>= fun v => pure (some v)) Q E s := wpAny_bind (wpAny_mono h (fun v s' h' => wpAny_pure h') fun _ _ h' => h')
  split
  · exact wpAny_bind (wpAny_of_eq (F.cmp_object.ne.bind _) (wpAny_pure (by exact fin)))
  · exact wpAny_tryCatch (wpAny_bind (wpAny_of_eq (F.cmp_object.ne.bind _) (wpAny_pure (by exact fin))))
theorem qk_ne {Q : Value → Shared → Prop} (hu : A.units + 1 < cLine) (Fx : Fr h₀ L s.heap m) (X₀ : K.In h₀) (I : InstAt s.heap x ox C od) (hb : Looks (model prog w) s.heap (typeOf b) tb) (hn : notFirst K C tb = true)
    (hs : findIn K (.ref C) "__eq__" = some (some (.ref f))) (hf : isFn K (.ref f) = true) (hne : findIn K (.ref C) "__ne__" = some (some (.builtin "object.__ne__"))) (hm : mroIn K C (.type "object") = some true)
    (h : wpAny (model prog w) A.in1 (call (.ref f) [.ref x, b]) (fun v s' => ∃ r, v = .bool r ∧ Q (.bool (!r)) s') E s) : wpAny (model prog w) A (richCompare .NotEq (.ref x) b) Q E s := by
  have X := X₀.keeps Fx.keep
  have one : wpAny (model prog w) A (tryCompare (.ref x) "__ne__" b) (fun r s' => ∃ v, r = some v ∧ Q v s') E s := by
    unfold tryCompare
    refine wpAny_bind (qk_ifNe X I hne (wpAny_call (codeAny_call_builtin F.cmp_object.ne.plain F.cmpEntry_ne (check_slot F.cmpKind_ne F.cmpSplit_ne (I.type.andThen (looks_mroIn X hm)) (F.cmpArgs_ne _ _)
      (qk_neEntry (A := A.in1) X I hu hs hf (wpAny_mono h (fun v s' hv => ?_) fun _ _ e => e))))))
    obtain ⟨r, rfl, hq⟩ := hv
    first | exact ⟨r, rfl, wpAny_pure ⟨_, rfl, hq⟩⟩ | exact ⟨r, rfl, ⟨_, rfl, hq⟩⟩
  unfold richCompare
  simp only [oneThing_ref]
  refine wpAny_holding (wpAny_bind (wpAny_cRoomFor (by omega) ?_))
  refine wpAny_bind (I.type.here (wpAny_bind (hb.here ?_)))
  split
  · rename_i q
    have e : subIn K tb (.ref C) = some false := by
      rcases Bool.or_eq_true_iff.mp hn with e | e
      · rw [beq_iff_eq.mp e] at q; simp at q
      · exact beq_iff_eq.mp e
    refine wpAny_bind ((looks_subIn X e).here ?_)
    simp only [Bool.false_eq_true, if_false]
    refine wpAny_bind (wpAny_mono one (fun r s' z => ?_) fun _ _ e => e)
    obtain ⟨v, rfl, hq⟩ := z
    exact wpAny_pure hq
  · refine wpAny_bind (wpAny_pure ?_)
    simp only [Bool.false_eq_true, if_false]
    refine wpAny_bind (wpAny_mono one (fun r s' z => ?_) fun _ _ e => e)
    obtain ⟨v, rfl, hq⟩ := z
    exact wpAny_pure hq
end
end PySem.W
namespace Q
open PySem PySem.Spec L2
variable [Tb]
section
variable {X : Cx} {n k : Nat}
/-- != by the class's == -/
structure NeC (K : PySem.W.Frag) (mg : Str → Option Value) (C : Str) : Prop where
  ex : ∃ Ca, mg C = some (.ref Ca) ∧ PySem.W.findIn K (.ref Ca) "__ne__" = some (some (.builtin "object.__ne__")) ∧ PySem.W.mroIn K Ca (.type "object") = some true
/-- an instance beside another one or a value of a built-in type -/
noncomputable def bOwnA (tbl : List (Str × FD)) (all : List Str) : FB := fun x y c => match bOwnR tbl all x y c with
  | some b => some b
  | none => bOwnT tbl x y c
noncomputable def fNeO (tbl : List (Str × FD)) (all : List Str) : D → D → Cells → O := fun x y c => (bOwnA tbl all x y c).map fun b => (.bl (!b), c)
theorem rcQ_ownA {tbl : List (Str × FD)} {all : List Str} (ht : ∀ C F, tbl.lookup C = some F → EqC X.prog X.w X.K X.mg X.base k C F all) : RcQ X k (bOwnA tbl all) := by
  intro A pins s sg S x y u v dx dy b sb gd I g ax ay rx ry e
  unfold bOwnA at e
  split at e
  · rename_i b' e'
    cases e
    exact rcQ_own ht A pins s sg S x y u v dx dy b sb gd I g ax ay rx ry e'
  · exact rcQ_ownT ht A pins s sg S x y u v dx dy b sb gd I g ax ay rx ry e
/-- the class of the left side, the type of the right side, the call's answer -/
theorem ownA_parts {pins : List (Addr × Obj)} {s : Shared} {sg : L2.St} {S : Sta} {x y : V} {u v : Value} {dx dy : D} {b : Bool} {tbl : List (Str × FD)} {all : List Str} (ht : ∀ C F, tbl.lookup C = some F → EqC X.prog X.w X.K X.mg X.base k C F all) (I : Inv X pins sg S.H s) (g : Good (wd X) S)
    (ax : At (wd X) S x dx) (ay : At (wd X) S y dy) (rx : RelV x u) (ry : RelV y v) (e : bOwnA tbl all dx dy S.c = some b) :
    ∃ (C : Str) (F : FD) (a Ca gf : Addr) (ox : Obj) (od : Option Obj) (tb : Value), tbl.lookup C = some F ∧ u = .ref a ∧ X.mg C = some (.ref Ca) ∧ PySem.W.InstAt s.heap a ox Ca od ∧ (∀ M, PySem.W.Looks M s.heap (typeOf v) tb) ∧ PySem.W.notFirst X.K Ca tb = true ∧
      PySem.W.findIn X.K (.ref Ca) "__eq__" = some (some (.ref gf)) ∧ PySem.W.isFn X.K (.ref gf) = true ∧ FnS X.prog X.w X.K X.mg X.base k gf F ∧ bCall F dx dy S.c = some b := by
  have left : ∀ {C : Str} {ks : List Str} {ds : List D} {F : FD}, view S.c dx = some (.obj C ks, ds) → tbl.lookup C = some F → ∃ (a Ca gf : Addr) (ox : Obj) (od : Option Obj), u = .ref a ∧ X.mg C = some (.ref Ca) ∧ PySem.W.InstAt s.heap a ox Ca od ∧
      PySem.W.findIn X.K (.ref Ca) "__eq__" = some (some (.ref gf)) ∧ PySem.W.isFn X.K (.ref gf) = true ∧ FnS X.prog X.w X.K X.mg X.base k gf F ∧ ∀ B ∈ all, ∀ Ba, X.mg B = some (.ref Ba) → PySem.W.notFirst X.K Ca (.ref Ba) = true := fun {C ks ds F} hv hF => by
    obtain ⟨a, xs, Ca, dxx, rfl, hl, h1, h2, l⟩ := view_obj g ax hv
    obtain ⟨Cb, gf, h3, hs, hf, G, hn⟩ := (ht C F hF).ex
    have h1 : X.mg C = some (.ref Ca) := h1
    rw [h1] at h3
    cases h3
    obtain rfl : u = Value.ref a := rx
    obtain ⟨mA, OO, _, _, _, _⟩ := ins_get I.hok h2
    obtain ⟨od, J, _⟩ := OO.look
    exact ⟨a, Ca, gf, _, od, rfl, h1, J, hs, hf, G, hn⟩
  unfold bOwnA at e
  split at e
  · rename_i b' e'
    cases e
    unfold bOwnR at e'
    split at e'
    · rename_i C ks ds B ks' ds' hv hv'
      split at e'
      · rename_i F hF
        split at e'
        · rename_i hB
          obtain ⟨a, Ca, gf, ox, od, hu, h1, J, hs, hf, G, hn⟩ := left hv hF
          obtain ⟨a', xs', Ba, dxy, rfl, hl', h1', h2', l'⟩ := view_obj g ay hv'
          obtain rfl : v = Value.ref a' := ry
          obtain ⟨mB, OO', _, _, _, _⟩ := ins_get I.hok h2'
          obtain ⟨od', J', _⟩ := OO'.look
          exact ⟨C, F, a, Ca, gf, ox, od, .ref Ba, hF, hu, h1, J, fun M => J'.type, hn B hB Ba h1', hs, hf, G, e'⟩
        · cases e'
      · cases e'
    · cases e'
  · unfold bOwnT at e
    split at e
    · rename_i C ks ds t hv et
      split at e
      · rename_i F hF
        split at e
        · rename_i hB
          obtain ⟨a, Ca, gf, ox, od, hu, h1, J, hs, hf, G, hn⟩ := left hv hF
          obtain ⟨P, Z, p, _⟩ := kit_of I ry (tyD_at g et ay)
          have hnf : PySem.W.notFirst X.K Ca (.type t) = true := by
            unfold PySem.W.notFirst
            rw [sub_bt t hB]
            simp
          exact ⟨C, F, a, Ca, gf, ox, od, .type t, hF, hu, h1, J, fun M => Z.ty _ _ I.kIn p, hnf, hs, hf, G, e⟩
        · cases e
      · cases e
    · cases e
theorem fNeO_ok {tbl : List (Str × FD)} {all : List Str} (ht : ∀ C F, tbl.lookup C = some F → EqC X.prog X.w X.K X.mg X.base k C F all) (hn : ∀ C F, tbl.lookup C = some F → NeC X.K X.mg C) (hr : Room (k + 1) X.A) (gd : X.A.guards = some []) : OpF X (compareOp .NotEq) (fNeO tbl all) := by
  refine ⟨fun x y H Qv => ∃ S dx dy, S.H = H ∧ Good (wd X) S ∧ At (wd X) S x dx ∧ At (wd X) S y dy ∧ PostO (wd X) S (fNeO tbl all dx dy S.c) Qv, fun pins s sg H x y u v Qv I rx ry q => ?_, fun S x y dx dy Qv g ax ay p => ⟨S, dx, dy, rfl, g, ax, ay, p⟩⟩
  obtain ⟨S, dx, dy, rfl, g, ax, ay, p⟩ := q
  obtain ⟨d, c, e, q⟩ := p.some
  obtain ⟨b, e1, e2⟩ := Option.map_eq_some_iff.mp e
  cases e2
  obtain ⟨C, F, a, Ca, gf, ox, od, tb, hF, rfl, h1, J, hty, hnf, hs, hf, G, hc⟩ := ownA_parts ht I g ax ay rx ry e1
  obtain ⟨Cb, h3, hne, hm⟩ := (hn C F hF).ex
  rw [h1] at h3
  cases h3
  obtain ⟨m, hF'⟩ := I.fr
  have sb : Sub X k X.A.in1 := ⟨hr.in1, rfl⟩
  show wpAny (model X.prog X.w) X.A (richCompare .NotEq (.ref a) v) (EP X pins sg Qv) X.xe s
  refine PySem.W.qk_ne (tb := tb) (by have := hr.units; omega) hF' I.ok.mod.kin J (hty _) hnf hs hf hne hm ?_
  refine wpAny_mono (eq_call G sb gd I g ax ay rx ry hc) (fun r s' z => ?_) fun _ _ x => x
  obtain ⟨rfl, S', g', hc', x', I'⟩ := z
  exact ⟨b, rfl, .bl (!b), S'.H, I', rfl, q S' _ g' hc' x' rfl⟩
end
end Q
end
section
set_option Elab.async false
set_option linter.all false
set_option maxRecDepth 100000
set_option maxHeartbeats 1600000
namespace PySem.W
open PySem PySem.Spec PyProof.Rows
open Builtin
section
variable {M : Model} {A : Around} {E : Value → Shared → Prop} {s : Shared} {x : Addr} {ox : Obj}
theorem qr_str {y : Str} {t : Tok} {Q : PySem.Fin → Shared → Prop} (hx : s.heap.get? x = some ox) (hd : ox.data = .plain) (hq : Q (.done (.ret .notImplemented)) s) : wpAny M A (Builtin.«str.__eq__» ⟨[.str y t, .ref x], []⟩) Q E s := by
  obtain ⟨oc, odict, odata, osl⟩ := ox
  simp only at hd
  subst hd
  obtain ⟨hp, g, d, tk, os⟩ := s
  wp_walk using AutoSeq1.wpAny_loadPart' hx
  all_goals exact hq
theorem qr_int {y : Int} {t : Tok} {Q : PySem.Fin → Shared → Prop} (hx : s.heap.get? x = some ox) (hd : ox.data = .plain) (hq : Q (.done (.ret .notImplemented)) s) : wpAny M A (Builtin.«int.__eq__» ⟨[.int y t, .ref x], []⟩) Q E s := by
  obtain ⟨oc, odict, odata, osl⟩ := ox
  simp only at hd
  subst hd
  obtain ⟨hp, g, d, tk, os⟩ := s
  wp_walk using AutoSeq1.wpAny_loadPart' hx
  all_goals exact hq
theorem qr_bool {y : Bool} {Q : PySem.Fin → Shared → Prop} (hx : s.heap.get? x = some ox) (hd : ox.data = .plain) (hq : Q (.done (.ret .notImplemented)) s) : wpAny M A (Builtin.«int.__eq__» ⟨[.bool y, .ref x], []⟩) Q E s := by
  obtain ⟨oc, odict, odata, osl⟩ := ox
  simp only at hd
  subst hd
  obtain ⟨hp, g, d, tk, os⟩ := s
  wp_walk using AutoSeq1.wpAny_loadPart' hx
  all_goals exact hq
theorem qr_none {Q : PySem.Fin → Shared → Prop} (hq : Q (.done (.ret .notImplemented)) s) : wpAny M A (Builtin.«NoneType.__eq__» ⟨[.none, .ref x], []⟩) Q E s := by
  obtain ⟨hp, g, d, tk, os⟩ := s
  wp_walk
  all_goals exact hq
theorem qr_list {l : Addr} {Q : PySem.Fin → Shared → Prop} (L : Looks M s.heap (isInstance (.ref x) (.type "list")) false) (hq : Q (.done (.ret .notImplemented)) s) : wpAny M A (Builtin.«list.__eq__» ⟨[.ref l, .ref x], []⟩) Q E s := by
  show wpAny M A (do let b ← isInstance (.ref x) (.type "list"); _) Q E s
  refine wpAny_bind (L.here ?_)
  exact wpAny_pure hq
theorem qr_tuple {l : Addr} {Q : PySem.Fin → Shared → Prop} (L : Looks M s.heap (isInstance (.ref x) (.type "tuple")) false) (hq : Q (.done (.ret .notImplemented)) s) : wpAny M A (Builtin.«tuple.__eq__» ⟨[.ref l, .ref x], []⟩) Q E s := by
  show wpAny M A (do let b ← isInstance (.ref x) (.type "tuple"); _) Q E s
  refine wpAny_bind (L.here ?_)
  exact wpAny_pure hq
theorem qr_dict {l : Addr} {Q : PySem.Fin → Shared → Prop} (L : Looks M s.heap (isInstance (.ref x) (.type "dict")) false) (hq : Q (.done (.ret .notImplemented)) s) : wpAny M A (Builtin.«dict.__eq__» ⟨[.ref l, .ref x], []⟩) Q E s := by
  show wpAny M A (do let b ← isInstance (.ref x) (.type "dict"); _) Q E s
  refine wpAny_bind (L.here ?_)
  refine wpAny_bind (wpAny_rule ?_)
  exact wpAny_pure hq
end
end PySem.W
namespace PySem.W
open PySem PySem.Spec PyProof.Rows
section
variable {prog : Program} {w : World} {A : Around} {E : Value → Shared → Prop} {s : Shared} {K : Frag} {x C L f : Addr} {h₀ : Heap} {m : Str → Option Value} {ox : Obj} {od : Option Obj} {u : Value} {T : String}
theorem qr_eq {Q : Value → Shared → Prop} (hu : A.units < cLine) (Fx : Fr h₀ L s.heap m) (X₀ : K.In h₀) (I : InstAt s.heap x ox C od) (hT : Looks (model prog w) s.heap (typeOf u) (.type T)) (ho : oneThing? .Eq u (.ref x) = none) (hsub : subIn K (.ref C) (.type T) = some false)
    (hdec : wpAny (model prog w) A (tryCompare u "__eq__" (.ref x)) (fun r s' => r = none ∧ s' = s) E s) (hs : findIn K (.ref C) "__eq__" = some (some (.ref f))) (hf : isFn K (.ref f) = true)
    (h : wpAny (model prog w) A (call (.ref f) [.ref x, u]) (CmpBack Q) E s) : wpAny (model prog w) A (richCompare .Eq u (.ref x)) Q E s := by
  have X := X₀.keeps Fx.keep
  have two : wpAny (model prog w) A (tryCompare (.ref x) "__eq__" u) (fun r s' => ∃ v, r = some v ∧ Q v s') E s := by
    unfold tryCompare
    refine wpAny_bind (ifBound_K X I hs hf (wpAny_mono h (fun v s' hv => ?_) fun _ _ e => e))
    cases v <;> first | exact hv.elim | exact wpAny_pure ⟨_, rfl, hv⟩
  unfold richCompare
  simp only [ho]
  refine wpAny_holding (wpAny_bind (wpAny_cRoomFor hu ?_))
  refine wpAny_bind (hT.here (wpAny_bind (I.type.here ?_)))
  split
  · refine wpAny_bind ((looks_subIn X hsub).here ?_)
    simp only [Bool.false_eq_true, if_false]
    refine wpAny_bind (wpAny_mono hdec (fun r s' z => ?_) fun _ _ e => e)
    obtain ⟨rfl, rfl⟩ := z
    simp only [Bool.not_false, if_true]
    refine wpAny_bind (wpAny_mono two (fun r s' z => ?_) fun _ _ e => e)
    obtain ⟨v, rfl, hq⟩ := z
    exact wpAny_pure hq
  · rename_i q
    exact absurd (by simp) q
end
end PySem.W
end
section
set_option Elab.async false
set_option linter.all false
set_option maxRecDepth 100000
set_option maxHeartbeats 1600000
namespace Q
open PySem PySem.Spec L2
variable [Tb]
section
variable {X : Cx} {n k : Nat}
/-- the class is none of the built-in types -/
structure RefC (K : PySem.W.Frag) (mg : Str → Option Value) (C : Str) : Prop where
  ex : ∃ Ca, mg C = some (.ref Ca) ∧ ∀ t ∈ ["NoneType", "bool", "int", "str", "list", "tuple", "dict"], PySem.W.subIn K (.ref Ca) (.type t) = some false
/-- a value of a built-in type beside an instance -/
noncomputable def bRefl (tbl : List (Str × FD)) : FB := fun x y c => match tyD c x, view c y with
  | some t, some (.obj C _, _) => match tbl.lookup C with
    | some F => if t ∈ ["NoneType", "bool", "int", "str", "list", "tuple", "dict"] then bCall F y x c else none
    | none => none
  | _, _ => none
theorem decl_at {pins : List (Addr × Obj)} {s : Shared} {sg : L2.St} {S : Sta} {A : Around} {E : Value → Shared → Prop} {x : V} {u : Value} {dx : D} {t : String} {a C : Addr} {ox : Obj} {od : Option Obj} (I : Inv X pins sg S.H s) (g : Good (wd X) S) (ax : At (wd X) S x dx) (rx : RelV x u) (et : tyD S.c dx = some t)
    (J : PySem.W.InstAt s.heap a ox C od) (hd : ox.data = .plain) (hsub : ∀ t ∈ ["NoneType", "bool", "int", "str", "list", "tuple", "dict"], PySem.W.subIn X.K (.ref C) (.type t) = some false) :
    wpAny (model X.prog X.w) A (tryCompare u "__eq__" (.ref a)) (fun r s' => r = none ∧ s' = s) E s := by
  have L : ∀ t ∈ ["NoneType", "bool", "int", "str", "list", "tuple", "dict"], PySem.W.Looks (model X.prog X.w) s.heap (isInstance (.ref a) (.type t)) false := fun t ht => J.type.andThen (PySem.W.looks_subIn I.kIn (hsub t ht))
  have lst : ∀ {b : Addr} {xs : List V}, SqL X.K S.H b xs → wpAny (model X.prog X.w) A (tryCompare (.ref b) "__eq__" (.ref a)) (fun r s' => r = none ∧ s' = s) E s := fun {b xs} h => by
    obtain ⟨its, r, ⟨o, n, ho, hc, _, hd'⟩, _⟩ := I.list h
    have hT : s.TypeIs (.ref b) "list" := ⟨o, ho, hc⟩
    exact wpAny_tryCompare_declines hT PySem.F.slot_list_eq (wpAny_call (codeAny_call_builtin PySem.F.slot_list_eq.plain PySem.F.entry_list_eq (PySem.F.slot_list_eq.check _ _ _ _ _ _ _ _ hT (PySem.F.args_list_eq_2 _ _) (PySem.W.qr_list (L "list" (by simp)) ⟨rfl, rfl, rfl⟩))))
  have tup : ∀ {b : Addr} {xs : List V}, SqT X.K S.H b xs → wpAny (model X.prog X.w) A (tryCompare (.ref b) "__eq__" (.ref a)) (fun r s' => r = none ∧ s' = s) E s := fun {b xs} h => by
    obtain ⟨its, r, ⟨o, ho, hc, n, hd'⟩, _⟩ := I.tuple h
    have hT : s.TypeIs (.ref b) "tuple" := ⟨o, ho, hc⟩
    exact wpAny_tryCompare_declines hT PySem.F.slot_tuple_eq (wpAny_call (codeAny_call_builtin PySem.F.slot_tuple_eq.plain PySem.F.entry_tuple_eq (PySem.F.slot_tuple_eq.check _ _ _ _ _ _ _ _ hT (PySem.F.args_tuple_eq_2 _ _) (PySem.W.qr_tuple (L "tuple" (by simp)) ⟨rfl, rfl, rfl⟩))))
  have dic : ∀ {b : Addr}, s.TypeIs (.ref b) "dict" → wpAny (model X.prog X.w) A (tryCompare (.ref b) "__eq__" (.ref a)) (fun r s' => r = none ∧ s' = s) E s := fun {b} hT =>
    wpAny_tryCompare_declines hT PySem.F.slot_dict_eq (wpAny_call (codeAny_call_builtin PySem.F.slot_dict_eq.plain PySem.F.entry_dict_eq (PySem.F.slot_dict_eq.check _ _ _ _ _ _ _ _ hT (PySem.F.args_dict_eq_2 _ _) (PySem.W.qr_dict (L "dict" (by simp)) ⟨rfl, rfl, rfl⟩))))
  have obj : (match view S.c dx with
    | some (.lst, _) => some "list"
    | some (.frl, _) => some "list"
    | some (.tup, _) => some "tuple"
    | some (.dic _, _) => some "dict"
    | some (.dit _, _) => some "dict"
    | _ => none) = some t → wpAny (model X.prog X.w) A (tryCompare u "__eq__" (.ref a)) (fun r s' => r = none ∧ s' = s) E s := fun e => by
    split at e
    · rename_i ds e0
      obtain ⟨b, xs, rfl, h, l⟩ := view_at g ax e0
      obtain rfl : u = Value.ref b := rx
      exact lst (.of (hold_L h))
    · rename_i ds e0
      obtain ⟨b, xs, rfl, h, l⟩ := view_at g ax e0
      obtain rfl : u = Value.ref b := rx
      exact lst (hold_F h)
    · rename_i ds e0
      obtain ⟨b, xs, rfl, h, l⟩ := view_at g ax e0
      obtain rfl : u = Value.ref b := rx
      exact tup (hold_T h)
    · rename_i ks ds e0
      obtain ⟨b, xs, rfl, h, l⟩ := view_at g ax e0
      obtain rfl : u = Value.ref b := rx
      rcases h with ⟨_, h⟩ | h
      · obtain ⟨_, _, vs, _, o, es, ep, h1, h2, _⟩ := (show ObjOk X.prog X.w S.H s.heap b (.dK _) from I.hok b _ h)
        exact dic ⟨o, h1, h2.1⟩
      · exact h.elim
    · rename_i ks ds e0
      obtain ⟨b, xs, rfl, h, l⟩ := view_at g ax e0
      obtain rfl : u = Value.ref b := rx
      rcases h with ⟨_, h⟩ | h
      · obtain ⟨_, _, vs, _, o, es, ep, h1, h2, _⟩ := (show ObjOk X.prog X.w S.H s.heap b (.dT _) from I.hok b _ h)
        exact dic ⟨o, h1, h2.1⟩
      · exact h.elim
    · cases e
  cases dx with
  | non =>
    cases (show x = .non from ax)
    obtain rfl : u = Value.none := rx
    have hT : s.TypeIs .none "NoneType" := rfl
    exact wpAny_tryCompare_declines hT PySem.F.slot_NoneType_eq (wpAny_call (codeAny_call_builtin PySem.F.slot_NoneType_eq.plain PySem.F.entry_NoneType_eq (PySem.F.slot_NoneType_eq.check _ _ _ _ _ _ _ _ hT (PySem.F.args_NoneType_eq_2 _ _) (PySem.W.qr_none ⟨rfl, rfl, rfl⟩))))
  | bl b =>
    cases (show x = .bl b from ax)
    obtain rfl : u = Value.bool b := rx
    have hT : s.TypeIs (.bool b) "bool" := rfl
    exact wpAny_tryCompare_declines hT PySem.F.slot_bool_eq (wpAny_call (codeAny_call_builtin PySem.F.slot_bool_eq.plain PySem.F.entry_int_eq (PySem.F.slot_bool_eq.check _ _ _ _ _ _ _ _ hT (PySem.F.args_int_eq_2 _ _) (PySem.W.qr_bool J.at_ hd ⟨rfl, rfl, rfl⟩))))
  | int b =>
    cases (show x = .int b from ax)
    obtain ⟨tk, rfl⟩ := rx
    have hT : s.TypeIs (.int b tk) "int" := rfl
    exact wpAny_tryCompare_declines hT PySem.F.slot_int_eq (wpAny_call (codeAny_call_builtin PySem.F.slot_int_eq.plain PySem.F.entry_int_eq (PySem.F.slot_int_eq.check _ _ _ _ _ _ _ _ hT (PySem.F.args_int_eq_2 _ _) (PySem.W.qr_int J.at_ hd ⟨rfl, rfl, rfl⟩))))
  | str b =>
    cases (show x = .str b from ax)
    obtain ⟨tk, rfl⟩ := rx
    have hT : s.TypeIs (.str b tk) "str" := rfl
    exact wpAny_tryCompare_declines hT PySem.F.slot_str_eq (wpAny_call (codeAny_call_builtin PySem.F.slot_str_eq.plain PySem.F.entry_str_eq (PySem.F.slot_str_eq.check _ _ _ _ _ _ _ _ hT (PySem.F.args_str_eq_2 _ _) (PySem.W.qr_str J.at_ hd ⟨rfl, rfl, rfl⟩))))
  | cell i => exact obj et
  | fn _ _ _ _ _ => exact obj et
  | nod t ds => exact obj et
theorem rcQ_refl {tbl : List (Str × FD)} {all : List Str} (ht : ∀ C F, tbl.lookup C = some F → EqC X.prog X.w X.K X.mg X.base k C F all) (hc : ∀ C F, tbl.lookup C = some F → RefC X.K X.mg C) : RcQ X k (bRefl tbl) := by
  intro A pins s sg S x y u v dx dy b sb gd I g ax ay rx ry e
  unfold bRefl at e
  split at e
  · rename_i t C ks ds et hv
    split at e
    · rename_i F hF
      split at e
      · rename_i hB
        obtain ⟨a, xs, Ca, dxx, rfl, hl, h1, h2, l⟩ := view_obj g ay hv
        obtain ⟨Cb, gf, h3, hs, hf, G, hn⟩ := (ht C F hF).ex
        have h1 : X.mg C = some (.ref Ca) := h1
        rw [h1] at h3
        cases h3
        obtain ⟨Cc, h4, hsub⟩ := (hc C F hF).ex
        rw [h1] at h4
        cases h4
        obtain rfl : v = Value.ref a := ry
        obtain ⟨mA, OO, _, _, _, _⟩ := ins_get I.hok h2
        obtain ⟨od, J, _⟩ := OO.look
        obtain ⟨m, hF'⟩ := I.fr
        obtain ⟨P, Z, p, _⟩ := kit_of I rx (tyD_at g et ax)
        have ho : oneThing? .Eq u (.ref a) = none := by
          have ty := tyD_at g et ax
          cases u <;> first
            | rfl
            | (exfalso
               cases x <;> first
                 | (obtain ⟨_, z⟩ := rx; cases z)
                 | (cases rx)
                 | (cases ty; rename_i z; cases z))
        refine PySem.W.qr_eq sb.room.units0 hF' I.ok.mod.kin J (Z.ty _ _ I.kIn p) ho (hsub t hB) (decl_at I g ax rx et J rfl hsub) hs hf ?_
        refine wpAny_mono (eq_call G sb gd I g ay ax rfl rx e) (fun r s' q => ?_) fun _ _ z => z
        obtain ⟨rfl, q⟩ := q
        exact ⟨rfl, q⟩
      · cases e
    · cases e
  · cases e
end
end Q
end
section
set_option Elab.async false
set_option linter.all false
set_option maxRecDepth 100000
set_option maxHeartbeats 1600000
namespace Q
open PySem PySem.Spec L2
variable [Tb]
/-- the j-th statement within a class -/
def clsAt (s : Stmt) (j : Nat) : Stmt := match s with
  | .ClassDef _ _ _ b _ _ _ _ _ _ _ => b.getD j (.Pass ⟨0, 0, 0, 0⟩)
  | s => s
/-- the class C, by its name -/
def ClD (K : PySem.W.Frag) (mg : Str → Option Value) (C : Str) : Prop := ∃ Ca, mg C = some (.ref Ca) ∧ Cls K Ca
/-- C's method m is this def -/
def DfM (K : PySem.W.Frag) (mg : Str → Option Value) (C m qual : Str) (st : Stmt) : Prop := ∃ Ca g fd, mg C = some (.ref Ca) ∧ PySem.W.findIn K (.ref Ca) m = some (some (.ref g)) ∧ PySem.W.isFn K (.ref g) = true ∧ L2.Fun K m qual st g fd
/-- C's property f is this def -/
def DfP (K : PySem.W.Frag) (mg : Str → Option Value) (C f qual : Str) (st : Stmt) : Prop := ∃ Ca p g fd, mg C = some (.ref Ca) ∧ Cls K Ca ∧ PropOf K Ca f p g ∧ L2.Fun K f qual st g fd
/-- all arguments by position -/
def argF (n : Nat) (F : FD) : FD := fun ds c => if ds.length = n then F ds c else .stk
def OkM (P : Program) (w : World) (K : PySem.W.Frag) (mg : Str → Option Value) (base : Heap) (k : Nat) (C m : Str) (F : FD) : Prop :=
  ∃ Ca g, mg C = some (.ref Ca) ∧ PySem.W.findIn K (.ref Ca) m = some (some (.ref g)) ∧ PySem.W.isFn K (.ref g) = true ∧ PySem.W.keepIn K (.ref g) = true ∧ FnS P w K mg base k g F
section
variable {P : Program} {w : World} {K : PySem.W.Frag} {mg : Str → Option Value} {base : Heap}
theorem okM_mk {C x qual : Str} {st : Stmt} {N ps : List Str} {k : Nat} {m : MS} (D0 : DfM K mg C x qual st) (Sc : FnScope N ps (defScope st))
    (hbind : ∀ (kV doc pm : Value) (an : Option Addr) (cdv ct : Value) (us : List Value), us.length = ps.length → bindArgs (PySem.W.fnOf x qual (defArgs st) (defBody st) (defScope st) .none kV doc pm an cdv ct) ⟨us, []⟩ = pure (ps.zip us))
    (hbody : ∀ f cdv A l s H E, A.guards = some [] → Room k (Xf P w K mg base N qual st f cdv A l s H E).A → Takes (Xf P w K mg base N qual st f cdv A l s H E) (WOf E) →
      PassesOwn (model P w) (Xf P w K mg base N qual st f cdv A l s H E).A (Xf P w K mg base N qual st f cdv A l s H E).env (Xf P w K mg base N qual st f cdv A l s H E).xe →
      SB (Xf P w K mg base N qual st f cdv A l s H E) (WOf E) (defBody st) m) : OkM P w K mg base (k + 1) C x (argF ps.length (bodyF N.length m)) := by
  obtain ⟨Ca, g, fd, h1, h2, h3, F⟩ := D0
  exact ⟨Ca, g, h1, h2, h3, F.kp, (fn_body F Sc (hbody g)).s (F.binds hbind)⟩
theorem okMS_mk {C x qual sv pv : Str} {st : Stmt} {N : List Str} {k : Nat} {m : MS} (D0 : DfM K mg C x qual st) (Sc : FnScope N [sv, pv] (defScope st))
    (hbind : ∀ (kV doc pm : Value) (an : Option Addr) (cdv ct : Value) (o : Value) (us : List Value), bindArgs (PySem.W.fnOf x qual (defArgs st) (defBody st) (defScope st) .none kV doc pm an cdv ct) ⟨o :: us, []⟩ = (newTuple us >>= fun t => pure [(sv, o), (pv, t)]))
    (hbody : ∀ f cdv A l s H E, A.guards = some [] → Room k (Xf P w K mg base N qual st f cdv A l s H E).A → Takes (Xf P w K mg base N qual st f cdv A l s H E) (WOf E) →
      PassesOwn (model P w) (Xf P w K mg base N qual st f cdv A l s H E).A (Xf P w K mg base N qual st f cdv A l s H E).env (Xf P w K mg base N qual st f cdv A l s H E).xe →
      SB (Xf P w K mg base N qual st f cdv A l s H E) (WOf E) (defBody st) m) : OkM P w K mg base (k + 1) C x (selfStarF N.length m) := by
  obtain ⟨Ca, g, fd, h1, h2, h3, F⟩ := D0
  refine ⟨Ca, g, h1, h2, h3, F.kp, fn_bodySS F Sc (fun o us => ?_) (hbody g)⟩
  obtain ⟨oc, od, kV, doc, pm, an, cdv, ct, osl, rfl, lk, hcd⟩ := F.ex
  exact hbind kV doc pm an cdv ct o us
theorem okP_mk {C x qual : Str} {st : Stmt} {N ps : List Str} {k : Nat} {m : MS} (D0 : DfP K mg C x qual st) (Sc : FnScope N ps (defScope st))
    (hbind : ∀ (kV doc pm : Value) (an : Option Addr) (cdv ct : Value) (us : List Value), us.length = ps.length → bindArgs (PySem.W.fnOf x qual (defArgs st) (defBody st) (defScope st) .none kV doc pm an cdv ct) ⟨us, []⟩ = pure (ps.zip us))
    (hbody : ∀ f cdv A l s H E, A.guards = some [] → Room k (Xf P w K mg base N qual st f cdv A l s H E).A → Takes (Xf P w K mg base N qual st f cdv A l s H E) (WOf E) →
      PassesOwn (model P w) (Xf P w K mg base N qual st f cdv A l s H E).A (Xf P w K mg base N qual st f cdv A l s H E).env (Xf P w K mg base N qual st f cdv A l s H E).xe →
      SB (Xf P w K mg base N qual st f cdv A l s H E) (WOf E) (defBody st) m) : PrpE P w K mg base (k + 1) x C (argF ps.length (bodyF N.length m)) := by
  obtain ⟨Ca, p, g, fd, h1, h2, h3, F⟩ := D0
  exact ⟨Ca, p, g, h1, h2, h3, (fn_body F Sc (hbody g)).s (F.binds hbind)⟩
/-- a method that nothing is promised of -/
theorem okM_stk {C x qual : Str} {st : Stmt} {k : Nat} (D0 : DfM K mg C x qual st) : OkM P w K mg base k C x (fun _ _ => .stk) := by
  obtain ⟨Ca, g, fd, h1, h2, h3, F⟩ := D0
  exact ⟨Ca, g, h1, h2, h3, F.kp, fnS_stk⟩
theorem ok_stk {x : Str} {st : Stmt} {ps : List Str} {k : Nat} (D0 : Df K mg x st) (hb : ∀ (kV doc pm : Value) (an : Option Addr) (cdv ct : Value) (us : List Value), us.length = ps.length → bindArgs (PySem.W.fnOf x x (defArgs st) (defBody st) (defScope st) .none kV doc pm an cdv ct) ⟨us, []⟩ = pure (ps.zip us)) : Ok P w K mg base k x st ps (fun _ _ => .stk) := by
  obtain ⟨f, fd, F, h⟩ := D0
  exact ⟨f, fd, F, h, F.binds hb, fnG_stk⟩
theorem OkM.mono {j k : Nat} {C x : Str} {F : FD} (h : OkM P w K mg base j C x F) (le : j ≤ k) : OkM P w K mg base k C x F := by
  obtain ⟨Ca, g, h1, h2, h3, h4, h5⟩ := h
  exact ⟨Ca, g, h1, h2, h3, h4, h5.mono le⟩
theorem OkM.spc {k : Nat} {C x : Str} {F : FD} (h : OkM P w K mg base k C x F) : SpcE P w K mg base k x C F := by
  obtain ⟨Ca, g, h1, h2, h3, h4, h5⟩ := h
  exact ⟨Ca, g, h1, h2, h3, h5⟩
theorem OkM.met {k : Nat} {C x : Str} {F : FD} (h : OkM P w K mg base k C x F) (c : ClD K mg C) : MetE P w K mg base k x C F := by
  obtain ⟨Ca, g, h1, h2, h3, h4, h5⟩ := h
  obtain ⟨Cb, h6, h7⟩ := c
  rw [h1] at h6
  cases h6
  exact ⟨Ca, g, h1, h7, ⟨h2, h3, h4⟩, h5⟩
/-- the class can be called -/
def MkD (K : PySem.W.Frag) (mg : Str → Option Value) (C : Str) : Prop := ∃ Ca, mg C = some (.ref Ca) ∧ PySem.W.makesIn K Ca = true ∧ PySem.W.keepIn K (.ref Ca) = true
theorem OkM.mk {k : Nat} {C : Str} {F : FD} (h : OkM P w K mg base k C "__init__" F) (c : MkD K mg C) : MkE P w K mg base k C F := by
  obtain ⟨Ca, g, h1, h2, h3, h4, h5⟩ := h
  obtain ⟨Cb, h6, h7, h8⟩ := c
  rw [h1] at h6
  cases h6
  exact ⟨Ca, g, h1, ⟨h7, h2, h3, h8⟩, h5⟩
/-- no class of all comes first beside C -/
def EqD (K : PySem.W.Frag) (mg : Str → Option Value) (all : List Str) (C : Str) : Prop := ∀ Ca, mg C = some (.ref Ca) → ∀ B ∈ all, ∀ Ba, mg B = some (.ref Ba) → PySem.W.notFirst K Ca (.ref Ba) = true
theorem OkM.eqC {k : Nat} {C : Str} {F : FD} {all : List Str} (h : OkM P w K mg base k C "__eq__" F) (c : EqD K mg all C) : EqC P w K mg base k C F all := by
  obtain ⟨Ca, g, h1, h2, h3, h4, h5⟩ := h
  exact ⟨Ca, g, h1, h2, h3, h5, c Ca h1⟩
/-- C's operator beside the classes all -/
def BinD (K : PySem.W.Frag) (mg : Str → Option Value) (op : Operator) (all : List Str) (C : Str) : Prop := ∃ Ca, mg C = some (.ref Ca) ∧ PySem.W.selfFirst K Ca = true ∧ PySem.W.findIn K (.ref Ca) (PySem.dunderR op.info.2) = some none ∧
  ∀ B ∈ all, B ≠ C → ∃ Ba g2, mg B = some (.ref Ba) ∧ Ca ≠ Ba ∧ PySem.W.selfFirst K Ba = true ∧ PySem.W.findIn K (.ref Ba) (PySem.dunder op.info.2) = some (some (.ref g2)) ∧ PySem.W.findIn K (.ref Ba) (PySem.dunderR op.info.2) = some none ∧ PySem.W.subIn K (.ref Ba) (.ref Ca) = some false
theorem OkM.binC {k : Nat} {C : Str} {F : FD} {all : List Str} {op : Operator} {x : Str} (h : OkM P w K mg base k C x F) (c : BinD K mg op all C) (hx : x = PySem.dunder op.info.2 := by rfl) : BinC P w K mg base k op C F all := by
  subst hx
  obtain ⟨Ca, g, h1, h2, h3, h4, h5⟩ := h
  obtain ⟨Cb, h6, h7, h8, h9⟩ := c
  rw [h1] at h6
  cases h6
  exact ⟨Ca, g, h1, h2, h3, h5, h7, h8, h9⟩
/-- {x} goes by str(x) -/
def FmtD (K : PySem.W.Frag) (mg : Str → Option Value) (C : Str) : Prop := ∃ Ca, mg C = some (.ref Ca) ∧ PySem.W.findIn K (.ref Ca) "__format__" = some (some (.builtin "object.__format__")) ∧ PySem.W.mroIn K Ca (.type "object") = some true
end
/-! tables by class -/
theorem lk_nil {p : Str → FD → Prop} : ∀ C F, ([] : List (Str × FD)).lookup C = some F → p C F := fun _ _ h => nomatch h
theorem lk_cons {p : Str → FD → Prop} {C0 : Str} {F0 : FD} {tl : List (Str × FD)} (h0 : p C0 F0) (ht : ∀ C F, tl.lookup C = some F → p C F) : ∀ C F, ((C0, F0) :: tl).lookup C = some F → p C F := fun C F h => by
  rw [List.lookup_cons] at h
  split at h
  · rename_i e
    cases h
    rw [beq_iff_eq.mp e]
    exact h0
  · exact ht C F h
end Q
end
section
set_option Elab.async false
set_option linter.all false
set_option maxRecDepth 100000
namespace Q
open PySem PySem.Spec L2
variable [Tb]
section
variable {X : Cx} {W : WX} {e e1 e2 : Expr} {es : List Expr} {pos : Pos} {me : ME}
/-- the texts one behind the other -/
def mJs : List ME → Str → ME
  | [], acc => fun _ c => .ok (.str acc) c
  | m :: ms, acc => fun env c => (m env c).bind fun d c => match d with
    | .str y => if (acc ++ y).length ≤ sizeLine then mJs ms (acc ++ y) env c else .stk
    | _ => .stk
def SJ (X : Cx) (W : WX) (es : List Expr) (ms : List ME) : Prop :=
  ∃ ts, PJ X es ts ∧ ∀ acc S sg env Qv, Good (wd X) S → EnvAt (wd X) S sg env → Post (wd X) S (mJs ms acc env S.c) Qv (WE W sg) → tJs ts acc sg S.H (fun out H => Qv (.str out) H)
theorem sj_nil : SJ X W [] [] := ⟨[], .nil, fun acc S sg env Qv g en z => z S (.str acc) g rfl .refl rfl⟩
theorem sj_cons {ms : List ME} (he : SE X W e me) (hr : SJ X W es ms) : SJ X W (e :: es) (me :: ms) := by
  obtain ⟨t, p, q⟩ := he
  obtain ⟨ts, ps, qs⟩ := hr
  refine ⟨t :: ts, .cons p ps, fun acc S sg env Qv g en z => ?_⟩
  refine q S sg env _ g en (post_bind z fun d S1 v e1 g1 x1 a1 p1 => ?_)
  split at p1
  · rename_i y
    split at p1
    · rename_i hz
      exact ⟨y, a1, hz, qs (acc ++ y) S1 sg env Qv g1 (en.ext x1) p1⟩
    · exact p1.elim
  · exact p1.elim
theorem se_js {ms : List ME} (h : SJ X W (e1 :: e2 :: es) ms) : SE X W (.JoinedStr (e1 :: e2 :: es) pos) (mJs ms Str.empty) := by
  obtain ⟨ts, p, q⟩ := h
  exact ⟨_, pe_joined p, fun S sg env Qv g en z => q Str.empty S sg env Qv g en z⟩
theorem se_js1 (h : SE X W e me) : SE X W (.JoinedStr [e] pos) me := by
  obtain ⟨t, p, q⟩ := h
  exact ⟨t, pe_joined1 p, q⟩
def fFmt : D → Cells → O
  | .str y, c => if y.length ≤ sizeLine then some (.str y, c) else none
  | .int i, c => if i.natAbs.log2 < 1920 then some (.str (toString i), c) else none
  | _, _ => none
theorem se_fmt (h : SE X W e me) : SE X W (.FormattedValue e (-1) none pos) (m1 fFmt me) := by
  obtain ⟨t, p, q⟩ := h
  refine ⟨_, pe_fmt p, fun S sg env Qv g en z => ?_⟩
  refine q S sg env _ g en (post_bind z fun d S1 v e1 g1 x1 a1 p1 => ?_)
  obtain ⟨r, c', e3, q3⟩ := p1.o.some
  unfold fFmt at e3
  split at e3
  · split at e3
    · rename_i hz
      cases e3
      exact .inl ⟨_, a1, hz, q3 S1 _ g1 rfl .refl rfl⟩
    · cases e3
  · split at e3
    · rename_i hz
      cases e3
      exact .inr ⟨_, a1, hz, q3 S1 _ g1 rfl .refl rfl⟩
    · cases e3
  · cases e3
def fFmtR : D → Cells → O
  | .str y, c => if (reprText y).length ≤ sizeLine then some (.str (reprText y), c) else none
  | .int i, c => if i.natAbs.log2 < 1920 then some (.str (toString i), c) else none
  | _, _ => none
theorem se_fmtR (h : SE X W e me) : SE X W (.FormattedValue e 114 none pos) (m1 fFmtR me) := by
  obtain ⟨t, p, q⟩ := h
  refine ⟨_, pe_fmtR p, fun S sg env Qv g en z => ?_⟩
  refine q S sg env _ g en (post_bind z fun d S1 v e1 g1 x1 a1 p1 => ?_)
  obtain ⟨r, c', e3, q3⟩ := p1.o.some
  unfold fFmtR at e3
  split at e3
  · split at e3
    · rename_i hz
      cases e3
      exact .inl ⟨_, a1, hz, q3 S1 _ g1 rfl .refl rfl⟩
    · cases e3
  · split at e3
    · rename_i hz
      cases e3
      exact .inr ⟨_, a1, hz, q3 S1 _ g1 rfl .refl rfl⟩
    · cases e3
  · cases e3
end
end Q
end
section
set_option Elab.async false
set_option linter.all false
set_option maxRecDepth 100000
namespace Q
open PySem PySem.Spec L2
variable [Tb]
section
variable {X : Cx} {W : WX} {a b d : Expr} {pos : Pos} {ma mb md : ME}
theorem AtL.three {T : Wd} {S : Sta} {xs : List V} {d d' d2 : D} (h : AtL T S xs [d, d', d2]) : ∃ v v' v2, xs = [v, v', v2] ∧ At T S v d ∧ At T S v' d' ∧ At T S v2 d2 := by
  match xs, h with
  | [v, v', v2], h => exact ⟨v, v', v2, rfl, h.1, h.2.1, h.2.2.1⟩
  | [], h => exact h.elim
  | [_], h => exact h.2.elim
  | [_, _], h => exact h.2.2.elim
  | _ :: _ :: _ :: _ :: _, h => exact h.2.2.2.elim
/-- x, y, z = a, b, d with plain names -/
def sPar3 (i j l : Nat) (ma mb md : ME) : MS := fun env c => (ma env c).st env fun x c => (mb env c).st env fun y c => (md env c).st env fun z c => .ok (.nx (((env.set i (some x)).set j (some y)).set l (some z))) c
theorem ss_par3 {i j l : Nat} {x y z : Str} {px py pz pt : Pos} {kt k2 pt2} (hc : X.calm = true) (hN : X.N.Nodup) (ha : SE X W a ma) (hb : SE X W b mb) (hd : SE X W d md) (hi : X.N[i]? = some x := by rfl) (hj : X.N[j]? = some y := by rfl) (hl : X.N[l]? = some z := by rfl)
    (hij : i ≠ j := by decide) (hil : i ≠ l := by decide) (hjl : j ≠ l := by decide)
    (hx : X.env.scope.names.lookup x = some .local := by rfl) (hy : X.env.scope.names.lookup y = some .local := by rfl) (hz : X.env.scope.names.lookup z = some .local := by rfl)
    (hw : swappedStores [.Tuple [.Name x px, .Name y py, .Name z pz] kt pt] (.Tuple [a, b, d] k2 pt2) X.env = pure (some [x, y, z]) := by rfl)
    (hs : swapsWithSole [.Tuple [.Name x px, .Name y py, .Name z pz] kt pt] (.Tuple [a, b, d] k2 pt2) pos.line X.env = pure false := by rfl) (h1 : starEach [a, b, d] X.env = (false, eval a X.env) :: starEach [b, d] X.env := by rfl) (h2 : starEach [b, d] X.env = (false, eval b X.env) :: starEach [d] X.env := by rfl) (h3 : starEach [d] X.env = (false, eval d X.env) :: starEach [] X.env := by rfl) :
    SS X W (.Assign [.Tuple [.Name x px, .Name y py, .Name z pz] kt pt] (.Tuple [a, b, d] k2 pt2) pos) (sPar3 i j l ma mb md) := by
  obtain ⟨t, p, q⟩ := sa_cons ha (sa_cons hb (sa_cons hd sa_nil h3) h2) h1
  refine PS.imp (ps_par3 hc hN hi hj hl hij hil hjl hx hy hz p hw hs) fun D sg H ⟨S, env, e, g, en, z⟩ => ?_
  subst e
  refine q S sg env _ g en ?_
  show PostG _ _ _ ((ma env S.c).bind fun d c => ((mCons mb (mCons md mNil) env c).bind fun ds c => R.ok (d :: ds) c)) _ _
  have z : PostS (wd X) S ((ma env S.c).st env fun x c => (mb env c).st env fun y c => (md env c).st env fun z c => .ok (.nx (((env.set i (some x)).set j (some y)).set l (some z))) c) D W := z
  cases e1 : ma env S.c with
  | stk => rw [e1] at z; exact z.elim
  | err y c => rw [e1] at z; exact fun S' cls dd g hc x1 z1 => z S' sg cls dd g hc x1 (en.ext x1) z1
  | ok d1 c1 =>
    rw [e1] at z
    have z : PostS (wd X) S ((mb env c1).st env fun y c => (md env c).st env fun z c => .ok (.nx (((env.set i (some d1)).set j (some y)).set l (some z))) c) D W := z
    show PostG _ _ _ (((mb env c1).bind fun d c => ((md env c).bind fun d c => R.ok [d] c).bind fun ds c => R.ok (d :: ds) c).bind fun ds c => R.ok (d1 :: ds) c) _ _
    cases e2 : mb env c1 with
    | stk => rw [e2] at z; exact z.elim
    | err y c => rw [e2] at z; exact fun S' cls dd g hc x1 z1 => z S' sg cls dd g hc x1 (en.ext x1) z1
    | ok d2 c2 =>
      rw [e2] at z
      have z : PostS (wd X) S ((md env c2).st env fun z c => .ok (.nx (((env.set i (some d1)).set j (some d2)).set l (some z))) c) D W := z
      show PostG _ _ _ ((((md env c2).bind fun d c => R.ok [d] c).bind fun ds c => R.ok (d2 :: ds) c).bind fun ds c => R.ok (d1 :: ds) c) _ _
      cases e3 : md env c2 with
      | stk => rw [e3] at z; exact z.elim
      | err y c => rw [e3] at z; exact fun S' cls dd g hc x1 z1 => z S' sg cls dd g hc x1 (en.ext x1) z1
      | ok d3 c3 =>
        rw [e3] at z
        intro S' vs g' hc x1 al
        obtain ⟨v, w', v2, rfl, av, aw, a2⟩ := AtL.three al
        exact ⟨v, w', v2, rfl, z S' _ g' hc x1 ((((en.ext x1).set i av).set j aw).set l a2)⟩
end
end Q
end
section
set_option Elab.async false
set_option linter.all false
set_option maxRecDepth 100000
namespace Q
open PySem PySem.Spec L2
variable [Tb]
/-- levels of defs that call one another -/
def lv (B : Nat) : Nat → Nat
  | 0 => B
  | n + 1 => lv B n + 3
theorem lv_le {B k : Nat} (h : k ≤ B) : ∀ n, k ≤ lv B n
  | 0 => h
  | n + 1 => Nat.le_trans (lv_le h n) (Nat.le_add_right _ _)
theorem lv_le2 {B k : Nat} (n : Nat) (h : k ≤ B) : k ≤ lv B n + 2 := Nat.le_trans (lv_le h n) (Nat.le_add_right _ _)
theorem lv_le1 {B k : Nat} (n : Nat) (h : k ≤ B) : k ≤ lv B n + 1 := Nat.le_trans (lv_le h n) (Nat.le_add_right _ _)
section
variable {P : Program} {w : World} {K : PySem.W.Frag} {mg : Str → Option Value} {base : Heap}
theorem PrpE.mono {j k : Nat} {f C : Str} {F : FD} (h : PrpE P w K mg base j f C F) (le : j ≤ k) : PrpE P w K mg base k f C F := by
  obtain ⟨Ca, p, g, h1, h2, h3, h4⟩ := h
  exact ⟨Ca, p, g, h1, h2, h3, h4.mono le⟩
theorem Ok.mono {j k : Nat} {x : Str} {st : Stmt} {ps : List Str} {F : FD} (h : Ok P w K mg base j x st ps F) (le : j ≤ k) : Ok P w K mg base k x st ps F := by
  obtain ⟨f, fd, F, h1, h2, h3⟩ := h
  exact ⟨f, fd, F, h1, h2, h3.mono le⟩
end
section
variable {X : Cx} {k : Nat}
/-- str(x) of a text -/
def bStrS : List D → Cells → O
  | [.str y], c => some (.str y, c)
  | _, _ => none
theorem bStrS_ok : CaF X (.type "str") bStrS := by
  refine ⟨_, SkE.call_str_str, fun S xs ds Qv g ax p => ?_⟩
  obtain ⟨d, c, e, q⟩ := p.some
  unfold bStrS at e
  split at e
  · cases e
    obtain ⟨v, rfl, a⟩ := ax.one
    cases (show v = _ from a)
    exact ⟨_, rfl, q S _ g rfl .refl rfl⟩
  · cases e
/-- x == y with an instance on one side -/
noncomputable def fEqO (tbl : List (Str × FD)) (all : List Str) : D → D → Cells → O := orO (opB (bOwnA tbl all)) (opB (bRefl tbl))
theorem fEqO_ok {tbl : List (Str × FD)} {all : List Str} (ht : ∀ C F, tbl.lookup C = some F → EqC X.prog X.w X.K X.mg X.base k C F all) (hc : ∀ C F, tbl.lookup C = some F → RefC X.K X.mg C) (hr : Room k X.A) (gd : X.A.guards = some []) : OpF X (compareOp .Eq) (fEqO tbl all) :=
  ((rcQ_ownA ht).op hr gd).or ((rcQ_refl ht hc).op hr gd)
/-- tuples of instances -/
noncomputable def fEqTO (tbl : List (Str × FD)) (all : List Str) : D → D → Cells → O := opB (bTupB (bOwn tbl all))
theorem fEqTO_ok {tbl : List (Str × FD)} {all : List Str} (ht : ∀ C F, tbl.lookup C = some F → EqC X.prog X.w X.K X.mg X.base k C F all) (hr : Room (k + 1) X.A) (gd : X.A.guards = some []) : OpF X (compareOp .Eq) (fEqTO tbl all) :=
  (rcQ_tup (eqQ_own ht)).op hr gd
end
end Q
end
section
set_option Elab.async false
set_option linter.all false
set_option maxRecDepth 100000
namespace Q
open PySem PySem.Spec L2
variable [Tb]
/-! ### the head's facts of own classes -/
abbrev btys : List String := ["NoneType", "bool", "int", "str", "list", "tuple", "dict"]
/-- what k_is tells of one class with instances -/
structure CF (K : PySem.W.Frag) (C : Addr) : Prop where
  pg : PySem.W.plainGet K C Str.empty = true
  hd : PySem.W.hasDictIn K C = true
  po : PySem.W.plainOver K C = true
  sa : PySem.W.findIn K (.ref C) "__setattr__" = some (some (.builtin "object.__setattr__"))
  ca : PySem.W.findIn K (.ref C) "__class__" = some (some (.builtin "object.__class__"))
  mo : PySem.W.mroIn K C (.type "object") = some true
  tC : PySem.W.typeIn K (.ref C) = some (.type "type")
  kC : PySem.W.keepIn K (.ref C) = true
  mkk : PySem.W.makesIn K C = true
  sf : PySem.W.selfFirst K C = true
  ne : PySem.W.findIn K (.ref C) "__ne__" = some (some (.builtin "object.__ne__"))
  fm : PySem.W.findIn K (.ref C) "__format__" = some (some (.builtin "object.__format__"))
  ra : PySem.W.findIn K (.ref C) "__rand__" = some none
  ro : PySem.W.findIn K (.ref C) "__ror__" = some none
  bt : ∀ t ∈ btys, PySem.W.subIn K (.ref C) (.type t) = some false
/-- the classes L, by their names -/
structure Fam (K : PySem.W.Frag) (mg : Str → Option Value) (L : List (Str × Addr)) : Prop where
  hn : PySem.W.specialIn K (.builtin "object.__class__") "__get__" = some (some (.builtin "getset_descriptor.__get__"))
  ht : PySem.W.takesIn K (.builtin "object.__class__") = some true
  nm : ∀ p ∈ L, mg p.1 = some (.ref p.2)
  cf : ∀ p ∈ L, CF K p.2
  su : ∀ p ∈ L, ∀ q ∈ L, PySem.W.subIn K (.ref p.2) (.ref q.2) = some (decide (p.1 = q.1))
section
variable {K : PySem.W.Frag} {h : Heap} {mg : Str → Option Value} {L : List (Str × Addr)} {C : Str} {Ca : Addr}
theorem CF.cls {a : Addr} (f : CF K a) : Cls K a := ⟨f.pg, f.hd, f.po, f.sa⟩
theorem Fam.own (F : Fam K mg L) {p : Str × Addr} (hp : p ∈ L) : OwnTy K p.2 := ⟨(F.cf p hp).cls, (F.cf p hp).ca, F.hn, F.ht, (F.cf p hp).mo⟩
theorem Fam.clD (F : Fam K mg L) (hp : (C, Ca) ∈ L) : ClD K mg C := ⟨Ca, F.nm _ hp, (F.cf _ hp).cls⟩
theorem Fam.mkD (F : Fam K mg L) (hp : (C, Ca) ∈ L) : MkD K mg C := ⟨Ca, F.nm _ hp, (F.cf _ hp).mkk, (F.cf _ hp).kC⟩
theorem Fam.neC (F : Fam K mg L) (hp : (C, Ca) ∈ L) : NeC K mg C := ⟨Ca, F.nm _ hp, (F.cf _ hp).ne, (F.cf _ hp).mo⟩
theorem Fam.refC (F : Fam K mg L) (hp : (C, Ca) ∈ L) : RefC K mg C := ⟨Ca, F.nm _ hp, (F.cf _ hp).bt⟩
theorem Fam.fmtD (F : Fam K mg L) (hp : (C, Ca) ∈ L) : FmtD K mg C := ⟨Ca, F.nm _ hp, (F.cf _ hp).fm, (F.cf _ hp).mo⟩
theorem Fam.fld (F : Fam K mg L) (hp : (C, Ca) ∈ L) {f : Str} (no : PySem.W.findIn K (.ref Ca) f = some none) : FldIn K mg [C] f := fun B hB => by
  rw [List.mem_singleton.mp hB]
  exact ⟨Ca, F.nm _ hp, (F.cf _ hp).cls, no⟩
theorem Fam.eqD (F : Fam K mg L) (hp : (C, Ca) ∈ L) {all : List Str} (ha : all = L.map (·.1)) : EqD K mg all C := fun Cb hC B hB Ba hBa => by
  subst ha
  obtain ⟨q, hq, rfl⟩ := List.mem_map.mp hB
  have e1 : mg C = some (.ref Ca) := F.nm _ hp
  have eC : Cb = Ca := by
    rw [hC] at e1
    cases e1
    rfl
  have e2 : mg q.1 = some (.ref q.2) := F.nm _ hq
  have eB : Ba = q.2 := by
    rw [hBa] at e2
    cases e2
    rfl
  rw [eC, eB]
  unfold PySem.W.notFirst
  have s : PySem.W.subIn K (.ref q.2) (.ref Ca) = some (decide (q.1 = C)) := F.su q hq _ hp
  by_cases z : q.1 = C
  · have e5 : q.2 = Ca := by
      rw [z, e1] at e2
      cases e2
      rfl
    rw [e5]
    simp
  · rw [s, decide_eq_false z]
    simp
/-- an operator: none of the classes has the reflected one -/
theorem Fam.binD (F : Fam K mg L) {op : Operator} (hp : (C, Ca) ∈ L) {all : List Str} (ha : all = L.map (·.1)) (hr : ∀ p ∈ L, PySem.W.findIn K (.ref p.2) (PySem.dunderR op.info.2) = some none) (hd : ∀ p ∈ L, ∃ g, PySem.W.findIn K (.ref p.2) (PySem.dunder op.info.2) = some (some (.ref g))) : BinD K mg op all C := by
  subst ha
  refine ⟨Ca, F.nm _ hp, (F.cf _ hp).sf, hr _ hp, fun B hB ne => ?_⟩
  obtain ⟨q, hq, rfl⟩ := List.mem_map.mp hB
  obtain ⟨g2, h2⟩ := hd q hq
  have s := F.su q hq _ hp
  rw [show decide (q.1 = (C, Ca).1) = false from decide_eq_false ne] at s
  refine ⟨q.2, g2, F.nm _ hq, fun z => ?_, (F.cf _ hq).sf, h2, hr _ hq, s⟩
  have s2 := F.su _ hp _ hp
  rw [show decide ((C, Ca).1 = (C, Ca).1) = true from decide_eq_true rfl] at s2
  have s3 : PySem.W.subIn K (.ref q.2) (.ref Ca) = some false := s
  have s4 : PySem.W.subIn K (.ref Ca) (.ref Ca) = some true := s2
  rw [← z, s4] at s3
  cases s3
theorem kit_sub {A B : Addr} {b : Bool} (hB : PySem.W.hasDictIn K B = true) (tB : PySem.W.typeIn K (.ref B) = some (.type "type")) (s : PySem.W.subIn K (.ref A) (.ref B) = some b) (hb : A = B → b = true) : PySem.W.kitOne K (.ref A) (.ref B) = some b := by
  obtain ⟨cd, hc, _⟩ := PySem.W.any_some hB
  unfold PySem.W.kitOne
  split
  · rename_i z
    rw [hb (by have := eq_of_beq z; cases this; rfl)]
  · show (if ((PySem.W.clsIn K B).isSome && PySem.W.typeIn K (.ref B) == some (.type "type")) = true then PySem.W.subIn K (.ref A) (.ref B) else none) = _
    rw [hc, tB, if_pos (by rfl)]
    exact s
theorem kit_bt {B : Addr} (hB : PySem.W.hasDictIn K B = true) (tB : PySem.W.typeIn K (.ref B) = some (.type "type")) : ∀ t ∈ btys, PySem.W.kitOne K (.type t) (.ref B) = some false := fun t ht => by
  obtain ⟨cd, hc, _⟩ := PySem.W.any_some hB
  unfold PySem.W.kitOne
  split
  · rename_i z
    have := eq_of_beq z
    cases this
  · show (if ((PySem.W.clsIn K B).isSome && PySem.W.typeIn K (.ref B) == some (.type "type")) = true then PySem.W.subIn K (.type t) (.ref B) else none) = _
    rw [hc, tB, if_pos (by rfl)]
    exact sub_bt t ht
/-- isinstance(x, T) for a class T: a table of the classes L -/
theorem Fam.isD (F : Fam K mg L) {T : Str} {Ta : Addr} (hT : mg T = some (.ref Ta)) (hB : PySem.W.hasDictIn K Ta = true) (tB : PySem.W.typeIn K (.ref Ta) = some (.type "type")) {cls : List (Str × Bool)} (hs : ∀ B b, cls.lookup B = some b → ∃ Ba, (B, Ba) ∈ L ∧ PySem.W.subIn K (.ref Ba) (.ref Ta) = some b ∧ (Ba = Ta → b = true)) : IsD K mg cls T :=
  ⟨Ta, hT, kit_bt hB tB, fun B b e => by
    obtain ⟨Ba, h1, h2, h3⟩ := hs B b e
    exact ⟨Ba, F.nm _ h1, F.own h1, kit_sub hB tB h2 h3⟩⟩
theorem look_bnil {p : Str → Bool → Prop} : ∀ B b, ([] : List (Str × Bool)).lookup B = some b → p B b := fun _ _ h => nomatch h
theorem look_bcons {p : Str → Bool → Prop} {C0 : Str} {b0 : Bool} {tl : List (Str × Bool)} (h0 : p C0 b0) (ht : ∀ C b, tl.lookup C = some b → p C b) : ∀ C b, ((C0, b0) :: tl).lookup C = some b → p C b := fun C b h => by
  rw [List.lookup_cons] at h
  split at h
  · rename_i e
    cases h
    rw [beq_iff_eq.mp e]
    exact h0
  · exact ht C b h
/-- a false answer: other classes -/
theorem sub_ne {A B : Addr} (s : PySem.W.subIn K (.ref A) (.ref B) = some false) (s2 : PySem.W.subIn K (.ref B) (.ref B) = some true) : A = B → false = true := fun z => by
  rw [z, s2] at s
  cases s
section
variable {x q : Str} {st : Stmt} {g pp : Addr} {oc : Value} {od an : Option Addr} {osl : Array (Option Value)} {kV doc pm cdv ct : Value}
theorem dfm_mk (F : Fam K mg L) (hp : (C, Ca) ∈ L) (i : PySem.W.findIn K (.ref Ca) x = some (some (.ref g))) (t : PySem.W.isFn K (.ref g) = true)
    (l : K.lookup g = some ⟨oc, od, .func (PySem.W.fnOf x q (defArgs st) (defBody st) (defScope st) .none kV doc pm an cdv ct), osl⟩) (c : PySem.W.codeIn K cdv q = true) (k : PySem.W.keepIn K (.ref g) = true) : DfM K mg C x q st := ⟨Ca, g, _, F.nm _ hp, i, t, fun_mk l c k⟩
theorem dfp_mk (F : Fam K mg L) (hp : (C, Ca) ∈ L) {rest : List Value} (i : PySem.W.findIn K (.ref Ca) x = some (some (.ref pp))) (gt : PySem.W.specialIn K (.ref pp) "__get__" = some (some (.builtin "property.__get__"))) (tk : PySem.W.takesIn K (.ref pp) = some true) (rc : PySem.W.recIn K pp "property" = some (.ref g :: rest))
    (l : K.lookup g = some ⟨oc, od, .func (PySem.W.fnOf x q (defArgs st) (defBody st) (defScope st) .none kV doc pm an cdv ct), osl⟩) (c : PySem.W.codeIn K cdv q = true) (k : PySem.W.keepIn K (.ref g) = true) : DfP K mg C x q st := ⟨Ca, pp, g, _, F.nm _ hp, (F.cf _ hp).cls, ⟨i, gt, tk, rest, rc⟩, fun_mk l c k⟩
end
end
end Q
end
section
set_option Elab.async false
set_option linter.all false
set_option maxRecDepth 100000
set_option maxHeartbeats 2000000
namespace K13
open PySem PySem.Spec L2 Q
variable [Tb]
def topS (i : Nat) : Stmt := PySem.Challenge.pw_heldranks_k13_texts_and_equal_terms.main.body.getD i (.Pass ⟨0, 0, 0, 0⟩)
/-! ### is_end -/
abbrev N_is_end : List Str := ["value"]
theorem sc_is_end : FnScope N_is_end ["value"] (defScope (topS 9)) := ⟨rfl, rfl, rfl, by decide +kernel, rfl, by decide +kernel, by decide +kernel⟩
noncomputable def m_is_end : MS := (sRet (mAndV (m1 (fIsi ["str"]) (mVar 0)) (m2 fIn (mVar 0) (mTup (mCons (mC (.str "bottom")) (mCons (mC (.str "top")) mNil))))))
noncomputable def F_is_end : FD := (bodyF 1 m_is_end)
theorem o_is_end {P : Program} {w : World} {K : PySem.W.Frag} {mg : Str → Option Value} {base : Heap} (D0 : Df K mg "is_end" (topS 9)) (n_str : mg "str" = none) (n_isinstance : mg "isinstance" = none) (c_TOP : ∃ t, mg "TOP" = some (.str "top" t)) (c_BOTTOM : ∃ t, mg "BOTTOM" = some (.str "bottom" t))  : Ok P w K mg base 3 "is_end" (topS 9) ["value"] F_is_end := by
  obtain ⟨_, c_TOP⟩ := c_TOP
  obtain ⟨_, c_BOTTOM⟩ := c_BOTTOM
  have nd := sc_is_end.nd
  exact ok_mk (k := 2) D0 sc_is_end (fun _ _ _ _ _ _ us hl => match us, hl with | [_], _ => rfl) fun f cdv A l s H E gd hr tk po =>
    (sb_one (ss_ret (se_and (se_isi (v 0) (gTy n_str) n_isinstance) (se_one (se_cmp fIn_ok (v 0) (se_tup (sa_cons (gStr c_BOTTOM) (sa_cons (gStr c_TOP) sa_nil))) rfl)))))
/-! ### is_place -/
abbrev N_is_place : List Str := ["value"]
theorem sc_is_place : FnScope N_is_place ["value"] (defScope (topS 13)) := ⟨rfl, rfl, rfl, by decide +kernel, rfl, by decide +kernel, by decide +kernel⟩
noncomputable def m_is_place : MS := (sRet (mAndV (m1 (fIsi ["str"]) (mVar 0)) (mOrV (m2 fIn (mVar 0) (mC (.tup ((["r0", "r1", "r2", "r3", "r4", "r5"] : List Str).map D.str)))) (m2 fIn (mVar 0) (mC (.tup ((["x0", "x1"] : List Str).map D.str)))))))
noncomputable def F_is_place : FD := (bodyF 1 m_is_place)
theorem o_is_place {P : Program} {w : World} {K : PySem.W.Frag} {mg : Str → Option Value} {base : Heap} (D0 : Df K mg "is_place" (topS 13)) (n_str : mg "str" = none) (n_isinstance : mg "isinstance" = none) (k_REGISTERS : KT K mg "REGISTERS" ["r0", "r1", "r2", "r3", "r4", "r5"]) (k_INPUTS : KT K mg "INPUTS" ["x0", "x1"])  : Ok P w K mg base 3 "is_place" (topS 13) ["value"] F_is_place := by
  have nd := sc_is_place.nd
  exact ok_mk (k := 2) D0 sc_is_place (fun _ _ _ _ _ _ us hl => match us, hl with | [_], _ => rfl) fun f cdv A l s H E gd hr tk po =>
    (sb_one (ss_ret (se_and (se_isi (v 0) (gTy n_str) n_isinstance) (se_one (se_or (se_cmp fIn_ok (v 0) (se_kt k_REGISTERS) rfl) (se_one (se_cmp fIn_ok (v 0) (se_kt k_INPUTS) rfl)))))))
/-! ### _check_terms -/
abbrev N__check_terms : List Str := ["terms", "term"]
theorem sc__check_terms : FnScope N__check_terms ["terms"] (defScope (topS 15)) := ⟨rfl, rfl, rfl, by decide +kernel, rfl, by decide +kernel, by decide +kernel⟩
noncomputable def m__check_terms : MS := (sFor (mWalk (mVar 0)) (gN 1)
  (sIf (mNot (mTru (m1 (fIsO [("Place", true), ("End", true), ("Lesser", true), ("Greater", true)]) (mVar 1)))) (sRaise "InvalidTerm" ["value"] (mCons (mVar 1) mNil)) sNil))
noncomputable def F__check_terms : FD := (bodyF 2 m__check_terms)
theorem o__check_terms {P : Program} {w : World} {K : PySem.W.Frag} {mg : Str → Option Value} {base : Heap} (D0 : Df K mg "_check_terms" (topS 15)) (is_Term : IsD K mg [("Place", true), ("End", true), ("Lesser", true), ("Greater", true)] "Term") (n_isinstance : mg "isinstance" = none) (x_InvalidTerm : ExD P w K mg base "InvalidTerm")  : Ok P w K mg base 3 "_check_terms" (topS 15) ["terms"] F__check_terms := by
  have nd := sc__check_terms.nd
  exact ok_mk (k := 2) D0 sc__check_terms (fun _ _ _ _ _ _ us hl => match us, hl with | [_], _ => rfl) fun f cdv A l s H E gd hr tk po =>
    (sb_one (ss_for po rfl (si_walk (v 0)) (sg_name (i := 1) nd)
    (sb_one (ss_if (st_not (st_truth (se_iso (cls := [("Place", true), ("End", true), ("Lesser", true), ("Greater", true)]) (v 1) is_Term n_isinstance))) (sb_one (ss_raiseX rfl tk x_InvalidTerm hr (sa_cons (v 1) sa_nil))) sb_nil))))
/-! ### _checked_parts -/
abbrev N__checked_parts : List Str := ["terms"]
theorem sc__checked_parts : FnScope N__checked_parts ["terms"] (defScope (topS 14)) := ⟨rfl, rfl, rfl, by decide +kernel, rfl, by decide +kernel, by decide +kernel⟩
noncomputable def m__checked_parts : MS := (sSeq (sIf (mT (m2 fLt (mCall bLen (mCons (mVar 0) mNil)) (mC (.int 2)))) (sRaise "InvalidTerm" ["value"] (mCons (mC .non) mNil)) sNil)
  (sSeq (sExpr (mFn F__check_terms 1 (mCons (mVar 0) mNil)))
  (sRet (mVar 0))))
noncomputable def F__checked_parts : FD := (bodyF 1 m__checked_parts)
theorem o__checked_parts {P : Program} {w : World} {K : PySem.W.Frag} {mg : Str → Option Value} {base : Heap} (D0 : Df K mg "_checked_parts" (topS 14)) (n_len : mg "len" = none) (x_InvalidTerm : ExD P w K mg base "InvalidTerm") (o__check_terms : Ok P w K mg base 3 "_check_terms" (topS 15) ["terms"] F__check_terms) : Ok P w K mg base 4 "_checked_parts" (topS 14) ["terms"] F__checked_parts := by
  have nd := sc__checked_parts.nd
  exact ok_mk (k := 3) D0 sc__checked_parts (fun _ _ _ _ _ _ us hl => match us, hl with | [_], _ => rfl) fun f cdv A l s H E gd hr tk po =>
    (sb_cons (ss_if (st_cmp fLt_ok (se_callB bLen_ok n_len (sa_cons (v 0) sa_nil)) se_int rfl) (sb_one (ss_raiseX rfl tk x_InvalidTerm hr (sa_cons se_non sa_nil))) sb_nil)
    (sb_cons (ss_expr (se_ok (le := (by decide)) o__check_terms hr gd tk (sa_cons (v 0) sa_nil)))
    (sb_one (ss_ret (v 0)))))
/-! ### End_depth -/
abbrev N_End_depth : List Str := ["self"]
theorem sc_End_depth : FnScope N_End_depth ["self"] (defScope (clsAt (topS 21) 2)) := ⟨rfl, rfl, rfl, by decide +kernel, rfl, by decide +kernel, by decide +kernel⟩
noncomputable def m_End_depth : MS := (sRet (mC (.int 0)))
noncomputable def F_End_depth : FD := (argF 1 (bodyF 1 m_End_depth))
theorem o_End_depth {P : Program} {w : World} {K : PySem.W.Frag} {mg : Str → Option Value} {base : Heap} (D0 : DfP K mg "End" "depth" "End.depth" (clsAt (topS 21) 2))   : PrpE P w K mg base 3 "depth" "End" F_End_depth := by
  have nd := sc_End_depth.nd
  exact okP_mk (k := 2) D0 sc_End_depth (fun _ _ _ _ _ _ us hl => match us, hl with | [_], _ => rfl) fun f cdv A l s H E gd hr tk po =>
    (sb_one (ss_ret se_int))
/-! ### Greater_depth -/
abbrev N_Greater_depth : List Str := ["self"]
theorem sc_Greater_depth : FnScope N_Greater_depth ["self"] (defScope (clsAt (topS 23) 2)) := ⟨rfl, rfl, rfl, by decide +kernel, rfl, by decide +kernel, by decide +kernel⟩
noncomputable def m_Greater_depth : MS := (sRet (m1 (fFld ["Greater"] "_depth") (mVar 0)))
noncomputable def F_Greater_depth : FD := (argF 1 (bodyF 1 m_Greater_depth))
theorem o_Greater_depth {P : Program} {w : World} {K : PySem.W.Frag} {mg : Str → Option Value} {base : Heap} (D0 : DfP K mg "Greater" "depth" "Greater.depth" (clsAt (topS 23) 2)) (fl_depth_Greater : FldIn K mg ["Greater"] "_depth")  : PrpE P w K mg base 3 "depth" "Greater" F_Greater_depth := by
  have nd := sc_Greater_depth.nd
  exact okP_mk (k := 2) D0 sc_Greater_depth (fun _ _ _ _ _ _ us hl => match us, hl with | [_], _ => rfl) fun f cdv A l s H E gd hr tk po =>
    (sb_one (ss_ret (se_fld (cls := ["Greater"]) (v 0) fl_depth_Greater)))
/-! ### Lesser_depth -/
abbrev N_Lesser_depth : List Str := ["self"]
theorem sc_Lesser_depth : FnScope N_Lesser_depth ["self"] (defScope (clsAt (topS 22) 2)) := ⟨rfl, rfl, rfl, by decide +kernel, rfl, by decide +kernel, by decide +kernel⟩
noncomputable def m_Lesser_depth : MS := (sRet (m1 (fFld ["Lesser"] "_depth") (mVar 0)))
noncomputable def F_Lesser_depth : FD := (argF 1 (bodyF 1 m_Lesser_depth))
theorem o_Lesser_depth {P : Program} {w : World} {K : PySem.W.Frag} {mg : Str → Option Value} {base : Heap} (D0 : DfP K mg "Lesser" "depth" "Lesser.depth" (clsAt (topS 22) 2)) (fl_depth_Lesser : FldIn K mg ["Lesser"] "_depth")  : PrpE P w K mg base 3 "depth" "Lesser" F_Lesser_depth := by
  have nd := sc_Lesser_depth.nd
  exact okP_mk (k := 2) D0 sc_Lesser_depth (fun _ _ _ _ _ _ us hl => match us, hl with | [_], _ => rfl) fun f cdv A l s H E gd hr tk po =>
    (sb_one (ss_ret (se_fld (cls := ["Lesser"]) (v 0) fl_depth_Lesser)))
/-! ### Place_depth -/
abbrev N_Place_depth : List Str := ["self"]
theorem sc_Place_depth : FnScope N_Place_depth ["self"] (defScope (clsAt (topS 20) 2)) := ⟨rfl, rfl, rfl, by decide +kernel, rfl, by decide +kernel, by decide +kernel⟩
noncomputable def m_Place_depth : MS := (sRet (mC (.int 0)))
noncomputable def F_Place_depth : FD := (argF 1 (bodyF 1 m_Place_depth))
theorem o_Place_depth {P : Program} {w : World} {K : PySem.W.Frag} {mg : Str → Option Value} {base : Heap} (D0 : DfP K mg "Place" "depth" "Place.depth" (clsAt (topS 20) 2))   : PrpE P w K mg base 3 "depth" "Place" F_Place_depth := by
  have nd := sc_Place_depth.nd
  exact okP_mk (k := 2) D0 sc_Place_depth (fun _ _ _ _ _ _ us hl => match us, hl with | [_], _ => rfl) fun f cdv A l s H E gd hr tk po =>
    (sb_one (ss_ret se_int))
/-! ### _depth_over -/
abbrev N__depth_over : List Str := ["parts", "part"]
theorem sc__depth_over : FnScope N__depth_over ["parts"] (defScope (topS 16)) := ⟨rfl, rfl, rfl, by decide +kernel, rfl, by decide +kernel, by decide +kernel⟩
noncomputable def m__depth_over : MS := (sRet (m2 fAdd (mC (.int 1)) (mCall bMaxL (mCons (mLc false (mWalk (mVar 0)) (gN 1) [1] bYes (mPrp [("Place", F_Place_depth), ("End", F_End_depth), ("Lesser", F_Lesser_depth), ("Greater", F_Greater_depth)] (mVar 1))) mNil))))
noncomputable def F__depth_over : FD := (bodyF 2 m__depth_over)
theorem o__depth_over {P : Program} {w : World} {K : PySem.W.Frag} {mg : Str → Option Value} {base : Heap} (D0 : Df K mg "_depth_over" (topS 16)) (n_max : mg "max" = none) (o_Greater_depth : PrpE P w K mg base 3 "depth" "Greater" F_Greater_depth) (o_Lesser_depth : PrpE P w K mg base 3 "depth" "Lesser" F_Lesser_depth) (o_End_depth : PrpE P w K mg base 3 "depth" "End" F_End_depth) (o_Place_depth : PrpE P w K mg base 3 "depth" "Place" F_Place_depth) : Ok P w K mg base 5 "_depth_over" (topS 16) ["parts"] F__depth_over := by
  have nd := sc__depth_over.nd
  exact ok_mk (k := 4) D0 sc__depth_over (fun _ _ _ _ _ _ us hl => match us, hl with | [_], _ => rfl) fun f cdv A l s H E gd hr tk po =>
    (sb_one (ss_ret (se_add se_int (se_callB (bMaxL_ok rfl) n_max (sa_cons (se_lc (C := false) (own := [("part", 1)]) (g := gN 1) rfl nd (si_walk (v 0)) (blkOk_by (N := N__depth_over) (sc := defScope (topS 16)) (own := [("part", 1)]) (by decide +kernel)) (fun _ _ _ _ _ => lg_name nd (by decide)) (fun _ _ _ _ _ => st_yes) (fun _ _ _ _ _ => (se_prp (X := Cx.blk (Xf P w K mg base N__depth_over "_depth_over" (topS 16) f cdv A l s H E) _ _ _ _ _) (tbl := [("Place", F_Place_depth), ("End", F_End_depth), ("Lesser", F_Lesser_depth), ("Greater", F_Greater_depth)]) (lk_cons (PrpE.mono o_Place_depth (by decide)) (lk_cons (PrpE.mono o_End_depth (by decide)) (lk_cons (PrpE.mono o_Lesser_depth (by decide)) (lk_cons (PrpE.mono o_Greater_depth (by decide)) lk_nil)))) hr gd (v 1)))) sa_nil)))))
/-! ### End_str -/
abbrev N_End_str : List Str := ["self"]
theorem sc_End_str : FnScope N_End_str ["self"] (defScope (clsAt (topS 21) 11)) := ⟨rfl, rfl, rfl, by decide +kernel, rfl, by decide +kernel, by decide +kernel⟩
noncomputable def m_End_str : MS := (sRet (mCall bStrS (mCons (m1 (fFld ["End"] "_end") (mVar 0)) mNil)))
noncomputable def F_End_str : FD := (argF 1 (bodyF 1 m_End_str))
theorem o_End_str {P : Program} {w : World} {K : PySem.W.Frag} {mg : Str → Option Value} {base : Heap} (D0 : DfM K mg "End" "__str__" "End.__str__" (clsAt (topS 21) 11)) (fl_end_End : FldIn K mg ["End"] "_end") (n_str : mg "str" = none)  : OkM P w K mg base 3 "End" "__str__" F_End_str := by
  have nd := sc_End_str.nd
  exact okM_mk (k := 2) D0 sc_End_str (fun _ _ _ _ _ _ us hl => match us, hl with | [_], _ => rfl) fun f cdv A l s H E gd hr tk po =>
    (sb_one (ss_ret (se_callTy bStrS_ok n_str (sa_cons (se_fld (cls := ["End"]) (v 0) fl_end_End) sa_nil))))
/-! ### Place_str -/
abbrev N_Place_str : List Str := ["self"]
theorem sc_Place_str : FnScope N_Place_str ["self"] (defScope (clsAt (topS 20) 11)) := ⟨rfl, rfl, rfl, by decide +kernel, rfl, by decide +kernel, by decide +kernel⟩
noncomputable def m_Place_str : MS := (sRet (mCall bStrS (mCons (m1 (fFld ["Place"] "_name") (mVar 0)) mNil)))
noncomputable def F_Place_str : FD := (argF 1 (bodyF 1 m_Place_str))
theorem o_Place_str {P : Program} {w : World} {K : PySem.W.Frag} {mg : Str → Option Value} {base : Heap} (D0 : DfM K mg "Place" "__str__" "Place.__str__" (clsAt (topS 20) 11)) (fl_name_Place : FldIn K mg ["Place"] "_name") (n_str : mg "str" = none)  : OkM P w K mg base 3 "Place" "__str__" F_Place_str := by
  have nd := sc_Place_str.nd
  exact okM_mk (k := 2) D0 sc_Place_str (fun _ _ _ _ _ _ us hl => match us, hl with | [_], _ => rfl) fun f cdv A l s H E gd hr tk po =>
    (sb_one (ss_ret (se_callTy bStrS_ok n_str (sa_cons (se_fld (cls := ["Place"]) (v 0) fl_name_Place) sa_nil))))
/-! ### _text_within -/
abbrev N__text_within : List Str := ["part"]
theorem sc__text_within : FnScope N__text_within ["part"] (defScope (topS 18)) := ⟨rfl, rfl, rfl, by decide +kernel, rfl, by decide +kernel, by decide +kernel⟩
noncomputable def m__text_within (G__text_within : FD) (G_Lesser_str : FD) (G_Greater_str : FD) : MS := (sRet (mIf (mT (m2 fGt (mPrp [("Place", F_Place_depth), ("End", F_End_depth), ("Lesser", F_Lesser_depth), ("Greater", F_Greater_depth)] (mVar 0)) (mC (.int 0)))) (mJs [(mC (.str "(")), (mFmtO [("Place", F_Place_str), ("End", F_End_str), ("Lesser", G_Lesser_str), ("Greater", G_Greater_str)] (mVar 0)), (mC (.str ")"))] Str.empty) (mCall (bStrO [("Place", F_Place_str), ("End", F_End_str), ("Lesser", G_Lesser_str), ("Greater", G_Greater_str)]) (mCons (mVar 0) mNil))))
/-! ### Lesser_str -/
abbrev N_Lesser_str : List Str := ["self", "part"]
theorem sc_Lesser_str : FnScope N_Lesser_str ["self"] (defScope (clsAt (topS 22) 11)) := ⟨rfl, rfl, rfl, by decide +kernel, rfl, by decide +kernel, by decide +kernel⟩
noncomputable def m_Lesser_str (G__text_within : FD) (G_Lesser_str : FD) (G_Greater_str : FD) : MS := (sRet (mJoin (mC (.str " & ")) (mLc false (mWalk (m1 (fFld ["Lesser"] "_parts") (mVar 0))) (gN 1) [1] bYes (mFn G__text_within 1 (mCons (mVar 1) mNil)))))
/-! ### Greater_str -/
abbrev N_Greater_str : List Str := ["self", "part"]
theorem sc_Greater_str : FnScope N_Greater_str ["self"] (defScope (clsAt (topS 23) 11)) := ⟨rfl, rfl, rfl, by decide +kernel, rfl, by decide +kernel, by decide +kernel⟩
noncomputable def m_Greater_str (G__text_within : FD) (G_Lesser_str : FD) (G_Greater_str : FD) : MS := (sRet (mJoin (mC (.str " | ")) (mLc false (mWalk (m1 (fFld ["Greater"] "_parts") (mVar 0))) (gN 1) [1] bYes (mFn G__text_within 1 (mCons (mVar 1) mNil)))))
mutual
noncomputable def F__text_within : Nat → FD
  | 0 => fun _ _ => .stk
  | n + 1 => (bodyF 1 (m__text_within (F__text_within n) (F_Lesser_str n) (F_Greater_str n)))
noncomputable def F_Lesser_str : Nat → FD
  | 0 => fun _ _ => .stk
  | n + 1 => (argF 1 (bodyF 2 (m_Lesser_str (F__text_within n) (F_Lesser_str n) (F_Greater_str n))))
noncomputable def F_Greater_str : Nat → FD
  | 0 => fun _ _ => .stk
  | n + 1 => (argF 1 (bodyF 2 (m_Greater_str (F__text_within n) (F_Lesser_str n) (F_Greater_str n))))
end
theorem oo__text_within {P : Program} {w : World} {K : PySem.W.Frag} {mg : Str → Option Value} {base : Heap} (D__text_within : Df K mg "_text_within" (topS 18)) (D_Lesser_str : DfM K mg "Lesser" "__str__" "Lesser.__str__" (clsAt (topS 22) 11)) (D_Greater_str : DfM K mg "Greater" "__str__" "Greater.__str__" (clsAt (topS 23) 11)) (fm_Greater : FmtD K mg "Greater") (fm_Lesser : FmtD K mg "Lesser") (fm_End : FmtD K mg "End") (fm_Place : FmtD K mg "Place") (n_str : mg "str" = none) (fl_parts_Lesser : FldIn K mg ["Lesser"] "_parts") (fl_parts_Greater : FldIn K mg ["Greater"] "_parts") (o_Greater_depth : PrpE P w K mg base 3 "depth" "Greater" F_Greater_depth) (o_Lesser_depth : PrpE P w K mg base 3 "depth" "Lesser" F_Lesser_depth) (o_End_depth : PrpE P w K mg base 3 "depth" "End" F_End_depth) (o_Place_depth : PrpE P w K mg base 3 "depth" "Place" F_Place_depth) (o_End_str : OkM P w K mg base 3 "End" "__str__" F_End_str) (o_Place_str : OkM P w K mg base 3 "Place" "__str__" F_Place_str) : ∀ n : Nat, Ok P w K mg base (lv 5 n) "_text_within" (topS 18) ["part"] (F__text_within n) ∧ OkM P w K mg base (lv 5 n) "Lesser" "__str__" (F_Lesser_str n) ∧ OkM P w K mg base (lv 5 n) "Greater" "__str__" (F_Greater_str n) := by
  intro n
  induction n with
  | zero =>
    exact ⟨(by rw [F__text_within]; exact ok_stk D__text_within (fun _ _ _ _ _ _ us hl => match us, hl with | [_], _ => rfl)), (by rw [F_Lesser_str]; exact okM_stk D_Lesser_str), (by rw [F_Greater_str]; exact okM_stk D_Greater_str)⟩
  | succ n ih =>
    obtain ⟨ih__text_within, ih_Lesser_str, ih_Greater_str⟩ := ih
    exact ⟨(by
      have nd := sc__text_within.nd
      rw [F__text_within]
      exact ok_mk (k := lv 5 n + 2) D__text_within sc__text_within (fun _ _ _ _ _ _ us hl => match us, hl with | [_], _ => rfl) fun f cdv A l s H E gd hr tk po =>
        (sb_one (ss_ret (se_if (st_cmp fGt_ok (se_prp (tbl := [("Place", F_Place_depth), ("End", F_End_depth), ("Lesser", F_Lesser_depth), ("Greater", F_Greater_depth)]) (lk_cons (PrpE.mono o_Place_depth (lv_le1 _ (by decide))) (lk_cons (PrpE.mono o_End_depth (lv_le1 _ (by decide))) (lk_cons (PrpE.mono o_Lesser_depth (lv_le1 _ (by decide))) (lk_cons (PrpE.mono o_Greater_depth (lv_le1 _ (by decide))) lk_nil)))) hr gd (v 0)) se_int rfl) (se_js (sj_cons se_str (sj_cons (se_fmtO (tbl := [("Place", F_Place_str), ("End", F_End_str), ("Lesser", (F_Lesser_str n)), ("Greater", (F_Greater_str n))]) (lk_cons ⟨OkM.spc (OkM.mono o_Place_str (lv_le1 _ (by decide))), fm_Place⟩ (lk_cons ⟨OkM.spc (OkM.mono o_End_str (lv_le1 _ (by decide))), fm_End⟩ (lk_cons ⟨OkM.spc (OkM.mono ih_Lesser_str (Nat.le_add_right _ _)), fm_Lesser⟩ (lk_cons ⟨OkM.spc (OkM.mono ih_Greater_str (Nat.le_add_right _ _)), fm_Greater⟩ lk_nil)))) hr gd (v 0)) (sj_cons se_str sj_nil)))) (se_callTy (bStrO_ok (tbl := [("Place", F_Place_str), ("End", F_End_str), ("Lesser", (F_Lesser_str n)), ("Greater", (F_Greater_str n))]) (lk_cons (OkM.spc (OkM.mono o_Place_str (lv_le (by decide) _))) (lk_cons (OkM.spc (OkM.mono o_End_str (lv_le (by decide) _))) (lk_cons (OkM.spc (OkM.mono ih_Lesser_str (Nat.le_refl _))) (lk_cons (OkM.spc (OkM.mono ih_Greater_str (Nat.le_refl _))) lk_nil)))) hr gd) n_str (sa_cons (v 0) sa_nil)))))), (by
      have nd := sc_Lesser_str.nd
      rw [F_Lesser_str]
      exact okM_mk (k := lv 5 n + 2) D_Lesser_str sc_Lesser_str (fun _ _ _ _ _ _ us hl => match us, hl with | [_], _ => rfl) fun f cdv A l s H E gd hr tk po =>
        (sb_one (ss_ret (se_join se_str (se_lc (C := false) (own := [("part", 1)]) (g := gN 1) rfl nd (si_walk (se_fld (cls := ["Lesser"]) (v 0) fl_parts_Lesser)) (blkOk_by (N := N_Lesser_str) (sc := defScope (clsAt (topS 22) 11)) (own := [("part", 1)]) (by decide +kernel)) (fun _ _ _ _ _ => lg_name nd (by decide)) (fun _ _ _ _ _ => st_yes) (fun _ _ _ _ _ => (se_ok (X := Cx.blk (Xf P w K mg base N_Lesser_str "Lesser.__str__" (clsAt (topS 22) 11) f cdv A l s H E) _ _ _ _ _) (le := (Nat.le_add_right _ _)) ih__text_within hr gd LamX.takes0 (sa_cons (v 1) sa_nil)))))))), (by
      have nd := sc_Greater_str.nd
      rw [F_Greater_str]
      exact okM_mk (k := lv 5 n + 2) D_Greater_str sc_Greater_str (fun _ _ _ _ _ _ us hl => match us, hl with | [_], _ => rfl) fun f cdv A l s H E gd hr tk po =>
        (sb_one (ss_ret (se_join se_str (se_lc (C := false) (own := [("part", 1)]) (g := gN 1) rfl nd (si_walk (se_fld (cls := ["Greater"]) (v 0) fl_parts_Greater)) (blkOk_by (N := N_Greater_str) (sc := defScope (clsAt (topS 23) 11)) (own := [("part", 1)]) (by decide +kernel)) (fun _ _ _ _ _ => lg_name nd (by decide)) (fun _ _ _ _ _ => st_yes) (fun _ _ _ _ _ => (se_ok (X := Cx.blk (Xf P w K mg base N_Greater_str "Greater.__str__" (clsAt (topS 23) 11) f cdv A l s H E) _ _ _ _ _) (le := (Nat.le_add_right _ _)) ih__text_within hr gd LamX.takes0 (sa_cons (v 1) sa_nil))))))))⟩
/-! ### _law_pot -/
abbrev N__law_pot : List Str := ["_law_script", "_law_k", "_law_cell"]
theorem sc__law_pot : FnScope N__law_pot ["_law_script", "_law_k"] (defScope (topS 25)) := ⟨rfl, rfl, rfl, by decide +kernel, rfl, by decide +kernel, by decide +kernel⟩
noncomputable def m__law_pot : MS := (sSeq (sSet 2 (m2 fAdd (m2 fMul (mC (.int 23)) (mVar 1)) (mC (.int 9))))
  (sSeq (sIf (mT (m2 fLt (mVar 1) (mCall bLen (mCons (mVar 0) mNil)))) (sSet 2 (m2 fIx (mVar 0) (mVar 1))) sNil)
  (sRet (mLstC (mCons (mCall bMax2 (mCons (mC (.int 0)) (mCons (m2 fSub (mCall bAbs (mCons (mVar 2) mNil)) (m2 fPow (mC (.int 10)) (mC (.int 18)))) mNil))) (mCons (m2 fAdd (m2 fMod (m2 fMul (mCall bInt (mCons (m2 fAdd (m2 fMod (mCall bInt (mCons (mCall bAbs (mCons (mVar 2) mNil)) mNil)) (mC (.int 2147483549))) (mC (.int 3))) mNil)) (m2 fPow (m2 fAdd (m2 fMul (mC (.int 2)) (mVar 1)) (mC (.int 5))) (mC (.int 3)))) (mC (.int 2147483477))) (mC (.int 1))) mNil))))))
noncomputable def F__law_pot : FD := (bodyF 3 m__law_pot)
theorem o__law_pot {P : Program} {w : World} {K : PySem.W.Frag} {mg : Str → Option Value} {base : Heap} (D0 : Df K mg "_law_pot" (topS 25)) (n_len : mg "len" = none) (n_abs : mg "abs" = none) (n_int : mg "int" = none) (n_max : mg "max" = none)  : Ok P w K mg base 3 "_law_pot" (topS 25) ["_law_script", "_law_k"] F__law_pot := by
  have nd := sc__law_pot.nd
  exact ok_mk (k := 2) D0 sc__law_pot (fun _ _ _ _ _ _ us hl => match us, hl with | [_, _], _ => rfl) fun f cdv A l s H E gd hr tk po =>
    (sb_cons (ss_set (i := 2) nd (se_add (se_mul se_int (v 1)) se_int))
    (sb_cons (ss_if (st_cmp fLt_ok (v 1) (se_callB bLen_ok n_len (sa_cons (v 0) sa_nil)) rfl) (sb_one (ss_set (i := 2) nd (se_ix (v 0) (v 1)))) sb_nil)
    (sb_one (ss_ret (se_lstC (sa_cons (se_callB (bMax2_ok rfl) n_max (sa_cons se_int (sa_cons (se_sub (se_callB bAbs_ok n_abs (sa_cons (v 2) sa_nil)) (se_pow se_int se_int)) sa_nil))) (sa_cons (se_add (se_mod (se_mul (se_callTy bInt_ok n_int (sa_cons (se_add (se_mod (se_callTy bInt_ok n_int (sa_cons (se_callB bAbs_ok n_abs (sa_cons (v 2) sa_nil)) sa_nil)) se_int) se_int) sa_nil)) (se_pow (se_add (se_mul se_int (v 1)) se_int) se_int)) se_int) se_int) sa_nil)))))))
/-! ### _law_draw -/
abbrev N__law_draw : List Str := ["_law_pot_here", "_law_many", "_law_digit"]
theorem sc__law_draw : FnScope N__law_draw ["_law_pot_here", "_law_many"] (defScope (topS 26)) := ⟨rfl, rfl, rfl, by decide +kernel, rfl, by decide +kernel, by decide +kernel⟩
noncomputable def m__law_draw : MS := (sSeq (sIf (mT (m2 fGt (m2 fIx (mVar 0) (mC (.int 0))) (mC (.int 0)))) (sSeq (sAsg (gT (gsCons (gIx (mVar 0) (mC (.int 0))) (gsCons (gN 2) gsNil))) (mCall bDivmod (mCons (m2 fIx (mVar 0) (mC (.int 0))) (mCons (mVar 1) mNil))))
  (sRet (mVar 2))) sNil)
  (sSeq (sAsg (gIx (mVar 0) (mC (.int 1))) (m2 fMod (mCall bInt (mCons (m2 fAdd (m2 fMul (m2 fIx (mVar 0) (mC (.int 1))) (mC (.int 48271))) (mC (.int 11213))) mNil)) (mC (.int 2147483587))))
  (sRet (m2 fMod (m2 fFdiv (m2 fMod (mCall bInt (mCons (m2 fMul (m2 fIx (mVar 0) (mC (.int 1))) (m2 fIx (mVar 0) (mC (.int 1)))) mNil)) (mC (.int 2147483549))) (mC (.int 13))) (mVar 1)))))
noncomputable def F__law_draw : FD := (bodyF 3 m__law_draw)
theorem o__law_draw {P : Program} {w : World} {K : PySem.W.Frag} {mg : Str → Option Value} {base : Heap} (D0 : Df K mg "_law_draw" (topS 26)) (n_divmod : mg "divmod" = none) (n_int : mg "int" = none)  : Ok P w K mg base 3 "_law_draw" (topS 26) ["_law_pot_here", "_law_many"] F__law_draw := by
  have nd := sc__law_draw.nd
  exact ok_mk (k := 2) D0 sc__law_draw (fun _ _ _ _ _ _ us hl => match us, hl with | [_, _], _ => rfl) fun f cdv A l s H E gd hr tk po =>
    (sb_cons (ss_if (st_cmp fGt_ok (se_ix (v 0) se_int) se_int rfl) (sb_cons (ss_asg (se_callB bDivmod_ok n_divmod (sa_cons (se_ix (v 0) se_int) (sa_cons (v 1) sa_nil))) (sg_tup rfl (sgs_cons (sg_ix (W := WOf E) (v 0) se_int) (sgs_cons (sg_name (i := 2) nd) sgs_nil)) (gs_lenS (gs_lenS gs_len0))))
    (sb_one (ss_ret (v 2)))) sb_nil)
    (sb_cons (ss_asg (se_mod (se_callTy bInt_ok n_int (sa_cons (se_add (se_mul (se_ix (v 0) se_int) se_int) se_int) sa_nil)) se_int) (sg_ix (W := WOf E) (v 0) se_int))
    (sb_one (ss_ret (se_mod (se_fdiv (se_mod (se_callTy bInt_ok n_int (sa_cons (se_mul (se_ix (v 0) se_int) (se_ix (v 0) se_int)) sa_nil)) se_int) se_int) (v 1))))))
/-! ### _law_pick -/
abbrev N__law_pick : List Str := ["_law_pot_here", "_law_some"]
theorem sc__law_pick : FnScope N__law_pick ["_law_pot_here", "_law_some"] (defScope (topS 27)) := ⟨rfl, rfl, rfl, by decide +kernel, rfl, by decide +kernel, by decide +kernel⟩
noncomputable def m__law_pick : MS := (sRet (m2 fIx (mVar 1) (mFn F__law_draw 2 (mCons (mVar 0) (mCons (mCall bLen (mCons (mVar 1) mNil)) mNil)))))
noncomputable def F__law_pick : FD := (bodyF 2 m__law_pick)
theorem o__law_pick {P : Program} {w : World} {K : PySem.W.Frag} {mg : Str → Option Value} {base : Heap} (D0 : Df K mg "_law_pick" (topS 27)) (n_len : mg "len" = none) (o__law_draw : Ok P w K mg base 3 "_law_draw" (topS 26) ["_law_pot_here", "_law_many"] F__law_draw) : Ok P w K mg base 4 "_law_pick" (topS 27) ["_law_pot_here", "_law_some"] F__law_pick := by
  have nd := sc__law_pick.nd
  exact ok_mk (k := 3) D0 sc__law_pick (fun _ _ _ _ _ _ us hl => match us, hl with | [_, _], _ => rfl) fun f cdv A l s H E gd hr tk po =>
    (sb_one (ss_ret (se_ix (v 1) (se_ok (le := (by decide)) o__law_draw hr gd tk (sa_cons (v 0) (sa_cons (se_callB bLen_ok n_len (sa_cons (v 1) sa_nil)) sa_nil))))))
/-! ### _law_places -/
abbrev N__law_places : List Str := ["_law_pot_here", "_law_left", "_law_turn"]
theorem sc__law_places : FnScope N__law_places ["_law_pot_here"] (defScope (topS 28)) := ⟨rfl, rfl, rfl, by decide +kernel, rfl, by decide +kernel, by decide +kernel⟩
noncomputable def m__law_places : MS := (sSeq (sSet 1 (mLstC (mCons (mC (.str "r0")) (mCons (mC (.str "r1")) (mCons (mC (.str "r2")) (mCons (mC (.str "r3")) (mCons (mC (.str "r4")) (mCons (mC (.str "r5")) (mCons (mC (.str "x0")) (mCons (mC (.str "x1")) mNil))))))))))
  (sRet (mLc false (mRng1 (m2 fAdd (mC (.int 1)) (mFn F__law_draw 2 (mCons (mVar 0) (mCons (mC (.int 5)) mNil))))) (gN 2) [2] bYes (mMe "list" fPopAt (mVar 1) (mCons (mFn F__law_draw 2 (mCons (mVar 0) (mCons (mCall bLen (mCons (mVar 1) mNil)) mNil))) mNil)))))
noncomputable def F__law_places : FD := (bodyF 3 m__law_places)
theorem o__law_places {P : Program} {w : World} {K : PySem.W.Frag} {mg : Str → Option Value} {base : Heap} (D0 : Df K mg "_law_places" (topS 28)) (n_range : mg "range" = none) (n_len : mg "len" = none) (o__law_draw : Ok P w K mg base 3 "_law_draw" (topS 26) ["_law_pot_here", "_law_many"] F__law_draw) : Ok P w K mg base 4 "_law_places" (topS 28) ["_law_pot_here"] F__law_places := by
  have nd := sc__law_places.nd
  exact ok_mk (k := 3) D0 sc__law_places (fun _ _ _ _ _ _ us hl => match us, hl with | [_], _ => rfl) fun f cdv A l s H E gd hr tk po =>
    (sb_cons (ss_set (i := 1) nd (se_lstC (sa_cons se_str (sa_cons se_str (sa_cons se_str (sa_cons se_str (sa_cons se_str (sa_cons se_str (sa_cons se_str (sa_cons se_str sa_nil))))))))))
    (sb_one (ss_ret (se_lc (C := false) (own := [("_law_turn", 2)]) (g := gN 2) rfl nd (si_range1 n_range (se_add se_int (se_ok (le := (by decide)) o__law_draw hr gd tk (sa_cons (v 0) (sa_cons se_int sa_nil))))) (blkOk_by (N := N__law_places) (sc := defScope (topS 28)) (own := [("_law_turn", 2)]) (by decide +kernel)) (fun _ _ _ _ _ => lg_name nd (by decide)) (fun _ _ _ _ _ => st_yes) (fun _ _ _ _ _ => (se_me PySem.F.plainAttrs_list PySem.F.slot_list_pop PySem.F.type_list_pop fPopAt_ok (v 1) (sa_cons (se_ok (X := Cx.blk (Xf P w K mg base N__law_places "_law_places" (topS 28) f cdv A l s H E) _ _ _ _ _) (le := (by decide)) o__law_draw hr gd LamX.takes0 (sa_cons (v 0) (sa_cons (se_callB bLen_ok n_len (sa_cons (v 1) sa_nil)) sa_nil))) sa_nil)))))))
/-! ### _law_term -/
abbrev N__law_term : List Str := ["_law_pot_here", "_law_places_here", "_law_deep", "_law_way", "_law_word", "_law_turn"]
theorem sc__law_term : FnScope N__law_term ["_law_pot_here", "_law_places_here", "_law_deep"] (defScope (topS 29)) := ⟨rfl, rfl, rfl, by decide +kernel, rfl, by decide +kernel, by decide +kernel⟩
noncomputable def m__law_term (G__law_term : FD) : MS := (sSeq (sSet 3 (mFn F__law_draw 2 (mCons (mVar 0) (mCons (mC (.int 9)) mNil))))
  (sSeq (sIf (mOrT (mT (m2 fEq (mVar 2) (mC (.int 0)))) (mT (m2 fLt (mVar 3) (mC (.int 2))))) (sSeq (sIf (mT (m2 fEq (mFn F__law_draw 2 (mCons (mVar 0) (mCons (mC (.int 6)) mNil))) (mC (.int 0)))) (sRet (mTup (mCons (mC (.str "end")) (mCons (mFn F__law_pick 2 (mCons (mVar 0) (mCons (mLst (mCons (mC (.str "bottom")) (mCons (mC (.str "top")) mNil))) mNil))) mNil)))) sNil)
  (sRet (mTup (mCons (mC (.str "place")) (mCons (mFn F__law_pick 2 (mCons (mVar 0) (mCons (mVar 1) mNil))) mNil))))) sNil)
  (sSeq (sSet 4 (mFn F__law_pick 2 (mCons (mVar 0) (mCons (mLst (mCons (mC (.str "lesser")) (mCons (mC (.str "greater")) mNil))) mNil))))
  (sSeq (sIf (mT (m2 fEq (mVar 3) (mC (.int 8)))) (sRet (mTup (mCons (mVar 4) (mCons (mLc false (mRng1 (mC (.int 8))) (gN 5) [5] bYes (mTup (mCons (mC (.str "place")) (mCons (mFn F__law_pick 2 (mCons (mVar 0) (mCons (mVar 1) mNil))) mNil)))) mNil)))) sNil)
  (sRet (mTup (mCons (mVar 4) (mCons (mLc false (mRng1 (mFn F__law_pick 2 (mCons (mVar 0) (mCons (mLst (mCons (mC (.int 2)) (mCons (mC (.int 2)) (mCons (mC (.int 3)) (mCons (mC (.int 4)) mNil))))) mNil)))) (gN 5) [5] bYes (mFn G__law_term 3 (mCons (mVar 0) (mCons (mVar 1) (mCons (m2 fSub (mVar 2) (mC (.int 1))) mNil))))) mNil))))))))
noncomputable def F__law_term : Nat → FD
  | 0 => fun _ _ => .stk
  | n + 1 => (bodyF 6 (m__law_term (F__law_term n)))
theorem oo__law_term {P : Program} {w : World} {K : PySem.W.Frag} {mg : Str → Option Value} {base : Heap} (D__law_term : Df K mg "_law_term" (topS 29)) (n_range : mg "range" = none) (o__law_draw : Ok P w K mg base 3 "_law_draw" (topS 26) ["_law_pot_here", "_law_many"] F__law_draw) (o__law_pick : Ok P w K mg base 4 "_law_pick" (topS 27) ["_law_pot_here", "_law_some"] F__law_pick) : ∀ n : Nat, Ok P w K mg base (lv 4 n) "_law_term" (topS 29) ["_law_pot_here", "_law_places_here", "_law_deep"] (F__law_term n) := by
  intro n
  induction n with
  | zero =>
    exact (by rw [F__law_term]; exact ok_stk D__law_term (fun _ _ _ _ _ _ us hl => match us, hl with | [_, _, _], _ => rfl))
  | succ n ih__law_term =>
    exact (by
      have nd := sc__law_term.nd
      rw [F__law_term]
      exact ok_mk (k := lv 4 n + 2) D__law_term sc__law_term (fun _ _ _ _ _ _ us hl => match us, hl with | [_, _, _], _ => rfl) fun f cdv A l s H E gd hr tk po =>
        (sb_cons (ss_set (i := 3) nd (se_ok (le := (lv_le2 _ (by decide))) o__law_draw hr gd tk (sa_cons (v 0) (sa_cons se_int sa_nil))))
    (sb_cons (ss_if (sw_pt (sw_or (st_cmp (fEq_ok hr) (v 2) se_int rfl) (sw_or1 (st_cmp fLt_ok (v 3) se_int rfl)))) (sb_cons (ss_if (st_cmp (fEq_ok hr) (se_ok (le := (lv_le2 _ (by decide))) o__law_draw hr gd tk (sa_cons (v 0) (sa_cons se_int sa_nil))) se_int rfl) (sb_one (ss_ret (se_tup (sa_cons se_str (sa_cons (se_ok (le := (lv_le2 _ (by decide))) o__law_pick hr gd tk (sa_cons (v 0) (sa_cons (se_lst (sa_cons se_str (sa_cons se_str sa_nil))) sa_nil))) sa_nil))))) sb_nil)
    (sb_one (ss_ret (se_tup (sa_cons se_str (sa_cons (se_ok (le := (lv_le2 _ (by decide))) o__law_pick hr gd tk (sa_cons (v 0) (sa_cons (v 1) sa_nil))) sa_nil)))))) sb_nil)
    (sb_cons (ss_set (i := 4) nd (se_ok (le := (lv_le2 _ (by decide))) o__law_pick hr gd tk (sa_cons (v 0) (sa_cons (se_lst (sa_cons se_str (sa_cons se_str sa_nil))) sa_nil))))
    (sb_cons (ss_if (st_cmp (fEq_ok hr) (v 3) se_int rfl) (sb_one (ss_ret (se_tup (sa_cons (v 4) (sa_cons (se_lc (C := false) (own := [("_law_turn", 5)]) (g := gN 5) rfl nd (si_range1 n_range se_int) (blkOk_by (N := N__law_term) (sc := defScope (topS 29)) (own := [("_law_turn", 5)]) (by decide +kernel)) (fun _ _ _ _ _ => lg_name nd (by decide)) (fun _ _ _ _ _ => st_yes) (fun _ _ _ _ _ => (se_tup (sa_cons se_str (sa_cons (se_ok (X := Cx.blk (Xf P w K mg base N__law_term "_law_term" (topS 29) f cdv A l s H E) _ _ _ _ _) (le := (lv_le2 _ (by decide))) o__law_pick hr gd LamX.takes0 (sa_cons (v 0) (sa_cons (v 1) sa_nil))) sa_nil))))) sa_nil))))) sb_nil)
    (sb_one (ss_ret (se_tup (sa_cons (v 4) (sa_cons (se_lc (C := false) (own := [("_law_turn", 5)]) (g := gN 5) rfl nd (si_range1 n_range (se_ok (le := (lv_le2 _ (by decide))) o__law_pick hr gd tk (sa_cons (v 0) (sa_cons (se_lst (sa_cons se_int (sa_cons se_int (sa_cons se_int (sa_cons se_int sa_nil))))) sa_nil)))) (blkOk_by (N := N__law_term) (sc := defScope (topS 29)) (own := [("_law_turn", 5)]) (by decide +kernel)) (fun _ _ _ _ _ => lg_name nd (by decide)) (fun _ _ _ _ _ => st_yes) (fun _ _ _ _ _ => (se_ok (X := Cx.blk (Xf P w K mg base N__law_term "_law_term" (topS 29) f cdv A l s H E) _ _ _ _ _) (le := (Nat.le_add_right _ _)) ih__law_term hr gd LamX.takes0 (sa_cons (v 0) (sa_cons (v 1) (sa_cons (se_sub (v 2) se_int) sa_nil)))))) sa_nil))))))))))
/-! ### Greater_init -/
abbrev N_Greater_init : List Str := ["self", "terms"]
theorem sc_Greater_init : FnScope N_Greater_init ["self", "terms"] (defScope (clsAt (topS 23) 0)) := ⟨rfl, rfl, rfl, by decide +kernel, rfl, by decide +kernel, by decide +kernel⟩
noncomputable def m_Greater_init : MS := (sSeq (sSto ["Greater"] "_parts" (mVar 0) (mFn F__checked_parts 1 (mCons (mVar 1) mNil)))
  (sSto ["Greater"] "_depth" (mVar 0) (mFn F__depth_over 1 (mCons (mVar 1) mNil))))
noncomputable def F_Greater_init : FD := (selfStarF 2 m_Greater_init)
theorem o_Greater_init {P : Program} {w : World} {K : PySem.W.Frag} {mg : Str → Option Value} {base : Heap} (D0 : DfM K mg "Greater" "__init__" "Greater.__init__" (clsAt (topS 23) 0)) (fl_parts_Greater : FldIn K mg ["Greater"] "_parts") (fl_depth_Greater : FldIn K mg ["Greater"] "_depth") (o__checked_parts : Ok P w K mg base 4 "_checked_parts" (topS 14) ["terms"] F__checked_parts) (o__depth_over : Ok P w K mg base 5 "_depth_over" (topS 16) ["parts"] F__depth_over) : OkM P w K mg base 6 "Greater" "__init__" F_Greater_init := by
  have nd := sc_Greater_init.nd
  exact okMS_mk (k := 5) D0 sc_Greater_init (fun _ _ _ _ _ _ o us => by cases us <;> rfl) fun f cdv A l s H E gd hr tk po =>
    (sb_cons (ss_sto (cls := ["Greater"]) (v 0) (se_ok (le := (by decide)) o__checked_parts hr gd tk (sa_cons (v 1) sa_nil)) fl_parts_Greater)
    (sb_one (ss_sto (cls := ["Greater"]) (v 0) (se_ok (le := (by decide)) o__depth_over hr gd tk (sa_cons (v 1) sa_nil)) fl_depth_Greater)))
/-! ### Lesser_init -/
abbrev N_Lesser_init : List Str := ["self", "terms"]
theorem sc_Lesser_init : FnScope N_Lesser_init ["self", "terms"] (defScope (clsAt (topS 22) 0)) := ⟨rfl, rfl, rfl, by decide +kernel, rfl, by decide +kernel, by decide +kernel⟩
noncomputable def m_Lesser_init : MS := (sSeq (sSto ["Lesser"] "_parts" (mVar 0) (mFn F__checked_parts 1 (mCons (mVar 1) mNil)))
  (sSto ["Lesser"] "_depth" (mVar 0) (mFn F__depth_over 1 (mCons (mVar 1) mNil))))
noncomputable def F_Lesser_init : FD := (selfStarF 2 m_Lesser_init)
theorem o_Lesser_init {P : Program} {w : World} {K : PySem.W.Frag} {mg : Str → Option Value} {base : Heap} (D0 : DfM K mg "Lesser" "__init__" "Lesser.__init__" (clsAt (topS 22) 0)) (fl_parts_Lesser : FldIn K mg ["Lesser"] "_parts") (fl_depth_Lesser : FldIn K mg ["Lesser"] "_depth") (o__checked_parts : Ok P w K mg base 4 "_checked_parts" (topS 14) ["terms"] F__checked_parts) (o__depth_over : Ok P w K mg base 5 "_depth_over" (topS 16) ["parts"] F__depth_over) : OkM P w K mg base 6 "Lesser" "__init__" F_Lesser_init := by
  have nd := sc_Lesser_init.nd
  exact okMS_mk (k := 5) D0 sc_Lesser_init (fun _ _ _ _ _ _ o us => by cases us <;> rfl) fun f cdv A l s H E gd hr tk po =>
    (sb_cons (ss_sto (cls := ["Lesser"]) (v 0) (se_ok (le := (by decide)) o__checked_parts hr gd tk (sa_cons (v 1) sa_nil)) fl_parts_Lesser)
    (sb_one (ss_sto (cls := ["Lesser"]) (v 0) (se_ok (le := (by decide)) o__depth_over hr gd tk (sa_cons (v 1) sa_nil)) fl_depth_Lesser)))
/-! ### _law_joined -/
abbrev N__law_joined : List Str := ["_law_word", "_law_p"]
theorem sc__law_joined : FnScope N__law_joined ["_law_word", "_law_p"] (defScope (topS 30)) := ⟨rfl, rfl, rfl, by decide +kernel, rfl, by decide +kernel, by decide +kernel⟩
noncomputable def m__law_joined : MS := (sSeq (sIf (mT (m2 fEq (mVar 0) (mC (.str "lesser")))) (sSeq (sIf (mT (m2 fEq (mCall bLen (mCons (mVar 1) mNil)) (mC (.int 2)))) (sRet (mMk "Lesser" F_Lesser_init (mCons (m2 fIx (mVar 1) (mC (.int 0))) (mCons (m2 fIx (mVar 1) (mC (.int 1))) mNil)))) sNil)
  (sSeq (sIf (mT (m2 fEq (mCall bLen (mCons (mVar 1) mNil)) (mC (.int 3)))) (sRet (mMk "Lesser" F_Lesser_init (mCons (m2 fIx (mVar 1) (mC (.int 0))) (mCons (m2 fIx (mVar 1) (mC (.int 1))) (mCons (m2 fIx (mVar 1) (mC (.int 2))) mNil))))) sNil)
  (sSeq (sIf (mT (m2 fEq (mCall bLen (mCons (mVar 1) mNil)) (mC (.int 4)))) (sRet (mMk "Lesser" F_Lesser_init (mCons (m2 fIx (mVar 1) (mC (.int 0))) (mCons (m2 fIx (mVar 1) (mC (.int 1))) (mCons (m2 fIx (mVar 1) (mC (.int 2))) (mCons (m2 fIx (mVar 1) (mC (.int 3))) mNil)))))) sNil)
  (sRet (mMk "Lesser" F_Lesser_init (mCons (m2 fIx (mVar 1) (mC (.int 0))) (mCons (m2 fIx (mVar 1) (mC (.int 1))) (mCons (m2 fIx (mVar 1) (mC (.int 2))) (mCons (m2 fIx (mVar 1) (mC (.int 3))) (mCons (m2 fIx (mVar 1) (mC (.int 4))) (mCons (m2 fIx (mVar 1) (mC (.int 5))) (mCons (m2 fIx (mVar 1) (mC (.int 6))) (mCons (m2 fIx (mVar 1) (mC (.int 7))) mNil))))))))))))) sNil)
  (sSeq (sIf (mT (m2 fEq (mCall bLen (mCons (mVar 1) mNil)) (mC (.int 2)))) (sRet (mMk "Greater" F_Greater_init (mCons (m2 fIx (mVar 1) (mC (.int 0))) (mCons (m2 fIx (mVar 1) (mC (.int 1))) mNil)))) sNil)
  (sSeq (sIf (mT (m2 fEq (mCall bLen (mCons (mVar 1) mNil)) (mC (.int 3)))) (sRet (mMk "Greater" F_Greater_init (mCons (m2 fIx (mVar 1) (mC (.int 0))) (mCons (m2 fIx (mVar 1) (mC (.int 1))) (mCons (m2 fIx (mVar 1) (mC (.int 2))) mNil))))) sNil)
  (sSeq (sIf (mT (m2 fEq (mCall bLen (mCons (mVar 1) mNil)) (mC (.int 4)))) (sRet (mMk "Greater" F_Greater_init (mCons (m2 fIx (mVar 1) (mC (.int 0))) (mCons (m2 fIx (mVar 1) (mC (.int 1))) (mCons (m2 fIx (mVar 1) (mC (.int 2))) (mCons (m2 fIx (mVar 1) (mC (.int 3))) mNil)))))) sNil)
  (sRet (mMk "Greater" F_Greater_init (mCons (m2 fIx (mVar 1) (mC (.int 0))) (mCons (m2 fIx (mVar 1) (mC (.int 1))) (mCons (m2 fIx (mVar 1) (mC (.int 2))) (mCons (m2 fIx (mVar 1) (mC (.int 3))) (mCons (m2 fIx (mVar 1) (mC (.int 4))) (mCons (m2 fIx (mVar 1) (mC (.int 5))) (mCons (m2 fIx (mVar 1) (mC (.int 6))) (mCons (m2 fIx (mVar 1) (mC (.int 7))) mNil))))))))))))))
noncomputable def F__law_joined : FD := (bodyF 2 m__law_joined)
theorem o__law_joined {P : Program} {w : World} {K : PySem.W.Frag} {mg : Str → Option Value} {base : Heap} (D0 : Df K mg "_law_joined" (topS 30)) (n_len : mg "len" = none) (mk_Lesser : MkD K mg "Lesser") (mk_Greater : MkD K mg "Greater") (o_Lesser_init : OkM P w K mg base 6 "Lesser" "__init__" F_Lesser_init) (o_Greater_init : OkM P w K mg base 6 "Greater" "__init__" F_Greater_init) : Ok P w K mg base 8 "_law_joined" (topS 30) ["_law_word", "_law_p"] F__law_joined := by
  have nd := sc__law_joined.nd
  exact ok_mk (k := 7) D0 sc__law_joined (fun _ _ _ _ _ _ us hl => match us, hl with | [_, _], _ => rfl) fun f cdv A l s H E gd hr tk po =>
    (sb_cons (ss_if (st_cmp (fEq_ok hr) (v 0) se_str rfl) (sb_cons (ss_if (st_cmp (fEq_ok hr) (se_callB bLen_ok n_len (sa_cons (v 1) sa_nil)) se_int rfl) (sb_one (ss_ret (se_mk (OkM.mk (OkM.mono o_Lesser_init (by decide)) mk_Lesser) hr gd tk (sa_cons (se_ix (v 1) se_int) (sa_cons (se_ix (v 1) se_int) sa_nil))))) sb_nil)
    (sb_cons (ss_if (st_cmp (fEq_ok hr) (se_callB bLen_ok n_len (sa_cons (v 1) sa_nil)) se_int rfl) (sb_one (ss_ret (se_mk (OkM.mk (OkM.mono o_Lesser_init (by decide)) mk_Lesser) hr gd tk (sa_cons (se_ix (v 1) se_int) (sa_cons (se_ix (v 1) se_int) (sa_cons (se_ix (v 1) se_int) sa_nil)))))) sb_nil)
    (sb_cons (ss_if (st_cmp (fEq_ok hr) (se_callB bLen_ok n_len (sa_cons (v 1) sa_nil)) se_int rfl) (sb_one (ss_ret (se_mk (OkM.mk (OkM.mono o_Lesser_init (by decide)) mk_Lesser) hr gd tk (sa_cons (se_ix (v 1) se_int) (sa_cons (se_ix (v 1) se_int) (sa_cons (se_ix (v 1) se_int) (sa_cons (se_ix (v 1) se_int) sa_nil))))))) sb_nil)
    (sb_one (ss_ret (se_mk (OkM.mk (OkM.mono o_Lesser_init (by decide)) mk_Lesser) hr gd tk (sa_cons (se_ix (v 1) se_int) (sa_cons (se_ix (v 1) se_int) (sa_cons (se_ix (v 1) se_int) (sa_cons (se_ix (v 1) se_int) (sa_cons (se_ix (v 1) se_int) (sa_cons (se_ix (v 1) se_int) (sa_cons (se_ix (v 1) se_int) (sa_cons (se_ix (v 1) se_int) sa_nil)))))))))))))) sb_nil)
    (sb_cons (ss_if (st_cmp (fEq_ok hr) (se_callB bLen_ok n_len (sa_cons (v 1) sa_nil)) se_int rfl) (sb_one (ss_ret (se_mk (OkM.mk (OkM.mono o_Greater_init (by decide)) mk_Greater) hr gd tk (sa_cons (se_ix (v 1) se_int) (sa_cons (se_ix (v 1) se_int) sa_nil))))) sb_nil)
    (sb_cons (ss_if (st_cmp (fEq_ok hr) (se_callB bLen_ok n_len (sa_cons (v 1) sa_nil)) se_int rfl) (sb_one (ss_ret (se_mk (OkM.mk (OkM.mono o_Greater_init (by decide)) mk_Greater) hr gd tk (sa_cons (se_ix (v 1) se_int) (sa_cons (se_ix (v 1) se_int) (sa_cons (se_ix (v 1) se_int) sa_nil)))))) sb_nil)
    (sb_cons (ss_if (st_cmp (fEq_ok hr) (se_callB bLen_ok n_len (sa_cons (v 1) sa_nil)) se_int rfl) (sb_one (ss_ret (se_mk (OkM.mk (OkM.mono o_Greater_init (by decide)) mk_Greater) hr gd tk (sa_cons (se_ix (v 1) se_int) (sa_cons (se_ix (v 1) se_int) (sa_cons (se_ix (v 1) se_int) (sa_cons (se_ix (v 1) se_int) sa_nil))))))) sb_nil)
    (sb_one (ss_ret (se_mk (OkM.mk (OkM.mono o_Greater_init (by decide)) mk_Greater) hr gd tk (sa_cons (se_ix (v 1) se_int) (sa_cons (se_ix (v 1) se_int) (sa_cons (se_ix (v 1) se_int) (sa_cons (se_ix (v 1) se_int) (sa_cons (se_ix (v 1) se_int) (sa_cons (se_ix (v 1) se_int) (sa_cons (se_ix (v 1) se_int) (sa_cons (se_ix (v 1) se_int) sa_nil)))))))))))))))
/-! ### End_init -/
abbrev N_End_init : List Str := ["self", "end"]
theorem sc_End_init : FnScope N_End_init ["self", "end"] (defScope (clsAt (topS 21) 0)) := ⟨rfl, rfl, rfl, by decide +kernel, rfl, by decide +kernel, by decide +kernel⟩
noncomputable def m_End_init : MS := (sSeq (sIf (mNot (mTru (mFn F_is_end 1 (mCons (mVar 1) mNil)))) (sRaise "InvalidEnd" ["value"] (mCons (mVar 1) mNil)) sNil)
  (sSto ["End"] "_end" (mVar 0) (mVar 1)))
noncomputable def F_End_init : FD := (argF 2 (bodyF 2 m_End_init))
theorem o_End_init {P : Program} {w : World} {K : PySem.W.Frag} {mg : Str → Option Value} {base : Heap} (D0 : DfM K mg "End" "__init__" "End.__init__" (clsAt (topS 21) 0)) (x_InvalidEnd : ExD P w K mg base "InvalidEnd") (fl_end_End : FldIn K mg ["End"] "_end") (o_is_end : Ok P w K mg base 3 "is_end" (topS 9) ["value"] F_is_end) : OkM P w K mg base 4 "End" "__init__" F_End_init := by
  have nd := sc_End_init.nd
  exact okM_mk (k := 3) D0 sc_End_init (fun _ _ _ _ _ _ us hl => match us, hl with | [_, _], _ => rfl) fun f cdv A l s H E gd hr tk po =>
    (sb_cons (ss_if (st_not (st_truth (se_ok (le := (by decide)) o_is_end hr gd tk (sa_cons (v 1) sa_nil)))) (sb_one (ss_raiseX rfl tk x_InvalidEnd hr (sa_cons (v 1) sa_nil))) sb_nil)
    (sb_one (ss_sto (cls := ["End"]) (v 0) (v 1) fl_end_End)))
/-! ### Place_init -/
abbrev N_Place_init : List Str := ["self", "name"]
theorem sc_Place_init : FnScope N_Place_init ["self", "name"] (defScope (clsAt (topS 20) 0)) := ⟨rfl, rfl, rfl, by decide +kernel, rfl, by decide +kernel, by decide +kernel⟩
noncomputable def m_Place_init : MS := (sSeq (sIf (mNot (mTru (mFn F_is_place 1 (mCons (mVar 1) mNil)))) (sRaise "InvalidPlace" ["value"] (mCons (mVar 1) mNil)) sNil)
  (sSto ["Place"] "_name" (mVar 0) (mVar 1)))
noncomputable def F_Place_init : FD := (argF 2 (bodyF 2 m_Place_init))
theorem o_Place_init {P : Program} {w : World} {K : PySem.W.Frag} {mg : Str → Option Value} {base : Heap} (D0 : DfM K mg "Place" "__init__" "Place.__init__" (clsAt (topS 20) 0)) (x_InvalidPlace : ExD P w K mg base "InvalidPlace") (fl_name_Place : FldIn K mg ["Place"] "_name") (o_is_place : Ok P w K mg base 3 "is_place" (topS 13) ["value"] F_is_place) : OkM P w K mg base 4 "Place" "__init__" F_Place_init := by
  have nd := sc_Place_init.nd
  exact okM_mk (k := 3) D0 sc_Place_init (fun _ _ _ _ _ _ us hl => match us, hl with | [_, _], _ => rfl) fun f cdv A l s H E gd hr tk po =>
    (sb_cons (ss_if (st_not (st_truth (se_ok (le := (by decide)) o_is_place hr gd tk (sa_cons (v 1) sa_nil)))) (sb_one (ss_raiseX rfl tk x_InvalidPlace hr (sa_cons (v 1) sa_nil))) sb_nil)
    (sb_one (ss_sto (cls := ["Place"]) (v 0) (v 1) fl_name_Place)))
/-! ### _law_real -/
abbrev N__law_real : List Str := ["_law_term_here", "_law_part"]
theorem sc__law_real : FnScope N__law_real ["_law_term_here"] (defScope (topS 31)) := ⟨rfl, rfl, rfl, by decide +kernel, rfl, by decide +kernel, by decide +kernel⟩
noncomputable def m__law_real (G__law_real : FD) : MS := (sSeq (sIf (mT (m2 fEq (m2 fIx (mVar 0) (mC (.int 0))) (mC (.str "place")))) (sRet (mMk "Place" F_Place_init (mCons (m2 fIx (mVar 0) (mC (.int 1))) mNil))) sNil)
  (sSeq (sIf (mT (m2 fEq (m2 fIx (mVar 0) (mC (.int 0))) (mC (.str "end")))) (sRet (mMk "End" F_End_init (mCons (m2 fIx (mVar 0) (mC (.int 1))) mNil))) sNil)
  (sRet (mFn F__law_joined 2 (mCons (m2 fIx (mVar 0) (mC (.int 0))) (mCons (mLc false (mWalk (m2 fIx (mVar 0) (mC (.int 1)))) (gN 1) [1] bYes (mFn G__law_real 1 (mCons (mVar 1) mNil))) mNil))))))
noncomputable def F__law_real : Nat → FD
  | 0 => fun _ _ => .stk
  | n + 1 => (bodyF 2 (m__law_real (F__law_real n)))
theorem oo__law_real {P : Program} {w : World} {K : PySem.W.Frag} {mg : Str → Option Value} {base : Heap} (D__law_real : Df K mg "_law_real" (topS 31)) (mk_Place : MkD K mg "Place") (mk_End : MkD K mg "End") (o_Place_init : OkM P w K mg base 4 "Place" "__init__" F_Place_init) (o_End_init : OkM P w K mg base 4 "End" "__init__" F_End_init) (o__law_joined : Ok P w K mg base 8 "_law_joined" (topS 30) ["_law_word", "_law_p"] F__law_joined) : ∀ n : Nat, Ok P w K mg base (lv 8 n) "_law_real" (topS 31) ["_law_term_here"] (F__law_real n) := by
  intro n
  induction n with
  | zero =>
    exact (by rw [F__law_real]; exact ok_stk D__law_real (fun _ _ _ _ _ _ us hl => match us, hl with | [_], _ => rfl))
  | succ n ih__law_real =>
    exact (by
      have nd := sc__law_real.nd
      rw [F__law_real]
      exact ok_mk (k := lv 8 n + 2) D__law_real sc__law_real (fun _ _ _ _ _ _ us hl => match us, hl with | [_], _ => rfl) fun f cdv A l s H E gd hr tk po =>
        (sb_cons (ss_if (st_cmp (fEq_ok hr) (se_ix (v 0) se_int) se_str rfl) (sb_one (ss_ret (se_mk (OkM.mk (OkM.mono o_Place_init (lv_le1 _ (by decide))) mk_Place) hr gd tk (sa_cons (se_ix (v 0) se_int) sa_nil)))) sb_nil)
    (sb_cons (ss_if (st_cmp (fEq_ok hr) (se_ix (v 0) se_int) se_str rfl) (sb_one (ss_ret (se_mk (OkM.mk (OkM.mono o_End_init (lv_le1 _ (by decide))) mk_End) hr gd tk (sa_cons (se_ix (v 0) se_int) sa_nil)))) sb_nil)
    (sb_one (ss_ret (se_ok (le := (lv_le2 _ (by decide))) o__law_joined hr gd tk (sa_cons (se_ix (v 0) se_int) (sa_cons (se_lc (C := false) (own := [("_law_part", 1)]) (g := gN 1) rfl nd (si_walk (se_ix (v 0) se_int)) (blkOk_by (N := N__law_real) (sc := defScope (topS 31)) (own := [("_law_part", 1)]) (by decide +kernel)) (fun _ _ _ _ _ => lg_name nd (by decide)) (fun _ _ _ _ _ => st_yes) (fun _ _ _ _ _ => (se_ok (X := Cx.blk (Xf P w K mg base N__law_real "_law_real" (topS 31) f cdv A l s H E) _ _ _ _ _) (le := (Nat.le_add_right _ _)) ih__law_real hr gd LamX.takes0 (sa_cons (v 1) sa_nil)))) sa_nil))))))))
/-! ### _law_inner -/
abbrev N__law_inner : List Str := ["_law_term_here"]
theorem sc__law_inner : FnScope N__law_inner ["_law_term_here"] (defScope (topS 32)) := ⟨rfl, rfl, rfl, by decide +kernel, rfl, by decide +kernel, by decide +kernel⟩
noncomputable def m__law_inner (G__law_inner : FD) (G__law_text : FD) : MS := (sRet (mIf (mT (m2 fIn (m2 fIx (mVar 0) (mC (.int 0))) (mTup (mCons (mC (.str "lesser")) (mCons (mC (.str "greater")) mNil))))) (m2 fAdd (m2 fAdd (mC (.str "(")) (mFn G__law_text 1 (mCons (mVar 0) mNil))) (mC (.str ")"))) (mFn G__law_text 1 (mCons (mVar 0) mNil))))
/-! ### _law_text -/
abbrev N__law_text : List Str := ["_law_term_here", "_law_part"]
theorem sc__law_text : FnScope N__law_text ["_law_term_here"] (defScope (topS 33)) := ⟨rfl, rfl, rfl, by decide +kernel, rfl, by decide +kernel, by decide +kernel⟩
noncomputable def m__law_text (G__law_inner : FD) (G__law_text : FD) : MS := (sSeq (sIf (mT (m2 fIn (m2 fIx (mVar 0) (mC (.int 0))) (mTup (mCons (mC (.str "place")) (mCons (mC (.str "end")) mNil))))) (sRet (m2 fIx (mVar 0) (mC (.int 1)))) sNil)
  (sRet (mJoin (m2 fDix (mDict (mPc (mC (.str "lesser")) (mC (.str " & ")) (mPc (mC (.str "greater")) (mC (.str " | ")) mPn))) (m2 fIx (mVar 0) (mC (.int 0)))) (mLc false (mWalk (m2 fIx (mVar 0) (mC (.int 1)))) (gN 1) [1] bYes (mFn G__law_inner 1 (mCons (mVar 1) mNil))))))
mutual
noncomputable def F__law_inner : Nat → FD
  | 0 => fun _ _ => .stk
  | n + 1 => (bodyF 1 (m__law_inner (F__law_inner n) (F__law_text n)))
noncomputable def F__law_text : Nat → FD
  | 0 => fun _ _ => .stk
  | n + 1 => (bodyF 2 (m__law_text (F__law_inner n) (F__law_text n)))
end
theorem oo__law_inner {P : Program} {w : World} {K : PySem.W.Frag} {mg : Str → Option Value} {base : Heap} (D__law_inner : Df K mg "_law_inner" (topS 32)) (D__law_text : Df K mg "_law_text" (topS 33))   : ∀ n : Nat, Ok P w K mg base (lv 2 n) "_law_inner" (topS 32) ["_law_term_here"] (F__law_inner n) ∧ Ok P w K mg base (lv 2 n) "_law_text" (topS 33) ["_law_term_here"] (F__law_text n) := by
  intro n
  induction n with
  | zero =>
    exact ⟨(by rw [F__law_inner]; exact ok_stk D__law_inner (fun _ _ _ _ _ _ us hl => match us, hl with | [_], _ => rfl)), (by rw [F__law_text]; exact ok_stk D__law_text (fun _ _ _ _ _ _ us hl => match us, hl with | [_], _ => rfl))⟩
  | succ n ih =>
    obtain ⟨ih__law_inner, ih__law_text⟩ := ih
    exact ⟨(by
      have nd := sc__law_inner.nd
      rw [F__law_inner]
      exact ok_mk (k := lv 2 n + 2) D__law_inner sc__law_inner (fun _ _ _ _ _ _ us hl => match us, hl with | [_], _ => rfl) fun f cdv A l s H E gd hr tk po =>
        (sb_one (ss_ret (se_if (st_cmp fIn_ok (se_ix (v 0) se_int) (se_tup (sa_cons se_str (sa_cons se_str sa_nil))) rfl) (se_add (se_add se_str (se_ok (le := (Nat.le_add_right _ _)) ih__law_text hr gd tk (sa_cons (v 0) sa_nil))) se_str) (se_ok (le := (Nat.le_add_right _ _)) ih__law_text hr gd tk (sa_cons (v 0) sa_nil)))))), (by
      have nd := sc__law_text.nd
      rw [F__law_text]
      exact ok_mk (k := lv 2 n + 2) D__law_text sc__law_text (fun _ _ _ _ _ _ us hl => match us, hl with | [_], _ => rfl) fun f cdv A l s H E gd hr tk po =>
        (sb_cons (ss_if (st_cmp fIn_ok (se_ix (v 0) se_int) (se_tup (sa_cons se_str (sa_cons se_str sa_nil))) rfl) (sb_one (ss_ret (se_ix (v 0) se_int))) sb_nil)
    (sb_one (ss_ret (se_join (se_dix (L2.hu_of hr) (se_dict (sp_cons se_str se_str (sp_cons se_str se_str sp_nil))) (se_ix (v 0) se_int)) (se_lc (C := false) (own := [("_law_part", 1)]) (g := gN 1) rfl nd (si_walk (se_ix (v 0) se_int)) (blkOk_by (N := N__law_text) (sc := defScope (topS 33)) (own := [("_law_part", 1)]) (by decide +kernel)) (fun _ _ _ _ _ => lg_name nd (by decide)) (fun _ _ _ _ _ => st_yes) (fun _ _ _ _ _ => (se_ok (X := Cx.blk (Xf P w K mg base N__law_text "_law_text" (topS 33) f cdv A l s H E) _ _ _ _ _) (le := (Nat.le_add_right _ _)) ih__law_inner hr gd LamX.takes0 (sa_cons (v 1) sa_nil)))))))))⟩
/-! ### _law_written -/
abbrev N__law_written : List Str := ["_law_term_here", "_law_word", "_law_part"]
theorem sc__law_written : FnScope N__law_written ["_law_term_here"] (defScope (topS 34)) := ⟨rfl, rfl, rfl, by decide +kernel, rfl, by decide +kernel, by decide +kernel⟩
noncomputable def m__law_written (G__law_written : FD) : MS := (sSeq (sSet 1 (m2 fDix (mDict (mPc (mC (.str "place")) (mC (.str "Place")) (mPc (mC (.str "end")) (mC (.str "End")) (mPc (mC (.str "lesser")) (mC (.str "Lesser")) (mPc (mC (.str "greater")) (mC (.str "Greater")) mPn))))) (m2 fIx (mVar 0) (mC (.int 0)))))
  (sSeq (sIf (mT (m2 fIn (m2 fIx (mVar 0) (mC (.int 0))) (mTup (mCons (mC (.str "place")) (mCons (mC (.str "end")) mNil))))) (sRet (m2 fAdd (m2 fAdd (m2 fAdd (mVar 1) (mC (.str "('"))) (m2 fIx (mVar 0) (mC (.int 1)))) (mC (.str "')")))) sNil)
  (sRet (m2 fAdd (m2 fAdd (m2 fAdd (mVar 1) (mC (.str "("))) (mJoin (mC (.str ", ")) (mLc false (mWalk (m2 fIx (mVar 0) (mC (.int 1)))) (gN 2) [2] bYes (mFn G__law_written 1 (mCons (mVar 2) mNil))))) (mC (.str ")"))))))
noncomputable def F__law_written : Nat → FD
  | 0 => fun _ _ => .stk
  | n + 1 => (bodyF 3 (m__law_written (F__law_written n)))
theorem oo__law_written {P : Program} {w : World} {K : PySem.W.Frag} {mg : Str → Option Value} {base : Heap} (D__law_written : Df K mg "_law_written" (topS 34))   : ∀ n : Nat, Ok P w K mg base (lv 2 n) "_law_written" (topS 34) ["_law_term_here"] (F__law_written n) := by
  intro n
  induction n with
  | zero =>
    exact (by rw [F__law_written]; exact ok_stk D__law_written (fun _ _ _ _ _ _ us hl => match us, hl with | [_], _ => rfl))
  | succ n ih__law_written =>
    exact (by
      have nd := sc__law_written.nd
      rw [F__law_written]
      exact ok_mk (k := lv 2 n + 2) D__law_written sc__law_written (fun _ _ _ _ _ _ us hl => match us, hl with | [_], _ => rfl) fun f cdv A l s H E gd hr tk po =>
        (sb_cons (ss_set (i := 1) nd (se_dix (L2.hu_of hr) (se_dict (sp_cons se_str se_str (sp_cons se_str se_str (sp_cons se_str se_str (sp_cons se_str se_str sp_nil))))) (se_ix (v 0) se_int)))
    (sb_cons (ss_if (st_cmp fIn_ok (se_ix (v 0) se_int) (se_tup (sa_cons se_str (sa_cons se_str sa_nil))) rfl) (sb_one (ss_ret (se_add (se_add (se_add (v 1) se_str) (se_ix (v 0) se_int)) se_str))) sb_nil)
    (sb_one (ss_ret (se_add (se_add (se_add (v 1) se_str) (se_join se_str (se_lc (C := false) (own := [("_law_part", 2)]) (g := gN 2) rfl nd (si_walk (se_ix (v 0) se_int)) (blkOk_by (N := N__law_written) (sc := defScope (topS 34)) (own := [("_law_part", 2)]) (by decide +kernel)) (fun _ _ _ _ _ => lg_name nd (by decide)) (fun _ _ _ _ _ => st_yes) (fun _ _ _ _ _ => (se_ok (X := Cx.blk (Xf P w K mg base N__law_written "_law_written" (topS 34) f cdv A l s H E) _ _ _ _ _) (le := (Nat.le_add_right _ _)) ih__law_written hr gd LamX.takes0 (sa_cons (v 2) sa_nil)))))) se_str))))))
/-! ### _law_bent -/
abbrev N__law_bent : List Str := ["_law_pot_here", "_law_term_here", "_law_places_here", "_law_way", "_law_at", "_law_parts"]
theorem sc__law_bent : FnScope N__law_bent ["_law_pot_here", "_law_term_here", "_law_places_here"] (defScope (topS 35)) := ⟨rfl, rfl, rfl, by decide +kernel, rfl, by decide +kernel, by decide +kernel⟩
noncomputable def m__law_bent (G__law_bent : FD) : MS := (sSeq (sIf (mT (m2 fEq (m2 fIx (mVar 1) (mC (.int 0))) (mC (.str "place")))) (sRet (mFn F__law_pick 2 (mCons (mVar 0) (mCons (mLst (mCons (mTup (mCons (mC (.str "place")) (mCons (mFn F__law_pick 2 (mCons (mVar 0) (mCons (mVar 2) mNil))) mNil))) (mCons (mTup (mCons (mC (.str "end")) (mCons (mC (.str "top")) mNil))) (mCons (mTup (mCons (mC (.str "lesser")) (mCons (mLst (mCons (mVar 1) (mCons (mVar 1) mNil))) mNil))) (mCons (mVar 1) mNil))))) mNil)))) sNil)
  (sSeq (sIf (mT (m2 fEq (m2 fIx (mVar 1) (mC (.int 0))) (mC (.str "end")))) (sRet (mTup (mCons (mC (.str "end")) (mCons (m2 fDix (mDict (mPc (mC (.str "bottom")) (mC (.str "top")) (mPc (mC (.str "top")) (mC (.str "bottom")) mPn))) (m2 fIx (mVar 1) (mC (.int 1)))) mNil)))) sNil)
  (sSeq (sPar3 3 4 5 (mFn F__law_draw 2 (mCons (mVar 0) (mCons (mC (.int 6)) mNil))) (mFn F__law_draw 2 (mCons (mVar 0) (mCons (mCall bLen (mCons (m2 fIx (mVar 1) (mC (.int 1))) mNil)) mNil))) (mCall (bList true) (mCons (m2 fIx (mVar 1) (mC (.int 1))) mNil)))
  (sSeq (sIf (mT (m2 fLt (mVar 3) (mC (.int 3)))) (sSeq (sAsg (gIx (mVar 5) (mVar 4)) (mFn G__law_bent 3 (mCons (mVar 0) (mCons (m2 fIx (mVar 5) (mVar 4)) (mCons (mVar 2) mNil)))))
  (sRet (mTup (mCons (m2 fIx (mVar 1) (mC (.int 0))) (mCons (mVar 5) mNil))))) sNil)
  (sSeq (sIf (mT (m2 fEq (mVar 3) (mC (.int 3)))) (sRet (mTup (mCons (m2 fDix (mDict (mPc (mC (.str "lesser")) (mC (.str "greater")) (mPc (mC (.str "greater")) (mC (.str "lesser")) mPn))) (m2 fIx (mVar 1) (mC (.int 0)))) (mCons (mVar 5) mNil)))) sNil)
  (sSeq (sIf (mAndT (mT (m2 fEq (mVar 3) (mC (.int 4)))) (mT (m2 fLt (mCall bLen (mCons (mVar 5) mNil)) (mC (.int 4))))) (sRet (mTup (mCons (m2 fIx (mVar 1) (mC (.int 0))) (mCons (m2 fAdd (m2 fAdd (mSl false (mVar 5) (fun _ c => .ok none c) (mPart (mVar 4))) (mLst (mCons (m2 fIx (mVar 5) (mVar 4)) mNil))) (mSl false (mVar 5) (mPart (mVar 4)) (fun _ c => .ok none c))) mNil)))) sNil)
  (sRet (mTup (mCons (m2 fIx (mVar 1) (mC (.int 0))) (mCons (m1 fRev (mVar 5)) mNil))))))))))
noncomputable def F__law_bent : Nat → FD
  | 0 => fun _ _ => .stk
  | n + 1 => (bodyF 6 (m__law_bent (F__law_bent n)))
theorem oo__law_bent {P : Program} {w : World} {K : PySem.W.Frag} {mg : Str → Option Value} {base : Heap} (D__law_bent : Df K mg "_law_bent" (topS 35)) (n_len : mg "len" = none) (n_list : mg "list" = none) (o__law_pick : Ok P w K mg base 4 "_law_pick" (topS 27) ["_law_pot_here", "_law_some"] F__law_pick) (o__law_draw : Ok P w K mg base 3 "_law_draw" (topS 26) ["_law_pot_here", "_law_many"] F__law_draw) : ∀ n : Nat, Ok P w K mg base (lv 4 n) "_law_bent" (topS 35) ["_law_pot_here", "_law_term_here", "_law_places_here"] (F__law_bent n) := by
  intro n
  induction n with
  | zero =>
    exact (by rw [F__law_bent]; exact ok_stk D__law_bent (fun _ _ _ _ _ _ us hl => match us, hl with | [_, _, _], _ => rfl))
  | succ n ih__law_bent =>
    exact (by
      have nd := sc__law_bent.nd
      rw [F__law_bent]
      exact ok_mk (k := lv 4 n + 2) D__law_bent sc__law_bent (fun _ _ _ _ _ _ us hl => match us, hl with | [_, _, _], _ => rfl) fun f cdv A l s H E gd hr tk po =>
        (sb_cons (ss_if (st_cmp (fEq_ok hr) (se_ix (v 1) se_int) se_str rfl) (sb_one (ss_ret (se_ok (le := (lv_le2 _ (by decide))) o__law_pick hr gd tk (sa_cons (v 0) (sa_cons (se_lst (sa_cons (se_tup (sa_cons se_str (sa_cons (se_ok (le := (lv_le2 _ (by decide))) o__law_pick hr gd tk (sa_cons (v 0) (sa_cons (v 2) sa_nil))) sa_nil))) (sa_cons (se_tup (sa_cons se_str (sa_cons se_str sa_nil))) (sa_cons (se_tup (sa_cons se_str (sa_cons (se_lst (sa_cons (v 1) (sa_cons (v 1) sa_nil))) sa_nil))) (sa_cons (v 1) sa_nil))))) sa_nil))))) sb_nil)
    (sb_cons (ss_if (st_cmp (fEq_ok hr) (se_ix (v 1) se_int) se_str rfl) (sb_one (ss_ret (se_tup (sa_cons se_str (sa_cons (se_dix (L2.hu_of hr) (se_dict (sp_cons se_str se_str (sp_cons se_str se_str sp_nil))) (se_ix (v 1) se_int)) sa_nil))))) sb_nil)
    (sb_cons (ss_par3 (i := 3) (j := 4) (l := 5) rfl nd (se_ok (le := (lv_le2 _ (by decide))) o__law_draw hr gd tk (sa_cons (v 0) (sa_cons se_int sa_nil))) (se_ok (le := (lv_le2 _ (by decide))) o__law_draw hr gd tk (sa_cons (v 0) (sa_cons (se_callB bLen_ok n_len (sa_cons (se_ix (v 1) se_int) sa_nil)) sa_nil))) (se_callTy bList_ok n_list (sa_cons (se_ix (v 1) se_int) sa_nil)))
    (sb_cons (ss_if (st_cmp fLt_ok (v 3) se_int rfl) (sb_cons (ss_asg (se_ok (le := (Nat.le_add_right _ _)) ih__law_bent hr gd tk (sa_cons (v 0) (sa_cons (se_ix (v 5) (v 4)) (sa_cons (v 2) sa_nil)))) (sg_ix (W := WOf E) (v 5) (v 4)))
    (sb_one (ss_ret (se_tup (sa_cons (se_ix (v 1) se_int) (sa_cons (v 5) sa_nil)))))) sb_nil)
    (sb_cons (ss_if (st_cmp (fEq_ok hr) (v 3) se_int rfl) (sb_one (ss_ret (se_tup (sa_cons (se_dix (L2.hu_of hr) (se_dict (sp_cons se_str se_str (sp_cons se_str se_str sp_nil))) (se_ix (v 1) se_int)) (sa_cons (v 5) sa_nil))))) sb_nil)
    (sb_cons (ss_if (sw_pt (sw_and (st_cmp (fEq_ok hr) (v 3) se_int rfl) (sw_and1 (st_cmp fLt_ok (se_callB bLen_ok n_len (sa_cons (v 5) sa_nil)) se_int rfl)))) (sb_one (ss_ret (se_tup (sa_cons (se_ix (v 1) se_int) (sa_cons (se_add (se_add (se_slice (C := false) (v 5) so_none (so_some (v 4))) (se_lst (sa_cons (se_ix (v 5) (v 4)) sa_nil))) (se_slice (C := false) (v 5) (so_some (v 4)) so_none)) sa_nil))))) sb_nil)
    (sb_one (ss_ret (se_tup (sa_cons (se_ix (v 1) se_int) (sa_cons (se_rev (v 5)) sa_nil))))))))))))
/-! ### End_and -/
abbrev N_End_and : List Str := ["self", "other"]
theorem sc_End_and : FnScope N_End_and ["self", "other"] (defScope (clsAt (topS 21) 9)) := ⟨rfl, rfl, rfl, by decide +kernel, rfl, by decide +kernel, by decide +kernel⟩
noncomputable def m_End_and : MS := (sRet (mMk "Lesser" F_Lesser_init (mCons (mVar 0) (mCons (mVar 1) mNil))))
noncomputable def F_End_and : FD := (argF 2 (bodyF 2 m_End_and))
theorem o_End_and {P : Program} {w : World} {K : PySem.W.Frag} {mg : Str → Option Value} {base : Heap} (D0 : DfM K mg "End" "__and__" "End.__and__" (clsAt (topS 21) 9)) (mk_Lesser : MkD K mg "Lesser") (o_Lesser_init : OkM P w K mg base 6 "Lesser" "__init__" F_Lesser_init) : OkM P w K mg base 8 "End" "__and__" F_End_and := by
  have nd := sc_End_and.nd
  exact okM_mk (k := 7) D0 sc_End_and (fun _ _ _ _ _ _ us hl => match us, hl with | [_, _], _ => rfl) fun f cdv A l s H E gd hr tk po =>
    (sb_one (ss_ret (se_mk (OkM.mk (OkM.mono o_Lesser_init (by decide)) mk_Lesser) hr gd tk (sa_cons (v 0) (sa_cons (v 1) sa_nil)))))
/-! ### End_eq -/
abbrev N_End_eq : List Str := ["self", "other"]
theorem sc_End_eq : FnScope N_End_eq ["self", "other"] (defScope (clsAt (topS 21) 13)) := ⟨rfl, rfl, rfl, by decide +kernel, rfl, by decide +kernel, by decide +kernel⟩
noncomputable def m_End_eq : MS := (sRet (mAndV (m1 (fIsO [("Place", false), ("End", true), ("Lesser", false), ("Greater", false)]) (mVar 1)) (m2 fEq (m1 (fFld ["End"] "_end") (mVar 0)) (m1 (fFld ["End"] "_end") (mVar 1)))))
noncomputable def F_End_eq : FD := (argF 2 (bodyF 2 m_End_eq))
theorem o_End_eq {P : Program} {w : World} {K : PySem.W.Frag} {mg : Str → Option Value} {base : Heap} (D0 : DfM K mg "End" "__eq__" "End.__eq__" (clsAt (topS 21) 13)) (is_End : IsD K mg [("Place", false), ("End", true), ("Lesser", false), ("Greater", false)] "End") (n_isinstance : mg "isinstance" = none) (fl_end_End : FldIn K mg ["End"] "_end")  : OkM P w K mg base 3 "End" "__eq__" F_End_eq := by
  have nd := sc_End_eq.nd
  exact okM_mk (k := 2) D0 sc_End_eq (fun _ _ _ _ _ _ us hl => match us, hl with | [_, _], _ => rfl) fun f cdv A l s H E gd hr tk po =>
    (sb_one (ss_ret (se_and (se_iso (cls := [("Place", false), ("End", true), ("Lesser", false), ("Greater", false)]) (v 1) is_End n_isinstance) (se_one (se_cmp (fEq_ok hr) (se_fld (cls := ["End"]) (v 0) fl_end_End) (se_fld (cls := ["End"]) (v 1) fl_end_End) rfl)))))
/-! ### End_or -/
abbrev N_End_or : List Str := ["self", "other"]
theorem sc_End_or : FnScope N_End_or ["self", "other"] (defScope (clsAt (topS 21) 10)) := ⟨rfl, rfl, rfl, by decide +kernel, rfl, by decide +kernel, by decide +kernel⟩
noncomputable def m_End_or : MS := (sRet (mMk "Greater" F_Greater_init (mCons (mVar 0) (mCons (mVar 1) mNil))))
noncomputable def F_End_or : FD := (argF 2 (bodyF 2 m_End_or))
theorem o_End_or {P : Program} {w : World} {K : PySem.W.Frag} {mg : Str → Option Value} {base : Heap} (D0 : DfM K mg "End" "__or__" "End.__or__" (clsAt (topS 21) 10)) (mk_Greater : MkD K mg "Greater") (o_Greater_init : OkM P w K mg base 6 "Greater" "__init__" F_Greater_init) : OkM P w K mg base 8 "End" "__or__" F_End_or := by
  have nd := sc_End_or.nd
  exact okM_mk (k := 7) D0 sc_End_or (fun _ _ _ _ _ _ us hl => match us, hl with | [_, _], _ => rfl) fun f cdv A l s H E gd hr tk po =>
    (sb_one (ss_ret (se_mk (OkM.mk (OkM.mono o_Greater_init (by decide)) mk_Greater) hr gd tk (sa_cons (v 0) (sa_cons (v 1) sa_nil)))))
/-! ### End_repr -/
abbrev N_End_repr : List Str := ["self"]
theorem sc_End_repr : FnScope N_End_repr ["self"] (defScope (clsAt (topS 21) 12)) := ⟨rfl, rfl, rfl, by decide +kernel, rfl, by decide +kernel, by decide +kernel⟩
noncomputable def m_End_repr : MS := (sRet (mJs [(mC (.str "End(")), (m1 fFmtR (m1 (fFld ["End"] "_end") (mVar 0))), (mC (.str ")"))] Str.empty))
noncomputable def F_End_repr : FD := (argF 1 (bodyF 1 m_End_repr))
theorem o_End_repr {P : Program} {w : World} {K : PySem.W.Frag} {mg : Str → Option Value} {base : Heap} (D0 : DfM K mg "End" "__repr__" "End.__repr__" (clsAt (topS 21) 12)) (fl_end_End : FldIn K mg ["End"] "_end")  : OkM P w K mg base 3 "End" "__repr__" F_End_repr := by
  have nd := sc_End_repr.nd
  exact okM_mk (k := 2) D0 sc_End_repr (fun _ _ _ _ _ _ us hl => match us, hl with | [_], _ => rfl) fun f cdv A l s H E gd hr tk po =>
    (sb_one (ss_ret (se_js (sj_cons se_str (sj_cons (se_fmtR (se_fld (cls := ["End"]) (v 0) fl_end_End)) (sj_cons se_str sj_nil))))))
/-! ### Greater_and -/
abbrev N_Greater_and : List Str := ["self", "other"]
theorem sc_Greater_and : FnScope N_Greater_and ["self", "other"] (defScope (clsAt (topS 23) 9)) := ⟨rfl, rfl, rfl, by decide +kernel, rfl, by decide +kernel, by decide +kernel⟩
noncomputable def m_Greater_and : MS := (sRet (mMk "Lesser" F_Lesser_init (mCons (mVar 0) (mCons (mVar 1) mNil))))
noncomputable def F_Greater_and : FD := (argF 2 (bodyF 2 m_Greater_and))
theorem o_Greater_and {P : Program} {w : World} {K : PySem.W.Frag} {mg : Str → Option Value} {base : Heap} (D0 : DfM K mg "Greater" "__and__" "Greater.__and__" (clsAt (topS 23) 9)) (mk_Lesser : MkD K mg "Lesser") (o_Lesser_init : OkM P w K mg base 6 "Lesser" "__init__" F_Lesser_init) : OkM P w K mg base 8 "Greater" "__and__" F_Greater_and := by
  have nd := sc_Greater_and.nd
  exact okM_mk (k := 7) D0 sc_Greater_and (fun _ _ _ _ _ _ us hl => match us, hl with | [_, _], _ => rfl) fun f cdv A l s H E gd hr tk po =>
    (sb_one (ss_ret (se_mk (OkM.mk (OkM.mono o_Lesser_init (by decide)) mk_Lesser) hr gd tk (sa_cons (v 0) (sa_cons (v 1) sa_nil)))))
/-! ### Place_eq -/
abbrev N_Place_eq : List Str := ["self", "other"]
theorem sc_Place_eq : FnScope N_Place_eq ["self", "other"] (defScope (clsAt (topS 20) 13)) := ⟨rfl, rfl, rfl, by decide +kernel, rfl, by decide +kernel, by decide +kernel⟩
noncomputable def m_Place_eq : MS := (sRet (mAndV (m1 (fIsO [("Place", true), ("End", false), ("Lesser", false), ("Greater", false)]) (mVar 1)) (m2 fEq (m1 (fFld ["Place"] "_name") (mVar 0)) (m1 (fFld ["Place"] "_name") (mVar 1)))))
noncomputable def F_Place_eq : FD := (argF 2 (bodyF 2 m_Place_eq))
theorem o_Place_eq {P : Program} {w : World} {K : PySem.W.Frag} {mg : Str → Option Value} {base : Heap} (D0 : DfM K mg "Place" "__eq__" "Place.__eq__" (clsAt (topS 20) 13)) (is_Place : IsD K mg [("Place", true), ("End", false), ("Lesser", false), ("Greater", false)] "Place") (n_isinstance : mg "isinstance" = none) (fl_name_Place : FldIn K mg ["Place"] "_name")  : OkM P w K mg base 3 "Place" "__eq__" F_Place_eq := by
  have nd := sc_Place_eq.nd
  exact okM_mk (k := 2) D0 sc_Place_eq (fun _ _ _ _ _ _ us hl => match us, hl with | [_, _], _ => rfl) fun f cdv A l s H E gd hr tk po =>
    (sb_one (ss_ret (se_and (se_iso (cls := [("Place", true), ("End", false), ("Lesser", false), ("Greater", false)]) (v 1) is_Place n_isinstance) (se_one (se_cmp (fEq_ok hr) (se_fld (cls := ["Place"]) (v 0) fl_name_Place) (se_fld (cls := ["Place"]) (v 1) fl_name_Place) rfl)))))
/-! ### Lesser_eq -/
abbrev N_Lesser_eq : List Str := ["self", "other"]
theorem sc_Lesser_eq : FnScope N_Lesser_eq ["self", "other"] (defScope (clsAt (topS 22) 13)) := ⟨rfl, rfl, rfl, by decide +kernel, rfl, by decide +kernel, by decide +kernel⟩
noncomputable def m_Lesser_eq (G_Lesser_eq : FD) (G_Greater_eq : FD) : MS := (sRet (mAndV (m1 (fIsO [("Place", false), ("End", false), ("Lesser", true), ("Greater", false)]) (mVar 1)) (m2 (fEqTO [("Place", F_Place_eq), ("End", F_End_eq), ("Lesser", G_Lesser_eq), ("Greater", G_Greater_eq)] ["Place", "End", "Lesser", "Greater"]) (m1 (fFld ["Lesser"] "_parts") (mVar 0)) (m1 (fFld ["Lesser"] "_parts") (mVar 1)))))
/-! ### Greater_eq -/
abbrev N_Greater_eq : List Str := ["self", "other"]
theorem sc_Greater_eq : FnScope N_Greater_eq ["self", "other"] (defScope (clsAt (topS 23) 13)) := ⟨rfl, rfl, rfl, by decide +kernel, rfl, by decide +kernel, by decide +kernel⟩
noncomputable def m_Greater_eq (G_Lesser_eq : FD) (G_Greater_eq : FD) : MS := (sRet (mAndV (m1 (fIsO [("Place", false), ("End", false), ("Lesser", false), ("Greater", true)]) (mVar 1)) (m2 (fEqTO [("Place", F_Place_eq), ("End", F_End_eq), ("Lesser", G_Lesser_eq), ("Greater", G_Greater_eq)] ["Place", "End", "Lesser", "Greater"]) (m1 (fFld ["Greater"] "_parts") (mVar 0)) (m1 (fFld ["Greater"] "_parts") (mVar 1)))))
mutual
noncomputable def F_Lesser_eq : Nat → FD
  | 0 => fun _ _ => .stk
  | n + 1 => (argF 2 (bodyF 2 (m_Lesser_eq (F_Lesser_eq n) (F_Greater_eq n))))
noncomputable def F_Greater_eq : Nat → FD
  | 0 => fun _ _ => .stk
  | n + 1 => (argF 2 (bodyF 2 (m_Greater_eq (F_Lesser_eq n) (F_Greater_eq n))))
end
theorem oo_Lesser_eq {P : Program} {w : World} {K : PySem.W.Frag} {mg : Str → Option Value} {base : Heap} (D_Lesser_eq : DfM K mg "Lesser" "__eq__" "Lesser.__eq__" (clsAt (topS 22) 13)) (D_Greater_eq : DfM K mg "Greater" "__eq__" "Greater.__eq__" (clsAt (topS 23) 13)) (is_Lesser : IsD K mg [("Place", false), ("End", false), ("Lesser", true), ("Greater", false)] "Lesser") (n_isinstance : mg "isinstance" = none) (eq_Greater : EqD K mg ["Place", "End", "Lesser", "Greater"] "Greater") (eq_Lesser : EqD K mg ["Place", "End", "Lesser", "Greater"] "Lesser") (eq_End : EqD K mg ["Place", "End", "Lesser", "Greater"] "End") (eq_Place : EqD K mg ["Place", "End", "Lesser", "Greater"] "Place") (fl_parts_Lesser : FldIn K mg ["Lesser"] "_parts") (is_Greater : IsD K mg [("Place", false), ("End", false), ("Lesser", false), ("Greater", true)] "Greater") (fl_parts_Greater : FldIn K mg ["Greater"] "_parts") (o_End_eq : OkM P w K mg base 3 "End" "__eq__" F_End_eq) (o_Place_eq : OkM P w K mg base 3 "Place" "__eq__" F_Place_eq) : ∀ n : Nat, OkM P w K mg base (lv 4 n) "Lesser" "__eq__" (F_Lesser_eq n) ∧ OkM P w K mg base (lv 4 n) "Greater" "__eq__" (F_Greater_eq n) := by
  intro n
  induction n with
  | zero =>
    exact ⟨(by rw [F_Lesser_eq]; exact okM_stk D_Lesser_eq), (by rw [F_Greater_eq]; exact okM_stk D_Greater_eq)⟩
  | succ n ih =>
    obtain ⟨ih_Lesser_eq, ih_Greater_eq⟩ := ih
    exact ⟨(by
      have nd := sc_Lesser_eq.nd
      rw [F_Lesser_eq]
      exact okM_mk (k := lv 4 n + 2) D_Lesser_eq sc_Lesser_eq (fun _ _ _ _ _ _ us hl => match us, hl with | [_, _], _ => rfl) fun f cdv A l s H E gd hr tk po =>
        (sb_one (ss_ret (se_and (se_iso (cls := [("Place", false), ("End", false), ("Lesser", true), ("Greater", false)]) (v 1) is_Lesser n_isinstance) (se_one (se_cmp (fEqTO_ok (tbl := [("Place", F_Place_eq), ("End", F_End_eq), ("Lesser", (F_Lesser_eq n)), ("Greater", (F_Greater_eq n))]) (lk_cons (OkM.eqC (OkM.mono o_Place_eq (lv_le1 _ (by decide))) eq_Place) (lk_cons (OkM.eqC (OkM.mono o_End_eq (lv_le1 _ (by decide))) eq_End) (lk_cons (OkM.eqC (OkM.mono ih_Lesser_eq (Nat.le_add_right _ _)) eq_Lesser) (lk_cons (OkM.eqC (OkM.mono ih_Greater_eq (Nat.le_add_right _ _)) eq_Greater) lk_nil)))) hr gd) (se_fld (cls := ["Lesser"]) (v 0) fl_parts_Lesser) (se_fld (cls := ["Lesser"]) (v 1) fl_parts_Lesser) rfl)))))), (by
      have nd := sc_Greater_eq.nd
      rw [F_Greater_eq]
      exact okM_mk (k := lv 4 n + 2) D_Greater_eq sc_Greater_eq (fun _ _ _ _ _ _ us hl => match us, hl with | [_, _], _ => rfl) fun f cdv A l s H E gd hr tk po =>
        (sb_one (ss_ret (se_and (se_iso (cls := [("Place", false), ("End", false), ("Lesser", false), ("Greater", true)]) (v 1) is_Greater n_isinstance) (se_one (se_cmp (fEqTO_ok (tbl := [("Place", F_Place_eq), ("End", F_End_eq), ("Lesser", (F_Lesser_eq n)), ("Greater", (F_Greater_eq n))]) (lk_cons (OkM.eqC (OkM.mono o_Place_eq (lv_le1 _ (by decide))) eq_Place) (lk_cons (OkM.eqC (OkM.mono o_End_eq (lv_le1 _ (by decide))) eq_End) (lk_cons (OkM.eqC (OkM.mono ih_Lesser_eq (Nat.le_add_right _ _)) eq_Lesser) (lk_cons (OkM.eqC (OkM.mono ih_Greater_eq (Nat.le_add_right _ _)) eq_Greater) lk_nil)))) hr gd) (se_fld (cls := ["Greater"]) (v 0) fl_parts_Greater) (se_fld (cls := ["Greater"]) (v 1) fl_parts_Greater) rfl))))))⟩
/-! ### Greater_or -/
abbrev N_Greater_or : List Str := ["self", "other"]
theorem sc_Greater_or : FnScope N_Greater_or ["self", "other"] (defScope (clsAt (topS 23) 10)) := ⟨rfl, rfl, rfl, by decide +kernel, rfl, by decide +kernel, by decide +kernel⟩
noncomputable def m_Greater_or : MS := (sRet (mMk "Greater" F_Greater_init (mCons (mVar 0) (mCons (mVar 1) mNil))))
noncomputable def F_Greater_or : FD := (argF 2 (bodyF 2 m_Greater_or))
theorem o_Greater_or {P : Program} {w : World} {K : PySem.W.Frag} {mg : Str → Option Value} {base : Heap} (D0 : DfM K mg "Greater" "__or__" "Greater.__or__" (clsAt (topS 23) 10)) (mk_Greater : MkD K mg "Greater") (o_Greater_init : OkM P w K mg base 6 "Greater" "__init__" F_Greater_init) : OkM P w K mg base 8 "Greater" "__or__" F_Greater_or := by
  have nd := sc_Greater_or.nd
  exact okM_mk (k := 7) D0 sc_Greater_or (fun _ _ _ _ _ _ us hl => match us, hl with | [_, _], _ => rfl) fun f cdv A l s H E gd hr tk po =>
    (sb_one (ss_ret (se_mk (OkM.mk (OkM.mono o_Greater_init (by decide)) mk_Greater) hr gd tk (sa_cons (v 0) (sa_cons (v 1) sa_nil)))))
/-! ### Place_repr -/
abbrev N_Place_repr : List Str := ["self"]
theorem sc_Place_repr : FnScope N_Place_repr ["self"] (defScope (clsAt (topS 20) 12)) := ⟨rfl, rfl, rfl, by decide +kernel, rfl, by decide +kernel, by decide +kernel⟩
noncomputable def m_Place_repr : MS := (sRet (mJs [(mC (.str "Place(")), (m1 fFmtR (m1 (fFld ["Place"] "_name") (mVar 0))), (mC (.str ")"))] Str.empty))
noncomputable def F_Place_repr : FD := (argF 1 (bodyF 1 m_Place_repr))
theorem o_Place_repr {P : Program} {w : World} {K : PySem.W.Frag} {mg : Str → Option Value} {base : Heap} (D0 : DfM K mg "Place" "__repr__" "Place.__repr__" (clsAt (topS 20) 12)) (fl_name_Place : FldIn K mg ["Place"] "_name")  : OkM P w K mg base 3 "Place" "__repr__" F_Place_repr := by
  have nd := sc_Place_repr.nd
  exact okM_mk (k := 2) D0 sc_Place_repr (fun _ _ _ _ _ _ us hl => match us, hl with | [_], _ => rfl) fun f cdv A l s H E gd hr tk po =>
    (sb_one (ss_ret (se_js (sj_cons se_str (sj_cons (se_fmtR (se_fld (cls := ["Place"]) (v 0) fl_name_Place)) (sj_cons se_str sj_nil))))))
/-! ### Lesser_repr -/
abbrev N_Lesser_repr : List Str := ["self", "inner", "part"]
theorem sc_Lesser_repr : FnScope N_Lesser_repr ["self"] (defScope (clsAt (topS 22) 12)) := ⟨rfl, rfl, rfl, by decide +kernel, rfl, by decide +kernel, by decide +kernel⟩
noncomputable def m_Lesser_repr (G_Lesser_repr : FD) (G_Greater_repr : FD) : MS := (sSeq (sSet 1 (mJoin (mC (.str ", ")) (mLc false (mWalk (m1 (fFld ["Lesser"] "_parts") (mVar 0))) (gN 2) [2] bYes (mCall (bReprO [("Place", F_Place_repr), ("End", F_End_repr), ("Lesser", G_Lesser_repr), ("Greater", G_Greater_repr)]) (mCons (mVar 2) mNil)))))
  (sRet (mJs [(mC (.str "Lesser(")), (m1 fFmt (mVar 1)), (mC (.str ")"))] Str.empty)))
/-! ### Greater_repr -/
abbrev N_Greater_repr : List Str := ["self", "inner", "part"]
theorem sc_Greater_repr : FnScope N_Greater_repr ["self"] (defScope (clsAt (topS 23) 12)) := ⟨rfl, rfl, rfl, by decide +kernel, rfl, by decide +kernel, by decide +kernel⟩
noncomputable def m_Greater_repr (G_Lesser_repr : FD) (G_Greater_repr : FD) : MS := (sSeq (sSet 1 (mJoin (mC (.str ", ")) (mLc false (mWalk (m1 (fFld ["Greater"] "_parts") (mVar 0))) (gN 2) [2] bYes (mCall (bReprO [("Place", F_Place_repr), ("End", F_End_repr), ("Lesser", G_Lesser_repr), ("Greater", G_Greater_repr)]) (mCons (mVar 2) mNil)))))
  (sRet (mJs [(mC (.str "Greater(")), (m1 fFmt (mVar 1)), (mC (.str ")"))] Str.empty)))
mutual
noncomputable def F_Lesser_repr : Nat → FD
  | 0 => fun _ _ => .stk
  | n + 1 => (argF 1 (bodyF 3 (m_Lesser_repr (F_Lesser_repr n) (F_Greater_repr n))))
noncomputable def F_Greater_repr : Nat → FD
  | 0 => fun _ _ => .stk
  | n + 1 => (argF 1 (bodyF 3 (m_Greater_repr (F_Lesser_repr n) (F_Greater_repr n))))
end
theorem oo_Lesser_repr {P : Program} {w : World} {K : PySem.W.Frag} {mg : Str → Option Value} {base : Heap} (D_Lesser_repr : DfM K mg "Lesser" "__repr__" "Lesser.__repr__" (clsAt (topS 22) 12)) (D_Greater_repr : DfM K mg "Greater" "__repr__" "Greater.__repr__" (clsAt (topS 23) 12)) (fl_parts_Lesser : FldIn K mg ["Lesser"] "_parts") (n_repr : mg "repr" = none) (fl_parts_Greater : FldIn K mg ["Greater"] "_parts") (o_End_repr : OkM P w K mg base 3 "End" "__repr__" F_End_repr) (o_Place_repr : OkM P w K mg base 3 "Place" "__repr__" F_Place_repr) : ∀ n : Nat, OkM P w K mg base (lv 4 n) "Lesser" "__repr__" (F_Lesser_repr n) ∧ OkM P w K mg base (lv 4 n) "Greater" "__repr__" (F_Greater_repr n) := by
  intro n
  induction n with
  | zero =>
    exact ⟨(by rw [F_Lesser_repr]; exact okM_stk D_Lesser_repr), (by rw [F_Greater_repr]; exact okM_stk D_Greater_repr)⟩
  | succ n ih =>
    obtain ⟨ih_Lesser_repr, ih_Greater_repr⟩ := ih
    exact ⟨(by
      have nd := sc_Lesser_repr.nd
      rw [F_Lesser_repr]
      exact okM_mk (k := lv 4 n + 2) D_Lesser_repr sc_Lesser_repr (fun _ _ _ _ _ _ us hl => match us, hl with | [_], _ => rfl) fun f cdv A l s H E gd hr tk po =>
        (sb_cons (ss_set (i := 1) nd (se_join se_str (se_lc (C := false) (own := [("part", 2)]) (g := gN 2) rfl nd (si_walk (se_fld (cls := ["Lesser"]) (v 0) fl_parts_Lesser)) (blkOk_by (N := N_Lesser_repr) (sc := defScope (clsAt (topS 22) 12)) (own := [("part", 2)]) (by decide +kernel)) (fun _ _ _ _ _ => lg_name nd (by decide)) (fun _ _ _ _ _ => st_yes) (fun _ _ _ _ _ => (se_callB (bReprO_ok (X := Cx.blk (Xf P w K mg base N_Lesser_repr "Lesser.__repr__" (clsAt (topS 22) 12) f cdv A l s H E) _ _ _ _ _) (tbl := [("Place", F_Place_repr), ("End", F_End_repr), ("Lesser", (F_Lesser_repr n)), ("Greater", (F_Greater_repr n))]) (lk_cons (OkM.spc (OkM.mono o_Place_repr (lv_le1 _ (by decide)))) (lk_cons (OkM.spc (OkM.mono o_End_repr (lv_le1 _ (by decide)))) (lk_cons (OkM.spc (OkM.mono ih_Lesser_repr (Nat.le_add_right _ _))) (lk_cons (OkM.spc (OkM.mono ih_Greater_repr (Nat.le_add_right _ _))) lk_nil)))) hr gd) n_repr (sa_cons (v 2) sa_nil))))))
    (sb_one (ss_ret (se_js (sj_cons se_str (sj_cons (se_fmt (v 1)) (sj_cons se_str sj_nil)))))))), (by
      have nd := sc_Greater_repr.nd
      rw [F_Greater_repr]
      exact okM_mk (k := lv 4 n + 2) D_Greater_repr sc_Greater_repr (fun _ _ _ _ _ _ us hl => match us, hl with | [_], _ => rfl) fun f cdv A l s H E gd hr tk po =>
        (sb_cons (ss_set (i := 1) nd (se_join se_str (se_lc (C := false) (own := [("part", 2)]) (g := gN 2) rfl nd (si_walk (se_fld (cls := ["Greater"]) (v 0) fl_parts_Greater)) (blkOk_by (N := N_Greater_repr) (sc := defScope (clsAt (topS 23) 12)) (own := [("part", 2)]) (by decide +kernel)) (fun _ _ _ _ _ => lg_name nd (by decide)) (fun _ _ _ _ _ => st_yes) (fun _ _ _ _ _ => (se_callB (bReprO_ok (X := Cx.blk (Xf P w K mg base N_Greater_repr "Greater.__repr__" (clsAt (topS 23) 12) f cdv A l s H E) _ _ _ _ _) (tbl := [("Place", F_Place_repr), ("End", F_End_repr), ("Lesser", (F_Lesser_repr n)), ("Greater", (F_Greater_repr n))]) (lk_cons (OkM.spc (OkM.mono o_Place_repr (lv_le1 _ (by decide)))) (lk_cons (OkM.spc (OkM.mono o_End_repr (lv_le1 _ (by decide)))) (lk_cons (OkM.spc (OkM.mono ih_Lesser_repr (Nat.le_add_right _ _))) (lk_cons (OkM.spc (OkM.mono ih_Greater_repr (Nat.le_add_right _ _))) lk_nil)))) hr gd) n_repr (sa_cons (v 2) sa_nil))))))
    (sb_one (ss_ret (se_js (sj_cons se_str (sj_cons (se_fmt (v 1)) (sj_cons se_str sj_nil))))))))⟩
/-! ### Lesser_and -/
abbrev N_Lesser_and : List Str := ["self", "other"]
theorem sc_Lesser_and : FnScope N_Lesser_and ["self", "other"] (defScope (clsAt (topS 22) 9)) := ⟨rfl, rfl, rfl, by decide +kernel, rfl, by decide +kernel, by decide +kernel⟩
noncomputable def m_Lesser_and : MS := (sRet (mMk "Lesser" F_Lesser_init (mCons (mVar 0) (mCons (mVar 1) mNil))))
noncomputable def F_Lesser_and : FD := (argF 2 (bodyF 2 m_Lesser_and))
theorem o_Lesser_and {P : Program} {w : World} {K : PySem.W.Frag} {mg : Str → Option Value} {base : Heap} (D0 : DfM K mg "Lesser" "__and__" "Lesser.__and__" (clsAt (topS 22) 9)) (mk_Lesser : MkD K mg "Lesser") (o_Lesser_init : OkM P w K mg base 6 "Lesser" "__init__" F_Lesser_init) : OkM P w K mg base 8 "Lesser" "__and__" F_Lesser_and := by
  have nd := sc_Lesser_and.nd
  exact okM_mk (k := 7) D0 sc_Lesser_and (fun _ _ _ _ _ _ us hl => match us, hl with | [_, _], _ => rfl) fun f cdv A l s H E gd hr tk po =>
    (sb_one (ss_ret (se_mk (OkM.mk (OkM.mono o_Lesser_init (by decide)) mk_Lesser) hr gd tk (sa_cons (v 0) (sa_cons (v 1) sa_nil)))))
/-! ### Lesser_or -/
abbrev N_Lesser_or : List Str := ["self", "other"]
theorem sc_Lesser_or : FnScope N_Lesser_or ["self", "other"] (defScope (clsAt (topS 22) 10)) := ⟨rfl, rfl, rfl, by decide +kernel, rfl, by decide +kernel, by decide +kernel⟩
noncomputable def m_Lesser_or : MS := (sRet (mMk "Greater" F_Greater_init (mCons (mVar 0) (mCons (mVar 1) mNil))))
noncomputable def F_Lesser_or : FD := (argF 2 (bodyF 2 m_Lesser_or))
theorem o_Lesser_or {P : Program} {w : World} {K : PySem.W.Frag} {mg : Str → Option Value} {base : Heap} (D0 : DfM K mg "Lesser" "__or__" "Lesser.__or__" (clsAt (topS 22) 10)) (mk_Greater : MkD K mg "Greater") (o_Greater_init : OkM P w K mg base 6 "Greater" "__init__" F_Greater_init) : OkM P w K mg base 8 "Lesser" "__or__" F_Lesser_or := by
  have nd := sc_Lesser_or.nd
  exact okM_mk (k := 7) D0 sc_Lesser_or (fun _ _ _ _ _ _ us hl => match us, hl with | [_, _], _ => rfl) fun f cdv A l s H E gd hr tk po =>
    (sb_one (ss_ret (se_mk (OkM.mk (OkM.mono o_Greater_init (by decide)) mk_Greater) hr gd tk (sa_cons (v 0) (sa_cons (v 1) sa_nil)))))
/-! ### Place_and -/
abbrev N_Place_and : List Str := ["self", "other"]
theorem sc_Place_and : FnScope N_Place_and ["self", "other"] (defScope (clsAt (topS 20) 9)) := ⟨rfl, rfl, rfl, by decide +kernel, rfl, by decide +kernel, by decide +kernel⟩
noncomputable def m_Place_and : MS := (sRet (mMk "Lesser" F_Lesser_init (mCons (mVar 0) (mCons (mVar 1) mNil))))
noncomputable def F_Place_and : FD := (argF 2 (bodyF 2 m_Place_and))
theorem o_Place_and {P : Program} {w : World} {K : PySem.W.Frag} {mg : Str → Option Value} {base : Heap} (D0 : DfM K mg "Place" "__and__" "Place.__and__" (clsAt (topS 20) 9)) (mk_Lesser : MkD K mg "Lesser") (o_Lesser_init : OkM P w K mg base 6 "Lesser" "__init__" F_Lesser_init) : OkM P w K mg base 8 "Place" "__and__" F_Place_and := by
  have nd := sc_Place_and.nd
  exact okM_mk (k := 7) D0 sc_Place_and (fun _ _ _ _ _ _ us hl => match us, hl with | [_, _], _ => rfl) fun f cdv A l s H E gd hr tk po =>
    (sb_one (ss_ret (se_mk (OkM.mk (OkM.mono o_Lesser_init (by decide)) mk_Lesser) hr gd tk (sa_cons (v 0) (sa_cons (v 1) sa_nil)))))
/-! ### Place_or -/
abbrev N_Place_or : List Str := ["self", "other"]
theorem sc_Place_or : FnScope N_Place_or ["self", "other"] (defScope (clsAt (topS 20) 10)) := ⟨rfl, rfl, rfl, by decide +kernel, rfl, by decide +kernel, by decide +kernel⟩
noncomputable def m_Place_or : MS := (sRet (mMk "Greater" F_Greater_init (mCons (mVar 0) (mCons (mVar 1) mNil))))
noncomputable def F_Place_or : FD := (argF 2 (bodyF 2 m_Place_or))
theorem o_Place_or {P : Program} {w : World} {K : PySem.W.Frag} {mg : Str → Option Value} {base : Heap} (D0 : DfM K mg "Place" "__or__" "Place.__or__" (clsAt (topS 20) 10)) (mk_Greater : MkD K mg "Greater") (o_Greater_init : OkM P w K mg base 6 "Greater" "__init__" F_Greater_init) : OkM P w K mg base 8 "Place" "__or__" F_Place_or := by
  have nd := sc_Place_or.nd
  exact okM_mk (k := 7) D0 sc_Place_or (fun _ _ _ _ _ _ us hl => match us, hl with | [_, _], _ => rfl) fun f cdv A l s H E gd hr tk po =>
    (sb_one (ss_ret (se_mk (OkM.mk (OkM.mono o_Greater_init (by decide)) mk_Greater) hr gd tk (sa_cons (v 0) (sa_cons (v 1) sa_nil)))))
/-! ### _law_signs_right -/
abbrev N__law_signs_right : List Str := ["_law_made", "_law_term_here", "_law_other", "_law_real_here", "_law_pairs", "_law_one", "_law_model"]
theorem sc__law_signs_right : FnScope N__law_signs_right ["_law_made", "_law_term_here", "_law_other"] (defScope (topS 36)) := ⟨rfl, rfl, rfl, by decide +kernel, rfl, by decide +kernel, by decide +kernel⟩
noncomputable def m__law_signs_right : MS := (sSeq (sSet 3 (mFn (F__law_real 12) 1 (mCons (mVar 2) mNil)))
  (sSeq (sSet 4 (mLstC (mCons (mTup (mCons (m2 (fBinO [("Place", F_Place_and), ("End", F_End_and), ("Lesser", F_Lesser_and), ("Greater", F_Greater_and)] ["Place", "End", "Lesser", "Greater"]) (mVar 0) (mVar 3)) (mCons (mTup (mCons (mC (.str "lesser")) (mCons (mLstC (mCons (mVar 1) (mCons (mVar 2) mNil))) mNil))) mNil))) (mCons (mTup (mCons (m2 (fBinO [("Place", F_Place_or), ("End", F_End_or), ("Lesser", F_Lesser_or), ("Greater", F_Greater_or)] ["Place", "End", "Lesser", "Greater"]) (mVar 3) (mVar 0)) (mCons (mTup (mCons (mC (.str "greater")) (mCons (mLstC (mCons (mVar 2) (mCons (mVar 1) mNil))) mNil))) mNil))) mNil))))
  (sSeq (sExpr (mMe "list" fAppend (mVar 4) (mCons (mTup (mCons (m2 (fBinO [("Place", F_Place_and), ("End", F_End_and), ("Lesser", F_Lesser_and), ("Greater", F_Greater_and)] ["Place", "End", "Lesser", "Greater"]) (m2 (fBinO [("Place", F_Place_and), ("End", F_End_and), ("Lesser", F_Lesser_and), ("Greater", F_Greater_and)] ["Place", "End", "Lesser", "Greater"]) (mVar 0) (mVar 3)) (mVar 0)) (mCons (mTup (mCons (mC (.str "lesser")) (mCons (mLst (mCons (mTup (mCons (mC (.str "lesser")) (mCons (mLst (mCons (mVar 1) (mCons (mVar 2) mNil))) mNil))) (mCons (mVar 1) mNil))) mNil))) mNil))) mNil)))
  (sSeq (sExpr (mMe "list" fAppend (mVar 4) (mCons (mTup (mCons (m2 (fBinO [("Place", F_Place_or), ("End", F_End_or), ("Lesser", F_Lesser_or), ("Greater", F_Greater_or)] ["Place", "End", "Lesser", "Greater"]) (mVar 0) (m2 (fBinO [("Place", F_Place_and), ("End", F_End_and), ("Lesser", F_Lesser_and), ("Greater", F_Greater_and)] ["Place", "End", "Lesser", "Greater"]) (mVar 3) (mVar 3))) (mCons (mTup (mCons (mC (.str "greater")) (mCons (mLst (mCons (mVar 1) (mCons (mTup (mCons (mC (.str "lesser")) (mCons (mLst (mCons (mVar 2) (mCons (mVar 2) mNil))) mNil))) mNil))) mNil))) mNil))) mNil)))
  (sSeq (sFor (mWalk (mVar 4)) (gT (gsCons (gN 5) (gsCons (gN 6) gsNil)))
  (sIf (mOrT (mT (m2 fNe (mCall (bStrO [("Place", F_Place_str), ("End", F_End_str), ("Lesser", (F_Lesser_str 12)), ("Greater", (F_Greater_str 12))]) (mCons (mVar 5) mNil)) (mFn (F__law_text 12) 1 (mCons (mVar 6) mNil)))) (mOrT (mT (m2 fNe (mCall (bReprO [("Place", F_Place_repr), ("End", F_End_repr), ("Lesser", (F_Lesser_repr 12)), ("Greater", (F_Greater_repr 12))]) (mCons (mVar 5) mNil)) (mFn (F__law_written 12) 1 (mCons (mVar 6) mNil)))) (mT (m2 (fNeO [("Place", F_Place_eq), ("End", F_End_eq), ("Lesser", (F_Lesser_eq 12)), ("Greater", (F_Greater_eq 12))] ["Place", "End", "Lesser", "Greater"]) (mVar 5) (mFn (F__law_real 12) 1 (mCons (mVar 6) mNil)))))) (sRet (mC (.bl false))) sNil))
  (sRet (mAndV (m2 fEq (mCall (bStrO [("Place", F_Place_str), ("End", F_End_str), ("Lesser", (F_Lesser_str 12)), ("Greater", (F_Greater_str 12))]) (mCons (mVar 0) mNil)) (mFn (F__law_text 12) 1 (mCons (mVar 1) mNil))) (m2 fEq (mCall (bStrO [("Place", F_Place_str), ("End", F_End_str), ("Lesser", (F_Lesser_str 12)), ("Greater", (F_Greater_str 12))]) (mCons (mVar 3) mNil)) (mFn (F__law_text 12) 1 (mCons (mVar 2) mNil))))))))))
noncomputable def F__law_signs_right : FD := (bodyF 7 m__law_signs_right)
theorem o__law_signs_right {P : Program} {w : World} {K : PySem.W.Frag} {mg : Str → Option Value} {base : Heap} (D0 : Df K mg "_law_signs_right" (topS 36)) (bor_Greater : BinD K mg .BitOr ["Place", "End", "Lesser", "Greater"] "Greater") (bor_Lesser : BinD K mg .BitOr ["Place", "End", "Lesser", "Greater"] "Lesser") (bor_End : BinD K mg .BitOr ["Place", "End", "Lesser", "Greater"] "End") (bor_Place : BinD K mg .BitOr ["Place", "End", "Lesser", "Greater"] "Place") (band_Greater : BinD K mg .BitAnd ["Place", "End", "Lesser", "Greater"] "Greater") (band_Lesser : BinD K mg .BitAnd ["Place", "End", "Lesser", "Greater"] "Lesser") (band_End : BinD K mg .BitAnd ["Place", "End", "Lesser", "Greater"] "End") (band_Place : BinD K mg .BitAnd ["Place", "End", "Lesser", "Greater"] "Place") (n_str : mg "str" = none) (n_repr : mg "repr" = none) (eq_Greater : EqD K mg ["Place", "End", "Lesser", "Greater"] "Greater") (eq_Lesser : EqD K mg ["Place", "End", "Lesser", "Greater"] "Lesser") (eq_End : EqD K mg ["Place", "End", "Lesser", "Greater"] "End") (eq_Place : EqD K mg ["Place", "End", "Lesser", "Greater"] "Place") (ne_Greater : NeC K mg "Greater") (ne_Lesser : NeC K mg "Lesser") (ne_End : NeC K mg "End") (ne_Place : NeC K mg "Place") (o__law_real : Ok P w K mg base (lv 8 12) "_law_real" (topS 31) ["_law_term_here"] (F__law_real 12)) (o_Greater_or : OkM P w K mg base 8 "Greater" "__or__" F_Greater_or) (o_Lesser_or : OkM P w K mg base 8 "Lesser" "__or__" F_Lesser_or) (o_End_or : OkM P w K mg base 8 "End" "__or__" F_End_or) (o_Place_or : OkM P w K mg base 8 "Place" "__or__" F_Place_or) (o_Greater_and : OkM P w K mg base 8 "Greater" "__and__" F_Greater_and) (o_Lesser_and : OkM P w K mg base 8 "Lesser" "__and__" F_Lesser_and) (o_End_and : OkM P w K mg base 8 "End" "__and__" F_End_and) (o_Place_and : OkM P w K mg base 8 "Place" "__and__" F_Place_and) (o_Greater_str : OkM P w K mg base (lv 5 12) "Greater" "__str__" (F_Greater_str 12)) (o_Lesser_str : OkM P w K mg base (lv 5 12) "Lesser" "__str__" (F_Lesser_str 12)) (o_End_str : OkM P w K mg base 3 "End" "__str__" F_End_str) (o_Place_str : OkM P w K mg base 3 "Place" "__str__" F_Place_str) (o__law_text : Ok P w K mg base (lv 2 12) "_law_text" (topS 33) ["_law_term_here"] (F__law_text 12)) (o_Greater_repr : OkM P w K mg base (lv 4 12) "Greater" "__repr__" (F_Greater_repr 12)) (o_Lesser_repr : OkM P w K mg base (lv 4 12) "Lesser" "__repr__" (F_Lesser_repr 12)) (o_End_repr : OkM P w K mg base 3 "End" "__repr__" F_End_repr) (o_Place_repr : OkM P w K mg base 3 "Place" "__repr__" F_Place_repr) (o__law_written : Ok P w K mg base (lv 2 12) "_law_written" (topS 34) ["_law_term_here"] (F__law_written 12)) (o_Greater_eq : OkM P w K mg base (lv 4 12) "Greater" "__eq__" (F_Greater_eq 12)) (o_Lesser_eq : OkM P w K mg base (lv 4 12) "Lesser" "__eq__" (F_Lesser_eq 12)) (o_End_eq : OkM P w K mg base 3 "End" "__eq__" F_End_eq) (o_Place_eq : OkM P w K mg base 3 "Place" "__eq__" F_Place_eq) : Ok P w K mg base 45 "_law_signs_right" (topS 36) ["_law_made", "_law_term_here", "_law_other"] F__law_signs_right := by
  have nd := sc__law_signs_right.nd
  exact ok_mk (k := 44) D0 sc__law_signs_right (fun _ _ _ _ _ _ us hl => match us, hl with | [_, _, _], _ => rfl) fun f cdv A l s H E gd hr tk po =>
    (sb_cons (ss_set (i := 3) nd (se_ok (le := (by decide)) o__law_real hr gd tk (sa_cons (v 2) sa_nil)))
    (sb_cons (ss_set (i := 4) nd (se_lstC (sa_cons (se_tup (sa_cons (se_op (fBinO_ok (tbl := [("Place", F_Place_and), ("End", F_End_and), ("Lesser", F_Lesser_and), ("Greater", F_Greater_and)]) (lk_cons (OkM.binC (OkM.mono o_Place_and (by decide)) band_Place) (lk_cons (OkM.binC (OkM.mono o_End_and (by decide)) band_End) (lk_cons (OkM.binC (OkM.mono o_Lesser_and (by decide)) band_Lesser) (lk_cons (OkM.binC (OkM.mono o_Greater_and (by decide)) band_Greater) lk_nil)))) hr gd) (v 0) (v 3)) (sa_cons (se_tup (sa_cons se_str (sa_cons (se_lstC (sa_cons (v 1) (sa_cons (v 2) sa_nil))) sa_nil))) sa_nil))) (sa_cons (se_tup (sa_cons (se_op (fBinO_ok (tbl := [("Place", F_Place_or), ("End", F_End_or), ("Lesser", F_Lesser_or), ("Greater", F_Greater_or)]) (lk_cons (OkM.binC (OkM.mono o_Place_or (by decide)) bor_Place) (lk_cons (OkM.binC (OkM.mono o_End_or (by decide)) bor_End) (lk_cons (OkM.binC (OkM.mono o_Lesser_or (by decide)) bor_Lesser) (lk_cons (OkM.binC (OkM.mono o_Greater_or (by decide)) bor_Greater) lk_nil)))) hr gd) (v 3) (v 0)) (sa_cons (se_tup (sa_cons se_str (sa_cons (se_lstC (sa_cons (v 2) (sa_cons (v 1) sa_nil))) sa_nil))) sa_nil))) sa_nil))))
    (sb_cons (ss_expr (se_me PySem.F.plainAttrs_list PySem.F.slot_list_append PySem.F.type_list_append fAppend_ok (v 4) (sa_cons (se_tup (sa_cons (se_op (fBinO_ok (tbl := [("Place", F_Place_and), ("End", F_End_and), ("Lesser", F_Lesser_and), ("Greater", F_Greater_and)]) (lk_cons (OkM.binC (OkM.mono o_Place_and (by decide)) band_Place) (lk_cons (OkM.binC (OkM.mono o_End_and (by decide)) band_End) (lk_cons (OkM.binC (OkM.mono o_Lesser_and (by decide)) band_Lesser) (lk_cons (OkM.binC (OkM.mono o_Greater_and (by decide)) band_Greater) lk_nil)))) hr gd) (se_op (fBinO_ok (tbl := [("Place", F_Place_and), ("End", F_End_and), ("Lesser", F_Lesser_and), ("Greater", F_Greater_and)]) (lk_cons (OkM.binC (OkM.mono o_Place_and (by decide)) band_Place) (lk_cons (OkM.binC (OkM.mono o_End_and (by decide)) band_End) (lk_cons (OkM.binC (OkM.mono o_Lesser_and (by decide)) band_Lesser) (lk_cons (OkM.binC (OkM.mono o_Greater_and (by decide)) band_Greater) lk_nil)))) hr gd) (v 0) (v 3)) (v 0)) (sa_cons (se_tup (sa_cons se_str (sa_cons (se_lst (sa_cons (se_tup (sa_cons se_str (sa_cons (se_lst (sa_cons (v 1) (sa_cons (v 2) sa_nil))) sa_nil))) (sa_cons (v 1) sa_nil))) sa_nil))) sa_nil))) sa_nil)))
    (sb_cons (ss_expr (se_me PySem.F.plainAttrs_list PySem.F.slot_list_append PySem.F.type_list_append fAppend_ok (v 4) (sa_cons (se_tup (sa_cons (se_op (fBinO_ok (tbl := [("Place", F_Place_or), ("End", F_End_or), ("Lesser", F_Lesser_or), ("Greater", F_Greater_or)]) (lk_cons (OkM.binC (OkM.mono o_Place_or (by decide)) bor_Place) (lk_cons (OkM.binC (OkM.mono o_End_or (by decide)) bor_End) (lk_cons (OkM.binC (OkM.mono o_Lesser_or (by decide)) bor_Lesser) (lk_cons (OkM.binC (OkM.mono o_Greater_or (by decide)) bor_Greater) lk_nil)))) hr gd) (v 0) (se_op (fBinO_ok (tbl := [("Place", F_Place_and), ("End", F_End_and), ("Lesser", F_Lesser_and), ("Greater", F_Greater_and)]) (lk_cons (OkM.binC (OkM.mono o_Place_and (by decide)) band_Place) (lk_cons (OkM.binC (OkM.mono o_End_and (by decide)) band_End) (lk_cons (OkM.binC (OkM.mono o_Lesser_and (by decide)) band_Lesser) (lk_cons (OkM.binC (OkM.mono o_Greater_and (by decide)) band_Greater) lk_nil)))) hr gd) (v 3) (v 3))) (sa_cons (se_tup (sa_cons se_str (sa_cons (se_lst (sa_cons (v 1) (sa_cons (se_tup (sa_cons se_str (sa_cons (se_lst (sa_cons (v 2) (sa_cons (v 2) sa_nil))) sa_nil))) sa_nil))) sa_nil))) sa_nil))) sa_nil)))
    (sb_cons (ss_for po rfl (si_walk (v 4)) (sg_tup rfl (sgs_cons (sg_name (i := 5) nd) (sgs_cons (sg_name (i := 6) nd) sgs_nil)) (gs_lenS (gs_lenS gs_len0)))
    (sb_one (ss_if (sw_pt (sw_or (st_cmp (fNe_ok hr) (se_callTy (bStrO_ok (tbl := [("Place", F_Place_str), ("End", F_End_str), ("Lesser", (F_Lesser_str 12)), ("Greater", (F_Greater_str 12))]) (lk_cons (OkM.spc (OkM.mono o_Place_str (by decide))) (lk_cons (OkM.spc (OkM.mono o_End_str (by decide))) (lk_cons (OkM.spc (OkM.mono o_Lesser_str (by decide))) (lk_cons (OkM.spc (OkM.mono o_Greater_str (by decide))) lk_nil)))) hr gd) n_str (sa_cons (v 5) sa_nil)) (se_ok (le := (by decide)) o__law_text hr gd tk (sa_cons (v 6) sa_nil)) rfl) (sw_or (st_cmp (fNe_ok hr) (se_callB (bReprO_ok (tbl := [("Place", F_Place_repr), ("End", F_End_repr), ("Lesser", (F_Lesser_repr 12)), ("Greater", (F_Greater_repr 12))]) (lk_cons (OkM.spc (OkM.mono o_Place_repr (by decide))) (lk_cons (OkM.spc (OkM.mono o_End_repr (by decide))) (lk_cons (OkM.spc (OkM.mono o_Lesser_repr (by decide))) (lk_cons (OkM.spc (OkM.mono o_Greater_repr (by decide))) lk_nil)))) hr gd) n_repr (sa_cons (v 5) sa_nil)) (se_ok (le := (by decide)) o__law_written hr gd tk (sa_cons (v 6) sa_nil)) rfl) (sw_or1 (st_cmp (fNeO_ok (tbl := [("Place", F_Place_eq), ("End", F_End_eq), ("Lesser", (F_Lesser_eq 12)), ("Greater", (F_Greater_eq 12))]) (lk_cons (OkM.eqC (OkM.mono o_Place_eq (by decide)) eq_Place) (lk_cons (OkM.eqC (OkM.mono o_End_eq (by decide)) eq_End) (lk_cons (OkM.eqC (OkM.mono o_Lesser_eq (by decide)) eq_Lesser) (lk_cons (OkM.eqC (OkM.mono o_Greater_eq (by decide)) eq_Greater) lk_nil)))) (lk_cons (p := fun C _ => NeC K mg C) ne_Place (lk_cons (p := fun C _ => NeC K mg C) ne_End (lk_cons (p := fun C _ => NeC K mg C) ne_Lesser (lk_cons (p := fun C _ => NeC K mg C) ne_Greater lk_nil)))) hr gd) (v 5) (se_ok (le := (by decide)) o__law_real hr gd tk (sa_cons (v 6) sa_nil)) rfl))))) (sb_one (ss_ret se_bl)) sb_nil)))
    (sb_one (ss_ret (se_and (se_cmp (fEq_ok hr) (se_callTy (bStrO_ok (tbl := [("Place", F_Place_str), ("End", F_End_str), ("Lesser", (F_Lesser_str 12)), ("Greater", (F_Greater_str 12))]) (lk_cons (OkM.spc (OkM.mono o_Place_str (by decide))) (lk_cons (OkM.spc (OkM.mono o_End_str (by decide))) (lk_cons (OkM.spc (OkM.mono o_Lesser_str (by decide))) (lk_cons (OkM.spc (OkM.mono o_Greater_str (by decide))) lk_nil)))) hr gd) n_str (sa_cons (v 0) sa_nil)) (se_ok (le := (by decide)) o__law_text hr gd tk (sa_cons (v 1) sa_nil)) rfl) (se_one (se_cmp (fEq_ok hr) (se_callTy (bStrO_ok (tbl := [("Place", F_Place_str), ("End", F_End_str), ("Lesser", (F_Lesser_str 12)), ("Greater", (F_Greater_str 12))]) (lk_cons (OkM.spc (OkM.mono o_Place_str (by decide))) (lk_cons (OkM.spc (OkM.mono o_End_str (by decide))) (lk_cons (OkM.spc (OkM.mono o_Lesser_str (by decide))) (lk_cons (OkM.spc (OkM.mono o_Greater_str (by decide))) lk_nil)))) hr gd) n_str (sa_cons (v 3) sa_nil)) (se_ok (le := (by decide)) o__law_text hr gd tk (sa_cons (v 2) sa_nil)) rfl))))))))))
/-! ### _law_right -/
abbrev N__law_right : List Str := ["_law_pot_here", "_law_places_here", "_law_term_here", "_law_other", "_law_made", "_law_near", "_law_model", "_law_things", "_law_twin", "_law_told", "_law_turn", "_law_thing"]
theorem sc__law_right : FnScope N__law_right ["_law_pot_here"] (defScope (topS 37)) := ⟨rfl, rfl, rfl, by decide +kernel, rfl, by decide +kernel, by decide +kernel⟩
noncomputable def m__law_right : MS := (sSeq (sSet 1 (mFn F__law_places 1 (mCons (mVar 0) mNil)))
  (sSeq (sAsg (gT (gsCons (gN 2) (gsCons (gN 3) gsNil))) (mTup (mCons (mFn (F__law_term 12) 3 (mCons (mVar 0) (mCons (mVar 1) (mCons (mC (.int 3)) mNil)))) (mCons (mFn (F__law_term 12) 3 (mCons (mVar 0) (mCons (mVar 1) (mCons (mC (.int 2)) mNil)))) mNil))))
  (sSeq (sSet 4 (mFn (F__law_real 12) 1 (mCons (mVar 2) mNil)))
  (sSeq (sIf (mT (m2 fNe (mLst (mCons (mCall (bStrO [("Place", F_Place_str), ("End", F_End_str), ("Lesser", (F_Lesser_str 12)), ("Greater", (F_Greater_str 12))]) (mCons (mVar 4) mNil)) (mCons (mCall (bReprO [("Place", F_Place_repr), ("End", F_End_repr), ("Lesser", (F_Lesser_repr 12)), ("Greater", (F_Greater_repr 12))]) (mCons (mVar 4) mNil)) mNil))) (mLst (mCons (mFn (F__law_text 12) 1 (mCons (mVar 2) mNil)) (mCons (mFn (F__law_written 12) 1 (mCons (mVar 2) mNil)) mNil))))) (sRet (mC (.bl false))) sNil)
  (sSeq (sSet 5 (mLst (mCons (mVar 2) (mCons (mVar 3) (mCons (mTup (mCons (mC (.str "lesser")) (mCons (mLst (mCons (mVar 2) (mCons (mVar 2) mNil))) mNil))) (mCons (mTup (mCons (mC (.str "greater")) (mCons (mLst (mCons (mVar 2) (mCons (mVar 2) mNil))) mNil))) mNil))))))
  (sSeq (sSet 5 (m2 fAdd (mVar 5) (mLc false (mRng1 (mC (.int 4))) (gN 10) [10] bYes (mFn (F__law_bent 12) 3 (mCons (mVar 0) (mCons (mVar 2) (mCons (mVar 1) mNil)))))))
  (sSeq (sFor (mWalk (mVar 5)) (gN 6)
  (sSeq (sSet 8 (mFn (F__law_real 12) 1 (mCons (mVar 6) mNil)))
  (sSeq (sSet 9 (mLst (mCons (m2 (fEqO [("Place", F_Place_eq), ("End", F_End_eq), ("Lesser", (F_Lesser_eq 12)), ("Greater", (F_Greater_eq 12))] ["Place", "End", "Lesser", "Greater"]) (mVar 4) (mVar 8)) (mCons (m2 (fEqO [("Place", F_Place_eq), ("End", F_End_eq), ("Lesser", (F_Lesser_eq 12)), ("Greater", (F_Greater_eq 12))] ["Place", "End", "Lesser", "Greater"]) (mVar 8) (mVar 4)) (mCons (m2 (fNeO [("Place", F_Place_eq), ("End", F_End_eq), ("Lesser", (F_Lesser_eq 12)), ("Greater", (F_Greater_eq 12))] ["Place", "End", "Lesser", "Greater"]) (mVar 4) (mVar 8)) mNil)))))
  (sIf (mT (m2 fNe (mCall bRepr (mCons (mVar 9) mNil)) (mCall bRepr (mCons (mLst (mCons (m2 fEq (mVar 6) (mVar 2)) (mCons (m2 fEq (mVar 6) (mVar 2)) (mCons (m2 fNe (mVar 6) (mVar 2)) mNil)))) mNil)))) (sRet (mC (.bl false))) sNil))))
  (sSeq (sSet 7 (mLst (mCons (mCall (bStrO [("Place", F_Place_str), ("End", F_End_str), ("Lesser", (F_Lesser_str 12)), ("Greater", (F_Greater_str 12))]) (mCons (mVar 4) mNil)) (mCons (mCall (bReprO [("Place", F_Place_repr), ("End", F_End_repr), ("Lesser", (F_Lesser_repr 12)), ("Greater", (F_Greater_repr 12))]) (mCons (mVar 4) mNil)) (mCons (mC .non) (mCons (mC (.int 0)) (mCons (mC (.str "")) (mCons (mTup mNil) (mCons (mLst (mCons (mVar 4) mNil)) (mCons (mTup (mCons (mVar 4) mNil)) (mCons mDict0 (mCons (mC (.str "r0")) (mCons (mC (.str "top")) mNil)))))))))))))
  (sSeq (sIf (mTru (mCall bAny (mCons (mLc false (mWalk (mVar 7)) (gN 11) [11] bYes (mOrV (m2 (fEqO [("Place", F_Place_eq), ("End", F_End_eq), ("Lesser", (F_Lesser_eq 12)), ("Greater", (F_Greater_eq 12))] ["Place", "End", "Lesser", "Greater"]) (mVar 4) (mVar 11)) (mOrV (m2 (fEqO [("Place", F_Place_eq), ("End", F_End_eq), ("Lesser", (F_Lesser_eq 12)), ("Greater", (F_Greater_eq 12))] ["Place", "End", "Lesser", "Greater"]) (mVar 11) (mVar 4)) (mNotV (m2 (fNeO [("Place", F_Place_eq), ("End", F_End_eq), ("Lesser", (F_Lesser_eq 12)), ("Greater", (F_Greater_eq 12))] ["Place", "End", "Lesser", "Greater"]) (mVar 4) (mVar 11)))))) mNil))) (sRet (mC (.bl false))) sNil)
  (sRet (mAndV (mFn F__law_signs_right 3 (mCons (mVar 4) (mCons (mVar 2) (mCons (mVar 3) mNil)))) (m2 fEq (mLst (mCons (mCall (bStrO [("Place", F_Place_str), ("End", F_End_str), ("Lesser", (F_Lesser_str 12)), ("Greater", (F_Greater_str 12))]) (mCons (mVar 4) mNil)) (mCons (mCall (bReprO [("Place", F_Place_repr), ("End", F_End_repr), ("Lesser", (F_Lesser_repr 12)), ("Greater", (F_Greater_repr 12))]) (mCons (mVar 4) mNil)) mNil))) (mLst (mCons (mFn (F__law_text 12) 1 (mCons (mVar 2) mNil)) (mCons (mFn (F__law_written 12) 1 (mCons (mVar 2) mNil)) mNil)))))))))))))))
noncomputable def F__law_right : FD := (bodyF 12 m__law_right)
theorem o__law_right {P : Program} {w : World} {K : PySem.W.Frag} {mg : Str → Option Value} {base : Heap} (D0 : Df K mg "_law_right" (topS 37)) (hsys : SysIn base) (n_repr : mg "repr" = none) (n_str : mg "str" = none) (n_range : mg "range" = none) (eq_Greater : EqD K mg ["Place", "End", "Lesser", "Greater"] "Greater") (eq_Lesser : EqD K mg ["Place", "End", "Lesser", "Greater"] "Lesser") (eq_End : EqD K mg ["Place", "End", "Lesser", "Greater"] "End") (eq_Place : EqD K mg ["Place", "End", "Lesser", "Greater"] "Place") (ne_Greater : NeC K mg "Greater") (ne_Lesser : NeC K mg "Lesser") (ne_End : NeC K mg "End") (ne_Place : NeC K mg "Place") (rf_Greater : RefC K mg "Greater") (rf_Lesser : RefC K mg "Lesser") (rf_End : RefC K mg "End") (rf_Place : RefC K mg "Place") (n_any : mg "any" = none) (o__law_places : Ok P w K mg base 4 "_law_places" (topS 28) ["_law_pot_here"] F__law_places) (o__law_term : Ok P w K mg base (lv 4 12) "_law_term" (topS 29) ["_law_pot_here", "_law_places_here", "_law_deep"] (F__law_term 12)) (o__law_real : Ok P w K mg base (lv 8 12) "_law_real" (topS 31) ["_law_term_here"] (F__law_real 12)) (o_Greater_repr : OkM P w K mg base (lv 4 12) "Greater" "__repr__" (F_Greater_repr 12)) (o_Lesser_repr : OkM P w K mg base (lv 4 12) "Lesser" "__repr__" (F_Lesser_repr 12)) (o_End_repr : OkM P w K mg base 3 "End" "__repr__" F_End_repr) (o_Place_repr : OkM P w K mg base 3 "Place" "__repr__" F_Place_repr) (o_Greater_str : OkM P w K mg base (lv 5 12) "Greater" "__str__" (F_Greater_str 12)) (o_Lesser_str : OkM P w K mg base (lv 5 12) "Lesser" "__str__" (F_Lesser_str 12)) (o_End_str : OkM P w K mg base 3 "End" "__str__" F_End_str) (o_Place_str : OkM P w K mg base 3 "Place" "__str__" F_Place_str) (o__law_written : Ok P w K mg base (lv 2 12) "_law_written" (topS 34) ["_law_term_here"] (F__law_written 12)) (o__law_text : Ok P w K mg base (lv 2 12) "_law_text" (topS 33) ["_law_term_here"] (F__law_text 12)) (o__law_bent : Ok P w K mg base (lv 4 12) "_law_bent" (topS 35) ["_law_pot_here", "_law_term_here", "_law_places_here"] (F__law_bent 12)) (o_Greater_eq : OkM P w K mg base (lv 4 12) "Greater" "__eq__" (F_Greater_eq 12)) (o_Lesser_eq : OkM P w K mg base (lv 4 12) "Lesser" "__eq__" (F_Lesser_eq 12)) (o_End_eq : OkM P w K mg base 3 "End" "__eq__" F_End_eq) (o_Place_eq : OkM P w K mg base 3 "Place" "__eq__" F_Place_eq) (o__law_signs_right : Ok P w K mg base 45 "_law_signs_right" (topS 36) ["_law_made", "_law_term_here", "_law_other"] F__law_signs_right) : Ok P w K mg base 46 "_law_right" (topS 37) ["_law_pot_here"] F__law_right := by
  have nd := sc__law_right.nd
  exact ok_mk (k := 45) D0 sc__law_right (fun _ _ _ _ _ _ us hl => match us, hl with | [_], _ => rfl) fun f cdv A l s H E gd hr tk po =>
    (sb_cons (ss_set (i := 1) nd (se_ok (le := (by decide)) o__law_places hr gd tk (sa_cons (v 0) sa_nil)))
    (sb_cons (ss_asg (se_tup (sa_cons (se_ok (le := (by decide)) o__law_term hr gd tk (sa_cons (v 0) (sa_cons (v 1) (sa_cons se_int sa_nil)))) (sa_cons (se_ok (le := (by decide)) o__law_term hr gd tk (sa_cons (v 0) (sa_cons (v 1) (sa_cons se_int sa_nil)))) sa_nil))) (sg_tup rfl (sgs_cons (sg_name (i := 2) nd) (sgs_cons (sg_name (i := 3) nd) sgs_nil)) (gs_lenS (gs_lenS gs_len0))))
    (sb_cons (ss_set (i := 4) nd (se_ok (le := (by decide)) o__law_real hr gd tk (sa_cons (v 2) sa_nil)))
    (sb_cons (ss_if (st_cmp (fNe_ok hr) (se_lst (sa_cons (se_callTy (bStrO_ok (tbl := [("Place", F_Place_str), ("End", F_End_str), ("Lesser", (F_Lesser_str 12)), ("Greater", (F_Greater_str 12))]) (lk_cons (OkM.spc (OkM.mono o_Place_str (by decide))) (lk_cons (OkM.spc (OkM.mono o_End_str (by decide))) (lk_cons (OkM.spc (OkM.mono o_Lesser_str (by decide))) (lk_cons (OkM.spc (OkM.mono o_Greater_str (by decide))) lk_nil)))) hr gd) n_str (sa_cons (v 4) sa_nil)) (sa_cons (se_callB (bReprO_ok (tbl := [("Place", F_Place_repr), ("End", F_End_repr), ("Lesser", (F_Lesser_repr 12)), ("Greater", (F_Greater_repr 12))]) (lk_cons (OkM.spc (OkM.mono o_Place_repr (by decide))) (lk_cons (OkM.spc (OkM.mono o_End_repr (by decide))) (lk_cons (OkM.spc (OkM.mono o_Lesser_repr (by decide))) (lk_cons (OkM.spc (OkM.mono o_Greater_repr (by decide))) lk_nil)))) hr gd) n_repr (sa_cons (v 4) sa_nil)) sa_nil))) (se_lst (sa_cons (se_ok (le := (by decide)) o__law_text hr gd tk (sa_cons (v 2) sa_nil)) (sa_cons (se_ok (le := (by decide)) o__law_written hr gd tk (sa_cons (v 2) sa_nil)) sa_nil))) rfl) (sb_one (ss_ret se_bl)) sb_nil)
    (sb_cons (ss_set (i := 5) nd (se_lst (sa_cons (v 2) (sa_cons (v 3) (sa_cons (se_tup (sa_cons se_str (sa_cons (se_lst (sa_cons (v 2) (sa_cons (v 2) sa_nil))) sa_nil))) (sa_cons (se_tup (sa_cons se_str (sa_cons (se_lst (sa_cons (v 2) (sa_cons (v 2) sa_nil))) sa_nil))) sa_nil))))))
    (sb_cons (ss_set (i := 5) nd (se_add (v 5) (se_lc (C := false) (own := [("_law_turn", 10)]) (g := gN 10) rfl nd (si_range1 n_range se_int) (blkOk_by (N := N__law_right) (sc := defScope (topS 37)) (own := [("_law_turn", 10)]) (by decide +kernel)) (fun _ _ _ _ _ => lg_name nd (by decide)) (fun _ _ _ _ _ => st_yes) (fun _ _ _ _ _ => (se_ok (X := Cx.blk (Xf P w K mg base N__law_right "_law_right" (topS 37) f cdv A l s H E) _ _ _ _ _) (le := (by decide)) o__law_bent hr gd LamX.takes0 (sa_cons (v 0) (sa_cons (v 2) (sa_cons (v 1) sa_nil))))))))
    (sb_cons (ss_for po rfl (si_walk (v 5)) (sg_name (i := 6) nd)
    (sb_cons (ss_set (i := 8) nd (se_ok (le := (by decide)) o__law_real hr gd tk (sa_cons (v 6) sa_nil)))
    (sb_cons (ss_set (i := 9) nd (se_lst (sa_cons (se_cmp (fEqO_ok (tbl := [("Place", F_Place_eq), ("End", F_End_eq), ("Lesser", (F_Lesser_eq 12)), ("Greater", (F_Greater_eq 12))]) (lk_cons (OkM.eqC (OkM.mono o_Place_eq (by decide)) eq_Place) (lk_cons (OkM.eqC (OkM.mono o_End_eq (by decide)) eq_End) (lk_cons (OkM.eqC (OkM.mono o_Lesser_eq (by decide)) eq_Lesser) (lk_cons (OkM.eqC (OkM.mono o_Greater_eq (by decide)) eq_Greater) lk_nil)))) (lk_cons (p := fun C _ => RefC K mg C) rf_Place (lk_cons (p := fun C _ => RefC K mg C) rf_End (lk_cons (p := fun C _ => RefC K mg C) rf_Lesser (lk_cons (p := fun C _ => RefC K mg C) rf_Greater lk_nil)))) hr gd) (v 4) (v 8) rfl) (sa_cons (se_cmp (fEqO_ok (tbl := [("Place", F_Place_eq), ("End", F_End_eq), ("Lesser", (F_Lesser_eq 12)), ("Greater", (F_Greater_eq 12))]) (lk_cons (OkM.eqC (OkM.mono o_Place_eq (by decide)) eq_Place) (lk_cons (OkM.eqC (OkM.mono o_End_eq (by decide)) eq_End) (lk_cons (OkM.eqC (OkM.mono o_Lesser_eq (by decide)) eq_Lesser) (lk_cons (OkM.eqC (OkM.mono o_Greater_eq (by decide)) eq_Greater) lk_nil)))) (lk_cons (p := fun C _ => RefC K mg C) rf_Place (lk_cons (p := fun C _ => RefC K mg C) rf_End (lk_cons (p := fun C _ => RefC K mg C) rf_Lesser (lk_cons (p := fun C _ => RefC K mg C) rf_Greater lk_nil)))) hr gd) (v 8) (v 4) rfl) (sa_cons (se_cmp (fNeO_ok (tbl := [("Place", F_Place_eq), ("End", F_End_eq), ("Lesser", (F_Lesser_eq 12)), ("Greater", (F_Greater_eq 12))]) (lk_cons (OkM.eqC (OkM.mono o_Place_eq (by decide)) eq_Place) (lk_cons (OkM.eqC (OkM.mono o_End_eq (by decide)) eq_End) (lk_cons (OkM.eqC (OkM.mono o_Lesser_eq (by decide)) eq_Lesser) (lk_cons (OkM.eqC (OkM.mono o_Greater_eq (by decide)) eq_Greater) lk_nil)))) (lk_cons (p := fun C _ => NeC K mg C) ne_Place (lk_cons (p := fun C _ => NeC K mg C) ne_End (lk_cons (p := fun C _ => NeC K mg C) ne_Lesser (lk_cons (p := fun C _ => NeC K mg C) ne_Greater lk_nil)))) hr gd) (v 4) (v 8) rfl) sa_nil)))))
    (sb_one (ss_if (st_cmp (fNe_ok hr) (se_callB (bRepr_ok hr gd hsys) n_repr (sa_cons (v 9) sa_nil)) (se_callB (bRepr_ok hr gd hsys) n_repr (sa_cons (se_lst (sa_cons (se_cmp (fEq_ok hr) (v 6) (v 2) rfl) (sa_cons (se_cmp (fEq_ok hr) (v 6) (v 2) rfl) (sa_cons (se_cmp (fNe_ok hr) (v 6) (v 2) rfl) sa_nil)))) sa_nil)) rfl) (sb_one (ss_ret se_bl)) sb_nil)))))
    (sb_cons (ss_set (i := 7) nd (se_lst (sa_cons (se_callTy (bStrO_ok (tbl := [("Place", F_Place_str), ("End", F_End_str), ("Lesser", (F_Lesser_str 12)), ("Greater", (F_Greater_str 12))]) (lk_cons (OkM.spc (OkM.mono o_Place_str (by decide))) (lk_cons (OkM.spc (OkM.mono o_End_str (by decide))) (lk_cons (OkM.spc (OkM.mono o_Lesser_str (by decide))) (lk_cons (OkM.spc (OkM.mono o_Greater_str (by decide))) lk_nil)))) hr gd) n_str (sa_cons (v 4) sa_nil)) (sa_cons (se_callB (bReprO_ok (tbl := [("Place", F_Place_repr), ("End", F_End_repr), ("Lesser", (F_Lesser_repr 12)), ("Greater", (F_Greater_repr 12))]) (lk_cons (OkM.spc (OkM.mono o_Place_repr (by decide))) (lk_cons (OkM.spc (OkM.mono o_End_repr (by decide))) (lk_cons (OkM.spc (OkM.mono o_Lesser_repr (by decide))) (lk_cons (OkM.spc (OkM.mono o_Greater_repr (by decide))) lk_nil)))) hr gd) n_repr (sa_cons (v 4) sa_nil)) (sa_cons se_non (sa_cons se_int (sa_cons se_str (sa_cons (se_tup sa_nil) (sa_cons (se_lst (sa_cons (v 4) sa_nil)) (sa_cons (se_tup (sa_cons (v 4) sa_nil)) (sa_cons se_dict0 (sa_cons se_str (sa_cons se_str sa_nil)))))))))))))
    (sb_cons (ss_if (st_truth (se_callB (bAny_ok rfl) n_any (sa_cons (se_lc (C := false) (own := [("_law_thing", 11)]) (g := gN 11) rfl nd (si_walk (v 7)) (blkOk_by (N := N__law_right) (sc := defScope (topS 37)) (own := [("_law_thing", 11)]) (by decide +kernel)) (fun _ _ _ _ _ => lg_name nd (by decide)) (fun _ _ _ _ _ => st_yes) (fun _ _ _ _ _ => (se_or (se_cmp (fEqO_ok (X := Cx.blk (Xf P w K mg base N__law_right "_law_right" (topS 37) f cdv A l s H E) _ _ _ _ _) (tbl := [("Place", F_Place_eq), ("End", F_End_eq), ("Lesser", (F_Lesser_eq 12)), ("Greater", (F_Greater_eq 12))]) (lk_cons (OkM.eqC (OkM.mono o_Place_eq (by decide)) eq_Place) (lk_cons (OkM.eqC (OkM.mono o_End_eq (by decide)) eq_End) (lk_cons (OkM.eqC (OkM.mono o_Lesser_eq (by decide)) eq_Lesser) (lk_cons (OkM.eqC (OkM.mono o_Greater_eq (by decide)) eq_Greater) lk_nil)))) (lk_cons (p := fun C _ => RefC K mg C) rf_Place (lk_cons (p := fun C _ => RefC K mg C) rf_End (lk_cons (p := fun C _ => RefC K mg C) rf_Lesser (lk_cons (p := fun C _ => RefC K mg C) rf_Greater lk_nil)))) hr gd) (v 4) (v 11) rfl) (se_or (se_cmp (fEqO_ok (X := Cx.blk (Xf P w K mg base N__law_right "_law_right" (topS 37) f cdv A l s H E) _ _ _ _ _) (tbl := [("Place", F_Place_eq), ("End", F_End_eq), ("Lesser", (F_Lesser_eq 12)), ("Greater", (F_Greater_eq 12))]) (lk_cons (OkM.eqC (OkM.mono o_Place_eq (by decide)) eq_Place) (lk_cons (OkM.eqC (OkM.mono o_End_eq (by decide)) eq_End) (lk_cons (OkM.eqC (OkM.mono o_Lesser_eq (by decide)) eq_Lesser) (lk_cons (OkM.eqC (OkM.mono o_Greater_eq (by decide)) eq_Greater) lk_nil)))) (lk_cons (p := fun C _ => RefC K mg C) rf_Place (lk_cons (p := fun C _ => RefC K mg C) rf_End (lk_cons (p := fun C _ => RefC K mg C) rf_Lesser (lk_cons (p := fun C _ => RefC K mg C) rf_Greater lk_nil)))) hr gd) (v 11) (v 4) rfl) (se_one (se_not (se_cmp (fNeO_ok (X := Cx.blk (Xf P w K mg base N__law_right "_law_right" (topS 37) f cdv A l s H E) _ _ _ _ _) (tbl := [("Place", F_Place_eq), ("End", F_End_eq), ("Lesser", (F_Lesser_eq 12)), ("Greater", (F_Greater_eq 12))]) (lk_cons (OkM.eqC (OkM.mono o_Place_eq (by decide)) eq_Place) (lk_cons (OkM.eqC (OkM.mono o_End_eq (by decide)) eq_End) (lk_cons (OkM.eqC (OkM.mono o_Lesser_eq (by decide)) eq_Lesser) (lk_cons (OkM.eqC (OkM.mono o_Greater_eq (by decide)) eq_Greater) lk_nil)))) (lk_cons (p := fun C _ => NeC K mg C) ne_Place (lk_cons (p := fun C _ => NeC K mg C) ne_End (lk_cons (p := fun C _ => NeC K mg C) ne_Lesser (lk_cons (p := fun C _ => NeC K mg C) ne_Greater lk_nil)))) hr gd) (v 4) (v 11) rfl))))))) sa_nil))) (sb_one (ss_ret se_bl)) sb_nil)
    (sb_one (ss_ret (se_and (se_ok (le := (by decide)) o__law_signs_right hr gd tk (sa_cons (v 4) (sa_cons (v 2) (sa_cons (v 3) sa_nil)))) (se_one (se_cmp (fEq_ok hr) (se_lst (sa_cons (se_callTy (bStrO_ok (tbl := [("Place", F_Place_str), ("End", F_End_str), ("Lesser", (F_Lesser_str 12)), ("Greater", (F_Greater_str 12))]) (lk_cons (OkM.spc (OkM.mono o_Place_str (by decide))) (lk_cons (OkM.spc (OkM.mono o_End_str (by decide))) (lk_cons (OkM.spc (OkM.mono o_Lesser_str (by decide))) (lk_cons (OkM.spc (OkM.mono o_Greater_str (by decide))) lk_nil)))) hr gd) n_str (sa_cons (v 4) sa_nil)) (sa_cons (se_callB (bReprO_ok (tbl := [("Place", F_Place_repr), ("End", F_End_repr), ("Lesser", (F_Lesser_repr 12)), ("Greater", (F_Greater_repr 12))]) (lk_cons (OkM.spc (OkM.mono o_Place_repr (by decide))) (lk_cons (OkM.spc (OkM.mono o_End_repr (by decide))) (lk_cons (OkM.spc (OkM.mono o_Lesser_repr (by decide))) (lk_cons (OkM.spc (OkM.mono o_Greater_repr (by decide))) lk_nil)))) hr gd) n_repr (sa_cons (v 4) sa_nil)) sa_nil))) (se_lst (sa_cons (se_ok (le := (by decide)) o__law_text hr gd tk (sa_cons (v 2) sa_nil)) (sa_cons (se_ok (le := (by decide)) o__law_written hr gd tk (sa_cons (v 2) sa_nil)) sa_nil))) rfl))))))))))))))
/-! ### law -/
abbrev N_law : List Str := ["_law_script", "_law_k"]
theorem sc_law : FnScope N_law ["_law_script"] (defScope (topS 38)) := ⟨rfl, rfl, rfl, by decide +kernel, rfl, by decide +kernel, by decide +kernel⟩
noncomputable def m_law : MS := (sRet (mCall bAll (mCons (mLc false (mRng1 (mCall bMax2 (mCons (mC (.int 1)) (mCons (mCall bMin2 (mCons (mCall bLen (mCons (mVar 0) mNil)) (mCons (mC (.int 5)) mNil))) mNil)))) (gN 1) [1] bYes (mFn F__law_right 1 (mCons (mFn F__law_pot 2 (mCons (mVar 0) (mCons (mVar 1) mNil))) mNil))) mNil)))
noncomputable def F_law : FD := (bodyF 2 m_law)
theorem o_law {P : Program} {w : World} {K : PySem.W.Frag} {mg : Str → Option Value} {base : Heap} (D0 : Df K mg "law" (topS 38)) (n_len : mg "len" = none) (n_min : mg "min" = none) (n_max : mg "max" = none) (n_range : mg "range" = none) (n_all : mg "all" = none) (o__law_right : Ok P w K mg base 46 "_law_right" (topS 37) ["_law_pot_here"] F__law_right) (o__law_pot : Ok P w K mg base 3 "_law_pot" (topS 25) ["_law_script", "_law_k"] F__law_pot) : Ok P w K mg base 47 "law" (topS 38) ["_law_script"] F_law := by
  have nd := sc_law.nd
  exact ok_mk (k := 46) D0 sc_law (fun _ _ _ _ _ _ us hl => match us, hl with | [_], _ => rfl) fun f cdv A l s H E gd hr tk po =>
    (sb_one (ss_ret (se_callB (bAll_ok rfl) n_all (sa_cons (se_lc (C := false) (own := [("_law_k", 1)]) (g := gN 1) rfl nd (si_range1 n_range (se_callB (bMax2_ok rfl) n_max (sa_cons se_int (sa_cons (se_callB (bMin2_ok rfl) n_min (sa_cons (se_callB bLen_ok n_len (sa_cons (v 0) sa_nil)) (sa_cons se_int sa_nil))) sa_nil)))) (blkOk_by (N := N_law) (sc := defScope (topS 38)) (own := [("_law_k", 1)]) (by decide +kernel)) (fun _ _ _ _ _ => lg_name nd (by decide)) (fun _ _ _ _ _ => st_yes) (fun _ _ _ _ _ => (se_ok (X := Cx.blk (Xf P w K mg base N_law "law" (topS 38) f cdv A l s H E) _ _ _ _ _) (le := (by decide)) o__law_right hr gd LamX.takes0 (sa_cons (se_ok (X := Cx.blk (Xf P w K mg base N_law "law" (topS 38) f cdv A l s H E) _ _ _ _ _) (le := (by decide)) o__law_pot hr gd LamX.takes0 (sa_cons (v 0) (sa_cons (v 1) sa_nil))) sa_nil)))) sa_nil))))
/-! ### Place_name -/
abbrev N_Place_name : List Str := ["self"]
theorem sc_Place_name : FnScope N_Place_name ["self"] (defScope (clsAt (topS 20) 1)) := ⟨rfl, rfl, rfl, by decide +kernel, rfl, by decide +kernel, by decide +kernel⟩
noncomputable def m_Place_name : MS := (sRet (m1 (fFld ["Place"] "_name") (mVar 0)))
noncomputable def F_Place_name : FD := (argF 1 (bodyF 1 m_Place_name))
theorem o_Place_name {P : Program} {w : World} {K : PySem.W.Frag} {mg : Str → Option Value} {base : Heap} (D0 : DfP K mg "Place" "name" "Place.name" (clsAt (topS 20) 1)) (fl_name_Place : FldIn K mg ["Place"] "_name")  : PrpE P w K mg base 3 "name" "Place" F_Place_name := by
  have nd := sc_Place_name.nd
  exact okP_mk (k := 2) D0 sc_Place_name (fun _ _ _ _ _ _ us hl => match us, hl with | [_], _ => rfl) fun f cdv A l s H E gd hr tk po =>
    (sb_one (ss_ret (se_fld (cls := ["Place"]) (v 0) fl_name_Place)))
/-! ### Place_places -/
abbrev N_Place_places : List Str := ["self"]
theorem sc_Place_places : FnScope N_Place_places ["self"] (defScope (clsAt (topS 20) 5)) := ⟨rfl, rfl, rfl, by decide +kernel, rfl, by decide +kernel, by decide +kernel⟩
noncomputable def m_Place_places : MS := (sRet (mLst (mCons (m1 (fFld ["Place"] "_name") (mVar 0)) mNil)))
noncomputable def F_Place_places : FD := (argF 1 (bodyF 1 m_Place_places))
theorem o_Place_places {P : Program} {w : World} {K : PySem.W.Frag} {mg : Str → Option Value} {base : Heap} (D0 : DfM K mg "Place" "places" "Place.places" (clsAt (topS 20) 5)) (fl_name_Place : FldIn K mg ["Place"] "_name")  : OkM P w K mg base 3 "Place" "places" F_Place_places := by
  have nd := sc_Place_places.nd
  exact okM_mk (k := 2) D0 sc_Place_places (fun _ _ _ _ _ _ us hl => match us, hl with | [_], _ => rfl) fun f cdv A l s H E gd hr tk po =>
    (sb_one (ss_ret (se_lst (sa_cons (se_fld (cls := ["Place"]) (v 0) fl_name_Place) sa_nil))))
/-! ### End_end -/
abbrev N_End_end : List Str := ["self"]
theorem sc_End_end : FnScope N_End_end ["self"] (defScope (clsAt (topS 21) 1)) := ⟨rfl, rfl, rfl, by decide +kernel, rfl, by decide +kernel, by decide +kernel⟩
noncomputable def m_End_end : MS := (sRet (m1 (fFld ["End"] "_end") (mVar 0)))
noncomputable def F_End_end : FD := (argF 1 (bodyF 1 m_End_end))
theorem o_End_end {P : Program} {w : World} {K : PySem.W.Frag} {mg : Str → Option Value} {base : Heap} (D0 : DfP K mg "End" "end" "End.end" (clsAt (topS 21) 1)) (fl_end_End : FldIn K mg ["End"] "_end")  : PrpE P w K mg base 3 "end" "End" F_End_end := by
  have nd := sc_End_end.nd
  exact okP_mk (k := 2) D0 sc_End_end (fun _ _ _ _ _ _ us hl => match us, hl with | [_], _ => rfl) fun f cdv A l s H E gd hr tk po =>
    (sb_one (ss_ret (se_fld (cls := ["End"]) (v 0) fl_end_End)))
/-! ### End_places -/
abbrev N_End_places : List Str := ["self"]
theorem sc_End_places : FnScope N_End_places ["self"] (defScope (clsAt (topS 21) 5)) := ⟨rfl, rfl, rfl, by decide +kernel, rfl, by decide +kernel, by decide +kernel⟩
noncomputable def m_End_places : MS := (sRet (mLst mNil))
noncomputable def F_End_places : FD := (argF 1 (bodyF 1 m_End_places))
theorem o_End_places {P : Program} {w : World} {K : PySem.W.Frag} {mg : Str → Option Value} {base : Heap} (D0 : DfM K mg "End" "places" "End.places" (clsAt (topS 21) 5))   : OkM P w K mg base 3 "End" "places" F_End_places := by
  have nd := sc_End_places.nd
  exact okM_mk (k := 2) D0 sc_End_places (fun _ _ _ _ _ _ us hl => match us, hl with | [_], _ => rfl) fun f cdv A l s H E gd hr tk po =>
    (sb_one (ss_ret (se_lst sa_nil)))
/-! ### Lesser_parts -/
abbrev N_Lesser_parts : List Str := ["self"]
theorem sc_Lesser_parts : FnScope N_Lesser_parts ["self"] (defScope (clsAt (topS 22) 1)) := ⟨rfl, rfl, rfl, by decide +kernel, rfl, by decide +kernel, by decide +kernel⟩
noncomputable def m_Lesser_parts : MS := (sRet (m1 (fFld ["Lesser"] "_parts") (mVar 0)))
noncomputable def F_Lesser_parts : FD := (argF 1 (bodyF 1 m_Lesser_parts))
theorem o_Lesser_parts {P : Program} {w : World} {K : PySem.W.Frag} {mg : Str → Option Value} {base : Heap} (D0 : DfP K mg "Lesser" "parts" "Lesser.parts" (clsAt (topS 22) 1)) (fl_parts_Lesser : FldIn K mg ["Lesser"] "_parts")  : PrpE P w K mg base 3 "parts" "Lesser" F_Lesser_parts := by
  have nd := sc_Lesser_parts.nd
  exact okP_mk (k := 2) D0 sc_Lesser_parts (fun _ _ _ _ _ _ us hl => match us, hl with | [_], _ => rfl) fun f cdv A l s H E gd hr tk po =>
    (sb_one (ss_ret (se_fld (cls := ["Lesser"]) (v 0) fl_parts_Lesser)))
/-! ### Greater_parts -/
abbrev N_Greater_parts : List Str := ["self"]
theorem sc_Greater_parts : FnScope N_Greater_parts ["self"] (defScope (clsAt (topS 23) 1)) := ⟨rfl, rfl, rfl, by decide +kernel, rfl, by decide +kernel, by decide +kernel⟩
noncomputable def m_Greater_parts : MS := (sRet (m1 (fFld ["Greater"] "_parts") (mVar 0)))
noncomputable def F_Greater_parts : FD := (argF 1 (bodyF 1 m_Greater_parts))
theorem o_Greater_parts {P : Program} {w : World} {K : PySem.W.Frag} {mg : Str → Option Value} {base : Heap} (D0 : DfP K mg "Greater" "parts" "Greater.parts" (clsAt (topS 23) 1)) (fl_parts_Greater : FldIn K mg ["Greater"] "_parts")  : PrpE P w K mg base 3 "parts" "Greater" F_Greater_parts := by
  have nd := sc_Greater_parts.nd
  exact okP_mk (k := 2) D0 sc_Greater_parts (fun _ _ _ _ _ _ us hl => match us, hl with | [_], _ => rfl) fun f cdv A l s H E gd hr tk po =>
    (sb_one (ss_ret (se_fld (cls := ["Greater"]) (v 0) fl_parts_Greater)))
end K13
-- BAD _wall stmt While 2
-- BAD _places_in comp 41
-- BAD Place_at calls _wall
-- BAD Place_value_in calls _wall
-- BAD Place_turned calls _wall
-- BAD Place_put calls _wall
-- BAD Place_with_terms calls _wall
-- BAD End_at calls _wall
-- BAD End_value_in calls _wall
-- BAD End_turned calls _wall
-- BAD End_put calls _wall
-- BAD End_with_terms calls _wall
-- BAD Lesser_at calls _wall
-- BAD Lesser_value_in calls _wall
-- BAD Lesser_places calls _places_in
-- BAD Lesser_turned calls _wall
-- BAD Lesser_put calls _wall
-- BAD Lesser_with_terms calls _wall
-- BAD Greater_at calls _wall
-- BAD Greater_value_in calls _wall
-- BAD Greater_places calls _places_in
-- BAD Greater_turned calls _wall
-- BAD Greater_put calls _wall
-- BAD Greater_with_terms calls _wall
end
section
set_option Elab.async false
set_option linter.all false
set_option maxRecDepth 100000
namespace K13
open PySem PySem.Spec L2 Q
variable [Tb]
/-! ### ints -/
theorem bits_le {i : Int} {k : Nat} (h : i.natAbs < 2 ^ k) : Builtin.Int.intBits i ≤ k := by
  unfold Builtin.Int.intBits
  by_cases z : i = 0
  · subst z
    simp
  · have n0 : i.natAbs ≠ 0 := Int.natAbs_ne_zero.mpr z
    have : i.natAbs.log2 < k := (Nat.log2_lt n0).mpr h
    simp only [beq_iff_eq, z, if_false]
    omega
theorem mulI {i j : Int} {c : Cells} (hi : i.natAbs < 2 ^ 200) (hj : j.natAbs < 2 ^ 200) : fMul (.int i) (.int j) c = some (.int (i * j), c) := by
  have a := bits_le hi
  have b := bits_le hj
  have e : fMulI (.int i) (.int j) c = some (.int (i * j), c) := by
    unfold fMulI fI
    exact if_pos (by rw [decide_eq_true_eq]; omega)
  unfold fMul orO
  rw [e]
theorem addI {i j : Int} {c : Cells} : fAdd (.int i) (.int j) c = some (.int (i + j), c) := rfl
theorem subI {i j : Int} {c : Cells} : fSub (.int i) (.int j) c = some (.int (i - j), c) := rfl
theorem modI {i j : Int} {c : Cells} (h : 0 < j) : fMod (.int i) (.int j) c = some (.int (i % j), c) := if_pos (decide_eq_true h)
theorem fdivI {i j : Int} {c : Cells} (h : 0 < j) (h2 : j.natAbs.log2 < 9000) : fFdiv (.int i) (.int j) c = some (.int (i / j), c) := if_pos (by rw [Bool.and_eq_true]; exact ⟨decide_eq_true h, decide_eq_true h2⟩)
theorem powI {i : Int} {k : Nat} {c : Cells} (hi : i.natAbs < 2 ^ 64) (hk : k ≤ 1000000) : fPow (.int i) (.int (k : Int)) c = some (.int (i ^ k), c) := by
  have e : fPow (.int i) (.int (k : Int)) c = some (.int (i ^ (k : Int).toNat), c) := if_pos (by
    rw [Bool.and_eq_true, Bool.and_eq_true]
    exact ⟨⟨decide_eq_true (by omega), decide_eq_true (by omega)⟩, decide_eq_true hi⟩)
  rw [e, Int.toNat_natCast]
theorem negI {i : Int} {c : Cells} : fNeg (.int i) c = some (.int (-i), c) := rfl
theorem ltI {i j : Int} {c : Cells} : fLt (.int i) (.int j) c = some (.bl (decide (i < j)), c) := rfl
theorem gtI {i j : Int} {c : Cells} : fGt (.int i) (.int j) c = some (.bl (decide (j < i)), c) := rfl
theorem geI {i j : Int} {c : Cells} : fGe (.int i) (.int j) c = some (.bl (decide (j ≤ i)), c) := rfl
theorem eqI {i j : Int} {c : Cells} : fEq (.int i) (.int j) c = some (.bl (decide (i = j)), c) := by
  have e : decide (V.int i = V.int j) = decide (i = j) := decide_eq_decide.mpr ⟨fun z => V.int.inj z, fun z => congrArg _ z⟩
  have e2 : fEqS false (.int i) (.int j) c = some (.bl (decide (V.int i = V.int j)), c) := rfl
  unfold fEq orO
  rw [e2, e]
theorem neS {i j : Str} {c : Cells} : fNe (.str i) (.str j) c = some (.bl (!decide (i = j)), c) := by
  have e : decide (V.str i = V.str j) = decide (i = j) := decide_eq_decide.mpr ⟨fun z => V.str.inj z, fun z => congrArg _ z⟩
  have e2 : fEqS true (.str i) (.str j) c = some (.bl (!decide (V.str i = V.str j)), c) := rfl
  unfold fNe orO
  rw [e2, e]
theorem eqS {i j : Str} {c : Cells} : fEq (.str i) (.str j) c = some (.bl (decide (i = j)), c) := by
  have e : decide (V.str i = V.str j) = decide (i = j) := decide_eq_decide.mpr ⟨fun z => V.str.inj z, fun z => congrArg _ z⟩
  have e2 : fEqS false (.str i) (.str j) c = some (.bl (decide (V.str i = V.str j)), c) := rfl
  unfold fEq orO
  rw [e2, e]
theorem atL {α : Type} {xs : List α} {k : Int} (h0 : 0 ≤ k) (h1 : k < xs.length) : ∃ v, v ∈ xs ∧ atI xs k = some v := by
  obtain ⟨n, rfl⟩ := Int.eq_ofNat_of_zero_le h0
  have h : n < xs.length := by omega
  exact ⟨xs[n], List.getElem_mem h, atI_nat (List.getElem?_eq_getElem h)⟩
theorem ixL {ds : List D} {k : Int} {d : D} {c : Cells} (h : atI ds k = some d) : fIx (.lst ds) (.int k) c = some (d, c) := by
  show ((seqView c (.lst ds)).bind fun ds => (atI ds k).map fun d => (d, c)) = _
  show (atI ds k).map (fun d => (d, c)) = _
  rw [h]
  rfl
theorem ixC {ds : List D} {q : Nat} {k : Int} {d : D} {c : Cells} (hq : c[q]? = some (.lst, ds)) (h : atI ds k = some d) : fIx (.cell q) (.int k) c = some (d, c) := by
  show ((seqView c (.cell q)).bind fun ds => (atI ds k).map fun d => (d, c)) = _
  have e : seqView c (.cell q) = some ds := by
    unfold seqView
    rw [show view c (.cell q) = some (.lst, ds) from hq]
  rw [e]
  show (atI ds k).map (fun d => (d, c)) = _
  rw [h]
  rfl
/-! ### the pot -/
def PotC (p : Nat) (c : Cells) : Prop := ∃ a b : Int, c[p]? = some (.lst, [.int a, .int b]) ∧ 0 ≤ a ∧ 0 ≤ b ∧ b < 2147483648
structure Nxt (p : Nat) (c c' : Cells) : Prop where
  pot : PotC p c'
  len : c.length ≤ c'.length
  old : ∀ q, q < c.length → q ≠ p → c'[q]? = c[q]?
theorem Nxt.refl {p : Nat} {c : Cells} (h : PotC p c) : Nxt p c c := ⟨h, Nat.le_refl _, fun _ _ _ => rfl⟩
theorem Nxt.trans {p : Nat} {c c1 c2 : Cells} (h : Nxt p c c1) (h2 : Nxt p c1 c2) : Nxt p c c2 :=
  ⟨h2.pot, Nat.le_trans h.len h2.len, fun q hq hn => (h2.old q (Nat.lt_of_lt_of_le hq h.len) hn).trans (h.old q hq hn)⟩
theorem PotC.lt {p : Nat} {c : Cells} (h : PotC p c) : p < c.length := by
  obtain ⟨a, b, e, _⟩ := h
  exact (List.getElem?_eq_some_iff.mp e).1
theorem Nxt.app {p : Nat} {c : Cells} (h : PotC p c) (l : Cells) : Nxt p c (c ++ l) := by
  have lt := h.lt
  obtain ⟨a, b, e, r⟩ := h
  exact ⟨⟨a, b, by rw [List.getElem?_append_left lt]; exact e, r⟩, by simp, fun q hq _ => List.getElem?_append_left hq⟩
theorem noPylong {i j : Int} (h : j.natAbs < 2 ^ 31) : Builtin.divisionGoesByPylong i j = false := by
  have e : (if (j == 0) = true then 0 else j.natAbs.log2 / 30 + 1) ≤ 2 := by
    split
    · omega
    · rename_i z
      have n0 : j.natAbs ≠ 0 := fun q => z (by rw [Int.natAbs_eq_zero.mp q]; rfl)
      have : j.natAbs.log2 < 31 := (Nat.log2_lt n0).mpr h
      omega
  unfold Builtin.divisionGoesByPylong
  dsimp only
  have : decide ((if (j == 0) = true then 0 else j.natAbs.log2 / 30 + 1) > 300) = false := decide_eq_false (by omega)
  rw [this]
  rfl
theorem draw {p : Nat} {c : Cells} (h : PotC p c) {n : Int} (hn : 0 < n) (hb : n < 2147483648) : ∃ k c', F__law_draw [.cell p, .int n] c = .ok (.int k) c' ∧ 0 ≤ k ∧ k < n ∧ Nxt p c c' := by
  have lt := h.lt
  obtain ⟨a, b, e, ha, hb0, hb1⟩ := h
  have x0 : fIx (.cell p) (.int 0) c = some (.int a, c) := ixC e rfl
  have x1 : fIx (.cell p) (.int 1) c = some (.int b, c) := ixC e rfl
  have nx : ∀ a' b' : Int, 0 ≤ a' → 0 ≤ b' → b' < 2147483648 → Nxt p c (c.set p (.lst, [.int a', .int b'])) := fun a' b' q1 q2 q3 =>
    ⟨⟨a', b', by rw [List.getElem?_set_self lt], q1, q2, q3⟩, by simp, fun q _ hq => List.getElem?_set_ne (Ne.symm hq)⟩
  by_cases h0 : 0 < a
  · have dm : bDivmod [.int a, .int n] c = some (.tup [.int (a / n), .int (a % n)], c) := if_pos ⟨hn, noPylong (by omega)⟩
    have asg : gT (gsCons (gIx (mVar 0) (mC (.int 0))) (gsCons (gN 2) gsNil)) (.tup [.int (a / n), .int (a % n)]) [some (D.cell p), some (D.int n), none] c = some ([some (D.cell p), some (D.int n), some (D.int (a % n))], c.set p (.lst, [.int (a / n), .int b])) := by
      have e0 : gIx (mVar 0) (mC (.int 0)) (.int (a / n)) [some (D.cell p), some (D.int n), none] c = some ([some (D.cell p), some (D.int n), none], c.set p (.lst, [.int (a / n), .int b])) := by
        unfold gIx
        show (match c[p]? with
          | some (.lst, xs) => (ixN xs.length (0 : Int)).bind fun j => if j < xs.length then some ([some (D.cell p), some (D.int n), none], c.set p (.lst, xs.set j (.int (a / n)))) else none
          | _ => none) = _
        rw [e]
        rfl
      show ((gIx (mVar 0) (mC (.int 0)) (.int (a / n)) [some (D.cell p), some (D.int n), none] c).bind fun q => gsCons (gN 2) gsNil [.int (a % n)] q.1 q.2) = _
      rw [e0]
      rfl
    refine ⟨a % n, _, bodyR (sqR (stIT (eT (e2 (e2 (eV rfl) eC x0) eC (gtI.trans (by rw [decide_eq_true h0])))) (sqN (stAsg (eCall (eCons (e2 (eV rfl) eC x0) (eCons (eV rfl) eNil)) dm) asg) (stR (eV rfl))))), Int.emod_nonneg _ (by omega), Int.emod_lt_of_pos _ hn, nx _ _ (Int.ediv_nonneg ha (by omega)) hb0 hb1⟩
  · obtain ⟨b', hb'⟩ : ∃ b', b' = (b * 48271 + 11213) % 2147483587 := ⟨_, rfl⟩
    have b0 : 0 ≤ b' := by rw [hb']; exact Int.emod_nonneg _ (by omega)
    have b1 : b' < 2147483587 := by rw [hb']; exact Int.emod_lt_of_pos _ (by omega)
    have big : (2147483648 : Nat) < 2 ^ 200 := by decide
    have asg : gIx (mVar 0) (mC (.int 1)) (.int b') [some (D.cell p), some (D.int n), none] c = some ([some (D.cell p), some (D.int n), none], c.set p (.lst, [.int a, .int b'])) := by
      unfold gIx
      show (match c[p]? with
        | some (.lst, xs) => (ixN xs.length (1 : Int)).bind fun j => if j < xs.length then some ([some (D.cell p), some (D.int n), none], c.set p (.lst, xs.set j (.int b'))) else none
        | _ => none) = _
      rw [e]
      rfl
    have y1 : fIx (.cell p) (.int 1) (c.set p (.lst, [.int a, .int b'])) = some (.int b', c.set p (.lst, [.int a, .int b'])) := ixC (by rw [List.getElem?_set_self lt]) rfl
    refine ⟨b' * b' % 2147483549 / 13 % n, _, bodyR (sqN (stIF (eT (e2 (e2 (eV rfl) eC x0) eC (gtI.trans (by rw [decide_eq_false h0])))) rfl) (sqN (stAsg (e2 (eCall (eCons (e2 (e2 (e2 (eV rfl) eC x1) eC (mulI (by omega) (by have : (48271 : Int).natAbs = 48271 := rfl; omega))) eC addI) eNil) rfl) eC ((modI (by decide)).trans (by rw [← hb']))) asg)
      (stR (e2 (e2 (e2 (eCall (eCons (e2 (e2 (eV rfl) eC y1) (e2 (eV rfl) eC y1) (mulI (by omega) (by omega))) eNil) rfl) eC (modI (by decide))) eC (fdivI (by decide) (by decide))) (eV rfl) (modI hn))))), Int.emod_nonneg _ (by omega), Int.emod_lt_of_pos _ hn, nx _ _ ha b0 (by omega)⟩
theorem pick {p : Nat} {c : Cells} (h : PotC p c) {ds : List D} (hd : ds ≠ []) (hl : ds.length ≤ 1000) : ∃ d c', F__law_pick [.cell p, .lst ds] c = .ok d c' ∧ d ∈ ds ∧ Nxt p c c' := by
  have l0 : 0 < ds.length := List.length_pos_iff.mpr hd
  obtain ⟨k, c', e, k0, k1, n⟩ := draw h (n := ds.length) (by omega) (by omega)
  obtain ⟨d, hm, hx⟩ := atL k0 k1
  exact ⟨d, c', bodyR (stR (e2 (eV rfl) (eFn (eCons (eV rfl) (eCons (eCall (eCons (eV rfl) eNil) rfl) eNil)) rfl e) (ixL hx))), hm, n⟩

end K13
end
section
set_option Elab.async false
set_option linter.all false
set_option maxRecDepth 100000
namespace K13
open PySem PySem.Spec L2 Q
variable [Tb]
/-! ### terms -/
inductive Tm where
  | pl (s : Str)
  | en (s : Str)
  | nd (g : Bool) (ts : List Tm)
def wrd (g : Bool) : Str := if g then "greater" else "lesser"
def cls (g : Bool) : Str := if g then "Greater" else "Lesser"
mutual
def Tm.dep : Tm → Nat
  | .pl _ => 0
  | .en _ => 0
  | .nd _ ts => 1 + depL ts
def depL : List Tm → Nat
  | [] => 0
  | t :: ts => max t.dep (depL ts)
end
def plNames : List Str := ["r0", "r1", "r2", "r3", "r4", "r5", "x0", "x1"]
mutual
def Tm.ok : Tm → Prop
  | .pl s => s ∈ plNames
  | .en s => s = "bottom" ∨ s = "top"
  | .nd _ ts => (ts.length = 2 ∨ ts.length = 3 ∨ ts.length = 4 ∨ ts.length = 8) ∧ okL ts
def okL : List Tm → Prop
  | [] => True
  | t :: ts => t.ok ∧ okL ts
end
mutual
/-- d is the law's model of the term -/
def IsT (p : Nat) (c : Cells) : Tm → D → Prop
  | .pl s, d => d = .tup [.str "place", .str s]
  | .en s, d => d = .tup [.str "end", .str s]
  | .nd g ts, d => ∃ l ds, d = .tup [.str (wrd g), l] ∧ view c l = some (.lst, ds) ∧ l ≠ .cell p ∧ IsTL p c ts ds
def IsTL (p : Nat) (c : Cells) : List Tm → List D → Prop
  | [], [] => True
  | t :: ts, d :: ds => IsT p c t d ∧ IsTL p c ts ds
  | _ :: _, [] => False
  | [], _ :: _ => False
end
mutual
/-- d is the term's object -/
def IsO (c : Cells) : Tm → D → Prop
  | .pl s, d => ∃ i, d = .cell i ∧ c[i]? = some (.obj "Place" ["_name"], [.str s])
  | .en s, d => ∃ i, d = .cell i ∧ c[i]? = some (.obj "End" ["_end"], [.str s])
  | .nd g ts, d => ∃ i ds, d = .cell i ∧ c[i]? = some (.obj (cls g) ["_parts", "_depth"], [.tup ds, .int ((1 + depL ts : Nat) : Int)]) ∧ IsOL c ts ds
def IsOL (c : Cells) : List Tm → List D → Prop
  | [], [] => True
  | t :: ts, d :: ds => IsO c t d ∧ IsOL c ts ds
  | _ :: _, [] => False
  | [], _ :: _ => False
end
theorem view_keep {p : Nat} {c c' : Cells} (n : Nxt p c c') {l : D} {x : Cl} (h : view c l = some x) (hp : l ≠ .cell p) : view c' l = some x := by
  cases l with
  | cell i =>
    have e : c[i]? = some x := h
    have hi := (List.getElem?_eq_some_iff.mp e).1
    exact (n.old i hi fun z => hp (by rw [z])).trans e
  | nod t ds => exact h
  | _ => cases h
mutual
theorem IsT.nx {p : Nat} {c c' : Cells} (n : Nxt p c c') : ∀ (t : Tm) (d : D), IsT p c t d → IsT p c' t d
  | .pl _, d, h => h
  | .en _, d, h => h
  | .nd g ts, d, h => by
    obtain ⟨l, ds, h1, h2, h3, h4⟩ : ∃ l ds, d = .tup [.str (wrd g), l] ∧ view c l = some (.lst, ds) ∧ l ≠ .cell p ∧ IsTL p c ts ds := h
    exact ⟨l, ds, h1, view_keep n h2 h3, h3, IsTL.nx n ts ds h4⟩
theorem IsTL.nx {p : Nat} {c c' : Cells} (n : Nxt p c c') : ∀ (ts : List Tm) (ds : List D), IsTL p c ts ds → IsTL p c' ts ds
  | [], [], _ => trivial
  | t :: ts, d :: ds, h => ⟨IsT.nx n t d h.1, IsTL.nx n ts ds h.2⟩
  | _ :: _, [], h => h.elim
  | [], _ :: _, h => h.elim
end
theorem pot_lst {p : Nat} {c : Cells} (h : PotC p c) : ∃ ds, c[p]? = some (.lst, ds) := by
  obtain ⟨a, b, e, _⟩ := h
  exact ⟨_, e⟩
theorem obj_keep {p : Nat} {c c' : Cells} (hp : PotC p c) (n : Nxt p c c') {i : Nat} {C : Str} {ks : List Str} {ds : List D} (h : c[i]? = some (.obj C ks, ds)) : c'[i]? = some (.obj C ks, ds) := by
  have hi := (List.getElem?_eq_some_iff.mp h).1
  refine (n.old i hi fun z => ?_).trans h
  obtain ⟨es, e⟩ := pot_lst hp
  rw [z, e] at h
  cases h
mutual
theorem IsO.nx {p : Nat} {c c' : Cells} (hp : PotC p c) (n : Nxt p c c') : ∀ (t : Tm) (d : D), IsO c t d → IsO c' t d
  | .pl _, d, h => by
    obtain ⟨i, e, h⟩ := h
    exact ⟨i, e, obj_keep hp n h⟩
  | .en _, d, h => by
    obtain ⟨i, e, h⟩ := h
    exact ⟨i, e, obj_keep hp n h⟩
  | .nd g ts, d, h => by
    obtain ⟨i, ds, e, h, l⟩ := h
    exact ⟨i, ds, e, obj_keep hp n h, IsOL.nx hp n ts ds l⟩
theorem IsOL.nx {p : Nat} {c c' : Cells} (hp : PotC p c) (n : Nxt p c c') : ∀ (ts : List Tm) (ds : List D), IsOL c ts ds → IsOL c' ts ds
  | [], [], _ => trivial
  | t :: ts, d :: ds, h => ⟨IsO.nx hp n t d h.1, IsOL.nx hp n ts ds h.2⟩
  | _ :: _, [], h => h.elim
  | [], _ :: _, h => h.elim
end
theorem IsTL.len {p : Nat} {c : Cells} : ∀ {ts : List Tm} {ds : List D}, IsTL p c ts ds → ds.length = ts.length
  | [], [], _ => rfl
  | t :: ts, d :: ds, h => by
    have := IsTL.len h.2
    simp [this]
  | _ :: _, [], h => h.elim
  | [], _ :: _, h => h.elim
theorem IsOL.len {c : Cells} : ∀ {ts : List Tm} {ds : List D}, IsOL c ts ds → ds.length = ts.length
  | [], [], _ => rfl
  | t :: ts, d :: ds, h => by
    have := IsOL.len h.2
    simp [this]
  | _ :: _, [], h => h.elim
  | [], _ :: _, h => h.elim
theorem IsTL.get {p : Nat} {c : Cells} : ∀ {ts : List Tm} {ds : List D} {i : Nat} {d : D}, IsTL p c ts ds → ds[i]? = some d → ∃ t, ts[i]? = some t ∧ IsT p c t d
  | [], [], i, d, _, e => by simp at e
  | t :: ts, x :: ds, 0, d, h, e => by
    simp at e
    subst e
    exact ⟨t, rfl, h.1⟩
  | t :: ts, x :: ds, i + 1, d, h, e => by
    obtain ⟨t', h1, h2⟩ := IsTL.get h.2 (show ds[i]? = some d by simpa using e)
    exact ⟨t', by simpa using h1, h2⟩
  | _ :: _, [], _, _, h, _ => h.elim
  | [], _ :: _, _, _, h, _ => h.elim
theorem IsOL.get {c : Cells} : ∀ {ts : List Tm} {ds : List D} {i : Nat} {d : D}, IsOL c ts ds → ds[i]? = some d → ∃ t, ts[i]? = some t ∧ IsO c t d
  | [], [], i, d, _, e => by simp at e
  | t :: ts, x :: ds, 0, d, h, e => by
    simp at e
    subst e
    exact ⟨t, rfl, h.1⟩
  | t :: ts, x :: ds, i + 1, d, h, e => by
    obtain ⟨t', h1, h2⟩ := IsOL.get h.2 (show ds[i]? = some d by simpa using e)
    exact ⟨t', by simpa using h1, h2⟩
  | _ :: _, [], _, _, h, _ => h.elim
  | [], _ :: _, _, _, h, _ => h.elim
theorem IsOL.snoc {c : Cells} : ∀ {ts : List Tm} {ds : List D} {t : Tm} {d : D}, IsOL c ts ds → IsO c t d → IsOL c (ts ++ [t]) (ds ++ [d])
  | [], [], t, d, _, h => ⟨h, trivial⟩
  | _ :: ts, _ :: ds, t, d, h, q => ⟨h.1, IsOL.snoc h.2 q⟩
  | _ :: _, [], _, _, h, _ => h.elim
  | [], _ :: _, _, _, h, _ => h.elim
theorem IsTL.snoc {p : Nat} {c : Cells} : ∀ {ts : List Tm} {ds : List D} {t : Tm} {d : D}, IsTL p c ts ds → IsT p c t d → IsTL p c (ts ++ [t]) (ds ++ [d])
  | [], [], t, d, _, h => ⟨h, trivial⟩
  | _ :: ts, _ :: ds, t, d, h, q => ⟨h.1, IsTL.snoc h.2 q⟩
  | _ :: _, [], _, _, h, _ => h.elim
  | [], _ :: _, _, _, h, _ => h.elim
theorem okL_get {ts : List Tm} {i : Nat} {t : Tm} (h : okL ts) (e : ts[i]? = some t) : t.ok := by
  induction ts generalizing i with
  | nil => simp at e
  | cons a r ih =>
    cases i with
    | zero => simp at e; subst e; exact h.1
    | succ i => exact ih h.2 (by simpa using e)
theorem depL_get {ts : List Tm} {i : Nat} {t : Tm} (e : ts[i]? = some t) : t.dep ≤ depL ts := by
  induction ts generalizing i with
  | nil => simp at e
  | cons a r ih =>
    cases i with
    | zero => simp at e; subst e; exact Nat.le_max_left _ _
    | succ i => exact Nat.le_trans (ih (by simpa using e)) (Nat.le_max_right _ _)
theorem IsO.cell {c : Cells} {t : Tm} {d : D} (h : IsO c t d) : ∃ i, d = .cell i := by
  cases t with
  | pl s => obtain ⟨i, e, _⟩ := h; exact ⟨i, e⟩
  | en s => obtain ⟨i, e, _⟩ := h; exact ⟨i, e⟩
  | nd g ts => obtain ⟨i, _, e, _⟩ := h; exact ⟨i, e⟩
end K13
end
section
set_option Elab.async false
set_option linter.all false
set_option maxRecDepth 100000
namespace K13
open PySem PySem.Spec L2 Q
variable [Tb]
section
variable {env e1 : Q.Env} {c c1 c2 c3 : Cells}
theorem stSto {cls : List Str} {f : Str} {mo mv : ME} {k : Nat} {y : D} {C : Str} {ks : List Str} {ds : List D} (h : mv env c = .ok y c1) (h2 : mo env c1 = .ok (.cell k) c2) (hk : c2[k]? = some (.obj C ks, ds)) (hm : C ∈ cls ∧ f ∉ ks ∧ ks.length < 100) :
    sSto cls f mo mv env c = .ok (.nx env) (c2.set k (.obj C (ks ++ [f]), ds ++ [y])) := by
  unfold sSto
  rw [h]
  show ((mo env c1).st env fun x c => match fSto cls f x y c with
    | some c => (RS.ok (Q.Fl.nx env) c)
    | none => RS.stk) = _
  rw [h2]
  show (match fSto cls f (.cell k) y c2 with
    | some c => (RS.ok (Q.Fl.nx env) c)
    | none => RS.stk) = _
  unfold fSto
  dsimp only
  rw [hk]
  dsimp only
  rw [if_pos hm]
theorem eMk {C : Str} {F : FD} {ms : ML} {xs : List D} (h : ms env c = .ok xs c1) (h2 : F (.cell c1.length :: xs) (c1 ++ [(.obj C [], [])]) = .ok .non c2) : mMk C F ms env c = .ok (.cell c1.length) c2 := by
  unfold mMk
  rw [h]
  show ((F (.cell c1.length :: xs) (c1 ++ [(.obj C [], [])])).bind _) = _
  rw [h2]
  rfl
theorem argR {n : Nat} {F : FD} {ds : List D} {r : R D} (hl : ds.length = n) (h : F ds c = r) : argF n F ds c = r := by
  unfold argF
  rw [if_pos hl, h]
theorem set_last {α : Type} {l : List α} {x y : α} : (l ++ [x]).set l.length y = l ++ [y] := by
  rw [List.set_append]
  simp
theorem get_last {α : Type} {l : List α} {x : α} : (l ++ [x])[l.length]? = some x := by simp
end
/-! ### places and ends -/
theorem isPlace {s : Str} (h : s ∈ plNames) (c : Cells) : F_is_place [.str s] c = .ok (.bl true) c := by
  have i1 : fIsi ["str"] (.str s) c = some (.bl true, c) := by
    unfold fIsi
    show ((isAny "str" ["str"]).map fun b => (D.bl b, c)) = _
    rw [show isAny "str" ["str"] = some true by decide]
    rfl
  have e1 : fIn (.str s) (.tup ((["r0", "r1", "r2", "r3", "r4", "r5"] : List Str).map D.str)) c = some (.bl (inV (.str s) ((["r0", "r1", "r2", "r3", "r4", "r5"] : List Str).map V.str)), c) := rfl
  have e2' : fIn (.str s) (.tup ((["x0", "x1"] : List Str).map D.str)) c = some (.bl (inV (.str s) ((["x0", "x1"] : List Str).map V.str)), c) := rfl
  have key : ∀ s ∈ plNames, (inV (.str s) ((["r0", "r1", "r2", "r3", "r4", "r5"] : List Str).map V.str) = true) ∨ (inV (.str s) ((["r0", "r1", "r2", "r3", "r4", "r5"] : List Str).map V.str) = false ∧ inV (.str s) ((["x0", "x1"] : List Str).map V.str) = true) := by decide +kernel
  rcases key s h with q | ⟨q, q'⟩
  · rw [q] at e1
    exact bodyR (stR (eAndV (e1' (eV rfl) i1) rfl (eOrVT (e2 (eV rfl) eC e1) rfl)))
  · rw [q] at e1
    rw [q'] at e2'
    exact bodyR (stR (eAndV (e1' (eV rfl) i1) rfl (eOrV (e2 (eV rfl) eC e1) rfl (e2 (eV rfl) eC e2'))))
theorem isEnd {s : Str} (h : s = "bottom" ∨ s = "top") (c : Cells) : F_is_end [.str s] c = .ok (.bl true) c := by
  have i1 : fIsi ["str"] (.str s) c = some (.bl true, c) := by
    unfold fIsi
    show ((isAny "str" ["str"]).map fun b => (D.bl b, c)) = _
    rw [show isAny "str" ["str"] = some true by decide]
    rfl
  have e1 : fIn (.str s) (.tup [.str "bottom", .str "top"]) c = some (.bl (inV (.str s) [.str "bottom", .str "top"]), c) := rfl
  have key : inV (.str s) [.str "bottom", .str "top"] = true := by
    rcases h with rfl | rfl <;> decide +kernel
  rw [key] at e1
  exact bodyR (stR (eAndV (e1' (eV rfl) i1) rfl (e2 (eV rfl) (eTup (eCons eC (eCons eC eNil))) e1)))
theorem mkPlace {s : Str} (h : s ∈ plNames) (c : Cells) : F_Place_init [.cell c.length, .str s] (c ++ [(.obj "Place" [], [])]) = .ok .non (c ++ [(.obj "Place" ["_name"], [.str s])]) := by
  refine argR rfl (bodyN (e1 := [some (.cell c.length), some (.str s)]) (sqN (stIF (eNot (b := true) (eTru (eFn (eCons (eV rfl) eNil) rfl (isPlace h _)) rfl)) rfl) ?_))
  rw [stSto (cls := ["Place"]) (f := "_name") (eV rfl) (eV rfl) get_last ⟨List.mem_cons_self, by simp, by simp⟩, set_last]
  rfl
theorem mkEnd {s : Str} (h : s = "bottom" ∨ s = "top") (c : Cells) : F_End_init [.cell c.length, .str s] (c ++ [(.obj "End" [], [])]) = .ok .non (c ++ [(.obj "End" ["_end"], [.str s])]) := by
  refine argR rfl (bodyN (e1 := [some (.cell c.length), some (.str s)]) (sqN (stIF (eNot (b := true) (eTru (eFn (eCons (eV rfl) eNil) rfl (isEnd h _)) rfl)) rfl) ?_))
  rw [stSto (cls := ["End"]) (f := "_end") (eV rfl) (eV rfl) get_last ⟨List.mem_cons_self, by simp, by simp⟩, set_last]
  rfl
/-! ### lessers and greaters -/
def tmCls : Tm → Str
  | .pl _ => "Place"
  | .en _ => "End"
  | .nd g _ => cls g
theorem IsO.view {c : Cells} {t : Tm} {d : D} (h : IsO c t d) : ∃ ks ds, Q.view c d = some (.obj (tmCls t) ks, ds) := by
  cases t with
  | pl s => obtain ⟨i, rfl, h⟩ := h; exact ⟨_, _, h⟩
  | en s => obtain ⟨i, rfl, h⟩ := h; exact ⟨_, _, h⟩
  | nd g ts => obtain ⟨i, ds, rfl, h, _⟩ := h; exact ⟨_, _, h⟩
theorem IsO.ty {c : Cells} {t : Tm} {d : D} (h : IsO c t d) : tyD c d = none := by
  obtain ⟨i, rfl⟩ := h.cell
  obtain ⟨ks, ds, h⟩ := h.view
  unfold tyD
  dsimp only
  rw [h]
theorem isTerm {c : Cells} {t : Tm} {d : D} (h : IsO c t d) : fIsO [("Place", true), ("End", true), ("Lesser", true), ("Greater", true)] d c = some (.bl true, c) := by
  unfold fIsO
  rw [h.ty]
  dsimp only
  obtain ⟨ks, ds, hv⟩ := h.view
  rw [hv]
  dsimp only
  cases t with
  | pl s => rfl
  | en s => rfl
  | nd g ts => cases g <;> rfl
theorem chk {c : Cells} {ts : List Tm} {ds : List D} (h : IsOL c ts ds) : F__check_terms [.tup ds] c = .ok .non c := by
  have w : mWalk (mVar 0) [some (.tup ds), none] c = .ok (srcT .tup (.tup ds) (ds.length + 1)) c := eWalk (eV rfl) rfl rfl
  obtain ⟨e2, c2, q, o, he, hc⟩ := for_inv (g := gN 1) (k := sIf (mNot (mTru (m1 (fIsO [("Place", true), ("End", true), ("Lesser", true), ("Greater", true)]) (mVar 1)))) (sRaise "InvalidTerm" ["value"] (mCons (mVar 1) mNil)) sNil) (d := .tup ds) (ds := ds) (t := .tup) (fun _ env c' => ∃ o : Option D, env = [some (.tup ds), o] ∧ c' = c) (fun i env c' ⟨_, _, h⟩ => rfl)
    (fun i x env c' hx ⟨o, he, hc⟩ => by
      subst he hc
      obtain ⟨t, _, ht⟩ := h.get hx
      exact ⟨[some (.tup ds), some x], c', rfl, [some (.tup ds), some x], c', stIF (eNot (b := true) (eTru (e1' (eV rfl) (isTerm ht)) rfl)) rfl, _, rfl, rfl⟩)
    (ds.length + 1) 0 [some (.tup ds), none] c ⟨none, rfl, rfl⟩ (Nat.zero_le _) (by omega)
  rw [he, hc] at q
  refine bodyN (e1 := [some (.tup ds), o]) ?_
  show sFor _ _ _ _ _ = _
  unfold sFor
  show (mWalk (mVar 0) [some (.tup ds), none] c).st _ _ = _
  rw [w]
  exact q
theorem lenT {ds : List D} {c : Cells} : bLen [.tup ds] c = some (.int ds.length, c) := rfl
theorem checked {c : Cells} {ts : List Tm} {ds : List D} (h : IsOL c ts ds) (h2 : 2 ≤ ds.length) : F__checked_parts [.tup ds] c = .ok (.tup ds) c :=
  bodyR (sqN (stIF (eT (e2 (eCall (eCons (eV rfl) eNil) lenT) eC (ltI.trans (by rw [decide_eq_false (by omega)])))) rfl) (sqN (stX (eFn (eCons (eV rfl) eNil) rfl (chk h))) (stR (eV rfl))))
noncomputable abbrev depT : List (Str × FD) := [("Place", F_Place_depth), ("End", F_End_depth), ("Lesser", F_Lesser_depth), ("Greater", F_Greater_depth)]
theorem eFld {cl : List Str} {f : Str} {env : Q.Env} {me : ME} {c c1 : Cells} {d x : D} {C : Str} {ks : List Str} {ds : List D} (h : me env c = .ok d c1) (hv : Q.view c1 d = some (.obj C ks, ds)) (hC : C ∈ cl) (hf : lookF ks ds f = some x) : m1 (fFld cl f) me env c = .ok x c1 := by
  refine e1' h ?_
  unfold fFld
  rw [hv]
  dsimp only
  rw [if_pos hC, hf]
  rfl
theorem ePrp {tbl : List (Str × FD)} {env : Q.Env} {me : ME} {c c1 : Cells} {d x : D} {C : Str} {ks : List Str} {ds : List D} {F : FD} (h : me env c = .ok d c1) (hv : Q.view c1 d = some (.obj C ks, ds)) (hF : tbl.lookup C = some F) (hx : F [d] c1 = .ok x c1) : mPrp tbl me env c = .ok x c1 := by
  unfold mPrp
  rw [h]
  show (match Q.view c1 d with
    | some (.obj C _, _) => match tbl.lookup C with
      | some F => (F [d] c1).ne
      | none => .stk
    | _ => .stk) = _
  rw [hv]
  dsimp only
  rw [hF]
  dsimp only
  rw [hx]
  rfl
theorem depth_of {c : Cells} {t : Tm} {d : D} (h : IsO c t d) {env : Q.Env} {me : ME} {c0 : Cells} (he : me env c0 = .ok d c) : mPrp depT me env c0 = .ok (.int t.dep) c := by
  cases t with
  | pl s =>
    obtain ⟨i, rfl, hv⟩ := h
    exact ePrp he hv rfl (argR rfl (bodyR (stR eC)))
  | en s =>
    obtain ⟨i, rfl, hv⟩ := h
    exact ePrp he hv rfl (argR rfl (bodyR (stR eC)))
  | nd g ts =>
    obtain ⟨i, ds, rfl, hv, _⟩ := h
    cases g with
    | false => exact ePrp he hv rfl (argR rfl (bodyR (stR (eFld (eV rfl) hv List.mem_cons_self rfl))))
    | true => exact ePrp he hv rfl (argR rfl (bodyR (stR (eFld (eV rfl) hv List.mem_cons_self rfl))))
end K13
end
section
set_option Elab.async false
set_option linter.all false
set_option maxRecDepth 100000
namespace K13
open PySem PySem.Spec L2 Q
variable [Tb]
theorem wipe1 {env : Q.Env} {i : Nat} {x : D} : (wipeE env [i]).set i (some x) = env.set i (some x) := by
  show ((wipeE env []).set i none).set i (some x) = _
  rw [List.set_set]
  rfl
/-- a comprehension over a sequence -/
theorem lcJ {m : ME} {te : ME} {env : Q.Env} {c c1 : Cells} {i : Nat} {L : D} {t : Tg} {ds : List D} (Jn : Nat → List D → Cells → Prop) (h : m env c = .ok L c1) (hv : ∀ k acc c', Jn k acc c' → view c' L = some (t, ds)) (ht : sqTg t = true) (hl : ds.length < 1000) (J0 : Jn 0 [] c1)
    (step : ∀ k x acc c', ds[k]? = some x → acc.length = k → Jn k acc c' → ∃ y c2, te (env.set i (some x)) c' = .ok y c2 ∧ Jn (k + 1) (acc ++ [y]) c2) : ∃ acc c2, mLc false (mWalk m) (gN i) [i] bYes te env c = .ok (.lst acc) c2 ∧ acc.length = ds.length ∧ Jn ds.length acc c2 := by
  have w : mWalk m env c = .ok (srcT t L (ds.length + 1)) c1 := eWalk h (hv 0 [] c1 J0) ht
  have sm : (1000 : Nat) < sizeLine := by decide
  obtain ⟨acc2, c2, q, ⟨e1, e2⟩, e3⟩ := lc_inv (s := srcT t L (ds.length + 1)) (ds := ds) (g := gN i) (vs := [i]) (tt := bYes) (te := te) (env := env) (fun k acc c' => (acc.length = k ∧ k ≤ ds.length) ∧ Jn k acc c') (fun k acc c' ⟨_, J⟩ => srcT_get (hv k acc c' J))
    (fun k acc c' ⟨⟨e, e'⟩, _⟩ => by omega)
    (fun k x acc c' hx ⟨⟨e, e'⟩, J⟩ => by
      have hk := (List.getElem?_eq_some_iff.mp hx).1
      obtain ⟨y, c2, q1, q2⟩ := step k x acc c' hx e J
      refine ⟨_, _, rfl, .inr ⟨c', y, c2, rfl, ?_, ⟨by simp [e], by omega⟩, q2⟩⟩
      rw [wipe1]
      exact q1)
    (ds.length + 1) 0 [] c1 ⟨⟨rfl, Nat.zero_le _⟩, J0⟩ (Nat.zero_le _) (by omega)
  refine ⟨acc2, c2, ?_, e1, e3⟩
  unfold mLc
  rw [w]
  show (lcS (srcT t L (ds.length + 1)) (gN i) [i] bYes te env (ds.length + 1) 0 [] c1).bind (lcEnd false) = _
  rw [q]
  rfl
def depLD (ts : List Tm) : List D := ts.map fun t => D.int (t.dep : Nat)
theorem intL_dep (ts : List Tm) : intL (depLD ts) = some (ts.map fun t => ((t.dep : Nat) : Int)) := by
  induction ts with
  | nil => rfl
  | cons t ts ih =>
    show (intL (depLD ts)).map _ = _
    rw [ih]
    rfl
theorem maxI_dep : ∀ ts : List Tm, ts ≠ [] → maxI (ts.map fun t => ((t.dep : Nat) : Int)) = ((depL ts : Nat) : Int)
  | [t], _ => by
    show ((t.dep : Nat) : Int) = ((max t.dep 0 : Nat) : Int)
    simp
  | t :: u :: ts, _ => by
    have ih := maxI_dep (u :: ts) (by simp)
    show max ((t.dep : Nat) : Int) (maxI ((u :: ts).map fun t => ((t.dep : Nat) : Int))) = ((max t.dep (depL (u :: ts)) : Nat) : Int)
    rw [ih]
    omega
theorem depth_over {c : Cells} {ts : List Tm} {ds : List D} (h : IsOL c ts ds) (h2 : 2 ≤ ds.length) (h3 : ds.length < 1000) : F__depth_over [.tup ds] c = .ok (.int ((1 + depL ts : Nat) : Int)) c := by
  have hl := h.len
  obtain ⟨acc, c2, q, ql, qc, qa⟩ := lcJ (m := mVar 0) (te := mPrp depT (mVar 1)) (env := [some (.tup ds), none]) (c := c) (c1 := c) (i := 1) (L := .tup ds) (t := .tup) (ds := ds) (fun k acc c' => c' = c ∧ acc = depLD (ts.take k)) (eV rfl) (fun _ _ _ _ => rfl) rfl h3 ⟨rfl, by simp [depLD]⟩
    (fun k x acc c' hx ha ⟨hc, e⟩ => by
      subst hc
      obtain ⟨t, ht, ho⟩ := h.get hx
      refine ⟨.int (t.dep : Nat), c', depth_of ho (eV rfl), rfl, ?_⟩
      rw [e, List.take_add_one, ht]
      simp [depLD])
  rw [qa, show ts.take ds.length = ts by rw [hl, List.take_length]] at q
  subst qc
  have ne : ts ≠ [] := fun z => by
    rw [z] at hl
    simp at hl
    rw [hl] at h2
    simp at h2
  have mx : bMaxL [.lst (depLD ts)] c2 = some (.int ((depL ts : Nat) : Int), c2) := by
    show ((lView c2 (.lst (depLD ts))).bind intL).bind _ = _
    show (intL (depLD ts)).bind _ = _
    rw [intL_dep]
    show (if (ts.map fun t => ((t.dep : Nat) : Int)) = [] then none else some (D.int (maxI (ts.map fun t => ((t.dep : Nat) : Int))), c2)) = _
    rw [if_neg (by simpa using ne), maxI_dep ts ne]
  refine bodyR (stR (e2 eC (eCall (eCons q eNil) mx) ?_))
  show some (D.int (1 + ((depL ts : Nat) : Int)), c2) = _
  congr 3
mutual
theorem keepO {c c' : Cells} (k0 : ∀ {i : Nat} {x : Cl}, c[i]? = some x → c'[i]? = some x) : ∀ (t : Tm) (d : D), IsO c t d → IsO c' t d
  | .pl _, d, h => by
    obtain ⟨i, e, h⟩ := h
    exact ⟨i, e, k0 h⟩
  | .en _, d, h => by
    obtain ⟨i, e, h⟩ := h
    exact ⟨i, e, k0 h⟩
  | .nd g ts, d, h => by
    obtain ⟨i, ds, e, h, l⟩ := h
    exact ⟨i, ds, e, k0 h, keepOL k0 ts ds l⟩
theorem keepOL {c c' : Cells} (k0 : ∀ {i : Nat} {x : Cl}, c[i]? = some x → c'[i]? = some x) : ∀ (ts : List Tm) (ds : List D), IsOL c ts ds → IsOL c' ts ds
  | [], [], _ => trivial
  | t :: ts, d :: ds, h => ⟨keepO k0 t d h.1, keepOL k0 ts ds h.2⟩
  | _ :: _, [], h => h.elim
  | [], _ :: _, h => h.elim
end
theorem app_keep {c l : Cells} {i : Nat} {x : Cl} (h : c[i]? = some x) : (c ++ l)[i]? = some x := by
  rw [List.getElem?_append_left (List.getElem?_eq_some_iff.mp h).1]
  exact h
theorem mkNd {c : Cells} (g : Bool) {ts : List Tm} {ds : List D} (h : IsOL c ts ds) (h2 : 2 ≤ ds.length) (h3 : ds.length < 1000) :
    (if g then F_Greater_init else F_Lesser_init) (.cell c.length :: ds) (c ++ [(.obj (cls g) [], [])]) = .ok .non (c ++ [(.obj (cls g) ["_parts", "_depth"], [.tup ds, .int ((1 + depL ts : Nat) : Int)])]) := by
  have sz : ds.length ≤ sizeLine := by
    have : (1000 : Nat) < sizeLine := by decide
    omega
  have o1 := keepOL (c' := c ++ [(.obj (cls g) [], [])]) (fun e => app_keep e) ts ds h
  have o2 := keepOL (c' := c ++ [(.obj (cls g) ["_parts"], [.tup ds])]) (fun e => app_keep e) ts ds h
  have ne : (("_depth" : Str) ∉ (["_parts"] : List Str)) := by decide +kernel
  cases g with
  | false =>
    show selfStarF 2 m_Lesser_init (.cell c.length :: ds) _ = _
    unfold selfStarF
    dsimp only
    rw [if_pos sz]
    have s1 := stSto (cls := ["Lesser"]) (f := "_parts") (env := [some (.cell c.length), some (.tup ds)]) (mo := mVar 0) (mv := mFn F__checked_parts 1 (mCons (mVar 1) mNil)) (eFn (n := 1) (eCons (eV rfl) eNil) rfl (checked o1 h2)) (eV rfl) get_last ⟨List.mem_cons_self, by simp, by simp⟩
    rw [set_last] at s1
    have s2 := stSto (cls := ["Lesser"]) (f := "_depth") (env := [some (.cell c.length), some (.tup ds)]) (mo := mVar 0) (mv := mFn F__depth_over 1 (mCons (mVar 1) mNil)) (eFn (n := 1) (eCons (eV rfl) eNil) rfl (depth_over o2 h2 h3)) (eV rfl) get_last ⟨List.mem_cons_self, ne, by simp⟩
    rw [set_last] at s2
    show (m_Lesser_init _ _).out = _
    rw [show m_Lesser_init (enter 2 [.cell c.length, .tup ds]) (c ++ [(.obj (cls false) [], [])]) = _ from sqN s1 s2]
    rfl
  | true =>
    show selfStarF 2 m_Greater_init (.cell c.length :: ds) _ = _
    unfold selfStarF
    dsimp only
    rw [if_pos sz]
    have s1 := stSto (cls := ["Greater"]) (f := "_parts") (env := [some (.cell c.length), some (.tup ds)]) (mo := mVar 0) (mv := mFn F__checked_parts 1 (mCons (mVar 1) mNil)) (eFn (n := 1) (eCons (eV rfl) eNil) rfl (checked o1 h2)) (eV rfl) get_last ⟨List.mem_cons_self, by simp, by simp⟩
    rw [set_last] at s1
    have s2 := stSto (cls := ["Greater"]) (f := "_depth") (env := [some (.cell c.length), some (.tup ds)]) (mo := mVar 0) (mv := mFn F__depth_over 1 (mCons (mVar 1) mNil)) (eFn (n := 1) (eCons (eV rfl) eNil) rfl (depth_over o2 h2 h3)) (eV rfl) get_last ⟨List.mem_cons_self, ne, by simp⟩
    rw [set_last] at s2
    show (m_Greater_init _ _).out = _
    rw [show m_Greater_init (enter 2 [.cell c.length, .tup ds]) (c ++ [(.obj (cls true) [], [])]) = _ from sqN s1 s2]
    rfl
end K13
end
section
set_option Elab.async false
set_option linter.all false
set_option maxRecDepth 100000
namespace K13
open PySem PySem.Spec L2 Q
variable [Tb]
theorem lenL {ds : List D} {c : Cells} : bLen [.lst ds] c = some (.int ds.length, c) := rfl
theorem ixV {env : Q.Env} {i : Nat} {ds : List D} {c : Cells} {k : Int} {d : D} (h : env[i]? = some (some (.lst ds))) (e : atI ds k = some d) : m2 fIx (mVar i) (mC (.int k)) env c = .ok d c := e2 (eV h) eC (ixL e)
theorem lenIs {env : Q.Env} {i : Nat} {ds : List D} {c : Cells} {k : Int} (h : env[i]? = some (some (.lst ds))) : mT (m2 fEq (mCall bLen (mCons (mVar i) mNil)) (mC (.int k))) env c = .ok (decide ((ds.length : Int) = k)) c :=
  eT (e2 (eCall (eCons (eV h) eNil) lenL) eC eqI)
theorem mkL {c : Cells} {g : Bool} {ts : List Tm} {ds : List D} (h : IsOL c ts ds) (h2 : 2 ≤ ds.length) (h3 : ds.length < 1000) {env : Q.Env} {ms : ML} (hm : ms env c = .ok ds c) : mMk (cls g) (if g then F_Greater_init else F_Lesser_init) ms env c = .ok (.cell c.length) (c ++ [(.obj (cls g) ["_parts", "_depth"], [.tup ds, .int ((1 + depL ts : Nat) : Int)])]) :=
  eMk hm (mkNd g h h2 h3)
theorem joined {c : Cells} (g : Bool) {ts : List Tm} {ds : List D} (h : IsOL c ts ds) (hn : ts.length = 2 ∨ ts.length = 3 ∨ ts.length = 4 ∨ ts.length = 8) :
    F__law_joined [.str (wrd g), .lst ds] c = .ok (.cell c.length) (c ++ [(.obj (cls g) ["_parts", "_depth"], [.tup ds, .int ((1 + depL ts : Nat) : Int)])]) := by
  have hl := h.len
  have w0 : mT (m2 fEq (mVar 0) (mC (.str "lesser"))) [some (.str (wrd g)), some (.lst ds)] c = .ok (decide (wrd g = "lesser")) c := eT (e2 (eV rfl) eC eqS)
  have n2 := lenIs (env := [some (.str (wrd g)), some (.lst ds)]) (i := 1) (ds := ds) (c := c) (k := 2) rfl
  have n3 := lenIs (env := [some (.str (wrd g)), some (.lst ds)]) (i := 1) (ds := ds) (c := c) (k := 3) rfl
  have n4 := lenIs (env := [some (.str (wrd g)), some (.lst ds)]) (i := 1) (ds := ds) (c := c) (k := 4) rfl
  have wl : decide (wrd false = "lesser") = true := by decide +kernel
  have wg : decide (wrd true = "lesser") = false := by decide +kernel
  rcases hn with q | q | q | q <;> rw [← hl] at q
  · obtain ⟨a, b, rfl⟩ : ∃ a b, ds = [a, b] := by
      match ds, q with
      | [a, b], _ => exact ⟨a, b, rfl⟩
    cases g with
    | false =>
      rw [wl] at w0
      exact bodyR (sqR (stIT w0 (sqR (stIT n2 (stR (mkL (g := false) h (by simp) (by simp) (eCons (ixV rfl rfl) (eCons (ixV rfl rfl) eNil))))))))
    | true =>
      rw [wg] at w0
      exact bodyR (sqN (stIF w0 rfl) (sqR (stIT n2 (stR (mkL (g := true) h (by simp) (by simp) (eCons (ixV rfl rfl) (eCons (ixV rfl rfl) eNil)))))))
  · obtain ⟨a, b, d, rfl⟩ : ∃ a b d, ds = [a, b, d] := by
      match ds, q with
      | [a, b, d], _ => exact ⟨a, b, d, rfl⟩
    cases g with
    | false =>
      rw [wl] at w0
      exact bodyR (sqR (stIT w0 (sqN (stIF n2 rfl) (sqR (stIT n3 (stR (mkL (g := false) h (by simp) (by simp) (eCons (ixV rfl rfl) (eCons (ixV rfl rfl) (eCons (ixV rfl rfl) eNil))))))))))
    | true =>
      rw [wg] at w0
      exact bodyR (sqN (stIF w0 rfl) (sqN (stIF n2 rfl) (sqR (stIT n3 (stR (mkL (g := true) h (by simp) (by simp) (eCons (ixV rfl rfl) (eCons (ixV rfl rfl) (eCons (ixV rfl rfl) eNil)))))))))
  · obtain ⟨a, b, d, e, rfl⟩ : ∃ a b d e, ds = [a, b, d, e] := by
      match ds, q with
      | [a, b, d, e], _ => exact ⟨a, b, d, e, rfl⟩
    cases g with
    | false =>
      rw [wl] at w0
      exact bodyR (sqR (stIT w0 (sqN (stIF n2 rfl) (sqN (stIF n3 rfl) (sqR (stIT n4 (stR (mkL (g := false) h (by simp) (by simp) (eCons (ixV rfl rfl) (eCons (ixV rfl rfl) (eCons (ixV rfl rfl) (eCons (ixV rfl rfl) eNil))))))))))))
    | true =>
      rw [wg] at w0
      exact bodyR (sqN (stIF w0 rfl) (sqN (stIF n2 rfl) (sqN (stIF n3 rfl) (sqR (stIT n4 (stR (mkL (g := true) h (by simp) (by simp) (eCons (ixV rfl rfl) (eCons (ixV rfl rfl) (eCons (ixV rfl rfl) (eCons (ixV rfl rfl) eNil)))))))))))
  · obtain ⟨a0, a1, a2, a3, a4, a5, a6, a7, rfl⟩ : ∃ a0 a1 a2 a3 a4 a5 a6 a7, ds = [a0, a1, a2, a3, a4, a5, a6, a7] := by
      match ds, q with
      | [a0, a1, a2, a3, a4, a5, a6, a7], _ => exact ⟨a0, a1, a2, a3, a4, a5, a6, a7, rfl⟩
    have ix8 : ∀ env : Q.Env, env[1]? = some (some (.lst [a0, a1, a2, a3, a4, a5, a6, a7])) → (mCons (m2 fIx (mVar 1) (mC (.int 0))) (mCons (m2 fIx (mVar 1) (mC (.int 1))) (mCons (m2 fIx (mVar 1) (mC (.int 2))) (mCons (m2 fIx (mVar 1) (mC (.int 3))) (mCons (m2 fIx (mVar 1) (mC (.int 4))) (mCons (m2 fIx (mVar 1) (mC (.int 5))) (mCons (m2 fIx (mVar 1) (mC (.int 6))) (mCons (m2 fIx (mVar 1) (mC (.int 7))) mNil)))))))) env c = .ok [a0, a1, a2, a3, a4, a5, a6, a7] c := fun env he =>
      eCons (ixV he rfl) (eCons (ixV he rfl) (eCons (ixV he rfl) (eCons (ixV he rfl) (eCons (ixV he rfl) (eCons (ixV he rfl) (eCons (ixV he rfl) (eCons (ixV he rfl) eNil)))))))
    cases g with
    | false =>
      rw [wl] at w0
      exact bodyR (sqR (stIT w0 (sqN (stIF n2 rfl) (sqN (stIF n3 rfl) (sqN (stIF n4 rfl) (stR (mkL (g := false) h (by simp) (by simp) (ix8 _ rfl))))))))
    | true =>
      rw [wg] at w0
      exact bodyR (sqN (stIF w0 rfl) (sqN (stIF n2 rfl) (sqN (stIF n3 rfl) (sqN (stIF n4 rfl) (stR (mkL (g := true) h (by simp) (by simp) (ix8 _ rfl)))))))
/-! ### the law's model made real -/
theorem Nxt.app1 {p : Nat} {c : Cells} (h : PotC p c) (x : Cl) : Nxt p c (c ++ [x]) := Nxt.app h [x]
theorem ixT0 {a b : D} {c : Cells} {env : Q.Env} {i : Nat} (h : env[i]? = some (some (.tup [a, b]))) : m2 fIx (mVar i) (mC (.int 0)) env c = .ok a c := e2 (eV h) eC rfl
theorem ixT1 {a b : D} {c : Cells} {env : Q.Env} {i : Nat} (h : env[i]? = some (some (.tup [a, b]))) : m2 fIx (mVar i) (mC (.int 1)) env c = .ok b c := e2 (eV h) eC rfl
theorem real {p : Nat} : ∀ (n : Nat) (t : Tm) (d : D) (c : Cells), PotC p c → t.ok → t.dep < n → IsT p c t d → ∃ x c', F__law_real n [d] c = .ok x c' ∧ Nxt p c c' ∧ IsO c' t x
  | 0, t, d, c, _, _, h, _ => absurd h (Nat.not_lt_zero _)
  | n + 1, .pl s, d, c, hp, ho, _, h => by
    have h : d = .tup [.str "place", .str s] := h
    subst h
    rw [F__law_real]
    refine ⟨.cell c.length, c ++ [(.obj "Place" ["_name"], [.str s])], bodyR (sqR (stIT (eT (e2 (ixT0 rfl) eC (eqS.trans (by rw [decide_eq_true rfl])))) (stR (eMk (eCons (ixT1 rfl) eNil) (mkPlace ho c))))), Nxt.app1 hp _, c.length, rfl, get_last⟩
  | n + 1, .en s, d, c, hp, ho, _, h => by
    have h : d = .tup [.str "end", .str s] := h
    subst h
    rw [F__law_real]
    have n1 : decide (("end" : Str) = "place") = false := by decide +kernel
    refine ⟨.cell c.length, c ++ [(.obj "End" ["_end"], [.str s])], bodyR (sqN (stIF (eT (e2 (ixT0 rfl) eC (eqS.trans (by rw [n1])))) rfl) (sqR (stIT (eT (e2 (ixT0 rfl) eC (eqS.trans (by rw [decide_eq_true rfl])))) (stR (eMk (eCons (ixT1 rfl) eNil) (mkEnd ho c)))))), Nxt.app1 hp _, c.length, rfl, get_last⟩
  | n + 1, .nd g ts, d, c, hp, ho, hd, h => by
    obtain ⟨l, ds, h1, h2, h3, h4⟩ : ∃ l ds, d = .tup [.str (wrd g), l] ∧ view c l = some (.lst, ds) ∧ l ≠ .cell p ∧ IsTL p c ts ds := h
    subst h1
    obtain ⟨hw, hok⟩ : (ts.length = 2 ∨ ts.length = 3 ∨ ts.length = 4 ∨ ts.length = 8) ∧ okL ts := ho
    have hdl : depL ts < n := by
      have : 1 + depL ts < n + 1 := hd
      omega
    have hl := h4.len
    rw [F__law_real]
    have n1 : decide (wrd g = "place") = false := by cases g <;> decide +kernel
    have n2 : decide (wrd g = "end") = false := by cases g <;> decide +kernel
    obtain ⟨acc, c2, q, ql, ⟨nx, oc⟩⟩ := lcJ (m := m2 fIx (mVar 0) (mC (.int 1))) (te := mFn (F__law_real n) 1 (mCons (mVar 1) mNil)) (env := [some (.tup [.str (wrd g), l]), none]) (c := c) (c1 := c) (i := 1) (L := l) (t := .lst) (ds := ds) (fun k acc c' => Nxt p c c' ∧ IsOL c' (ts.take k) acc) (ixT1 rfl)
      (fun k acc c' ⟨nx, _⟩ => view_keep nx h2 h3) rfl (by omega) ⟨Nxt.refl hp, trivial⟩
      (fun k x acc c' hx ha ⟨nx, oc⟩ => by
        obtain ⟨t, ht, hT⟩ := h4.get hx
        obtain ⟨y, c3, e, nx3, oy⟩ := real n t x c' nx.pot (okL_get hok ht) (Nat.lt_of_le_of_lt (depL_get ht) hdl) (IsT.nx nx t x hT)
        refine ⟨y, c3, eFn (eCons (eV rfl) eNil) rfl e, nx.trans nx3, ?_⟩
        rw [List.take_add_one, ht]
        exact (IsOL.nx nx.pot nx3 _ _ oc).snoc oy)
    rw [show ts.take ds.length = ts by rw [hl, List.take_length]] at oc
    have jn := joined g oc hw
    refine ⟨.cell c2.length, _, bodyR (sqN (stIF (eT (e2 (ixT0 rfl) eC (eqS.trans (by rw [n1])))) rfl) (sqN (stIF (eT (e2 (ixT0 rfl) eC (eqS.trans (by rw [n2])))) rfl) (stR (eFn (eCons (ixT0 rfl) (eCons q eNil)) rfl jn)))), nx.trans (Nxt.app1 nx.pot _), c2.length, acc, rfl, get_last, IsOL.nx nx.pot (Nxt.app1 nx.pot _) _ _ oc⟩
end K13
end
section
set_option Elab.async false
set_option linter.all false
set_option maxRecDepth 100000
namespace K13
open PySem PySem.Spec L2 Q
variable [Tb]
/-! ### texts -/
theorem len_app (x y : Str) : (x ++ y).length = x.length + y.length := by
  show (x.cps ++ y.cps).size = _
  rw [Array.size_append]
  rfl
theorem fold_len (g : Array Nat) : ∀ (ys : List Str) (a : Array Nat), (ys.foldl (fun acc p => acc ++ g ++ p.cps) a).size = a.size + (ys.map (·.length)).sum + ys.length * g.size
  | [], a => by simp
  | y :: ys, a => by
    rw [List.foldl_cons, fold_len g ys]
    rw [Array.size_append, Array.size_append, List.map_cons, List.sum_cons, List.length_cons, Nat.succ_mul]
    have : y.length = y.cps.size := rfl
    omega
theorem join_len (sep : Str) (ys : List Str) : (Txt.join sep ys).length ≤ (ys.map (·.length)).sum + ys.length * sep.length := by
  cases ys with
  | nil => exact Nat.zero_le _
  | cons y ys =>
    have e : (Txt.join sep (y :: ys)).length = y.cps.size + (ys.map (·.length)).sum + ys.length * sep.cps.size := fold_len sep.cps ys y.cps
    rw [e, List.map_cons, List.sum_cons, List.length_cons, Nat.succ_mul]
    have : y.length = y.cps.size := rfl
    have e2 : sep.length = sep.cps.size := rfl
    rw [e2]
    omega
def sepT (g : Bool) : Str := if g then " | " else " & "
def par (s : Str) : Str := ("(" : Str) ++ s ++ (")" : Str)
mutual
def txt : Tm → Str
  | .pl s => s
  | .en s => s
  | .nd g ts => Txt.join (sepT g) (txtL ts)
/-- the texts of parts -/
def txtL : List Tm → List Str
  | [] => []
  | .pl s :: ts => s :: txtL ts
  | .en s :: ts => s :: txtL ts
  | .nd g us :: ts => par (Txt.join (sepT g) (txtL us)) :: txtL ts
end
def inn : Tm → Str
  | .pl s => s
  | .en s => s
  | .nd g us => par (txt (.nd g us))
theorem txtL_map : ∀ ts : List Tm, txtL ts = ts.map inn
  | [] => by rw [txtL]; rfl
  | .pl s :: ts => by rw [txtL, txtL_map ts]; rfl
  | .en s :: ts => by rw [txtL, txtL_map ts]; rfl
  | .nd g us :: ts => by rw [txtL, txtL_map ts, List.map_cons, inn, txt]
def bT : Nat → Nat
  | 0 => 16
  | n + 1 => 8 * bT n + 64
theorem bT_mono {m n : Nat} (h : m ≤ n) : bT m ≤ bT n := by
  induction h with
  | refl => exact Nat.le_refl _
  | step _ ih => exact Nat.le_trans ih (by show bT _ ≤ 8 * bT _ + 64; omega)
theorem bT5 : bT 6 < 16000000 := by decide
theorem sum_le {l : List Nat} {k : Nat} (h : ∀ x ∈ l, x ≤ k) : l.sum ≤ l.length * k := by
  induction l with
  | nil => simp
  | cons a l ih =>
    have h1 := h a List.mem_cons_self
    have h2 := ih fun x hx => h x (List.mem_cons_of_mem _ hx)
    rw [List.sum_cons, List.length_cons, Nat.succ_mul]
    omega
theorem pl_len {s : Str} (h : s ∈ plNames) : s.length ≤ 2 := by
  have : ∀ s ∈ plNames, s.length ≤ 2 := by decide +kernel
  exact this s h
theorem en_len {s : Str} (h : s = "bottom" ∨ s = "top") : s.length ≤ 6 := by
  rcases h with rfl | rfl <;> decide +kernel
theorem sep_len (g : Bool) : (sepT g).length = 3 := by cases g <;> decide +kernel
theorem par_len (s : Str) : (par s).length = s.length + 2 := by
  unfold par
  rw [len_app, len_app]
  have a : (("(" : Str)).length = 1 := by decide +kernel
  have b : ((")" : Str)).length = 1 := by decide +kernel
  omega
theorem wid {ts : List Tm} (h : ts.length = 2 ∨ ts.length = 3 ∨ ts.length = 4 ∨ ts.length = 8) : ts.length ≤ 8 := by omega
mutual
theorem txt_len : ∀ t : Tm, t.ok → (txt t).length ≤ bT t.dep
  | .pl s, h => by
    rw [txt]
    exact Nat.le_trans (pl_len h) (show 2 ≤ 16 by decide)
  | .en s, h => by
    rw [txt]
    exact Nat.le_trans (en_len h) (show 6 ≤ 16 by decide)
  | .nd g ts, h => by
    obtain ⟨hw, ho⟩ : (ts.length = 2 ∨ ts.length = 3 ∨ ts.length = 4 ∨ ts.length = 8) ∧ okL ts := h
    rw [txt]
    have b := txtL_len ts ho
    have s := sum_le (l := (txtL ts).map (·.length)) (k := bT (depL ts) + 2) fun x hx => by
      obtain ⟨y, hy, rfl⟩ := List.mem_map.mp hx
      exact b y hy
    have j := join_len (sepT g) (txtL ts)
    rw [List.length_map] at s
    rw [sep_len] at j
    have l : (txtL ts).length = ts.length := by rw [txtL_map, List.length_map]
    have w := wid hw
    rw [l] at s j
    have : Tm.dep (.nd g ts) = depL ts + 1 := by
      show 1 + depL ts = _
      omega
    rw [this]
    show _ ≤ 8 * bT (depL ts) + 64
    have : ts.length * (bT (depL ts) + 2) ≤ 8 * (bT (depL ts) + 2) := Nat.mul_le_mul_right _ w
    omega
theorem txtL_len : ∀ ts : List Tm, okL ts → ∀ y ∈ txtL ts, y.length ≤ bT (depL ts) + 2
  | [], _, y, h => by
    rw [txtL] at h
    simp at h
  | t :: ts, h, y, hy => by
    rw [txtL_map, List.map_cons, ← txtL_map] at hy
    have m1 : bT t.dep ≤ bT (depL (t :: ts)) := bT_mono (Nat.le_max_left _ _)
    have m2 : bT (depL ts) ≤ bT (depL (t :: ts)) := bT_mono (Nat.le_max_right _ _)
    rcases List.mem_cons.mp hy with e | e
    · have k := txt_len t h.1
      rw [e]
      cases t with
      | pl s => rw [txt] at k; show s.length ≤ _; omega
      | en s => rw [txt] at k; show s.length ≤ _; omega
      | nd g us =>
        show (par (txt (.nd g us))).length ≤ _
        rw [par_len]
        omega
    · have := txtL_len ts h.2 y e
      omega
end
/-! ### the law's text -/
theorem catS {x y : Str} {c : Cells} (h : x.length + y.length ≤ 16777216) : fAdd (.str x) (.str y) c = some (.str (x ++ y), c) := by
  have e : fAddS (.str x) (.str y) c = some (.str (x ++ y), c) := if_pos h
  unfold fAdd orO
  rw [show fAddI (.str x) (.str y) c = none from rfl]
  dsimp only
  rw [e]
theorem inW {s a b : Str} {c : Cells} : fIn (.str s) (.tup [.str a, .str b]) c = some (.bl (decide (s = a) || decide (s = b)), c) := by
  have e : fInF false (.str s) (.tup [.str a, .str b]) c = some (.bl (inV (.str s) [.str a, .str b]), c) := rfl
  unfold fIn orO
  rw [e]
  have k : ∀ z : Str, (z == s) = decide (s = z) := fun z => by
    by_cases h : s = z
    · rw [h, beq_self_eq_true]
      exact (decide_eq_true rfl).symm
    · rw [decide_eq_false h]
      exact beq_eq_false_iff_ne.mpr fun q => h q.symm
  have e2 : inV (.str s) [.str a, .str b] = ((a == s) || ((b == s) || false)) := rfl
  rw [e2, k, k, Bool.or_false]
theorem eJoin {mo me : ME} {env : Q.Env} {c c1 c2 : Cells} {a : Str} {y : D} {ds : List D} {ys : List Str} (h : mo env c = .ok (.str a) c1) (h2 : me env c1 = .ok y c2) (hv : seqView c2 y = some ds) (hs : strL ds = some ys) (hl : (ys.map (·.length)).sum + ys.length * a.length ≤ 16777216) : mJoin mo me env c = .ok (.str (Txt.join a ys)) c2 := by
  unfold mJoin
  rw [h]
  show ((me env c1).bind fun y c => (fJoin (.str a) y c).r) = _
  rw [h2]
  show (fJoin (.str a) y c2).r = _
  unfold fJoin
  dsimp only
  rw [hv]
  show O.r ((strL ds).bind fun ys => if (ys.map (·.length)).sum + ys.length * a.length ≤ 16777216 then some (D.str (Txt.join a ys), c2) else none) = _
  rw [hs]
  show O.r (if (ys.map (·.length)).sum + ys.length * a.length ≤ 16777216 then some (D.str (Txt.join a ys), c2) else none) = _
  rw [if_pos hl]
  rfl
theorem strL_map (ys : List Str) : strL (ys.map D.str) = some ys := by
  induction ys with
  | nil => rfl
  | cons y ys ih =>
    show (strL (ys.map D.str)).map _ = _
    rw [ih]
    rfl
end K13
end
section
set_option Elab.async false
set_option linter.all false
set_option maxRecDepth 100000
namespace K13
open PySem PySem.Spec L2 Q
variable [Tb]
section
variable {env e1 : Q.Env} {c c1 c2 : Cells}
theorem ePc {mk mv : ME} {mr : MP} {x y : D} {kl vl : List D} {c3 : Cells} (h1 : mk env c = .ok x c1) (h2 : mv env c1 = .ok y c2) (h3 : mr env c2 = .ok (kl, vl) c3) : mPc mk mv mr env c = .ok (x :: kl, y :: vl) c3 := by
  unfold mPc
  rw [h1]
  show (mv env c1).bind _ = _
  rw [h2]
  show (mr env c2).bind _ = _
  rw [h3]
  rfl
theorem ePn : mPn env c = .ok ([], []) c := rfl
theorem eDict {mp : MP} {kl vl : List D} {kk : List Key} (h : mp env c = .ok (kl, vl) c1) (hk : keysOf kl = some kk) (hn : kk.Nodup) (hl : kk.length ≤ 15) : mDict mp env c = .ok (.nod (.dic kk) vl) c1 := by
  unfold mDict
  rw [h]
  show mDictE (kl, vl) c1 = _
  unfold mDictE
  rw [show keysOf (kl, vl).1 = some kk from hk]
  exact if_pos ⟨hn, hl⟩
end
theorem dixW {ks : List Key} {vs : List D} {w : Str} {d : D} {c : Cells} (h : lookD ks vs (.inr w) = some d) : fDix (.nod (.dic ks) vs) (.str w) c = some (d, c) := by
  unfold fDix
  show (lookD ks vs (.inr w)).map _ = _
  rw [h]
  rfl
/-- the words of a model -/
def wordT : Tm → Str
  | .pl _ => "place"
  | .en _ => "end"
  | .nd g _ => wrd g
theorem IsT.word {p : Nat} {c : Cells} {t : Tm} {d : D} (h : IsT p c t d) : ∃ x, d = .tup [.str (wordT t), x] := by
  cases t with
  | pl s => exact ⟨_, h⟩
  | en s => exact ⟨_, h⟩
  | nd g ts => obtain ⟨l, ds, e, _⟩ := h; exact ⟨l, e⟩
def isNd : Tm → Bool
  | .nd _ _ => true
  | _ => false
theorem inWord (t : Tm) (c : Cells) : fIn (.str (wordT t)) (.tup [.str "lesser", .str "greater"]) c = some (.bl (isNd t), c) := by
  rw [inW]
  congr 3
  cases t with
  | pl s => exact (show (decide (("place" : Str) = "lesser") || decide (("place" : Str) = "greater")) = false by decide +kernel)
  | en s => exact (show (decide (("end" : Str) = "lesser") || decide (("end" : Str) = "greater")) = false by decide +kernel)
  | nd g ts =>
    cases g with
    | false => exact (show (decide (("lesser" : Str) = "lesser") || decide (("lesser" : Str) = "greater")) = true by decide +kernel)
    | true => exact (show (decide (("greater" : Str) = "lesser") || decide (("greater" : Str) = "greater")) = true by decide +kernel)
theorem inLeaf (t : Tm) (c : Cells) : fIn (.str (wordT t)) (.tup [.str "place", .str "end"]) c = some (.bl (!isNd t), c) := by
  rw [inW]
  congr 3
  cases t with
  | pl s => exact (show (decide (("place" : Str) = "place") || decide (("place" : Str) = "end")) = true by decide +kernel)
  | en s => exact (show (decide (("end" : Str) = "place") || decide (("end" : Str) = "end")) = true by decide +kernel)
  | nd g ts =>
    cases g with
    | false => exact (show (decide (("lesser" : Str) = "place") || decide (("lesser" : Str) = "end")) = false by decide +kernel)
    | true => exact (show (decide (("greater" : Str) = "place") || decide (("greater" : Str) = "end")) = false by decide +kernel)
theorem inn_leaf {t : Tm} (h : isNd t = false) : inn t = txt t := by
  cases t with
  | pl s => rw [inn, txt]
  | en s => rw [inn, txt]
  | nd g ts => cases h
theorem txt_sum {g : Bool} {ts : List Tm} (ho : okL ts) (hw : ts.length ≤ 8) (hd : depL ts ≤ 5) : ((ts.map inn).map (·.length)).sum + (ts.map inn).length * (sepT g).length ≤ 16777216 := by
  have b := txtL_len ts ho
  have s := sum_le (l := (txtL ts).map (·.length)) (k := bT (depL ts) + 2) fun x hx => by
    obtain ⟨y, hy, rfl⟩ := List.mem_map.mp hx
    exact b y hy
  rw [txtL_map] at s
  rw [List.length_map, List.length_map] at s
  rw [sep_len, List.length_map]
  have m : bT (depL ts) ≤ bT 5 := bT_mono hd
  have e : bT 5 < 2000000 := by decide
  have : ts.length * (bT (depL ts) + 2) ≤ 8 * (bT (depL ts) + 2) := Nat.mul_le_mul_right _ hw
  omega
mutual
theorem lawText {p : Nat} : ∀ (n : Nat) (t : Tm) (d : D) (c : Cells), t.ok → t.dep ≤ 5 → 2 * t.dep < n → IsT p c t d → F__law_text n [d] c = .ok (.str (txt t)) c
  | 0, t, d, c, _, _, h, _ => absurd h (Nat.not_lt_zero _)
  | n + 1, .pl s, d, c, _, _, _, h => by
    have h : d = .tup [.str "place", .str s] := h
    subst h
    rw [F__law_text, txt]
    exact bodyR (sqR (stIT (eT (e2 (ixT0 rfl) (eTup (eCons eC (eCons eC eNil))) (inLeaf (.pl s) c))) (stR (ixT1 rfl))))
  | n + 1, .en s, d, c, _, _, _, h => by
    have h : d = .tup [.str "end", .str s] := h
    subst h
    rw [F__law_text, txt]
    exact bodyR (sqR (stIT (eT (e2 (ixT0 rfl) (eTup (eCons eC (eCons eC eNil))) (inLeaf (.en s) c))) (stR (ixT1 rfl))))
  | n + 1, .nd g ts, d, c, ho, h5, hd, h => by
    obtain ⟨l, ds, h1, h2, h3, h4⟩ : ∃ l ds, d = .tup [.str (wrd g), l] ∧ view c l = some (.lst, ds) ∧ l ≠ .cell p ∧ IsTL p c ts ds := h
    subst h1
    obtain ⟨hw, hok⟩ : (ts.length = 2 ∨ ts.length = 3 ∨ ts.length = 4 ∨ ts.length = 8) ∧ okL ts := ho
    have hdl : 1 + depL ts ≤ 5 := h5
    have hd2 : 2 * (1 + depL ts) < n + 1 := hd
    have hl := h4.len
    rw [F__law_text, txt, txtL_map]
    obtain ⟨acc, c2, q, ql, ⟨ec, ea⟩⟩ := lcJ (m := m2 fIx (mVar 0) (mC (.int 1))) (te := mFn (F__law_inner n) 1 (mCons (mVar 1) mNil)) (env := [some (.tup [.str (wrd g), l]), none]) (c := c) (c1 := c) (i := 1) (L := l) (t := .lst) (ds := ds) (fun k acc c' => c' = c ∧ acc = ((ts.take k).map inn).map D.str) (ixT1 rfl)
      (fun k acc c' ⟨e, _⟩ => by rw [e]; exact h2) rfl (by omega) ⟨rfl, rfl⟩
      (fun k x acc c' hx ha ⟨e, ea⟩ => by
        subst e
        obtain ⟨t, ht, hT⟩ := h4.get hx
        have dt := depL_get ht
        refine ⟨.str (inn t), c', eFn (eCons (eV rfl) eNil) rfl (lawInner n t x c' (okL_get hok ht) (by omega) (by omega) hT), rfl, ?_⟩
        rw [ea, List.take_add_one, ht]
        simp)
    rw [show ts.take ds.length = ts by rw [hl, List.take_length]] at ea
    subst ec ea
    have dict : m2 fDix (mDict (mPc (mC (.str "lesser")) (mC (.str " & ")) (mPc (mC (.str "greater")) (mC (.str " | ")) mPn))) (m2 fIx (mVar 0) (mC (.int 0))) [some (.tup [.str (wrd g), l]), none] c2 = .ok (.str (sepT g)) c2 :=
      e2 (eDict (kk := [.inr "lesser", .inr "greater"]) (ePc eC eC (ePc eC eC ePn)) rfl (by decide +kernel) (by decide)) (ixT0 rfl) (dixW (by cases g <;> first | rfl | decide +kernel))
    exact bodyR (sqN (stIF (eT (e2 (ixT0 rfl) (eTup (eCons eC (eCons eC eNil))) (inLeaf (.nd g ts) c2))) rfl) (stR (eJoin dict q rfl (strL_map _) (txt_sum hok (wid hw) (by omega)))))
theorem lawInner {p : Nat} : ∀ (n : Nat) (t : Tm) (d : D) (c : Cells), t.ok → t.dep ≤ 5 → 2 * t.dep + 1 < n → IsT p c t d → F__law_inner n [d] c = .ok (.str (inn t)) c
  | 0, t, d, c, _, _, h, _ => absurd h (Nat.not_lt_zero _)
  | n + 1, t, d, c, ho, h5, hd, h => by
    have e := lawText n t d c ho h5 (by omega) h
    obtain ⟨x, rfl⟩ := h.word
    rw [F__law_inner]
    have tst : mT (m2 fIn (m2 fIx (mVar 0) (mC (.int 0))) (mTup (mCons (mC (.str "lesser")) (mCons (mC (.str "greater")) mNil)))) [some (.tup [.str (wordT t), x])] c = .ok (isNd t) c := eT (e2 (ixT0 rfl) (eTup (eCons eC (eCons eC eNil))) (inWord t c))
    have b := txt_len t ho
    have m : bT t.dep ≤ bT 5 := bT_mono h5
    have e5 : bT 5 < 2000000 := by decide
    have a1 : (("(" : Str)).length = 1 := by decide +kernel
    have a2 : ((")" : Str)).length = 1 := by decide +kernel
    cases hn : isNd t with
    | false =>
      rw [hn] at tst
      rw [inn_leaf hn]
      exact bodyR (stR (eIfF tst (eFn (eCons (eV rfl) eNil) rfl e)))
    | true =>
      rw [hn] at tst
      have hi : inn t = ("(" : Str) ++ txt t ++ (")" : Str) := by
        cases t with
        | nd g us => rfl
        | pl s => cases hn
        | en s => cases hn
      rw [hi]
      exact bodyR (stR (eIfT tst (e2 (e2 eC (eFn (eCons (eV rfl) eNil) rfl e) (catS (by omega))) eC (catS (by rw [len_app]; omega)))))
end
end K13
end
section
set_option Elab.async false
set_option linter.all false
set_option maxRecDepth 100000
namespace K13
open PySem PySem.Spec L2 Q
variable [Tb]
mutual
def wrt : Tm → Str
  | .pl s => ("Place" : Str) ++ ("('" : Str) ++ s ++ ("')" : Str)
  | .en s => ("End" : Str) ++ ("('" : Str) ++ s ++ ("')" : Str)
  | .nd g ts => cls g ++ ("(" : Str) ++ Txt.join (", " : Str) (wrtL ts) ++ (")" : Str)
def wrtL : List Tm → List Str
  | [] => []
  | t :: ts => wrt t :: wrtL ts
end
theorem wrtL_map : ∀ ts : List Tm, wrtL ts = ts.map wrt
  | [] => by rw [wrtL]; rfl
  | t :: ts => by rw [wrtL, wrtL_map ts]; rfl
theorem cls_len (g : Bool) : (cls g).length ≤ 7 := by cases g <;> decide +kernel
theorem lits : (("Place" : Str)).length = 5 ∧ (("End" : Str)).length = 3 ∧ (("('" : Str)).length = 2 ∧ (("')" : Str)).length = 2 ∧ (("(" : Str)).length = 1 ∧ ((")" : Str)).length = 1 ∧ ((", " : Str)).length = 2 := by decide +kernel
mutual
theorem wrt_len : ∀ t : Tm, t.ok → (wrt t).length ≤ bT t.dep
  | .pl s, h => by
    rw [wrt, len_app, len_app, len_app]
    have k := pl_len h
    obtain ⟨l1, l2, l3, l4, l5, l6, l7⟩ := lits
    show _ ≤ 16
    omega
  | .en s, h => by
    rw [wrt, len_app, len_app, len_app]
    have k := en_len h
    obtain ⟨l1, l2, l3, l4, l5, l6, l7⟩ := lits
    show _ ≤ 16
    omega
  | .nd g ts, h => by
    obtain ⟨hw, ho⟩ : (ts.length = 2 ∨ ts.length = 3 ∨ ts.length = 4 ∨ ts.length = 8) ∧ okL ts := h
    rw [wrt, len_app, len_app, len_app]
    have b := wrtL_len ts ho
    have s := sum_le (l := (wrtL ts).map (·.length)) (k := bT (depL ts)) fun x hx => by
      obtain ⟨y, hy, rfl⟩ := List.mem_map.mp hx
      exact b y hy
    have j := join_len (", " : Str) (wrtL ts)
    rw [List.length_map] at s
    obtain ⟨l1, l2, l3, l4, l5, l6, l7⟩ := lits
    rw [l7] at j
    have l : (wrtL ts).length = ts.length := by rw [wrtL_map, List.length_map]
    have w := wid hw
    rw [l] at s j
    have : Tm.dep (.nd g ts) = depL ts + 1 := by
      show 1 + depL ts = _
      omega
    rw [this]
    show _ ≤ 8 * bT (depL ts) + 64
    have : ts.length * bT (depL ts) ≤ 8 * bT (depL ts) := Nat.mul_le_mul_right _ w
    have := cls_len g
    omega
theorem wrtL_len : ∀ ts : List Tm, okL ts → ∀ y ∈ wrtL ts, y.length ≤ bT (depL ts)
  | [], _, y, h => by
    rw [wrtL] at h
    simp at h
  | t :: ts, h, y, hy => by
    rw [wrtL] at hy
    have m1 : bT t.dep ≤ bT (depL (t :: ts)) := bT_mono (Nat.le_max_left _ _)
    have m2 : bT (depL ts) ≤ bT (depL (t :: ts)) := bT_mono (Nat.le_max_right _ _)
    rcases List.mem_cons.mp hy with e | e
    · rw [e]
      exact Nat.le_trans (wrt_len t h.1) m1
    · exact Nat.le_trans (wrtL_len ts h.2 y e) m2
end
theorem wrt_sum {ts : List Tm} (ho : okL ts) (hw : ts.length ≤ 8) (hd : depL ts ≤ 5) : ((ts.map wrt).map (·.length)).sum + (ts.map wrt).length * ((", " : Str)).length ≤ 16777000 := by
  have b := wrtL_len ts ho
  have s := sum_le (l := (wrtL ts).map (·.length)) (k := bT (depL ts)) fun x hx => by
    obtain ⟨y, hy, rfl⟩ := List.mem_map.mp hx
    exact b y hy
  rw [wrtL_map] at s
  rw [List.length_map, List.length_map] at s
  obtain ⟨l1, l2, l3, l4, l5, l6, l7⟩ := lits
  rw [l7, List.length_map]
  have m : bT (depL ts) ≤ bT 5 := bT_mono hd
  have e : bT 5 < 2000000 := by decide
  have : ts.length * bT (depL ts) ≤ 8 * bT (depL ts) := Nat.mul_le_mul_right _ hw
  omega
def nameT : Tm → Str
  | .pl _ => "Place"
  | .en _ => "End"
  | .nd g _ => cls g
theorem nameDix {t : Tm} {x : D} {env : Q.Env} {c : Cells} (he : env[0]? = some (some (.tup [.str (wordT t), x]))) :
    m2 fDix (mDict (mPc (mC (.str "place")) (mC (.str "Place")) (mPc (mC (.str "end")) (mC (.str "End")) (mPc (mC (.str "lesser")) (mC (.str "Lesser")) (mPc (mC (.str "greater")) (mC (.str "Greater")) mPn))))) (m2 fIx (mVar 0) (mC (.int 0))) env c = .ok (.str (nameT t)) c := by
  refine e2 (eDict (kk := [.inr "place", .inr "end", .inr "lesser", .inr "greater"]) (ePc eC eC (ePc eC eC (ePc eC eC (ePc eC eC ePn)))) rfl (by decide +kernel) (by decide)) (ixT0 he) (dixW ?_)
  cases t with
  | pl s => rfl
  | en s => rfl
  | nd g ts => cases g <;> rfl
theorem lawWritten {p : Nat} : ∀ (n : Nat) (t : Tm) (d : D) (c : Cells), t.ok → t.dep ≤ 5 → t.dep < n → IsT p c t d → F__law_written n [d] c = .ok (.str (wrt t)) c
  | 0, t, d, c, _, _, h, _ => absurd h (Nat.not_lt_zero _)
  | n + 1, .pl s, d, c, ho, _, _, h => by
    have h : d = .tup [.str "place", .str s] := h
    subst h
    rw [F__law_written, wrt]
    have k := pl_len ho
    obtain ⟨l1, l2, l3, l4, l5, l6, l7⟩ := lits
    exact bodyR (sqN (stS (nameDix (t := .pl s) rfl)) (sqR (stIT (eT (e2 (ixT0 rfl) (eTup (eCons eC (eCons eC eNil))) (inLeaf (.pl s) c))) (stR (e2 (e2 (e2 (eV rfl) eC (catS (by show (("Place" : Str)).length + _ ≤ _; omega))) (ixT1 rfl) (catS (by show (("Place" : Str) ++ ("('" : Str)).length + _ ≤ _; rw [len_app]; omega))) eC (catS (by show (("Place" : Str) ++ ("('" : Str) ++ s).length + _ ≤ _; rw [len_app, len_app]; omega)))))))
  | n + 1, .en s, d, c, ho, _, _, h => by
    have h : d = .tup [.str "end", .str s] := h
    subst h
    rw [F__law_written, wrt]
    have k := en_len ho
    obtain ⟨l1, l2, l3, l4, l5, l6, l7⟩ := lits
    exact bodyR (sqN (stS (nameDix (t := .en s) rfl)) (sqR (stIT (eT (e2 (ixT0 rfl) (eTup (eCons eC (eCons eC eNil))) (inLeaf (.en s) c))) (stR (e2 (e2 (e2 (eV rfl) eC (catS (by show (("End" : Str)).length + _ ≤ _; omega))) (ixT1 rfl) (catS (by show (("End" : Str) ++ ("('" : Str)).length + _ ≤ _; rw [len_app]; omega))) eC (catS (by show (("End" : Str) ++ ("('" : Str) ++ s).length + _ ≤ _; rw [len_app, len_app]; omega)))))))
  | n + 1, .nd g ts, d, c, ho, h5, hd, h => by
    obtain ⟨l, ds, h1, h2, h3, h4⟩ : ∃ l ds, d = .tup [.str (wrd g), l] ∧ view c l = some (.lst, ds) ∧ l ≠ .cell p ∧ IsTL p c ts ds := h
    subst h1
    obtain ⟨hw, hok⟩ : (ts.length = 2 ∨ ts.length = 3 ∨ ts.length = 4 ∨ ts.length = 8) ∧ okL ts := ho
    have hdl : 1 + depL ts ≤ 5 := h5
    have hd2 : 1 + depL ts < n + 1 := hd
    have hl := h4.len
    rw [F__law_written, wrt, wrtL_map]
    obtain ⟨acc, c2, q, ql, ⟨ec, ea⟩⟩ := lcJ (m := m2 fIx (mVar 0) (mC (.int 1))) (te := mFn (F__law_written n) 1 (mCons (mVar 2) mNil)) (env := [some (.tup [.str (wrd g), l]), some (.str (cls g)), none]) (c := c) (c1 := c) (i := 2) (L := l) (t := .lst) (ds := ds) (fun k acc c' => c' = c ∧ acc = ((ts.take k).map wrt).map D.str) (ixT1 rfl)
      (fun k acc c' ⟨e, _⟩ => by rw [e]; exact h2) rfl (by omega) ⟨rfl, rfl⟩
      (fun k x acc c' hx ha ⟨e, ea⟩ => by
        subst e
        obtain ⟨t, ht, hT⟩ := h4.get hx
        have dt := depL_get ht
        refine ⟨.str (wrt t), c', eFn (eCons (eV rfl) eNil) rfl (lawWritten n t x c' (okL_get hok ht) (by omega) (by omega) hT), rfl, ?_⟩
        rw [ea, List.take_add_one, ht]
        simp)
    rw [show ts.take ds.length = ts by rw [hl, List.take_length]] at ea
    subst ec ea
    have sm := wrt_sum hok (wid hw) (by omega)
    have jl := join_len (", " : Str) (ts.map wrt)
    obtain ⟨l1, l2, l3, l4, l5, l6, l7⟩ := lits
    have cl := cls_len g
    exact bodyR (sqN (stS (nameDix (t := .nd g ts) rfl)) (sqN (stIF (eT (e2 (ixT0 rfl) (eTup (eCons eC (eCons eC eNil))) (inLeaf (.nd g ts) c2))) rfl)
      (stR (e2 (e2 (e2 (eV rfl) eC (catS (by show (cls g).length + _ ≤ _; omega))) (eJoin eC q rfl (strL_map _) (by omega)) (catS (by show (cls g ++ ("(" : Str)).length + _ ≤ _; rw [len_app]; omega))) eC (catS (by show (cls g ++ ("(" : Str) ++ _).length + _ ≤ _; rw [len_app, len_app]; omega))))))
end K13
end
section
set_option Elab.async false
set_option linter.all false
set_option maxRecDepth 100000
namespace K13
open PySem PySem.Spec L2 Q
variable [Tb]
theorem eJs {m : ME} {ms : List ME} {acc y : Str} {r : R D} {env : Q.Env} {c c1 : Cells} (h : m env c = .ok (.str y) c1) (hl : (acc ++ y).length ≤ sizeLine) (h2 : mJs ms (acc ++ y) env c1 = r) : mJs (m :: ms) acc env c = r := by
  unfold mJs
  rw [h]
  show (if (acc ++ y).length ≤ sizeLine then mJs ms (acc ++ y) env c1 else .stk) = r
  rw [if_pos hl]
  exact h2
theorem eJs0 {acc : Str} {env : Q.Env} {c : Cells} : mJs [] acc env c = .ok (.str acc) c := rfl
theorem szl : sizeLine = 16777216 := rfl
noncomputable abbrev strT (n : Nat) : List (Str × FD) := [("Place", F_Place_str), ("End", F_End_str), ("Lesser", F_Lesser_str n), ("Greater", F_Greater_str n)]
noncomputable abbrev reprT (n : Nat) : List (Str × FD) := [("Place", F_Place_repr), ("End", F_End_repr), ("Lesser", F_Lesser_repr n), ("Greater", F_Greater_repr n)]
noncomputable def strF (n : Nat) : Tm → FD
  | .pl _ => F_Place_str
  | .en _ => F_End_str
  | .nd false _ => F_Lesser_str n
  | .nd true _ => F_Greater_str n
noncomputable def reprF (n : Nat) : Tm → FD
  | .pl _ => F_Place_repr
  | .en _ => F_End_repr
  | .nd false _ => F_Lesser_repr n
  | .nd true _ => F_Greater_repr n
theorem txtO_of {tbl : List (Str × FD)} {F : FD} {c : Cells} {t : Tm} {d : D} {y : Str} (h : IsO c t d) (hF : tbl.lookup (tmCls t) = some F) (e : F [d] c = .ok (.str y) c) : txtO tbl d c = some (.str y, c) := by
  obtain ⟨ks, ds, hv⟩ := h.view
  unfold txtO
  rw [hv]
  dsimp only
  rw [hF]
  dsimp only
  rw [e]
theorem lookS (n : Nat) (t : Tm) : (strT n).lookup (tmCls t) = some (strF n t) := by
  cases t with
  | pl s => rfl
  | en s => rfl
  | nd g ts => cases g <;> rfl
theorem lookR (n : Nat) (t : Tm) : (reprT n).lookup (tmCls t) = some (reprF n t) := by
  cases t with
  | pl s => rfl
  | en s => rfl
  | nd g ts => cases g <;> rfl
theorem emp1 : (Str.empty ++ ("(" : Str)) = ("(" : Str) := by decide +kernel
theorem inn_len {t : Tm} (ho : t.ok) (h5 : t.dep ≤ 5) : (txt t).length < 2000000 := by
  have b := txt_len t ho
  have m : bT t.dep ≤ bT 5 := bT_mono h5
  have e5 : bT 5 < 2000000 := by decide
  omega
mutual
theorem objStr : ∀ (n : Nat) (t : Tm) (d : D) (c : Cells), t.ok → t.dep ≤ 5 → 2 * t.dep ≤ n → IsO c t d → strF n t [d] c = .ok (.str (txt t)) c
  | n, .pl s, d, c, _, _, _, h => by
    obtain ⟨i, rfl, hv⟩ := h
    have hv : Q.view c (.cell i) = some _ := hv
    rw [txt]
    show F_Place_str [D.cell i] c = _
    exact argR rfl (bodyR (stR (eCall (eCons (eFld (eV rfl) hv List.mem_cons_self rfl) eNil) rfl)))
  | n, .en s, d, c, _, _, _, h => by
    obtain ⟨i, rfl, hv⟩ := h
    have hv : Q.view c (.cell i) = some _ := hv
    rw [txt]
    show F_End_str [D.cell i] c = _
    exact argR rfl (bodyR (stR (eCall (eCons (eFld (eV rfl) hv List.mem_cons_self rfl) eNil) rfl)))
  | 0, .nd g ts, d, c, _, _, hd, _ => by
    have : 2 * (1 + depL ts) ≤ 0 := hd
    omega
  | n + 1, .nd g ts, d, c, ho, h5, hd, h => by
    obtain ⟨i, ds, rfl, hv, ol⟩ := h
    obtain ⟨hw, hok⟩ : (ts.length = 2 ∨ ts.length = 3 ∨ ts.length = 4 ∨ ts.length = 8) ∧ okL ts := ho
    have hdl : 1 + depL ts ≤ 5 := h5
    have hd2 : 2 * (1 + depL ts) ≤ n + 1 := hd
    have hl := ol.len
    rw [txt, txtL_map]
    have key : ∀ m : ME, m [some (.cell i), none] c = .ok (.tup ds) c → mLc false (mWalk m) (gN 1) [1] bYes (mFn (F__text_within n) 1 (mCons (mVar 1) mNil)) [some (.cell i), none] c = .ok (.lst ((ts.map inn).map D.str)) c := fun m hm => by
      obtain ⟨acc, c2, q, ql, ⟨ec, ea⟩⟩ := lcJ (m := m) (te := mFn (F__text_within n) 1 (mCons (mVar 1) mNil)) (env := [some (.cell i), none]) (c := c) (c1 := c) (i := 1) (L := .tup ds) (t := .tup) (ds := ds) (fun k acc c' => c' = c ∧ acc = ((ts.take k).map inn).map D.str) hm
        (fun k acc c' _ => rfl) rfl (by omega) ⟨rfl, rfl⟩
        (fun k x acc c' hx ha ⟨e, ea⟩ => by
          subst e
          obtain ⟨t, ht, hT⟩ := ol.get hx
          have dt := depL_get ht
          refine ⟨.str (inn t), c', eFn (eCons (eV rfl) eNil) rfl (within n t x c' (okL_get hok ht) (by omega) (by omega) hT), rfl, ?_⟩
          rw [ea, List.take_add_one, ht]
          simp)
      rw [show ts.take ds.length = ts by rw [hl, List.take_length]] at ea
      subst ec ea
      exact q
    have sm := txt_sum (g := g) hok (wid hw) (by omega)
    cases g with
    | false =>
      show F_Lesser_str (n + 1) [.cell i] c = _
      rw [F_Lesser_str]
      exact argR rfl (bodyR (stR (eJoin eC (key _ (eFld (eV rfl) hv List.mem_cons_self rfl)) rfl (strL_map _) sm)))
    | true =>
      show F_Greater_str (n + 1) [.cell i] c = _
      rw [F_Greater_str]
      exact argR rfl (bodyR (stR (eJoin eC (key _ (eFld (eV rfl) hv List.mem_cons_self rfl)) rfl (strL_map _) sm)))
theorem within : ∀ (n : Nat) (t : Tm) (d : D) (c : Cells), t.ok → t.dep ≤ 5 → 2 * t.dep + 1 ≤ n → IsO c t d → F__text_within n [d] c = .ok (.str (inn t)) c
  | 0, t, d, c, _, _, h, _ => by omega
  | n + 1, t, d, c, ho, h5, hd, h => by
    have e := objStr n t d c ho h5 (by omega) h
    have tO := txtO_of h (lookS n t) e
    have gt : mT (m2 fGt (mPrp depT (mVar 0)) (mC (.int 0))) [some d] c = .ok (decide ((0 : Int) < (t.dep : Nat))) c := eT (e2 (depth_of h (eV rfl)) eC gtI)
    rw [F__text_within]
    have il := inn_len ho h5
    obtain ⟨l1, l2, l3, l4, l5, l6, l7⟩ := lits
    cases t with
    | pl s =>
      rw [inn_leaf rfl]
      exact bodyR (stR (eIfF (gt.trans (by rfl)) (eCall (eCons (eV rfl) eNil) tO)))
    | en s =>
      rw [inn_leaf rfl]
      exact bodyR (stR (eIfF (gt.trans (by rfl)) (eCall (eCons (eV rfl) eNil) tO)))
    | nd g us =>
      have pos : decide ((0 : Int) < ((Tm.nd g us).dep : Nat)) = true := decide_eq_true (by show (0 : Int) < ((1 + depL us : Nat) : Int); omega)
      rw [pos] at gt
      have hi : inn (.nd g us) = ("(" : Str) ++ txt (.nd g us) ++ (")" : Str) := rfl
      rw [hi]
      refine bodyR (stR (eIfT gt (eJs eC (by rw [emp1, szl]; omega) ?_)))
      rw [emp1]
      exact eJs (e1' (eV rfl) tO) (by rw [len_app, szl]; omega) (eJs eC (by rw [len_app, len_app, szl]; omega) eJs0)
end
/-- str(x) -/
theorem strO {t : Tm} {d : D} {c : Cells} (ho : t.ok) (h5 : t.dep ≤ 5) (h : IsO c t d) : bStrO (strT 12) [d] c = some (.str (txt t), c) := txtO_of h (lookS 12 t) (objStr 12 t d c ho h5 (by omega) h)
/-! ### repr -/
theorem pl_repr {s : Str} (h : s ∈ plNames) : Str.empty ++ ("Place(" : Str) ++ reprText s ++ (")" : Str) = wrt (.pl s) ∧ (reprText s).length ≤ 100 := by
  have key : ∀ s ∈ plNames, Str.empty ++ ("Place(" : Str) ++ reprText s ++ (")" : Str) = ("Place" : Str) ++ ("('" : Str) ++ s ++ ("')" : Str) ∧ (reprText s).length ≤ 100 := by decide +kernel
  rw [wrt]
  exact key s h
theorem en_repr {s : Str} (h : s = "bottom" ∨ s = "top") : Str.empty ++ ("End(" : Str) ++ reprText s ++ (")" : Str) = wrt (.en s) ∧ (reprText s).length ≤ 100 := by
  rw [wrt]
  rcases h with rfl | rfl <;> decide +kernel
theorem nd_head (g : Bool) : Str.empty ++ (if g then ("Greater(" : Str) else ("Lesser(" : Str)) = cls g ++ ("(" : Str) := by cases g <;> decide +kernel
theorem objRepr : ∀ (n : Nat) (t : Tm) (d : D) (c : Cells), t.ok → t.dep ≤ 5 → t.dep ≤ n → IsO c t d → reprF n t [d] c = .ok (.str (wrt t)) c
  | n, .pl s, d, c, ho, _, _, h => by
    obtain ⟨i, rfl, hv⟩ := h
    have hv : Q.view c (.cell i) = some _ := hv
    obtain ⟨e, l⟩ := pl_repr ho
    rw [← e]
    show F_Place_repr [D.cell i] c = _
    have l0 : ((Str.empty ++ ("Place(" : Str))).length = 6 := by decide +kernel
    obtain ⟨l1, l2, l3, l4, l5, l6, l7⟩ := lits
    exact argR rfl (bodyR (stR (eJs eC (by rw [l0, szl]; omega) (eJs (e1' (eFld (eV rfl) hv List.mem_cons_self rfl) (show fFmtR (.str s) c = some (.str (reprText s), c) from if_pos (by rw [szl]; omega))) (by rw [len_app, szl]; omega) (eJs eC (by rw [len_app, len_app, szl]; omega) eJs0)))))
  | n, .en s, d, c, ho, _, _, h => by
    obtain ⟨i, rfl, hv⟩ := h
    have hv : Q.view c (.cell i) = some _ := hv
    obtain ⟨e, l⟩ := en_repr ho
    rw [← e]
    show F_End_repr [D.cell i] c = _
    have l0 : ((Str.empty ++ ("End(" : Str))).length = 4 := by decide +kernel
    obtain ⟨l1, l2, l3, l4, l5, l6, l7⟩ := lits
    exact argR rfl (bodyR (stR (eJs eC (by rw [l0, szl]; omega) (eJs (e1' (eFld (eV rfl) hv List.mem_cons_self rfl) (show fFmtR (.str s) c = some (.str (reprText s), c) from if_pos (by rw [szl]; omega))) (by rw [len_app, szl]; omega) (eJs eC (by rw [len_app, len_app, szl]; omega) eJs0)))))
  | 0, .nd g ts, d, c, _, _, hd, _ => by
    have : 1 + depL ts ≤ 0 := hd
    omega
  | n + 1, .nd g ts, d, c, ho, h5, hd, h => by
    obtain ⟨i, ds, rfl, hv, ol⟩ := h
    obtain ⟨hw, hok⟩ : (ts.length = 2 ∨ ts.length = 3 ∨ ts.length = 4 ∨ ts.length = 8) ∧ okL ts := ho
    have hdl : 1 + depL ts ≤ 5 := h5
    have hd2 : 1 + depL ts ≤ n + 1 := hd
    have hl := ol.len
    rw [wrt, wrtL_map, ← nd_head]
    have key : ∀ m : ME, m [some (.cell i), none, none] c = .ok (.tup ds) c → mLc false (mWalk m) (gN 2) [2] bYes (mCall (bReprO (reprT n)) (mCons (mVar 2) mNil)) [some (.cell i), none, none] c = .ok (.lst ((ts.map wrt).map D.str)) c := fun m hm => by
      obtain ⟨acc, c2, q, ql, ⟨ec, ea⟩⟩ := lcJ (m := m) (te := mCall (bReprO (reprT n)) (mCons (mVar 2) mNil)) (env := [some (.cell i), none, none]) (c := c) (c1 := c) (i := 2) (L := .tup ds) (t := .tup) (ds := ds) (fun k acc c' => c' = c ∧ acc = ((ts.take k).map wrt).map D.str) hm
        (fun k acc c' _ => rfl) rfl (by omega) ⟨rfl, rfl⟩
        (fun k x acc c' hx ha ⟨e, ea⟩ => by
          subst e
          obtain ⟨t, ht, hT⟩ := ol.get hx
          have dt := depL_get ht
          refine ⟨.str (wrt t), c', eCall (eCons (eV rfl) eNil) (txtO_of hT (lookR n t) (objRepr n t x c' (okL_get hok ht) (by omega) (by omega) hT)), rfl, ?_⟩
          rw [ea, List.take_add_one, ht]
          simp)
      rw [show ts.take ds.length = ts by rw [hl, List.take_length]] at ea
      subst ec ea
      exact q
    have sm := wrt_sum hok (wid hw) (by omega)
    have jl := join_len (", " : Str) (ts.map wrt)
    obtain ⟨l1, l2, l3, l4, l5, l6, l7⟩ := lits
    cases g with
    | false =>
      show F_Lesser_repr (n + 1) [.cell i] c = _
      rw [F_Lesser_repr]
      have l0 : ((Str.empty ++ ("Lesser(" : Str))).length = 7 := by decide +kernel
      exact argR rfl (bodyR (sqN (stS (eJoin eC (key _ (eFld (eV rfl) hv List.mem_cons_self rfl)) rfl (strL_map _) (by omega))) (stR (eJs eC (by rw [l0, szl]; omega) (eJs (e1' (eV rfl) (show fFmt (.str _) c = some (.str _, c) from if_pos (by rw [szl]; omega))) (by rw [len_app, szl]; omega) (eJs eC (by rw [len_app, len_app, szl]; omega) eJs0))))))
    | true =>
      show F_Greater_repr (n + 1) [.cell i] c = _
      rw [F_Greater_repr]
      have l0 : ((Str.empty ++ ("Greater(" : Str))).length = 8 := by decide +kernel
      exact argR rfl (bodyR (sqN (stS (eJoin eC (key _ (eFld (eV rfl) hv List.mem_cons_self rfl)) rfl (strL_map _) (by omega))) (stR (eJs eC (by rw [l0, szl]; omega) (eJs (e1' (eV rfl) (show fFmt (.str _) c = some (.str _, c) from if_pos (by rw [szl]; omega))) (by rw [len_app, szl]; omega) (eJs eC (by rw [len_app, len_app, szl]; omega) eJs0))))))
theorem reprO {t : Tm} {d : D} {c : Cells} (ho : t.ok) (h5 : t.dep ≤ 5) (h : IsO c t d) : bReprO (reprT 12) [d] c = some (.str (wrt t), c) := txtO_of h (lookR 12 t) (objRepr 12 t d c ho h5 (by omega) h)
end K13
end
section
set_option Elab.async false
set_option linter.all false
set_option maxRecDepth 100000
namespace K13
open PySem PySem.Spec L2 Q
variable [Tb]
/-! ### equal terms -/
mutual
def tmEq : Tm → Tm → Bool
  | .pl s, .pl r => decide (s = r)
  | .en s, .en r => decide (s = r)
  | .nd g ts, .nd g' us => decide (g = g') && tmEqL ts us
  | _, _ => false
def tmEqL : List Tm → List Tm → Bool
  | t :: ts, u :: us => tmEq t u && tmEqL ts us
  | [], [] => true
  | _, _ => false
end
mutual
theorem uniq {c : Cells} : ∀ (t u : Tm) (d : D), IsO c t d → IsO c u d → tmEq t u = true
  | .pl s, u, d, h, h' => by
    obtain ⟨i, rfl, e⟩ := h
    cases u with
    | pl r =>
      obtain ⟨j, ej, e'⟩ := h'
      cases ej
      rw [e] at e'
      cases e'
      rw [tmEq]
      exact decide_eq_true rfl
    | en r => obtain ⟨j, ej, e'⟩ := h'; cases ej; rw [e] at e'; cases e'
    | nd g us => obtain ⟨j, es, ej, e', _⟩ := h'; cases ej; rw [e] at e'; cases g <;> cases e'
  | .en s, u, d, h, h' => by
    obtain ⟨i, rfl, e⟩ := h
    cases u with
    | pl r => obtain ⟨j, ej, e'⟩ := h'; cases ej; rw [e] at e'; cases e'
    | en r =>
      obtain ⟨j, ej, e'⟩ := h'
      cases ej
      rw [e] at e'
      cases e'
      rw [tmEq]
      exact decide_eq_true rfl
    | nd g us => obtain ⟨j, es, ej, e', _⟩ := h'; cases ej; rw [e] at e'; cases g <;> cases e'
  | .nd g ts, u, d, h, h' => by
    obtain ⟨i, ds, rfl, e, l⟩ := h
    cases u with
    | pl r => obtain ⟨j, ej, e'⟩ := h'; cases ej; rw [e] at e'; cases g <;> cases e'
    | en r => obtain ⟨j, ej, e'⟩ := h'; cases ej; rw [e] at e'; cases g <;> cases e'
    | nd g' us =>
      obtain ⟨j, es, ej, e', l'⟩ := h'
      cases ej
      rw [e] at e'
      have hg : g = g' := by cases g <;> cases g' <;> first | rfl | cases e'
      subst hg
      have hd : ds = es := by
        have := Option.some.inj e'
        have := (Prod.mk.inj this).2
        have := (List.cons.inj this).1
        exact (D.nod.inj this).2
      subst hd
      rw [tmEq, uniqL ts us ds l l']
      cases g <;> rfl
theorem uniqL {c : Cells} : ∀ (ts us : List Tm) (ds : List D), IsOL c ts ds → IsOL c us ds → tmEqL ts us = true
  | [], [], [], _, _ => by rw [tmEqL]
  | t :: ts, u :: us, d :: ds, h, h' => by
    rw [tmEqL, uniq t u d h.1 h'.1, uniqL ts us ds h.2 h'.2]
    rfl
  | _ :: _, _, [], h, _ => h.elim
  | [], _, _ :: _, h, _ => h.elim
  | _, _ :: _, [], _, h => h.elim
  | _, [], _ :: _, _, h => h.elim
end
noncomputable abbrev tblE (n : Nat) : List (Str × FD) := [("Place", F_Place_eq), ("End", F_End_eq), ("Lesser", F_Lesser_eq n), ("Greater", F_Greater_eq n)]
abbrev allC : List Str := ["Place", "End", "Lesser", "Greater"]
noncomputable def eqF (n : Nat) : Tm → FD
  | .pl _ => F_Place_eq
  | .en _ => F_End_eq
  | .nd false _ => F_Lesser_eq n
  | .nd true _ => F_Greater_eq n
theorem lookE (n : Nat) (t : Tm) : (tblE n).lookup (tmCls t) = some (eqF n t) := by
  cases t with
  | pl s => rfl
  | en s => rfl
  | nd g ts => cases g <;> rfl
theorem memC (t : Tm) : tmCls t ∈ allC := by
  cases t with
  | pl s => exact List.mem_cons_self
  | en s => exact List.mem_cons_of_mem _ List.mem_cons_self
  | nd g ts =>
    cases g
    · exact List.mem_cons_of_mem _ (List.mem_cons_of_mem _ List.mem_cons_self)
    · exact List.mem_cons_of_mem _ (List.mem_cons_of_mem _ (List.mem_cons_of_mem _ List.mem_cons_self))
theorem bCall_of {F : FD} {x y : D} {c : Cells} {b : Bool} (h : F [x, y] c = .ok (.bl b) c) : bCall F x y c = some b := by
  unfold bCall
  rw [h]
  dsimp only
  rw [if_pos rfl]
theorem ownR_of {n : Nat} {c : Cells} {t u : Tm} {x y : D} {b : Bool} (hx : IsO c t x) (hy : IsO c u y) (h : eqF n t [x, y] c = .ok (.bl b) c) : bOwnR (tblE n) allC x y c = some b := by
  obtain ⟨ks, ds, hv⟩ := hx.view
  obtain ⟨ks', ds', hv'⟩ := hy.view
  unfold bOwnR
  rw [hv, hv']
  dsimp only
  rw [lookE n t]
  dsimp only
  rw [if_pos (memC u), bCall_of h]
theorem isoT {cl : List (Str × Bool)} {c : Cells} {u : Tm} {y : D} {b : Bool} (hy : IsO c u y) (h : cl.lookup (tmCls u) = some b) : fIsO cl y c = some (.bl b, c) := by
  obtain ⟨ks, ds, hv⟩ := hy.view
  unfold fIsO
  rw [hy.ty]
  dsimp only
  rw [hv]
  dsimp only
  rw [h]
  rfl
mutual
theorem objEq {c : Cells} : ∀ (n : Nat) (t u : Tm) (x y : D), t.dep ≤ n → IsO c t x → IsO c u y → eqF n t [x, y] c = .ok (.bl (tmEq t u)) c
  | n, .pl s, u, x, y, _, hx, hy => by
    show F_Place_eq [x, y] c = _
    obtain ⟨i, rfl, hv⟩ := hx
    have hv : Q.view c (.cell i) = some _ := hv
    cases u with
    | pl r =>
      have is := isoT (cl := [("Place", true), ("End", false), ("Lesser", false), ("Greater", false)]) hy rfl
      obtain ⟨j, rfl, hv'⟩ := hy
      have hv' : Q.view c (.cell j) = some _ := hv'
      rw [tmEq]
      exact argR rfl (bodyR (stR (eAndV (e1' (eV rfl) is) rfl (e2 (eFld (eV rfl) hv List.mem_cons_self rfl) (eFld (eV rfl) hv' List.mem_cons_self rfl) eqS))))
    | en r => rw [tmEq]; exact argR rfl (bodyR (stR (eAndVF (e1' (eV rfl) (isoT (cl := [("Place", true), ("End", false), ("Lesser", false), ("Greater", false)]) hy rfl)) rfl))); all_goals (intros; first | contradiction | skip)
    | nd g us => rw [tmEq]; exact argR rfl (bodyR (stR (eAndVF (e1' (eV rfl) (isoT (cl := [("Place", true), ("End", false), ("Lesser", false), ("Greater", false)]) hy (by cases g <;> rfl))) rfl))); all_goals (intros; first | contradiction | skip)
  | n, .en s, u, x, y, _, hx, hy => by
    show F_End_eq [x, y] c = _
    obtain ⟨i, rfl, hv⟩ := hx
    have hv : Q.view c (.cell i) = some _ := hv
    cases u with
    | en r =>
      have is := isoT (cl := [("Place", false), ("End", true), ("Lesser", false), ("Greater", false)]) hy rfl
      obtain ⟨j, rfl, hv'⟩ := hy
      have hv' : Q.view c (.cell j) = some _ := hv'
      rw [tmEq]
      exact argR rfl (bodyR (stR (eAndV (e1' (eV rfl) is) rfl (e2 (eFld (eV rfl) hv List.mem_cons_self rfl) (eFld (eV rfl) hv' List.mem_cons_self rfl) eqS))))
    | pl r => rw [tmEq]; exact argR rfl (bodyR (stR (eAndVF (e1' (eV rfl) (isoT (cl := [("Place", false), ("End", true), ("Lesser", false), ("Greater", false)]) hy rfl)) rfl))); all_goals (intros; first | contradiction | skip)
    | nd g us => rw [tmEq]; exact argR rfl (bodyR (stR (eAndVF (e1' (eV rfl) (isoT (cl := [("Place", false), ("End", true), ("Lesser", false), ("Greater", false)]) hy (by cases g <;> rfl))) rfl))); all_goals (intros; first | contradiction | skip)
  | 0, .nd g ts, u, x, y, hd, _, _ => by
    have : 1 + depL ts ≤ 0 := hd
    omega
  | n + 1, .nd g ts, u, x, y, hd, hx, hy => by
    have hd2 : 1 + depL ts ≤ n + 1 := hd
    obtain ⟨i, ds, rfl, hv, ol⟩ := hx
    have hv : Q.view c (.cell i) = some _ := hv
    cases g with
    | false =>
      show F_Lesser_eq (n + 1) [.cell i, y] c = _
      rw [F_Lesser_eq]
      cases u with
      | pl r => rw [tmEq]; exact argR rfl (bodyR (stR (eAndVF (e1' (eV rfl) (isoT (cl := [("Place", false), ("End", false), ("Lesser", true), ("Greater", false)]) hy rfl)) rfl))); all_goals (intros; first | contradiction | skip)
      | en r => rw [tmEq]; exact argR rfl (bodyR (stR (eAndVF (e1' (eV rfl) (isoT (cl := [("Place", false), ("End", false), ("Lesser", true), ("Greater", false)]) hy rfl)) rfl))); all_goals (intros; first | contradiction | skip)
      | nd g' us =>
        rw [tmEq]
        cases g' with
        | true => exact argR rfl (bodyR (stR (eAndVF (e1' (eV rfl) (isoT (cl := [("Place", false), ("End", false), ("Lesser", true), ("Greater", false)]) hy rfl)) rfl)))
        | false =>
          have is := isoT (cl := [("Place", false), ("End", false), ("Lesser", true), ("Greater", false)]) hy rfl
          obtain ⟨j, es, rfl, hv', ol'⟩ := hy
          have hv' : Q.view c (.cell j) = some _ := hv'
          have al := objEqL n ts us ds es (by omega) ol ol'
          exact argR rfl (bodyR (stR (eAndV (e1' (eV rfl) is) rfl (e2 (eFld (eV rfl) hv List.mem_cons_self rfl) (eFld (eV rfl) hv' List.mem_cons_self rfl) (show fEqTO (tblE n) allC (.tup ds) (.tup es) c = some (.bl (tmEqL ts us), c) by
            show (bAllB (bOwn (tblE n) allC) ds es c).map _ = _
            rw [al]
            rfl)))))
    | true =>
      show F_Greater_eq (n + 1) [.cell i, y] c = _
      rw [F_Greater_eq]
      cases u with
      | pl r => rw [tmEq]; exact argR rfl (bodyR (stR (eAndVF (e1' (eV rfl) (isoT (cl := [("Place", false), ("End", false), ("Lesser", false), ("Greater", true)]) hy rfl)) rfl))); all_goals (intros; first | contradiction | skip)
      | en r => rw [tmEq]; exact argR rfl (bodyR (stR (eAndVF (e1' (eV rfl) (isoT (cl := [("Place", false), ("End", false), ("Lesser", false), ("Greater", true)]) hy rfl)) rfl))); all_goals (intros; first | contradiction | skip)
      | nd g' us =>
        rw [tmEq]
        cases g' with
        | false => exact argR rfl (bodyR (stR (eAndVF (e1' (eV rfl) (isoT (cl := [("Place", false), ("End", false), ("Lesser", false), ("Greater", true)]) hy rfl)) rfl)))
        | true =>
          have is := isoT (cl := [("Place", false), ("End", false), ("Lesser", false), ("Greater", true)]) hy rfl
          obtain ⟨j, es, rfl, hv', ol'⟩ := hy
          have hv' : Q.view c (.cell j) = some _ := hv'
          have al := objEqL n ts us ds es (by omega) ol ol'
          exact argR rfl (bodyR (stR (eAndV (e1' (eV rfl) is) rfl (e2 (eFld (eV rfl) hv List.mem_cons_self rfl) (eFld (eV rfl) hv' List.mem_cons_self rfl) (show fEqTO (tblE n) allC (.tup ds) (.tup es) c = some (.bl (tmEqL ts us), c) by
            show (bAllB (bOwn (tblE n) allC) ds es c).map _ = _
            rw [al]
            rfl)))))
theorem objEqL {c : Cells} : ∀ (n : Nat) (ts us : List Tm) (ds es : List D), depL ts ≤ n → IsOL c ts ds → IsOL c us es → bAllB (bOwn (tblE n) allC) ds es c = some (tmEqL ts us)
  | n, [], [], [], [], _, _, _ => by rw [tmEqL]; rfl
  | n, [], u :: us, [], e :: es, _, _, _ => by rw [tmEqL]; rfl; all_goals (intros; contradiction)
  | n, t :: ts, [], d :: ds, [], _, _, _ => by rw [tmEqL]; rfl; all_goals (intros; contradiction)
  | n, t :: ts, u :: us, d :: ds, e :: es, hd, h, h' => by
    have m1 : t.dep ≤ n := Nat.le_trans (Nat.le_max_left _ _) hd
    have m2 : depL ts ≤ n := Nat.le_trans (Nat.le_max_right _ _) hd
    have one : bOwn (tblE n) allC d e c = some (tmEq t u) := by
      have oe := objEq n t u d e m1 h.1 h'.1
      have rr := ownR_of h.1 h'.1 oe
      obtain ⟨i, rfl⟩ := h.1.cell
      obtain ⟨j, rfl⟩ := h'.1.cell
      unfold bOwn
      dsimp only
      by_cases hij : i = j
      · rw [if_pos hij]
        subst hij
        rw [uniq t u _ h.1 h'.1]
      · rw [if_neg hij, rr]
    have all := objEqL n ts us ds es m2 h.2 h'.2
    rw [tmEqL]
    unfold bAllB
    rw [one, all]
  | _, _ :: _, _, [], _, _, h, _ => h.elim
  | _, [], _, _ :: _, _, _, h, _ => h.elim
  | _, _, _ :: _, _, [], _, _, h => h.elim
  | _, _, [], _, _ :: _, _, _, h => h.elim
end
end K13
end
section
set_option Elab.async false
set_option linter.all false
set_option maxRecDepth 100000
namespace K13
open PySem PySem.Spec L2 Q
variable [Tb]
theorem eqOO {c : Cells} {t u : Tm} {x y : D} (hd : t.dep ≤ 12) (hx : IsO c t x) (hy : IsO c u y) : fEqO (tblE 12) allC x y c = some (.bl (tmEq t u), c) := by
  have r := ownR_of hx hy (objEq 12 t u x y hd hx hy)
  unfold fEqO orO opB bOwnA
  rw [r]
  rfl
theorem neOO {c : Cells} {t u : Tm} {x y : D} (hd : t.dep ≤ 12) (hx : IsO c t x) (hy : IsO c u y) : fNeO (tblE 12) allC x y c = some (.bl (!tmEq t u), c) := by
  have r := ownR_of hx hy (objEq 12 t u x y hd hx hy)
  unfold fNeO bOwnA
  rw [r]
  rfl
/-! ### beside other things -/
structure Thg (c : Cells) (d : D) (tt : String) : Prop where
  ty : tyD c d = some tt
  mem : tt ∈ ["NoneType", "bool", "int", "str", "list", "tuple", "dict"]
  no : ∀ C ks ds, Q.view c d ≠ some (.obj C ks, ds)
theorem isoThg {cl : List (Str × Bool)} {c : Cells} {d : D} {tt : String} (h : Thg c d tt) : fIsO cl d c = some (.bl false, c) := by
  unfold fIsO
  rw [h.ty]
  dsimp only
  rw [if_pos h.mem]
theorem eqThg {c : Cells} {t : Tm} {x d : D} {tt : String} (hd : t.dep ≤ 12) (hx : IsO c t x) (h : Thg c d tt) : eqF 12 t [x, d] c = .ok (.bl false) c := by
  cases t with
  | pl s =>
    show F_Place_eq [x, d] c = _
    exact argR rfl (bodyR (stR (eAndVF (e1' (eV rfl) (isoThg h)) rfl)))
  | en s =>
    show F_End_eq [x, d] c = _
    exact argR rfl (bodyR (stR (eAndVF (e1' (eV rfl) (isoThg h)) rfl)))
  | nd g ts =>
    cases g with
    | false =>
      show F_Lesser_eq 12 [x, d] c = _
      rw [F_Lesser_eq]
      exact argR rfl (bodyR (stR (eAndVF (e1' (eV rfl) (isoThg h)) rfl)))
    | true =>
      show F_Greater_eq 12 [x, d] c = _
      rw [F_Greater_eq]
      exact argR rfl (bodyR (stR (eAndVF (e1' (eV rfl) (isoThg h)) rfl)))
theorem ownR_no {tbl : List (Str × FD)} {c : Cells} {x d : D} {tt : String} (h : Thg c d tt) : bOwnR tbl allC x d c = none := by
  unfold bOwnR
  split
  · rename_i C ks ds B ks' ds' h1 h2
    exact absurd h2 (h.no _ _ _)
  · rfl
theorem ownR_no2 {tbl : List (Str × FD)} {c : Cells} {x d : D} {tt : String} (h : Thg c d tt) : bOwnR tbl allC d x c = none := by
  unfold bOwnR
  split
  · rename_i C ks ds B ks' ds' h1 h2
    exact absurd h1 (h.no _ _ _)
  · rfl
theorem ownT_of {c : Cells} {t : Tm} {x d : D} {tt : String} (hd : t.dep ≤ 12) (hx : IsO c t x) (h : Thg c d tt) : bOwnT (tblE 12) x d c = some false := by
  obtain ⟨ks, ds, hv⟩ := hx.view
  unfold bOwnT
  rw [hv, h.ty]
  dsimp only
  rw [lookE 12 t]
  dsimp only
  rw [if_pos h.mem, bCall_of (eqThg hd hx h)]
theorem ownT_no {tbl : List (Str × FD)} {c : Cells} {x d : D} {tt : String} (h : Thg c d tt) : bOwnT tbl d x c = none := by
  unfold bOwnT
  split
  · rename_i C ks ds B h1 h2
    exact absurd h1 (h.no _ _ _)
  · rfl
theorem eqOT {c : Cells} {t : Tm} {x d : D} {tt : String} (hd : t.dep ≤ 12) (hx : IsO c t x) (h : Thg c d tt) : fEqO (tblE 12) allC x d c = some (.bl false, c) := by
  unfold fEqO orO opB bOwnA
  rw [ownR_no h]
  dsimp only
  rw [ownT_of hd hx h]
  rfl
theorem neOT {c : Cells} {t : Tm} {x d : D} {tt : String} (hd : t.dep ≤ 12) (hx : IsO c t x) (h : Thg c d tt) : fNeO (tblE 12) allC x d c = some (.bl true, c) := by
  unfold fNeO bOwnA
  rw [ownR_no h]
  dsimp only
  rw [ownT_of hd hx h]
  rfl
theorem eqTO {c : Cells} {t : Tm} {x d : D} {tt : String} (hd : t.dep ≤ 12) (hx : IsO c t x) (h : Thg c d tt) : fEqO (tblE 12) allC d x c = some (.bl false, c) := by
  unfold fEqO orO opB bOwnA
  rw [ownR_no2 h]
  dsimp only
  rw [ownT_no h]
  obtain ⟨ks, ds, hv⟩ := hx.view
  have r : bRefl (tblE 12) d x c = some false := by
    unfold bRefl
    rw [h.ty, hv]
    dsimp only
    rw [lookE 12 t]
    dsimp only
    rw [if_pos h.mem, bCall_of (eqThg hd hx h)]
  show ((bRefl (tblE 12) d x c).map fun b => (D.bl b, c)) = _
  rw [r]
  rfl
/-! ### the model's == -/
mutual
def pyT : Tm → PyData
  | .pl s => .tuple [.str "place", .str s]
  | .en s => .tuple [.str "end", .str s]
  | .nd g ts => .tuple [.str (wrd g), .list (pyTL ts)]
def pyTL : List Tm → List PyData
  | [] => []
  | t :: ts => pyT t :: pyTL ts
end
mutual
theorem pyd_T {p : Nat} {c : Cells} : ∀ (t : Tm) (d : D) (k : Nat), t.dep ≤ k → IsT p c t d → pydW (pydC c k) d = some (pyT t)
  | .pl s, d, k, _, h => by
    have h : d = .tup [.str "place", .str s] := h
    subst h
    rw [pyT]
    rfl
  | .en s, d, k, _, h => by
    have h : d = .tup [.str "end", .str s] := h
    subst h
    rw [pyT]
    rfl
  | .nd g ts, d, k, hd, h => by
    obtain ⟨l, ds, rfl, h2, h3, h4⟩ : ∃ l ds, d = .tup [.str (wrd g), l] ∧ view c l = some (.lst, ds) ∧ l ≠ .cell p ∧ IsTL p c ts ds := h
    have hd2 : 1 + depL ts ≤ k := hd
    have key : pydW (pydC c k) l = some (.list (pyTL ts)) := by
      cases l with
      | cell i =>
        cases k with
        | zero => omega
        | succ k =>
          have e : c[i]? = some (.lst, ds) := h2
          have r := pyd_TL ts ds k (by omega) h4
          show pydC c (k + 1) i = _
          unfold pydC
          rw [e]
          dsimp only
          rw [r]
          rfl
      | nod tg es =>
        cases h2
        have r := pyd_TL ts ds k (by omega) h4
        show (pydL (pydC c k) ds).map PyData.list = _
        rw [r]
        rfl
      | _ => cases h2
    rw [pyT]
    show (pydL (pydC c k) [.str (wrd g), l]).map PyData.tuple = _
    have : pydL (pydC c k) [.str (wrd g), l] = some [.str (wrd g), .list (pyTL ts)] := by
      unfold pydL
      rw [show pydW (pydC c k) (.str (wrd g)) = some (.str (wrd g)) from rfl]
      unfold pydL
      rw [key]
      rfl
    rw [this]
    rfl
theorem pyd_TL {p : Nat} {c : Cells} : ∀ (ts : List Tm) (ds : List D) (k : Nat), depL ts ≤ k → IsTL p c ts ds → pydL (pydC c k) ds = some (pyTL ts)
  | [], [], k, _, _ => by rw [pyTL]; rfl
  | t :: ts, d :: ds, k, hd, h => by
    have m1 : t.dep ≤ k := Nat.le_trans (Nat.le_max_left _ _) hd
    have m2 : depL ts ≤ k := Nat.le_trans (Nat.le_max_right _ _) hd
    rw [pyTL]
    unfold pydL
    rw [pyd_T t d k m1 h.1, pyd_TL ts ds k m2 h.2]
  | _ :: _, [], _, _, h => h.elim
  | [], _ :: _, _, _, h => h.elim
end
theorem strB (x y : Str) : (x == y) = decide (x = y) := by
  by_cases h : x = y
  · rw [h, beq_self_eq_true]; exact (decide_eq_true rfl).symm
  · rw [decide_eq_false h]; exact beq_eq_false_iff_ne.mpr h
theorem wneq : (("place" : Str) == ("end" : Str)) = false ∧ (("end" : Str) == ("place" : Str)) = false ∧ (∀ g, (("place" : Str) == wrd g) = false) ∧ (∀ g, (wrd g == ("place" : Str)) = false) ∧ (∀ g, (("end" : Str) == wrd g) = false) ∧ (∀ g, (wrd g == ("end" : Str)) = false) ∧ (∀ g g', (wrd g == wrd g') = decide (g = g')) := by decide +kernel
mutual
theorem eqv_T : ∀ t u : Tm, PyData.eqv (pyT t) (pyT u) = tmEq t u
  | .pl s, .pl r => by rw [pyT, pyT, tmEq]; simp only [PyData.eqv, PyData.eqvAll, strB, decide_true, Bool.true_and, Bool.and_true]
  | .en s, .en r => by rw [pyT, pyT, tmEq]; simp only [PyData.eqv, PyData.eqvAll, strB, decide_true, Bool.true_and, Bool.and_true]
  | .pl s, .en r => by rw [pyT, pyT, tmEq]; · simp only [PyData.eqv, PyData.eqvAll, wneq, Bool.false_and]
                       all_goals (intros; first | contradiction | skip)
  | .en s, .pl r => by rw [pyT, pyT, tmEq]; · simp only [PyData.eqv, PyData.eqvAll, wneq, Bool.false_and]
                       all_goals (intros; first | contradiction | skip)
  | .pl s, .nd g us => by rw [pyT, pyT, tmEq]; · simp only [PyData.eqv, PyData.eqvAll, wneq.2.2.1 g, Bool.false_and]
                          all_goals (intros; first | contradiction | skip)
  | .en s, .nd g us => by rw [pyT, pyT, tmEq]; · simp only [PyData.eqv, PyData.eqvAll, wneq.2.2.2.2.1 g, Bool.false_and]
                          all_goals (intros; first | contradiction | skip)
  | .nd g us, .pl s => by rw [pyT, pyT, tmEq]; · simp only [PyData.eqv, PyData.eqvAll, wneq.2.2.2.1 g, Bool.false_and]
                          all_goals (intros; first | contradiction | skip)
  | .nd g us, .en s => by rw [pyT, pyT, tmEq]; · simp only [PyData.eqv, PyData.eqvAll, wneq.2.2.2.2.2.1 g, Bool.false_and]
                          all_goals (intros; first | contradiction | skip)
  | .nd g ts, .nd g' us => by
    rw [pyT, pyT, tmEq]
    simp only [PyData.eqv, PyData.eqvAll, wneq.2.2.2.2.2.2 g g', eqv_TL ts us, Bool.and_true]
theorem eqv_TL : ∀ ts us : List Tm, PyData.eqvAll (pyTL ts) (pyTL us) = tmEqL ts us
  | [], [] => by rw [pyTL, tmEqL]; rfl
  | t :: ts, u :: us => by rw [pyTL, pyTL, tmEqL]; simp only [PyData.eqvAll, eqv_T t u, eqv_TL ts us]
  | [], u :: us => by rw [pyTL, pyTL, tmEqL]; · rfl
                      all_goals (intros; first | contradiction | skip)
  | t :: ts, [] => by rw [pyTL, pyTL, tmEqL]; · rfl
                      all_goals (intros; first | contradiction | skip)
end
theorem okS : (∀ s ∈ plNames, PyData.canLay0 (.str s) = true) ∧ PyData.canLay0 (.str "bottom") = true ∧ PyData.canLay0 (.str "top") = true ∧ PyData.canLay0 (.str "place") = true ∧ PyData.canLay0 (.str "end") = true ∧ ∀ g, PyData.canLay0 (.str (wrd g)) = true := by decide +kernel
mutual
theorem lay_T : ∀ t : Tm, t.ok → PyData.canLay0 (pyT t) = true
  | .pl s, h => by
    have a := okS.1 s h
    have b := okS.2.2.2.1
    rw [pyT]
    simp only [PyData.canLay0, PyData.canLayAll0, Bool.and_true, Bool.and_eq_true] at *
    exact ⟨b, a⟩
  | .en s, h => by
    have a : PyData.canLay0 (.str s) = true := by
      rcases h with rfl | rfl
      · exact okS.2.1
      · exact okS.2.2.1
    have b := okS.2.2.2.2.1
    rw [pyT]
    simp only [PyData.canLay0, PyData.canLayAll0, Bool.and_true, Bool.and_eq_true] at *
    exact ⟨b, a⟩
  | .nd g ts, h => by
    have a := okS.2.2.2.2.2 g
    have b := lay_TL ts h.2
    rw [pyT]
    simp only [PyData.canLay0, PyData.canLayAll0, Bool.and_true, Bool.and_eq_true] at *
    exact ⟨a, b⟩
theorem lay_TL : ∀ ts : List Tm, okL ts → PyData.canLayAll0 (pyTL ts) = true
  | [], _ => by rw [pyTL]; rfl
  | t :: ts, h => by
    rw [pyTL, PyData.canLayAll0, lay_T t h.1, lay_TL ts h.2]
    rfl
end
mutual
theorem dp_T : ∀ t : Tm, PyData.depth (pyT t) ≤ 3 * t.dep + 3
  | .pl s => by rw [pyT]; simp [PyData.depth, PyData.depthAll]
  | .en s => by rw [pyT]; simp [PyData.depth, PyData.depthAll]
  | .nd g ts => by
    have b := dp_TL ts
    rw [pyT]
    show _ ≤ 3 * (1 + depL ts) + 3
    simp only [PyData.depth, PyData.depthAll]
    omega
theorem dp_TL : ∀ ts : List Tm, PyData.depthAll (pyTL ts) ≤ 3 * depL ts + 3
  | [] => by rw [pyTL]; simp [PyData.depthAll]
  | t :: ts => by
    have a := dp_T t
    have b := dp_TL ts
    rw [pyTL]
    show max (PyData.depth (pyT t)) (PyData.depthAll (pyTL ts)) ≤ 3 * max t.dep (depL ts) + 3
    omega
end
theorem shp {t : Tm} (ho : t.ok) (h5 : t.dep ≤ 5) : SeqAt.shaped (pyT t) = true := by
  unfold SeqAt.shaped
  rw [Bool.and_eq_true]
  refine ⟨lay_T t ho, decide_eq_true ?_⟩
  have := dp_T t
  omega
theorem eqS_none {d e : D} {ds : List D} {b : Bool} {c : Cells} (h : d = .tup ds) : fEqS b d e c = none := by
  subst h
  rfl
theorem eqTT {p : Nat} {c : Cells} {t u : Tm} {d e : D} (h1 : t.ok) (h2 : u.ok) (d1 : t.dep ≤ 5) (d2 : u.dep ≤ 5) (ht : IsT p c t d) (hu : IsT p c u e) : fEq d e c = some (.bl (tmEq t u), c) ∧ fNe d e c = some (.bl (!tmEq t u), c) := by
  have a := pyd_T t d 6 (by omega) ht
  have b := pyd_T u e 6 (by omega) hu
  have a' : pyd c d = some (pyT t) := a
  have b' : pyd c e = some (pyT u) := b
  obtain ⟨x, hx⟩ := ht.word
  have k : ∀ neg : Bool, fEqP neg d e c = some (.bl (if neg then !tmEq t u else tmEq t u), c) := fun neg => by
    unfold fEqP
    rw [a', b']
    dsimp only
    rw [shp h1 d1, shp h2 d2, eqv_T]
    rfl
  constructor
  · unfold fEq orO
    rw [eqS_none hx]
    exact k false
  · unfold fNe orO
    rw [eqS_none hx]
    exact k true
end K13
end
section
set_option Elab.async false
set_option linter.all false
set_option maxRecDepth 100000
namespace K13
open PySem PySem.Spec L2 Q
variable [Tb]
def rngK : D → Cells → R Src := fun d c => match d with
  | .int j => if -(2 ^ 62) ≤ j ∧ j < 2 ^ 62 then .ok (srcR 0 j.toNat) c else .stk
  | _ => .stk
theorem rngK_int {j : Int} {c : Cells} (z : -(2 ^ 62) ≤ j ∧ j < 2 ^ 62) : rngK (.int j) c = .ok (srcR 0 j.toNat) c := if_pos z
theorem bind_ok {a b : Type} {x : a} {c : Cells} {k : a → Cells → R b} : (R.ok x c).bind k = k x c := rfl
theorem eRng {m : ME} {env : Q.Env} {c c1 : Cells} {n : Nat} (h : m env c = .ok (.int (n : Int)) c1) (hn : n < 1000) : mRng1 m env c = .ok (srcR 0 n) c1 := by
  have z : -(2 ^ 62) ≤ (n : Int) ∧ (n : Int) < 2 ^ 62 := ⟨by omega, by omega⟩
  have e1 : mRng1 m env c = (m env c).bind rngK := rfl
  rw [e1, h, bind_ok, rngK_int z, Int.toNat_natCast]
/-- a comprehension over a range -/
theorem lcR {m : ME} {te : ME} {env : Q.Env} {c c1 : Cells} {i n : Nat} (Jn : Nat → List D → Cells → Prop) (h : m env c = .ok (.int (n : Int)) c1) (hn : n < 1000) (J0 : Jn 0 [] c1)
    (step : ∀ k acc c', k < n → acc.length = k → Jn k acc c' → ∃ y c2, te (env.set i (some (.int (0 + (k : Int))))) c' = .ok y c2 ∧ Jn (k + 1) (acc ++ [y]) c2) : ∃ acc c2, mLc false (mRng1 m) (gN i) [i] bYes te env c = .ok (.lst acc) c2 ∧ acc.length = n ∧ Jn n acc c2 := by
  have w : mRng1 m env c = .ok (srcR 0 n) c1 := eRng h hn
  have sm : (1000 : Nat) < sizeLine := by decide
  have e : ∀ i : Nat, ((List.range n).map fun j : Nat => D.int (0 + (j : Int)))[i]? = if i < n then some (.int (0 + (i : Int))) else none := fun i => by
    rw [List.getElem?_map]
    by_cases hi : i < n
    · rw [if_pos hi, List.getElem?_range hi]
      rfl
    · rw [if_neg hi, List.getElem?_eq_none (by simp; omega)]
      rfl
  obtain ⟨acc2, c2, q, ⟨e1, e2⟩, e3⟩ := lc_inv (s := srcR 0 n) (ds := (List.range n).map fun j : Nat => D.int (0 + (j : Int))) (g := gN i) (vs := [i]) (tt := bYes) (te := te) (env := env) (fun k acc c' => (acc.length = k ∧ k ≤ n) ∧ Jn k acc c') (fun k acc c' _ => by rw [e]; rfl)
    (fun k acc c' ⟨⟨e, e'⟩, _⟩ => by omega)
    (fun k x acc c' hx ⟨⟨e1, e'⟩, J⟩ => by
      rw [e] at hx
      split at hx
      · rename_i hk
        cases hx
        obtain ⟨y, c2, q1, q2⟩ := step k acc c' hk e1 J
        refine ⟨_, _, rfl, .inr ⟨c', y, c2, rfl, ?_, ⟨by simp [e1], by omega⟩, q2⟩⟩
        rw [wipe1]
        exact q1
      · cases hx)
    (n + 1) 0 [] c1 ⟨⟨rfl, Nat.zero_le _⟩, J0⟩ (Nat.zero_le _) (by simp)
  rw [List.length_map, List.length_range] at e1 e3
  refine ⟨acc2, c2, ?_, e1, e3⟩
  unfold mLc
  rw [w]
  show (lcS (srcR 0 n) (gN i) [i] bYes te env (n + 1) 0 [] c1).bind (lcEnd false) = _
  rw [q]
  rfl
theorem seqIx {m : Nat} {n : Nat} (h : m < n) : seqIndex? (m : Int) n = some m := by
  unfold seqIndex?
  have h1 : ¬ ((m : Int) < 0) := by omega
  simp only [h1, if_false]
  have h2 : (0 : Int) ≤ (m : Int) ∧ (m : Int) < (n : Int) := ⟨by omega, by omega⟩
  simp [h]
theorem eFnOk {F : FD} {n : Nat} {ms : ML} {ds : List D} {env : Q.Env} {c c1 c2 : Cells} {d : D} (h : ms env c = .ok ds c1) (hl : ds.length = n) (h2 : F ds c1 = .ok d c2) : mFn F n ms env c = .ok d c2 := eFn h hl h2
theorem erase_map {α β : Type} (f : α → β) : ∀ (l : List α) (n : Nat), (l.map f).eraseIdx n = (l.eraseIdx n).map f
  | [], n => by simp
  | x :: xs, 0 => rfl
  | x :: xs, n + 1 => by
    show f x :: (xs.map f).eraseIdx n = f x :: (xs.eraseIdx n).map f
    rw [erase_map f xs n]
/-- some places -/
def Pls (d : D) : Prop := ∃ l : List Str, d = .lst (l.map D.str) ∧ l ≠ [] ∧ l.length ≤ 10 ∧ ∀ s ∈ l, s ∈ plNames
theorem places {p : Nat} {c : Cells} (hp : PotC p c) : ∃ d c', F__law_places [.cell p] c = .ok d c' ∧ Nxt p c c' ∧ Pls d := by
  obtain ⟨c1, hc1⟩ : ∃ c1, c1 = c ++ [((.lst, plNames.map D.str) : Cl)] := ⟨_, rfl⟩
  have n1 : Nxt p c c1 := by rw [hc1]; exact Nxt.app hp _
  obtain ⟨k, c2, ek, k0, k5, n2⟩ := draw n1.pot (n := 5) (by omega) (by omega)
  obtain ⟨m, hm⟩ : ∃ m : Nat, (m : Int) = 1 + k := ⟨(1 + k).toNat, Int.toNat_of_nonneg (by omega)⟩
  have m1 : m ≤ 5 := by omega
  have m0 : 1 ≤ m := by omega
  have lt : c.length < c1.length := by rw [hc1]; simp
  have hq : p ≠ c.length := Nat.ne_of_lt hp.lt
  have at2 : c2[c.length]? = some (.lst, plNames.map D.str) := by
    rw [n2.old c.length lt (Ne.symm hq), hc1]
    exact get_last
  obtain ⟨acc, c3, q, ql, n3, l, hl, ho, _⟩ := lcR (m := m2 fAdd (mC (.int 1)) (mFn F__law_draw 2 (mCons (mVar 0) (mCons (mC (.int 5)) mNil)))) (te := mMe "list" fPopAt (mVar 1) (mCons (mFn F__law_draw 2 (mCons (mVar 0) (mCons (mCall bLen (mCons (mVar 1) mNil)) mNil))) mNil)) (env := [some (.cell p), some (.cell c.length), none]) (c := c1) (c1 := c2) (i := 2) (n := m)
    (fun j acc c' => Nxt p c c' ∧ ∃ l : List Str, acc = l.map D.str ∧ (∀ s ∈ l, s ∈ plNames) ∧ ∃ left : List Str, c'[c.length]? = some (.lst, left.map D.str) ∧ left.length + j = 8 ∧ ∀ s ∈ left, s ∈ plNames)
    (e2 eC (eFn (eCons (eV rfl) (eCons eC eNil)) rfl ek) (addI.trans (by rw [hm]))) (by omega) ⟨n1.trans n2, [], rfl, fun _ h => by simp at h, plNames, at2, rfl, fun s h => h⟩
    (fun j acc c' hj ha ⟨nx, l, hl, ho, left, hc', hn, hleft⟩ => by
      have lx : bLen [.cell c.length] c' = some (.int (left.length : Nat), c') := by
        show (seqView c' (.cell c.length)).map (fun ds => (D.int ds.length, c')) = _
        unfold seqView
        rw [show view c' (.cell c.length) = some (.lst, left.map D.str) from hc']
        show some (D.int (left.map D.str).length, c') = _
        rw [List.length_map]
      obtain ⟨z, c4, ez, z0, zn, n4⟩ := draw nx.pot (n := (left.length : Nat)) (by omega) (by omega)
      obtain ⟨y, rfl⟩ := Int.eq_ofNat_of_zero_le z0
      have hy : y < left.length := by omega
      have c4q : c4[c.length]? = some (.lst, left.map D.str) := by
        rw [n4.old c.length (List.getElem?_eq_some_iff.mp hc').1 (Ne.symm hq)]
        exact hc'
      have pop : fPopAt (.cell c.length) [.int (y : Int)] c4 = some (.str left[y], c4.set c.length (.lst, (left.eraseIdx y).map D.str)) := by
        unfold fPopAt
        dsimp only
        rw [c4q]
        dsimp only
        have zz : -(2 ^ 63) ≤ (y : Int) ∧ (y : Int) < 2 ^ 63 := ⟨by omega, by omega⟩
        rw [if_pos zz, seqIx (by rw [List.length_map]; exact hy)]
        dsimp only
        rw [List.getElem?_map, List.getElem?_eq_getElem hy]
        show some (D.str left[y], c4.set c.length (.lst, (left.map D.str).eraseIdx y)) = _
        rw [erase_map]
      have ty : isTy "list" c' (.cell c.length) = true := by
        show (match view c' (.cell c.length) with
          | some (.lst, _) => decide ("list" = "list")
          | some (.frl, _) => decide ("list" = "list")
          | some (.dic _, _) => decide ("list" = "dict")
          | _ => false) = true
        rw [show view c' (.cell c.length) = some (.lst, left.map D.str) from hc']
        rfl
      have nx4 := nx.trans n4
      refine ⟨.str left[y], _, eMe (eV rfl) ty (eCons (eFn (eCons (eV rfl) (eCons (eCall (eCons (eV rfl) eNil) lx) eNil)) rfl ez) eNil) pop, ⟨?_, by simp [nx4.len], fun r hr hn => by rw [List.getElem?_set_ne (by omega)]; exact nx4.old r hr hn⟩, l ++ [left[y]], by simp [hl], fun s hs => ?_, left.eraseIdx y, ?_, ?_, fun s hs => hleft s (List.mem_of_mem_eraseIdx hs)⟩
      · obtain ⟨a, b, e, r⟩ := nx4.pot
        exact ⟨a, b, by rw [List.getElem?_set_ne (Ne.symm hq)]; exact e, r⟩
      · rcases List.mem_append.mp hs with h | h
        · exact ho s h
        · rw [List.mem_singleton.mp h]
          exact hleft _ (List.getElem_mem hy)
      · exact List.getElem?_set_self (List.getElem?_eq_some_iff.mp c4q).1
      · rw [List.length_eraseIdx_of_lt hy]
        omega)
  have ll : l.length = m := by
    rw [← ql, hl, List.length_map]
  refine ⟨.lst acc, c3, bodyR (sqN (stS (eLstC (eCons eC (eCons eC (eCons eC (eCons eC (eCons eC (eCons eC (eCons eC (eCons eC eNil)))))))))) (stR ?_)), n3, l, by rw [hl], fun z => by rw [z] at ll; simp at ll; omega, by omega, ho⟩
  rw [hc1] at q
  exact q
end K13
end
section
set_option Elab.async false
set_option linter.all false
set_option maxRecDepth 100000
namespace K13
open PySem PySem.Spec L2 Q
variable [Tb]
theorem pickPl {p : Nat} {c : Cells} (hp : PotC p c) {d : D} (h : Pls d) : ∃ s c', F__law_pick [.cell p, d] c = .ok (.str s) c' ∧ s ∈ plNames ∧ Nxt p c c' := by
  obtain ⟨l, rfl, h1, h2, h3⟩ := h
  obtain ⟨x, c', e, hx, n⟩ := pick hp (ds := l.map D.str) (by simpa using h1) (by rw [List.length_map]; omega)
  obtain ⟨s, hs, rfl⟩ := List.mem_map.mp hx
  exact ⟨s, c', e, h3 s hs, n⟩
theorem pickS {p : Nat} {c : Cells} (hp : PotC p c) {env : Q.Env} {ms : ML} {ds : List D} (he : env[0]? = some (some (.cell p))) (hm : ms env c = .ok ds c) (hd : ds ≠ []) (hl : ds.length ≤ 100) : ∃ x c', mFn F__law_pick 2 (mCons (mVar 0) (mCons (mLst ms) mNil)) env c = .ok x c' ∧ x ∈ ds ∧ Nxt p c c' := by
  obtain ⟨x, c', e, hx, n⟩ := pick hp hd (by omega)
  have sz : ds.length ≤ sizeLine := by rw [szl]; omega
  exact ⟨x, c', eFn (eCons (eV he) (eCons (eLst hm sz) eNil)) rfl e, hx, n⟩
theorem drawE {p : Nat} {c : Cells} (hp : PotC p c) {env : Q.Env} (he : env[0]? = some (some (.cell p))) {n : Int} (hn : 0 < n) (hb : n < 2147483648) : ∃ k c', mFn F__law_draw 2 (mCons (mVar 0) (mCons (mC (.int n)) mNil)) env c = .ok (.int k) c' ∧ 0 ≤ k ∧ k < n ∧ Nxt p c c' := by
  obtain ⟨k, c', e, h0, h1, nx⟩ := draw hp hn hb
  exact ⟨k, c', eFn (eCons (eV he) (eCons eC eNil)) rfl e, h0, h1, nx⟩
theorem nd_ok {g : Bool} {ts : List Tm} (hw : ts.length = 2 ∨ ts.length = 3 ∨ ts.length = 4 ∨ ts.length = 8) (h : okL ts) : (Tm.nd g ts).ok := ⟨hw, h⟩
theorem okL_snoc : ∀ {ts : List Tm} {t : Tm}, okL ts → t.ok → okL (ts ++ [t])
  | [], t, _, h => ⟨h, trivial⟩
  | a :: ts, t, h, q => ⟨h.1, okL_snoc h.2 q⟩
theorem depL_snoc : ∀ {ts : List Tm} {t : Tm} {k : Nat}, depL ts ≤ k → t.dep ≤ k → depL (ts ++ [t]) ≤ k
  | [], t, k, _, h => by
    show max t.dep 0 ≤ k
    omega
  | a :: ts, t, k, h, q => by
    have h1 : max a.dep (depL ts) ≤ k := h
    have h2 := depL_snoc (ts := ts) (k := k) (by omega) q
    show max a.dep (depL (ts ++ [t])) ≤ k
    omega
theorem wrd_of {x : D} (h : x ∈ [D.str "lesser", D.str "greater"]) : ∃ g, x = .str (wrd g) := by
  simp only [List.mem_cons, List.not_mem_nil, or_false] at h
  rcases h with rfl | rfl
  · exact ⟨false, rfl⟩
  · exact ⟨true, rfl⟩
theorem term {p : Nat} : ∀ (n k : Nat) (c : Cells) (pls : D), PotC p c → Pls pls → k < n → ∃ t d c', F__law_term n [.cell p, pls, .int (k : Int)] c = .ok d c' ∧ Nxt p c c' ∧ IsT p c' t d ∧ t.ok ∧ t.dep ≤ k
  | 0, k, c, pls, _, _, h => absurd h (Nat.not_lt_zero _)
  | n + 1, k, c, pls, hp, hl, hk => by
    rw [F__law_term]
    obtain ⟨w, c1, e1, w0, w9, n1⟩ := drawE hp (env := [some (.cell p), some pls, some (.int (k : Int)), none, none, none]) rfl (n := 9) (by omega) (by omega)
    have s1 := stS (i := 3) e1
    by_cases hc : k = 0 ∨ w < 2
    · have tst : mOrT (mT (m2 fEq (mVar 2) (mC (.int 0)))) (mT (m2 fLt (mVar 3) (mC (.int 2)))) [some (.cell p), some pls, some (.int (k : Int)), some (.int w), none, none] c1 = .ok true c1 := by
        by_cases k0 : (k : Int) = 0
        · exact eOrT (eT (e2 (eV rfl) eC (eqI.trans (by rw [decide_eq_true k0]))))
        · exact eOrF (eT (e2 (eV rfl) eC (eqI.trans (by rw [decide_eq_false k0])))) (eT (e2 (eV rfl) eC (ltI.trans (by rw [decide_eq_true (by omega)]))))
      obtain ⟨z, c2, e2', z0, z6, n2⟩ := drawE n1.pot (env := [some (.cell p), some pls, some (.int (k : Int)), some (.int w), none, none]) rfl (n := 6) (by omega) (by omega)
      by_cases hz : z = 0
      · obtain ⟨x, c3, e3, hx, n3⟩ := pickS n2.pot (env := [some (.cell p), some pls, some (.int (k : Int)), some (.int w), none, none]) (ms := mCons (mC (.str "bottom")) (mCons (mC (.str "top")) mNil)) rfl (eCons eC (eCons eC eNil)) (by simp) (by simp)
        obtain ⟨s, rfl, hs⟩ : ∃ s : Str, x = .str s ∧ (s = "bottom" ∨ s = "top") := by
          simp only [List.mem_cons, List.not_mem_nil, or_false] at hx
          rcases hx with rfl | rfl
          · exact ⟨_, rfl, .inl rfl⟩
          · exact ⟨_, rfl, .inr rfl⟩
        exact ⟨.en s, _, c3, bodyR (sqN s1 (sqR (stIT tst (sqR (stIT (eT (e2 e2' eC (eqI.trans (by rw [decide_eq_true hz])))) (stR (eTup (eCons eC (eCons e3 eNil))))))))), (n1.trans n2).trans n3, rfl, hs, Nat.zero_le _⟩
      · obtain ⟨s, c3, e3, hs, n3⟩ := pickPl n2.pot hl
        exact ⟨.pl s, _, c3, bodyR (sqN s1 (sqR (stIT tst (sqN (stIF (eT (e2 e2' eC (eqI.trans (by rw [decide_eq_false hz])))) rfl) (stR (eTup (eCons eC (eCons (eFn (eCons (eV rfl) (eCons (eV rfl) eNil)) rfl e3) eNil)))))))), (n1.trans n2).trans n3, rfl, hs, Nat.zero_le _⟩
    · have k0 : ¬ ((k : Int) = 0) := by omega
      have tst : mOrT (mT (m2 fEq (mVar 2) (mC (.int 0)))) (mT (m2 fLt (mVar 3) (mC (.int 2)))) [some (.cell p), some pls, some (.int (k : Int)), some (.int w), none, none] c1 = .ok false c1 :=
        eOrF (eT (e2 (eV rfl) eC (eqI.trans (by rw [decide_eq_false k0])))) (eT (e2 (eV rfl) eC (ltI.trans (by rw [decide_eq_false (by omega)]))))
      obtain ⟨x, c2, e2', hx, n2⟩ := pickS n1.pot (env := [some (.cell p), some pls, some (.int (k : Int)), some (.int w), none, none]) (ms := mCons (mC (.str "lesser")) (mCons (mC (.str "greater")) mNil)) rfl (eCons eC (eCons eC eNil)) (by simp) (by simp)
      obtain ⟨g, rfl⟩ := wrd_of hx
      have n12 := n1.trans n2
      have s2 := stS (i := 4) e2'
      by_cases h8 : w = 8
      · obtain ⟨acc, c3, q, ql, n3, ts, hts, hlen, hok, hdp⟩ := lcR (m := mC (.int 8)) (te := mTup (mCons (mC (.str "place")) (mCons (mFn F__law_pick 2 (mCons (mVar 0) (mCons (mVar 1) mNil))) mNil))) (env := [some (.cell p), some pls, some (.int (k : Int)), some (.int w), some (.str (wrd g)), none]) (c := c2) (c1 := c2) (i := 5) (n := 8)
          (fun j acc c' => Nxt p c c' ∧ ∃ ts : List Tm, IsTL p c' ts acc ∧ ts.length = j ∧ okL ts ∧ depL ts ≤ 0) eC (by omega) ⟨n12, [], trivial, rfl, trivial, Nat.le_refl _⟩
          (fun j acc c' hj ha ⟨nx, ts, hts, hlen, hok, hdp⟩ => by
            obtain ⟨s, c4, e4, hs, n4⟩ := pickPl nx.pot hl
            exact ⟨_, c4, eTup (eCons eC (eCons (eFn (eCons (eV rfl) (eCons (eV rfl) eNil)) rfl e4) eNil)), nx.trans n4, ts ++ [.pl s], (IsTL.nx n4 _ _ hts).snoc (t := .pl s) rfl, by simp [hlen], okL_snoc (t := .pl s) hok hs, depL_snoc (t := .pl s) hdp (Nat.le_refl 0)⟩)
        refine ⟨.nd g ts, _, c3, bodyR (sqN s1 (sqN (stIF tst rfl) (sqN s2 (sqR (stIT (eT (e2 (eV rfl) eC (eqI.trans (by rw [decide_eq_true h8])))) (stR (eTup (eCons (eV rfl) (eCons q eNil))))))))), n3, ⟨.lst acc, acc, rfl, rfl, by simp, hts⟩, nd_ok (by omega) hok, ?_⟩
        show 1 + depL ts ≤ k
        omega
      · obtain ⟨y, c3, e3, hy, n3⟩ := pickS n12.pot (env := [some (.cell p), some pls, some (.int (k : Int)), some (.int w), some (.str (wrd g)), none]) (ms := mCons (mC (.int 2)) (mCons (mC (.int 2)) (mCons (mC (.int 3)) (mCons (mC (.int 4)) mNil)))) rfl (eCons eC (eCons eC (eCons eC (eCons eC eNil)))) (by simp) (by simp)
        obtain ⟨m, rfl, hm⟩ : ∃ m : Nat, y = .int (m : Int) ∧ (m = 2 ∨ m = 3 ∨ m = 4) := by
          simp only [List.mem_cons, List.not_mem_nil, or_false] at hy
          rcases hy with rfl | rfl | rfl | rfl
          · exact ⟨2, rfl, .inl rfl⟩
          · exact ⟨2, rfl, .inl rfl⟩
          · exact ⟨3, rfl, .inr (.inl rfl)⟩
          · exact ⟨4, rfl, .inr (.inr rfl)⟩
        obtain ⟨k', rfl⟩ : ∃ k', k = k' + 1 := ⟨k - 1, by omega⟩
        have sb : ∀ cc : Cells, fSub (.int ((k' + 1 : Nat) : Int)) (.int 1) cc = some (.int (k' : Int), cc) := fun cc => by
          rw [subI]
          congr 3
          omega
        obtain ⟨acc, c4, q, ql, n4, ts, hts, hlen, hok, hdp⟩ := lcR (te := mFn (F__law_term n) 3 (mCons (mVar 0) (mCons (mVar 1) (mCons (m2 fSub (mVar 2) (mC (.int 1))) mNil)))) (env := [some (.cell p), some pls, some (.int ((k' + 1 : Nat) : Int)), some (.int w), some (.str (wrd g)), none]) (c := c2) (c1 := c3) (i := 5) (n := m)
          (fun j acc c' => Nxt p c c' ∧ ∃ ts : List Tm, IsTL p c' ts acc ∧ ts.length = j ∧ okL ts ∧ depL ts ≤ k') e3 (by omega) ⟨n12.trans n3, [], trivial, rfl, trivial, Nat.zero_le _⟩
          (fun j acc c' hj ha ⟨nx, ts, hts, hlen, hok, hdp⟩ => by
            obtain ⟨t, d, c5, e5, n5, hT, ht, hd⟩ := term n k' c' pls nx.pot hl (by omega)
            exact ⟨d, c5, eFn (eCons (eV rfl) (eCons (eV rfl) (eCons (e2 (eV rfl) eC (sb _)) eNil))) rfl e5, nx.trans n5, ts ++ [t], (IsTL.nx n5 _ _ hts).snoc hT, by simp [hlen], okL_snoc hok ht, depL_snoc hdp hd⟩)
        refine ⟨.nd g ts, _, c4, bodyR (sqN s1 (sqN (stIF tst rfl) (sqN s2 (sqN (stIF (eT (e2 (eV rfl) eC (eqI.trans (by rw [decide_eq_false h8])))) rfl) (stR (eTup (eCons (eV rfl) (eCons q eNil)))))))), n4, ⟨.lst acc, acc, rfl, rfl, by simp, hts⟩, nd_ok (by omega) hok, ?_⟩
        show 1 + depL ts ≤ k' + 1
        omega
end K13
end
section
set_option Elab.async false
set_option linter.all false
set_option maxRecDepth 100000
set_option maxHeartbeats 1000000
namespace K13
open PySem PySem.Spec L2 Q
variable [Tb]
mutual
/-- what avoids r, too, goes on doing so -/
theorem IsT.both {p r : Nat} {c c' : Cells} (n : Nxt p c c') : ∀ (t : Tm) (d : D), IsT p c t d → IsT r c t d → IsT r c' t d
  | .pl _, d, h, _ => h
  | .en _, d, h, _ => h
  | .nd g ts, d, h, h' => by
    obtain ⟨l, ds, rfl, h2, h3, h4⟩ : ∃ l ds, d = .tup [.str (wrd g), l] ∧ view c l = some (.lst, ds) ∧ l ≠ .cell p ∧ IsTL p c ts ds := h
    obtain ⟨l', ds', e, h2', h3', h4'⟩ : ∃ l' ds', D.tup [.str (wrd g), l] = .tup [.str (wrd g), l'] ∧ view c l' = some (.lst, ds') ∧ l' ≠ .cell r ∧ IsTL r c ts ds' := h'
    cases e
    rw [h2] at h2'
    cases h2'
    exact ⟨l, ds, rfl, view_keep n h2 h3, h3', IsTL.both n ts ds h4 h4'⟩
theorem IsTL.both {p r : Nat} {c c' : Cells} (n : Nxt p c c') : ∀ (ts : List Tm) (ds : List D), IsTL p c ts ds → IsTL r c ts ds → IsTL r c' ts ds
  | [], [], _, _ => trivial
  | t :: ts, d :: ds, h, h' => ⟨IsT.both n t d h.1 h'.1, IsTL.both n ts ds h.2 h'.2⟩
  | _ :: _, [], h, _ => h.elim
  | [], _ :: _, h, _ => h.elim
end
theorem view_lt {c : Cells} {i : Nat} {x : Cl} (h : view c (.cell i) = some x) : i < c.length := (List.getElem?_eq_some_iff.mp (show c[i]? = some x from h)).1
mutual
/-- cells that are not there are avoided -/
theorem IsT.far {p r : Nat} {c : Cells} (hr : c.length ≤ r) : ∀ (t : Tm) (d : D), IsT p c t d → IsT r c t d
  | .pl _, d, h => h
  | .en _, d, h => h
  | .nd g ts, d, h => by
    obtain ⟨l, ds, rfl, h2, h3, h4⟩ : ∃ l ds, d = .tup [.str (wrd g), l] ∧ view c l = some (.lst, ds) ∧ l ≠ .cell p ∧ IsTL p c ts ds := h
    exact ⟨l, ds, rfl, h2, fun z => by rw [z] at h2; have := view_lt h2; omega, IsTL.far hr ts ds h4⟩
theorem IsTL.far {p r : Nat} {c : Cells} (hr : c.length ≤ r) : ∀ (ts : List Tm) (ds : List D), IsTL p c ts ds → IsTL r c ts ds
  | [], [], _ => trivial
  | t :: ts, d :: ds, h => ⟨IsT.far hr t d h.1, IsTL.far hr ts ds h.2⟩
  | _ :: _, [], h => h.elim
  | [], _ :: _, h => h.elim
end
mutual
/-- a cell changes that is avoided -/
theorem IsT.chg {p q : Nat} {c : Cells} {x : Cl} : ∀ (t : Tm) (d : D), IsT p c t d → IsT q c t d → IsT p (c.set q x) t d
  | .pl _, d, h, _ => h
  | .en _, d, h, _ => h
  | .nd g ts, d, h, h' => by
    obtain ⟨l, ds, rfl, h2, h3, h4⟩ : ∃ l ds, d = .tup [.str (wrd g), l] ∧ view c l = some (.lst, ds) ∧ l ≠ .cell p ∧ IsTL p c ts ds := h
    obtain ⟨l', ds', e, h2', h3', h4'⟩ : ∃ l' ds', D.tup [.str (wrd g), l] = .tup [.str (wrd g), l'] ∧ view c l' = some (.lst, ds') ∧ l' ≠ .cell q ∧ IsTL q c ts ds' := h'
    cases e
    rw [h2] at h2'
    cases h2'
    refine ⟨l, ds, rfl, ?_, h3, IsTL.chg ts ds h4 h4'⟩
    cases l with
    | cell i =>
      show (c.set q x)[i]? = _
      rw [List.getElem?_set_ne (fun z => h3' (by rw [z]))]
      exact h2
    | nod tg es => exact h2
    | _ => cases h2
theorem IsTL.chg {p q : Nat} {c : Cells} {x : Cl} : ∀ (ts : List Tm) (ds : List D), IsTL p c ts ds → IsTL q c ts ds → IsTL p (c.set q x) ts ds
  | [], [], _, _ => trivial
  | t :: ts, d :: ds, h, h' => ⟨IsT.chg t d h.1 h'.1, IsTL.chg ts ds h.2 h'.2⟩
  | _ :: _, [], h, _ => h.elim
  | [], _ :: _, h, _ => h.elim
end
theorem IsTL.set {p : Nat} {c : Cells} : ∀ {ts : List Tm} {ds : List D} (n : Nat) {t : Tm} {d : D}, IsTL p c ts ds → IsT p c t d → IsTL p c (ts.set n t) (ds.set n d)
  | [], [], n, _, _, _, _ => by simp [IsTL]
  | _ :: _, _ :: _, 0, _, _, h, q => ⟨q, h.2⟩
  | _ :: ts, _ :: ds, n + 1, _, _, h, q => ⟨h.1, IsTL.set n h.2 q⟩
  | _ :: _, [], _, _, _, h, _ => h.elim
  | [], _ :: _, _, _, _, h, _ => h.elim
theorem okL_set : ∀ {ts : List Tm} (n : Nat) {t : Tm}, okL ts → t.ok → okL (ts.set n t)
  | [], n, _, _, _ => trivial
  | _ :: _, 0, _, h, q => ⟨q, h.2⟩
  | _ :: ts, n + 1, _, h, q => ⟨h.1, okL_set n h.2 q⟩
theorem depL_set : ∀ {ts : List Tm} (n : Nat) {t : Tm} {k : Nat}, depL ts ≤ k → t.dep ≤ k → depL (ts.set n t) ≤ k
  | [], n, _, _, h, _ => h
  | a :: ts, 0, t, k, h, q => by
    have h1 : max a.dep (depL ts) ≤ k := h
    show max t.dep (depL ts) ≤ k
    omega
  | a :: ts, n + 1, t, k, h, q => by
    have h1 : max a.dep (depL ts) ≤ k := h
    have := depL_set (ts := ts) n (t := t) (k := k) (by omega) q
    show max a.dep (depL (ts.set n t)) ≤ k
    omega
theorem IsTL.app {p : Nat} {c : Cells} : ∀ {ts us : List Tm} {ds es : List D}, IsTL p c ts ds → IsTL p c us es → IsTL p c (ts ++ us) (ds ++ es)
  | [], _, [], _, _, h => h
  | _ :: ts, _, _ :: ds, _, h, q => ⟨h.1, IsTL.app h.2 q⟩
  | _ :: _, _, [], _, h, _ => h.elim
  | [], _, _ :: _, _, h, _ => h.elim
theorem IsTL.rev {p : Nat} {c : Cells} : ∀ {ts : List Tm} {ds : List D}, IsTL p c ts ds → IsTL p c ts.reverse ds.reverse
  | [], [], _ => trivial
  | t :: ts, d :: ds, h => by
    rw [List.reverse_cons, List.reverse_cons]
    exact (IsTL.rev h.2).snoc h.1
  | _ :: _, [], h => h.elim
  | [], _ :: _, h => h.elim
theorem okL_app : ∀ {ts us : List Tm}, okL ts → okL us → okL (ts ++ us)
  | [], _, _, h => h
  | _ :: ts, _, h, q => ⟨h.1, okL_app h.2 q⟩
theorem okL_rev : ∀ {ts : List Tm}, okL ts → okL ts.reverse
  | [], _ => trivial
  | t :: ts, h => by
    rw [List.reverse_cons]
    exact okL_snoc (okL_rev h.2) h.1
theorem depL_app : ∀ {ts us : List Tm} {k : Nat}, depL ts ≤ k → depL us ≤ k → depL (ts ++ us) ≤ k
  | [], _, _, _, h => h
  | a :: ts, us, k, h, q => by
    have h1 : max a.dep (depL ts) ≤ k := h
    have := depL_app (ts := ts) (us := us) (k := k) (by omega) q
    show max a.dep (depL (ts ++ us)) ≤ k
    omega
theorem depL_rev : ∀ {ts : List Tm} {k : Nat}, depL ts ≤ k → depL ts.reverse ≤ k
  | [], _, h => h
  | t :: ts, k, h => by
    have h1 : max t.dep (depL ts) ≤ k := h
    rw [List.reverse_cons]
    exact depL_snoc (depL_rev (by omega)) (by omega)
theorem IsTL.take {p : Nat} {c : Cells} : ∀ {ts : List Tm} {ds : List D} (n : Nat), IsTL p c ts ds → IsTL p c (ts.take n) (ds.take n)
  | [], [], n, _ => by simp [IsTL]
  | _ :: _, _ :: _, 0, _ => trivial
  | _ :: ts, _ :: ds, n + 1, h => ⟨h.1, IsTL.take n h.2⟩
  | _ :: _, [], _, h => h.elim
  | [], _ :: _, _, h => h.elim
theorem IsTL.drop {p : Nat} {c : Cells} : ∀ {ts : List Tm} {ds : List D} (n : Nat), IsTL p c ts ds → IsTL p c (ts.drop n) (ds.drop n)
  | [], [], n, _ => by simp [IsTL]
  | _ :: _, _ :: _, 0, h => h
  | _ :: ts, _ :: ds, n + 1, h => IsTL.drop n h.2
  | _ :: _, [], _, h => h.elim
  | [], _ :: _, _, h => h.elim
theorem okL_take : ∀ {ts : List Tm} (n : Nat), okL ts → okL (ts.take n)
  | [], n, _ => by simp [okL]
  | _ :: _, 0, _ => trivial
  | _ :: ts, n + 1, h => ⟨h.1, okL_take n h.2⟩
theorem okL_drop : ∀ {ts : List Tm} (n : Nat), okL ts → okL (ts.drop n)
  | [], n, _ => by simp [okL]
  | _ :: _, 0, h => h
  | _ :: ts, n + 1, h => okL_drop n h.2
theorem depL_take : ∀ {ts : List Tm} (n : Nat) {k : Nat}, depL ts ≤ k → depL (ts.take n) ≤ k
  | [], n, k, h => by simpa using h
  | _ :: _, 0, k, _ => Nat.zero_le _
  | a :: ts, n + 1, k, h => by
    have h1 : max a.dep (depL ts) ≤ k := h
    have := depL_take (ts := ts) n (k := k) (by omega)
    show max a.dep (depL (ts.take n)) ≤ k
    omega
theorem depL_drop : ∀ {ts : List Tm} (n : Nat) {k : Nat}, depL ts ≤ k → depL (ts.drop n) ≤ k
  | [], n, k, h => by simpa using h
  | _ :: _, 0, k, h => h
  | a :: ts, n + 1, k, h => by
    have h1 : max a.dep (depL ts) ≤ k := h
    exact depL_drop (ts := ts) n (by omega)
/-! slices -/
theorem sIxN {n m lo : Nat} (h : m ≤ n) : HT.sIx n lo (some (m : Int)) = m := by
  rw [HT.sIx_nat]
  omega
theorem cut_lo {ds : List D} {m : Nat} (h : m ≤ ds.length) : cutD ds none (some (m : Int)) = ds.take m := by
  unfold cutD
  rw [sIxN h]
  show (ds.drop 0).take (m - 0) = _
  simp
theorem cut_hi {ds : List D} {m : Nat} (h : m ≤ ds.length) : cutD ds (some (m : Int)) none = ds.drop m := by
  unfold cutD
  rw [sIxN h]
  show (ds.drop m).take (ds.length - m) = _
  rw [List.take_of_length_le (by simp)]
end K13
end
section
set_option Elab.async false
set_option linter.all false
set_option maxRecDepth 100000
set_option maxHeartbeats 1000000
namespace K13
open PySem PySem.Spec L2 Q
variable [Tb]
theorem stPar3 {i j l : Nat} {ma mb md : ME} {env : Q.Env} {c c1 c2 c3 : Cells} {x y z : D} (h : ma env c = .ok x c1) (h2 : mb env c1 = .ok y c2) (h3 : md env c2 = .ok z c3) : sPar3 i j l ma mb md env c = .ok (.nx (((env.set i (some x)).set j (some y)).set l (some z))) c3 := by
  unfold sPar3
  rw [h]
  show ((mb env c1).st env _) = _
  rw [h2]
  show ((md env c2).st env _) = _
  rw [h3]
  rfl
theorem ixC2 {q : Nat} {ds : List D} {c : Cells} {k : Nat} {d : D} (h : c[q]? = some (.lst, ds)) (e : ds[k]? = some d) : fIx (.cell q) (.int (k : Int)) c = some (d, c) := ixC h (atI_nat e)
theorem eSl {C : Bool} {m : ME} {ml mh : MO} {env : Q.Env} {c : Cells} {d z : D} {lo hi : Option Int} (h : m env c = .ok d c) (h1 : ml env c = .ok lo c) (h2 : mh env c = .ok hi c) (h3 : fSl C d lo hi c = some (z, c)) : mSl C m ml mh env c = .ok z c := by
  unfold mSl
  rw [h]
  show ((ml env c).bind fun lo c => (mh env c).bind fun hi c => (fSl C d lo hi c).r) = _
  rw [h1]
  show ((mh env c).bind fun hi c => (fSl C d lo hi c).r) = _
  rw [h2]
  show (fSl C d lo hi c).r = _
  rw [h3]
  rfl
theorem ePart {m : ME} {env : Q.Env} {c : Cells} {i : Int} (h : m env c = .ok (.int i) c) : mPart m env c = .ok (some i) c := by
  unfold mPart
  rw [h]
  rfl
theorem catL {xs ys : List D} {c : Cells} (h : xs.length + ys.length ≤ 1000) : fAdd (.lst xs) (.lst ys) c = some (.lst (xs ++ ys), c) := by
  have e : fCatL (.lst xs) (.lst ys) c = some (.lst (xs ++ ys), c) := if_pos (by rw [szl]; omega)
  unfold fAdd orO
  rw [show fAddI (.lst xs) (.lst ys) c = none from rfl]
  dsimp only
  rw [show fAddS (.lst xs) (.lst ys) c = none from rfl]
  dsimp only
  rw [e]
theorem bent {p : Nat} : ∀ (n : Nat) (t : Tm) (d pls : D) (c : Cells), PotC p c → Pls pls → t.ok → t.dep < n → IsT p c t d →
    ∃ u d' c', F__law_bent n [.cell p, d, pls] c = .ok d' c' ∧ Nxt p c c' ∧ IsT p c' u d' ∧ u.ok ∧ u.dep ≤ t.dep + 1 ∧ ∀ r, r < c.length → IsT r c t d → IsT r c' u d'
  | 0, t, d, pls, c, _, _, _, h, _ => absurd h (Nat.not_lt_zero _)
  | n + 1, .pl s, d, pls, c, hp, hl, ho, hd, h => by
    have h : d = .tup [.str "place", .str s] := h
    subst h
    rw [F__law_bent]
    obtain ⟨s', c1, e1, hs', n1⟩ := pickPl hp hl
    obtain ⟨x, c2, e2', hx, n2⟩ := pick n1.pot (ds := [.tup [.str "place", .str s'], .tup [.str "end", .str "top"], .tup [.str "lesser", .lst [.tup [.str "place", .str s], .tup [.str "place", .str s]]], .tup [.str "place", .str s]]) (by simp) (by simp)
    have run := bodyR (n := 6) (k := m__law_bent (F__law_bent n)) (ds := [.cell p, .tup [.str "place", .str s], pls]) (c := c) (sqR (stIT (eT (e2 (ixT0 rfl) eC (eqS.trans (by rw [decide_eq_true rfl])))) (stR (eFn (eCons (eV rfl) (eCons (eLst (eCons (eTup (eCons eC (eCons (eFn (eCons (eV rfl) (eCons (eV rfl) eNil)) rfl e1) eNil))) (eCons (eTup (eCons eC (eCons eC eNil))) (eCons (eTup (eCons eC (eCons (eLst (eCons (eV rfl) (eCons (eV rfl) eNil))) eNil))) (eCons (eV rfl) eNil))))) eNil)) rfl e2'))))
    have n12 := n1.trans n2
    simp only [List.mem_cons, List.not_mem_nil, or_false] at hx
    rcases hx with rfl | rfl | rfl | rfl
    · exact ⟨.pl s', _, c2, run, n12, rfl, hs', Nat.zero_le _, fun _ _ _ => rfl⟩
    · exact ⟨.en "top", _, c2, run, n12, rfl, .inr rfl, Nat.zero_le _, fun _ _ _ => rfl⟩
    · exact ⟨.nd false [.pl s, .pl s], _, c2, run, n12, ⟨_, _, rfl, rfl, by simp, rfl, rfl, trivial⟩, ⟨.inl rfl, ho, ho, trivial⟩, by show 1 + max 0 (max 0 0) ≤ 0 + 1; omega, fun _ _ _ => ⟨_, _, rfl, rfl, by simp, rfl, rfl, trivial⟩⟩
    · exact ⟨.pl s, _, c2, run, n12, rfl, ho, Nat.zero_le _, fun _ _ _ => rfl⟩
  | n + 1, .en s, d, pls, c, hp, hl, ho, hd, h => by
    have h : d = .tup [.str "end", .str s] := h
    subst h
    rw [F__law_bent]
    have n1 : decide (("end" : Str) = "place") = false := by decide +kernel
    obtain ⟨s', hs', hk⟩ : ∃ s' : Str, (s' = "bottom" ∨ s' = "top") ∧ lookD [.inr "bottom", .inr "top"] [.str "top", .str "bottom"] (.inr s) = some (.str s') := by
      rcases ho with rfl | rfl
      · exact ⟨"top", .inr rfl, rfl⟩
      · exact ⟨"bottom", .inl rfl, rfl⟩
    exact ⟨.en s', .tup [.str "end", .str s'], c, bodyR (sqN (stIF (eT (e2 (ixT0 rfl) eC (eqS.trans (by rw [n1])))) rfl) (sqR (stIT (eT (e2 (ixT0 rfl) eC (eqS.trans (by rw [decide_eq_true rfl])))) (stR (eTup (eCons eC (eCons (e2 (eDict (kk := [.inr "bottom", .inr "top"]) (ePc eC eC (ePc eC eC ePn)) rfl (by decide +kernel) (by decide)) (ixT1 rfl) (dixW hk)) eNil))))))), Nxt.refl hp, rfl, hs', Nat.zero_le _, fun _ _ _ => rfl⟩
  | n + 1, .nd g ts, d, pls, c, hp, hl, ho, hd, h => by
    have h0 := h
    obtain ⟨l, ds, h1, h2, h3, h4⟩ : ∃ l ds, d = .tup [.str (wrd g), l] ∧ view c l = some (.lst, ds) ∧ l ≠ .cell p ∧ IsTL p c ts ds := h
    subst h1
    obtain ⟨hw, hok⟩ : (ts.length = 2 ∨ ts.length = 3 ∨ ts.length = 4 ∨ ts.length = 8) ∧ okL ts := ho
    have hl' := h4.len
    have hdl : depL ts < n := by
      have : 1 + depL ts < n + 1 := hd
      omega
    rw [F__law_bent]
    have w1 : decide (wrd g = "place") = false := by cases g <;> decide +kernel
    have w2 : decide (wrd g = "end") = false := by cases g <;> decide +kernel
    have sv : ∀ cc : Cells, view cc l = some (.lst, ds) → seqView cc l = some ds := fun cc e => by
      unfold seqView
      rw [e]
    obtain ⟨w, c1, e1, w0, w6, n1⟩ := drawE hp (env := [some (.cell p), some (.tup [.str (wrd g), l]), some pls, none, none, none]) rfl (n := 6) (by omega) (by omega)
    have v1 := view_keep n1 h2 h3
    have lx : ∀ cc : Cells, view cc l = some (.lst, ds) → bLen [l] cc = some (.int (ds.length : Nat), cc) := fun cc e => by
      have : bLen [l] cc = (seqView cc l).map fun ds => (.int ds.length, cc) := by
        cases l with
        | str y => cases e
        | _ => rfl
      rw [this, sv cc e]
      rfl
    obtain ⟨a, c2, e2', a0, a1, n2⟩ := draw n1.pot (n := (ds.length : Nat)) (by omega) (by omega)
    obtain ⟨k, rfl⟩ := Int.eq_ofNat_of_zero_le a0
    have hk : k < ds.length := by omega
    have n12 := n1.trans n2
    have v2 := view_keep n12 h2 h3
    have e3 : bList true [l] c2 = some (.cell c2.length, c2 ++ [(.lst, ds)]) := by
      show (seqView c2 l).map _ = _
      rw [sv c2 v2]
      rfl
    obtain ⟨q, hq⟩ : ∃ q, q = c2.length := ⟨_, rfl⟩
    obtain ⟨c3, hc3⟩ : ∃ c3, c3 = c2 ++ [((.lst, ds) : Cl)] := ⟨_, rfl⟩
    rw [← hc3, ← hq] at e3
    have n3 : Nxt p c c3 := by rw [hc3]; exact n12.trans (Nxt.app n12.pot _)
    have cq : c3[q]? = some (.lst, ds) := by rw [hc3, hq]; exact get_last
    have hpq : p ≠ q := by rw [hq]; exact Nat.ne_of_lt (Nat.lt_of_lt_of_le hp.lt n12.len)
    have T3 := IsTL.nx n3 ts ds h4
    have par : sPar3 3 4 5 (mFn F__law_draw 2 (mCons (mVar 0) (mCons (mC (.int 6)) mNil))) (mFn F__law_draw 2 (mCons (mVar 0) (mCons (mCall bLen (mCons (m2 fIx (mVar 1) (mC (.int 1))) mNil)) mNil))) (mCall (bList true) (mCons (m2 fIx (mVar 1) (mC (.int 1))) mNil)) [some (.cell p), some (.tup [.str (wrd g), l]), some pls, none, none, none] c = .ok (.nx [some (.cell p), some (.tup [.str (wrd g), l]), some pls, some (.int w), some (.int (k : Int)), some (.cell q)]) c3 :=
      stPar3 e1 (eFn (eCons (eV rfl) (eCons (eCall (eCons (ixT1 rfl) eNil) (lx c1 v1)) eNil)) rfl e2') (eCall (eCons (ixT1 rfl) eNil) e3)
    have t0 : mT (m2 fEq (m2 fIx (mVar 1) (mC (.int 0))) (mC (.str "place"))) [some (.cell p), some (.tup [.str (wrd g), l]), some pls, none, none, none] c = .ok false c := eT (e2 (ixT0 rfl) eC (eqS.trans (by rw [w1])))
    have t1 : mT (m2 fEq (m2 fIx (mVar 1) (mC (.int 0))) (mC (.str "end"))) [some (.cell p), some (.tup [.str (wrd g), l]), some pls, none, none, none] c = .ok false c := eT (e2 (ixT0 rfl) eC (eqS.trans (by rw [w2])))
    have mem : ∀ r, r < c.length → IsT r c (.nd g ts) (.tup [.str (wrd g), l]) → IsTL r c ts ds ∧ r ≠ q := fun r hr hT => by
      obtain ⟨l', ds', e, h2', _, h4'⟩ : ∃ l' ds', D.tup [.str (wrd g), l] = .tup [.str (wrd g), l'] ∧ view c l' = some (.lst, ds') ∧ l' ≠ .cell r ∧ IsTL r c ts ds' := hT
      cases e
      rw [h2] at h2'
      cases h2'
      exact ⟨h4', by have := n12.len; omega⟩
    by_cases hw3 : w < 3
    · obtain ⟨t1', ht1, hT1⟩ := T3.get (List.getElem?_eq_getElem hk)
      have ix := ixC2 cq (List.getElem?_eq_getElem hk)
      obtain ⟨u, d', c4, e4, n4, hu, hou, hdu, hfar⟩ := bent n t1' ds[k] pls c3 n3.pot hl (okL_get hok ht1) (Nat.lt_of_le_of_lt (depL_get ht1) hdl) hT1
      have cq4 : c4[q]? = some (.lst, ds) := by
        rw [n4.old q (List.getElem?_eq_some_iff.mp cq).1 (Ne.symm hpq)]
        exact cq
      obtain ⟨c5, hc5⟩ : ∃ c5, c5 = c4.set q (.lst, ds.set k d') := ⟨_, rfl⟩
      have asg : gIx (mVar 5) (mVar 4) d' [some (.cell p), some (.tup [.str (wrd g), l]), some pls, some (.int w), some (.int (k : Int)), some (.cell q)] c4 = some ([some (.cell p), some (.tup [.str (wrd g), l]), some pls, some (.int w), some (.int (k : Int)), some (.cell q)], c5) := by
        unfold gIx
        show (match c4[q]? with
          | some (.lst, xs) => (ixN xs.length (k : Int)).bind fun j => if j < xs.length then some (_, c4.set q (.lst, xs.set j d')) else none
          | _ => none) = _
        rw [cq4]
        dsimp only
        have ixn : ixN ds.length (k : Int) = some k := by
          have := atI_nat (xs := List.range ds.length) (j := k) (by rw [List.getElem?_range hk])
          unfold atI at this
          rw [List.length_range] at this
          cases hz : ixN ds.length (k : Int) with
          | none => rw [hz] at this; cases this
          | some z =>
            rw [hz] at this
            have h5 : (List.range ds.length)[z]? = some k := this
            have := List.getElem?_eq_some_iff.mp h5
            obtain ⟨h6, h7⟩ := this
            rw [List.getElem_range] at h7
            rw [h7]
        rw [ixn]
        show (if k < ds.length then some (_, c4.set q (.lst, ds.set k d')) else none) = _
        rw [if_pos hk, hc5]
      have farq : IsTL q c ts ds := IsTL.far (by have := n12.len; omega) ts ds h4
      have q3 : q < c3.length := (List.getElem?_eq_some_iff.mp cq).1
      have farq3 : IsTL q c3 ts ds := IsTL.both n3 ts ds h4 farq
      have hut : IsT q c4 u d' := by
        obtain ⟨t2, ht2, hT2⟩ := farq3.get (List.getElem?_eq_getElem hk)
        have et : t2 = t1' := by
          rw [ht1] at ht2
          cases ht2
          rfl
        rw [et] at hT2
        exact hfar q q3 hT2
      have pot5 : PotC p c5 := by
        obtain ⟨a, b, e, r⟩ := n4.pot
        exact ⟨a, b, by rw [hc5, List.getElem?_set_ne (Ne.symm hpq)]; exact e, r⟩
      have n34 := n3.trans n4
      have n5 : Nxt p c c5 := ⟨pot5, by rw [hc5]; simp [n34.len], fun r hr hn => by
        rw [hc5, List.getElem?_set_ne (by have := n12.len; omega)]
        exact n34.old r hr hn⟩
      have vq : view c5 (.cell q) = some (.lst, ds.set k d') := by
        show c5[q]? = _
        rw [hc5]
        exact List.getElem?_set_self (List.getElem?_eq_some_iff.mp cq4).1
      have TL4 := IsTL.nx n4 ts ds T3
      have TLq4 := IsTL.both n4 ts ds T3 farq3
      refine ⟨.nd g (ts.set k u), .tup [.str (wrd g), .cell q], c5, bodyR (sqN (stIF t0 rfl) (sqN (stIF t1 rfl) (sqN par (sqR (stIT (eT (e2 (eV rfl) eC (ltI.trans (by rw [decide_eq_true hw3])))) (sqN (stAsg (eFn (eCons (eV rfl) (eCons (e2 (eV rfl) (eV rfl) ix) (eCons (eV rfl) eNil))) rfl e4) asg) (stR (eTup (eCons (ixT0 rfl) (eCons (eV rfl) eNil)))))))))), n5, ⟨.cell q, ds.set k d', rfl, vq, fun z => hpq (by cases z; rfl), ?_⟩, ⟨by rw [List.length_set]; exact hw, okL_set k hok hou⟩, ?_, fun r hr hT => ?_⟩
      · rw [hc5]
        exact (IsTL.chg ts ds TL4 TLq4).set k (IsT.chg u d' hu hut)
      · have := depL_get ht1
        have := depL_set (ts := ts) k (t := u) (k := depL ts + 1) (by omega) (by omega)
        show 1 + depL (ts.set k u) ≤ 1 + depL ts + 1
        omega
      · obtain ⟨hr1, hrq⟩ := mem r hr hT
        have r3 : IsTL r c3 ts ds := IsTL.both n3 ts ds h4 hr1
        have r4 : IsTL r c4 ts ds := IsTL.both n4 ts ds T3 r3
        have ru : IsT r c4 u d' := by
          obtain ⟨t2, ht2, hT2⟩ := r3.get (List.getElem?_eq_getElem hk)
          have et : t2 = t1' := by
            rw [ht1] at ht2
            cases ht2
            rfl
          rw [et] at hT2
          exact hfar r (Nat.lt_of_lt_of_le hr n3.len) hT2
        refine ⟨.cell q, ds.set k d', rfl, vq, fun z => hrq (by cases z; rfl), ?_⟩
        rw [hc5]
        exact (IsTL.chg ts ds r4 TLq4).set k (IsT.chg u d' ru hut)
    · have f3 : mT (m2 fLt (mVar 3) (mC (.int 3))) [some (.cell p), some (.tup [.str (wrd g), l]), some pls, some (.int w), some (.int (k : Int)), some (.cell q)] c3 = .ok false c3 := eT (e2 (eV rfl) eC (ltI.trans (by rw [decide_eq_false hw3])))
      have far3 : ∀ r, r < c.length → IsT r c (.nd g ts) (.tup [.str (wrd g), l]) → IsTL r c3 ts ds ∧ r ≠ q := fun r hr hT => by
        obtain ⟨hr1, hrq⟩ := mem r hr hT
        exact ⟨IsTL.both n3 ts ds h4 hr1, hrq⟩
      have vq : view c3 (.cell q) = some (.lst, ds) := cq
      by_cases h3' : w = 3
      · have tst : mT (m2 fEq (mVar 3) (mC (.int 3))) [some (.cell p), some (.tup [.str (wrd g), l]), some pls, some (.int w), some (.int (k : Int)), some (.cell q)] c3 = .ok true c3 := eT (e2 (eV rfl) eC (eqI.trans (by rw [decide_eq_true h3'])))
        have fl : lookD [.inr "lesser", .inr "greater"] [.str "greater", .str "lesser"] (.inr (wrd g)) = some (.str (wrd (!g))) := by cases g <;> rfl
        refine ⟨.nd (!g) ts, .tup [.str (wrd (!g)), .cell q], c3, bodyR (sqN (stIF t0 rfl) (sqN (stIF t1 rfl) (sqN par (sqN (stIF f3 rfl) (sqR (stIT tst (stR (eTup (eCons (e2 (eDict (kk := [.inr "lesser", .inr "greater"]) (ePc eC eC (ePc eC eC ePn)) rfl (by decide +kernel) (by decide)) (ixT0 rfl) (dixW fl)) (eCons (eV rfl) eNil)))))))))), n3, ⟨.cell q, ds, rfl, vq, fun z => hpq (by cases z; rfl), T3⟩, ⟨hw, hok⟩, Nat.le_succ _, fun r hr hT => ?_⟩
        obtain ⟨r3, hrq⟩ := far3 r hr hT
        exact ⟨.cell q, ds, rfl, vq, fun z => hrq (by cases z; rfl), r3⟩
      · have tst : mT (m2 fEq (mVar 3) (mC (.int 3))) [some (.cell p), some (.tup [.str (wrd g), l]), some pls, some (.int w), some (.int (k : Int)), some (.cell q)] c3 = .ok false c3 := eT (e2 (eV rfl) eC (eqI.trans (by rw [decide_eq_false h3'])))
        have lq : bLen [.cell q] c3 = some (.int (ds.length : Nat), c3) := by
          show (seqView c3 (.cell q)).map (fun ds => (D.int ds.length, c3)) = _
          unfold seqView
          rw [vq]
          rfl
        by_cases h44 : w = 4 ∧ (ds.length : Int) < 4
        · have tst4 : mAndT (mT (m2 fEq (mVar 3) (mC (.int 4)))) (mT (m2 fLt (mCall bLen (mCons (mVar 5) mNil)) (mC (.int 4)))) [some (.cell p), some (.tup [.str (wrd g), l]), some pls, some (.int w), some (.int (k : Int)), some (.cell q)] c3 = .ok true c3 :=
            eAndT (eT (e2 (eV rfl) eC (eqI.trans (by rw [decide_eq_true h44.1])))) (eT (e2 (eCall (eCons (eV rfl) eNil) lq) eC (ltI.trans (by rw [decide_eq_true h44.2]))))
          have s1 : fSl false (.cell q) none (some (k : Int)) c3 = some (.lst (ds.take k), c3) := by
            unfold fSl
            rw [vq]
            dsimp only
            rw [cut_lo (Nat.le_of_lt hk)]
            rfl
          have s2 : fSl false (.cell q) (some (k : Int)) none c3 = some (.lst (ds.drop k), c3) := by
            unfold fSl
            rw [vq]
            dsimp only
            rw [cut_hi (Nat.le_of_lt hk)]
            rfl
          obtain ⟨t1', ht1, hT1⟩ := T3.get (List.getElem?_eq_getElem hk)
          have ix := ixC2 cq (List.getElem?_eq_getElem hk)
          have ln : (ts.take k ++ [t1'] ++ ts.drop k).length = ts.length + 1 := by
            simp only [List.length_append, List.length_take, List.length_drop, List.length_cons, List.length_nil]
            omega
          have build : ∀ r, IsTL r c3 ts ds → IsTL r c3 (ts.take k ++ [t1'] ++ ts.drop k) (ds.take k ++ [ds[k]] ++ ds.drop k) := fun r hr => by
            obtain ⟨t2, ht2, hT2⟩ := hr.get (List.getElem?_eq_getElem hk)
            have et : t2 = t1' := by
              rw [ht1] at ht2
              cases ht2
              rfl
            rw [et] at hT2
            exact ((hr.take k).snoc hT2).app (hr.drop k)
          have o1 := okL_get hok ht1
          have d1 := depL_get ht1
          refine ⟨.nd g (ts.take k ++ [t1'] ++ ts.drop k), .tup [.str (wrd g), .lst (ds.take k ++ [ds[k]] ++ ds.drop k)], c3, bodyR (sqN (stIF t0 rfl) (sqN (stIF t1 rfl) (sqN par (sqN (stIF f3 rfl) (sqN (stIF tst rfl) (sqR (stIT tst4 (stR (eTup (eCons (ixT0 rfl) (eCons (e2 (e2 (eSl (eV rfl) rfl (ePart (eV rfl)) s1) (eLst (eCons (e2 (eV rfl) (eV rfl) ix) eNil)) (catL (by simp; omega))) (eSl (eV rfl) (ePart (eV rfl)) rfl s2) (catL (by simp; omega))) eNil))))))))))), n3, ⟨_, _, rfl, rfl, by simp, build p T3⟩, ⟨by rw [ln]; omega, okL_app (okL_snoc (okL_take k hok) o1) (okL_drop k hok)⟩, ?_, fun r hr hT => ⟨_, _, rfl, rfl, by simp, build r (far3 r hr hT).1⟩⟩
          have := depL_app (ts := ts.take k ++ [t1']) (us := ts.drop k) (k := depL ts) (depL_snoc (depL_take k (Nat.le_refl _)) d1) (depL_drop k (Nat.le_refl _))
          show 1 + depL (ts.take k ++ [t1'] ++ ts.drop k) ≤ 1 + depL ts + 1
          omega
        · have tst4 : mAndT (mT (m2 fEq (mVar 3) (mC (.int 4)))) (mT (m2 fLt (mCall bLen (mCons (mVar 5) mNil)) (mC (.int 4)))) [some (.cell p), some (.tup [.str (wrd g), l]), some pls, some (.int w), some (.int (k : Int)), some (.cell q)] c3 = .ok false c3 := by
            by_cases w4 : w = 4
            · exact eAndT (eT (e2 (eV rfl) eC (eqI.trans (by rw [decide_eq_true w4])))) (eT (e2 (eCall (eCons (eV rfl) eNil) lq) eC (ltI.trans (by rw [decide_eq_false fun z => h44 ⟨w4, z⟩]))))
            · exact eAndF (eT (e2 (eV rfl) eC (eqI.trans (by rw [decide_eq_false w4]))))
          have rv : fRev (.cell q) c3 = some (.lst ds.reverse, c3) := by
            unfold fRev
            rw [vq]
          refine ⟨.nd g ts.reverse, .tup [.str (wrd g), .lst ds.reverse], c3, bodyR (sqN (stIF t0 rfl) (sqN (stIF t1 rfl) (sqN par (sqN (stIF f3 rfl) (sqN (stIF tst rfl) (sqN (stIF tst4 rfl) (stR (eTup (eCons (ixT0 rfl) (eCons (e1' (eV rfl) rv) eNil)))))))))), n3, ⟨_, _, rfl, rfl, by simp, T3.rev⟩, ⟨by rw [List.length_reverse]; exact hw, okL_rev hok⟩, ?_, fun r hr hT => ⟨_, _, rfl, rfl, by simp, (far3 r hr hT).1.rev⟩⟩
          have := depL_rev (ts := ts) (k := depL ts) (Nat.le_refl _)
          show 1 + depL ts.reverse ≤ 1 + depL ts + 1
          omega
end K13
end
section
set_option Elab.async false
set_option linter.all false
set_option maxRecDepth 100000
set_option maxHeartbeats 1000000
namespace K13
open PySem PySem.Spec L2 Q
variable [Tb]
mutual
theorem sym : ∀ t u : Tm, tmEq t u = tmEq u t
  | .pl s, .pl r => by rw [tmEq, tmEq]; exact decide_eq_decide.mpr ⟨Eq.symm, Eq.symm⟩
  | .en s, .en r => by rw [tmEq, tmEq]; exact decide_eq_decide.mpr ⟨Eq.symm, Eq.symm⟩
  | .nd g ts, .nd g' us => by
    rw [tmEq, tmEq, symL ts us]
    congr 1
    exact decide_eq_decide.mpr ⟨Eq.symm, Eq.symm⟩
  | .pl s, .en r => by simp [tmEq]
  | .en s, .pl r => by simp [tmEq]
  | .pl s, .nd g us => by simp [tmEq]
  | .en s, .nd g us => by simp [tmEq]
  | .nd g us, .pl s => by simp [tmEq]
  | .nd g us, .en s => by simp [tmEq]
theorem symL : ∀ ts us : List Tm, tmEqL ts us = tmEqL us ts
  | [], [] => rfl
  | t :: ts, u :: us => by rw [tmEqL, tmEqL, sym t u, symL ts us]
  | [], u :: us => by simp [tmEqL]
  | t :: ts, [] => by simp [tmEqL]
end
mutual
theorem tmRefl : ∀ t : Tm, tmEq t t = true
  | .pl s => by rw [tmEq]; exact decide_eq_true rfl
  | .en s => by rw [tmEq]; exact decide_eq_true rfl
  | .nd g ts => by rw [tmEq, tmReflL ts, decide_eq_true rfl]; rfl
theorem tmReflL : ∀ ts : List Tm, tmEqL ts ts = true
  | [] => by rw [tmEqL]
  | t :: ts => by rw [tmEqL, tmRefl t, tmReflL ts]; rfl
end
/-! ### printed bools -/
theorem reprB (b : Bool) (c : Cells) : ∃ s, bRepr [.lst [.bl b, .bl b, .bl (!b)]] c = some (.str s, c) := by
  cases b
  · exact ⟨_, rfl⟩
  · exact ⟨_, rfl⟩
/-! ### & and | -/
noncomputable abbrev andT : List (Str × FD) := [("Place", F_Place_and), ("End", F_End_and), ("Lesser", F_Lesser_and), ("Greater", F_Greater_and)]
noncomputable abbrev orT : List (Str × FD) := [("Place", F_Place_or), ("End", F_End_or), ("Lesser", F_Lesser_or), ("Greater", F_Greater_or)]
theorem binF {c : Cells} {t u : Tm} {x y : D} (g : Bool) (hx : IsO c t x) (hy : IsO c u y) : bodyF 2 (sRet (mMk (cls g) (if g then F_Greater_init else F_Lesser_init) (mCons (mVar 0) (mCons (mVar 1) mNil)))) [x, y] c = .ok (.cell c.length) (c ++ [(.obj (cls g) ["_parts", "_depth"], [.tup [x, y], .int ((1 + depL [t, u] : Nat) : Int)])]) :=
  bodyR (stR (mkL (g := g) (ts := [t, u]) (ds := [x, y]) (show IsOL c [t, u] [x, y] from ⟨hx, hy, trivial⟩) (by simp) (by simp) (eCons (eV rfl) (eCons (eV rfl) eNil))))
theorem binO {c : Cells} {t u : Tm} {x y : D} (hx : IsO c t x) (hy : IsO c u y) (g : Bool) : fBinO (if g then orT else andT) allC x y c = some (.cell c.length, c ++ [(.obj (cls g) ["_parts", "_depth"], [.tup [x, y], .int ((1 + depL [t, u] : Nat) : Int)])]) := by
  obtain ⟨ks, ds, hv⟩ := hx.view
  obtain ⟨ks', ds', hv'⟩ := hy.view
  obtain ⟨F, hF, e⟩ : ∃ F, (if g then orT else andT).lookup (tmCls t) = some F ∧ F [x, y] c = .ok (.cell c.length) (c ++ [(.obj (cls g) ["_parts", "_depth"], [.tup [x, y], .int ((1 + depL [t, u] : Nat) : Int)])]) := by
    cases g with
    | false =>
      cases t with
      | pl s => exact ⟨_, rfl, argR rfl (binF false hx hy)⟩
      | en s => exact ⟨_, rfl, argR rfl (binF false hx hy)⟩
      | nd g' ts => cases g' <;> exact ⟨_, rfl, argR rfl (binF false hx hy)⟩
    | true =>
      cases t with
      | pl s => exact ⟨_, rfl, argR rfl (binF true hx hy)⟩
      | en s => exact ⟨_, rfl, argR rfl (binF true hx hy)⟩
      | nd g' ts => cases g' <;> exact ⟨_, rfl, argR rfl (binF true hx hy)⟩
  unfold fBinO
  rw [hv, hv']
  dsimp only
  rw [hF]
  dsimp only
  rw [if_pos (memC u), e]
theorem newO {c : Cells} {t u : Tm} {x y : D} (g : Bool) (hx : IsO c t x) (hy : IsO c u y) : IsO (c ++ [(.obj (cls g) ["_parts", "_depth"], [.tup [x, y], .int ((1 + depL [t, u] : Nat) : Int)])]) (.nd g [t, u]) (.cell c.length) :=
  ⟨c.length, [x, y], rfl, get_last, keepO (fun e => app_keep e) t x hx, keepO (fun e => app_keep e) u y hy, trivial⟩
theorem two_ok {g : Bool} {t u : Tm} (h : t.ok) (h' : u.ok) : (Tm.nd g [t, u]).ok := ⟨.inl rfl, h, h', trivial⟩
theorem two_dep {g : Bool} {t u : Tm} {k : Nat} (h : t.dep ≤ k) (h' : u.dep ≤ k) : (Tm.nd g [t, u]).dep ≤ k + 1 := by
  show 1 + max t.dep (max u.dep 0) ≤ k + 1
  omega
/-! ### two texts beside two texts -/
abbrev SO (x : Str) : Prop := PyData.strOk x = true
theorem okApp {x y : Str} (h : SO x) (h' : SO y) : SO (x ++ y) := by
  show (x.cps ++ y.cps).all (· < 0x110000) = true
  rw [Array.all_append]
  rw [Bool.and_eq_true]
  exact ⟨h, h'⟩
theorem okFold {g : Array Nat} (hg : g.all (· < 0x110000) = true) : ∀ (ys : List Str) (a : Array Nat), a.all (· < 0x110000) = true → (∀ y ∈ ys, SO y) → (ys.foldl (fun acc p => acc ++ g ++ p.cps) a).all (· < 0x110000) = true
  | [], a, h, _ => h
  | y :: ys, a, h, hy => by
    rw [List.foldl_cons]
    refine okFold hg ys _ ?_ fun z hz => hy z (List.mem_cons_of_mem _ hz)
    rw [Array.all_append, Array.all_append, h, hg]
    exact hy y List.mem_cons_self
theorem okJoin {sep : Str} (hs : SO sep) {ys : List Str} (h : ∀ y ∈ ys, SO y) : SO (Txt.join sep ys) := by
  cases ys with
  | nil =>
    show (Str.empty.cps).all (· < 0x110000) = true
    decide +kernel
  | cons y ys => exact okFold hs ys y.cps (h y List.mem_cons_self) fun z hz => h z (List.mem_cons_of_mem _ hz)
theorem okLits : SO "(" ∧ SO ")" ∧ SO ", " ∧ SO "('" ∧ SO "')" ∧ SO "Place" ∧ SO "End" ∧ (∀ g, SO (sepT g)) ∧ (∀ g, SO (cls g)) ∧ (∀ s ∈ plNames, SO s) ∧ SO "bottom" ∧ SO "top" := by decide +kernel
theorem okPl {s : Str} (h : s ∈ plNames) : SO s := okLits.2.2.2.2.2.2.2.2.2.1 s h
theorem okEn {s : Str} (h : s = "bottom" ∨ s = "top") : SO s := by
  rcases h with rfl | rfl
  · exact okLits.2.2.2.2.2.2.2.2.2.2.1
  · exact okLits.2.2.2.2.2.2.2.2.2.2.2
mutual
theorem okTxt : ∀ t : Tm, t.ok → SO (txt t)
  | .pl s, h => by rw [txt]; exact okPl h
  | .en s, h => by rw [txt]; exact okEn h
  | .nd g ts, h => by
    rw [txt]
    exact okJoin (okLits.2.2.2.2.2.2.2.1 g) (okTxtL ts h.2)
theorem okTxtL : ∀ ts : List Tm, okL ts → ∀ y ∈ txtL ts, SO y
  | [], _, y, h => by rw [txtL] at h; simp at h
  | t :: ts, h, y, hy => by
    rw [txtL_map, List.map_cons, ← txtL_map] at hy
    rcases List.mem_cons.mp hy with e | e
    · have k := okTxt t h.1
      rw [e]
      cases t with
      | pl s => rw [txt] at k; exact k
      | en s => rw [txt] at k; exact k
      | nd g us => exact okApp (okApp okLits.1 k) okLits.2.1
    · exact okTxtL ts h.2 y e
end
mutual
theorem okWrt : ∀ t : Tm, t.ok → SO (wrt t)
  | .pl s, h => by rw [wrt]; exact okApp (okApp (okApp okLits.2.2.2.2.2.1 okLits.2.2.2.1) (okPl h)) okLits.2.2.2.2.1
  | .en s, h => by rw [wrt]; exact okApp (okApp (okApp okLits.2.2.2.2.2.2.1 okLits.2.2.2.1) (okEn h)) okLits.2.2.2.2.1
  | .nd g ts, h => by
    rw [wrt]
    exact okApp (okApp (okApp (okLits.2.2.2.2.2.2.2.2.1 g) okLits.1) (okJoin okLits.2.2.1 (okWrtL ts h.2))) okLits.2.1
theorem okWrtL : ∀ ts : List Tm, okL ts → ∀ y ∈ wrtL ts, SO y
  | [], _, y, h => by rw [wrtL] at h; simp at h
  | t :: ts, h, y, hy => by
    rw [wrtL] at hy
    rcases List.mem_cons.mp hy with e | e
    · rw [e]
      exact okWrt t h.1
    · exact okWrtL ts h.2 y e
end
theorem two {a b : Str} (ha : SO a) (hb : SO b) (c : Cells) : fNe (.lst [.str a, .str b]) (.lst [.str a, .str b]) c = some (.bl false, c) ∧ fEq (.lst [.str a, .str b]) (.lst [.str a, .str b]) c = some (.bl true, c) := by
  have cl : PyData.canLay0 (.list [.str a, .str b]) = true := by
    simp only [PyData.canLay0, PyData.canLayAll0, Bool.and_true, Bool.and_eq_true]
    exact ⟨ha, hb⟩
  have sh : SeqAt.shaped (.list [.str a, .str b]) = true := by
    unfold SeqAt.shaped
    rw [Bool.and_eq_true]
    refine ⟨cl, decide_eq_true ?_⟩
    simp [PyData.depth, PyData.depthAll]
  have ev : PyData.eqv (.list [.str a, .str b]) (.list [.str a, .str b]) = true := SeqAt.eqv_refl _ cl
  have e1 : pyd c (.lst [.str a, .str b]) = some (.list [.str a, .str b]) := rfl
  have k : ∀ neg : Bool, fEqP neg (.lst [.str a, .str b]) (.lst [.str a, .str b]) c = some (.bl (if neg then !true else true), c) := fun neg => by
    unfold fEqP
    rw [e1]
    dsimp only
    rw [sh, ev]
    rfl
  exact ⟨k true, k false⟩
end K13
end
section
set_option Elab.async false
set_option linter.all false
set_option maxRecDepth 100000
set_option maxHeartbeats 1000000
namespace K13
open PySem PySem.Spec L2 Q
variable [Tb]
theorem stFor {m : ME} {g : MG} {k : MS} {env : Q.Env} {c c1 : Cells} {L : D} {t : Tg} {ds : List D} (Jn : Nat → Q.Env → Cells → Prop) (h : m env c = .ok L c1) (hv0 : view c1 L = some (t, ds)) (ht : sqTg t = true) (hv : ∀ i env c, Jn i env c → view c L = some (t, ds)) (h0 : Jn 0 env c1)
    (step : ∀ i x env c, ds[i]? = some x → Jn i env c → ∃ e1 c1, g x env c = some (e1, c1) ∧ ((∃ e2 c2, k e1 c1 = .ok (.nx e2) c2 ∧ Jn (i + 1) e2 c2))) : ∃ e2 c2, sFor (mWalk m) g k env c = .ok (.nx e2) c2 ∧ Jn ds.length e2 c2 := by
  have w : mWalk m env c = .ok (srcT t L (ds.length + 1)) c1 := eWalk h hv0 ht
  obtain ⟨e2, c2, q, J⟩ := for_inv (g := g) (k := k) (d := L) Jn hv step (ds.length + 1) 0 env c1 h0 (Nat.zero_le _) (by omega)
  refine ⟨e2, c2, ?_, J⟩
  unfold sFor
  rw [w]
  exact q
mutual
theorem keepQ {c c' : Cells} (k0 : ∀ {i : Nat} {C : Str} {ks : List Str} {ds : List D}, c[i]? = some (.obj C ks, ds) → c'[i]? = some (.obj C ks, ds)) : ∀ (t : Tm) (d : D), IsO c t d → IsO c' t d
  | .pl _, d, h => by
    obtain ⟨i, e, h⟩ := h
    exact ⟨i, e, k0 h⟩
  | .en _, d, h => by
    obtain ⟨i, e, h⟩ := h
    exact ⟨i, e, k0 h⟩
  | .nd g ts, d, h => by
    obtain ⟨i, ds, e, h, l⟩ := h
    exact ⟨i, ds, e, k0 h, keepQL k0 ts ds l⟩
theorem keepQL {c c' : Cells} (k0 : ∀ {i : Nat} {C : Str} {ks : List Str} {ds : List D}, c[i]? = some (.obj C ks, ds) → c'[i]? = some (.obj C ks, ds)) : ∀ (ts : List Tm) (ds : List D), IsOL c ts ds → IsOL c' ts ds
  | [], [], _ => trivial
  | t :: ts, d :: ds, h => ⟨keepQ k0 t d h.1, keepQL k0 ts ds h.2⟩
  | _ :: _, [], h => h.elim
  | [], _ :: _, h => h.elim
end
theorem setO {c : Cells} {q : Nat} {es fs : List D} (hq : c[q]? = some (.lst, es)) (t : Tm) (d : D) (h : IsO c t d) : IsO (c.set q (.lst, fs)) t d :=
  keepQ (fun {i C ks ds} e => by
    rw [List.getElem?_set_ne]
    · exact e
    · intro z
      rw [← z, hq] at e
      cases e) t d h
theorem appO {c l : Cells} {t : Tm} {d : D} (h : IsO c t d) : IsO (c ++ l) t d := keepO (fun e => app_keep e) t d h
/-- a model that avoids both cells -/
structure Md (p q : Nat) (c : Cells) (T : Tm) (M : D) : Prop where
  a : IsT p c T M
  b : IsT q c T M
theorem Md.app {p q : Nat} {c l : Cells} {T : Tm} {M : D} (hp : PotC p c) (h : Md p q c T M) : Md p q (c ++ l) T M := ⟨IsT.nx (Nxt.app hp l) T M h.a, IsT.both (Nxt.app hp l) T M h.a h.b⟩
theorem Md.set {p q : Nat} {c : Cells} {x : Cl} {T : Tm} {M : D} (h : Md p q c T M) : Md p q (c.set q x) T M := ⟨IsT.chg T M h.a h.b, IsT.chg T M h.b h.b⟩
theorem Md.mk2 {p q : Nat} {c : Cells} {T U : Tm} {M N : D} (g : Bool) (h : Md p q c T M) (h' : Md p q c U N) : Md p q c (.nd g [T, U]) (.tup [.str (wrd g), .lst [M, N]]) :=
  ⟨⟨_, _, rfl, rfl, by simp, h.a, h'.a, trivial⟩, ⟨_, _, rfl, rfl, by simp, h.b, h'.b, trivial⟩⟩
theorem appM {q : Nat} {c : Cells} {es : List D} {y : D} (h : c[q]? = some (.lst, es)) (hl : es.length < 100) : fAppend (.cell q) [y] c = some (.non, c.set q (.lst, es ++ [y])) := by
  unfold fAppend
  dsimp only
  rw [h]
  dsimp only
  rw [if_pos (by rw [szl]; omega)]
theorem tyC {q : Nat} {c : Cells} {es : List D} (h : c[q]? = some (.lst, es)) : isTy "list" c (.cell q) = true := by
  show (match view c (.cell q) with
    | some (.lst, _) => decide ("list" = "list")
    | some (.frl, _) => decide ("list" = "list")
    | some (.dic _, _) => decide ("list" = "dict")
    | _ => false) = true
  rw [show view c (.cell q) = some (.lst, es) from h]
  rfl
theorem setPot {p q : Nat} {c : Cells} {x : Cl} (hp : PotC p c) (h : p ≠ q) : PotC p (c.set q x) := by
  obtain ⟨a, b, e, r⟩ := hp
  exact ⟨a, b, by rw [List.getElem?_set_ne (Ne.symm h)]; exact e, r⟩
theorem setNxt {p q : Nat} {c c' : Cells} {x : Cl} (n : Nxt p c c') (h : p ≠ q) (hq : c.length ≤ q) : Nxt p c (c'.set q x) :=
  ⟨setPot n.pot h, by simp [n.len], fun r hr hn => by rw [List.getElem?_set_ne (by omega)]; exact n.old r hr hn⟩
abbrev obj2 (g : Bool) (t u : Tm) (x y : D) : Cl := (.obj (cls g) ["_parts", "_depth"], [.tup [x, y], .int ((1 + depL [t, u] : Nat) : Int)])
theorem signs {p : Nat} {c : Cells} {t u : Tm} {x d e : D} (hp : PotC p c) (ht : t.ok) (hu : u.ok) (dt : t.dep ≤ 3) (du : u.dep ≤ 3) (hx : IsO c t x) (hd : IsT p c t d) (he : IsT p c u e) : ∃ c', F__law_signs_right [x, d, e] c = .ok (.bl true) c' ∧ Nxt p c c' := by
  obtain ⟨y, c1, e1, n1, hy⟩ := real 12 u e c hp hu (by omega) he
  have x1 := IsO.nx hp n1 t x hx
  have d1 := IsT.nx n1 t d hd
  have u1 := IsT.nx n1 u e he
  -- the two first pairs
  have b1 := binO x1 hy false
  obtain ⟨c2, h2⟩ : ∃ c2, c2 = c1 ++ [obj2 false t u x y] := ⟨_, rfl⟩
  have o1 : IsO c2 (.nd false [t, u]) (.cell c1.length) := by rw [h2]; exact newO false x1 hy
  obtain ⟨c3, h3⟩ : ∃ c3, c3 = c2 ++ [((.lst, [d, e]) : Cl)] := ⟨_, rfl⟩
  have n3 : Nxt p c c3 := by rw [h3, h2]; exact (n1.trans (Nxt.app1 n1.pot _)).trans (Nxt.app1 (Nxt.app1 n1.pot _).pot _)
  have x3 : IsO c3 t x := by rw [h3, h2]; exact appO (appO x1)
  have y3 : IsO c3 u y := by rw [h3, h2]; exact appO (appO hy)
  have b2 := binO y3 x3 true
  obtain ⟨c4, h4⟩ : ∃ c4, c4 = c3 ++ [obj2 true u t y x] := ⟨_, rfl⟩
  have o2 : IsO c4 (.nd true [u, t]) (.cell c3.length) := by rw [h4]; exact newO true y3 x3
  obtain ⟨c5, h5⟩ : ∃ c5, c5 = c4 ++ [((.lst, [e, d]) : Cl)] := ⟨_, rfl⟩
  have n5 : Nxt p c c5 := by rw [h5, h4]; exact (n3.trans (Nxt.app1 n3.pot _)).trans (Nxt.app1 (Nxt.app1 n3.pot _).pot _)
  obtain ⟨q, hq⟩ : ∃ q, q = c5.length := ⟨_, rfl⟩
  have pq : p ≠ q := by rw [hq]; exact Nat.ne_of_lt n5.pot.lt
  have cq : c.length ≤ q := by rw [hq]; exact n5.len
  have v1 : c5[c2.length]? = some (.lst, [d, e]) := by rw [h5, h4, h3]; exact app_keep (app_keep get_last)
  have v2 : c5[c4.length]? = some (.lst, [e, d]) := by rw [h5]; exact get_last
  have d5 := IsT.nx n5 t d hd
  have u5 := IsT.nx n5 u e he
  have np : ∀ {r : Nat} {es : List D}, r ≥ c.length → D.cell r ≠ .cell p := fun {r es} h z => by
    cases z
    have := hp.lt
    omega
  have l2 : c.length ≤ c2.length := by rw [h2]; simp; have := n1.len; omega
  have l4 : c.length ≤ c4.length := by rw [h4]; simp; have := n3.len; omega
  have M1p : IsT p c5 (.nd false [t, u]) (.tup [.str (wrd false), .cell c2.length]) := ⟨_, _, rfl, v1, np (es := []) l2, d5, u5, trivial⟩
  have M2p : IsT p c5 (.nd true [u, t]) (.tup [.str (wrd true), .cell c4.length]) := ⟨_, _, rfl, v2, np (es := []) l4, u5, d5, trivial⟩
  have M1 : Md p q c5 _ _ := ⟨M1p, IsT.far (Nat.le_of_eq hq.symm) _ _ M1p⟩
  have M2 : Md p q c5 _ _ := ⟨M2p, IsT.far (Nat.le_of_eq hq.symm) _ _ M2p⟩
  have Dm : Md p q c5 t d := ⟨d5, IsT.far (Nat.le_of_eq hq.symm) _ _ d5⟩
  have Em : Md p q c5 u e := ⟨u5, IsT.far (Nat.le_of_eq hq.symm) _ _ u5⟩
  have x5 : IsO c5 t x := by rw [h5, h4]; exact appO (appO x3)
  have y5 : IsO c5 u y := by rw [h5, h4]; exact appO (appO y3)
  have o15 : IsO c5 (.nd false [t, u]) (.cell c1.length) := by rw [h5, h4, h3]; exact appO (appO (appO o1))
  have o25 : IsO c5 (.nd true [u, t]) (.cell c3.length) := by rw [h5]; exact appO o2
  obtain ⟨P1, hP1⟩ : ∃ P1, P1 = D.tup [.cell c1.length, .tup [.str (wrd false), .cell c2.length]] := ⟨_, rfl⟩
  obtain ⟨P2, hP2⟩ : ∃ P2, P2 = D.tup [.cell c3.length, .tup [.str (wrd true), .cell c4.length]] := ⟨_, rfl⟩
  obtain ⟨c6, h6⟩ : ∃ c6, c6 = c5 ++ [((.lst, [P1, P2]) : Cl)] := ⟨_, rfl⟩
  have n6 : Nxt p c c6 := by rw [h6]; exact n5.trans (Nxt.app1 n5.pot _)
  have q6 : c6[q]? = some (.lst, [P1, P2]) := by rw [h6, hq]; exact get_last
  have x6 : IsO c6 t x := by rw [h6]; exact appO x5
  have y6 : IsO c6 u y := by rw [h6]; exact appO y5
  -- the third pair
  have b3 := binO x6 y6 false
  obtain ⟨c7, h7⟩ : ∃ c7, c7 = c6 ++ [obj2 false t u x y] := ⟨_, rfl⟩
  have o3a : IsO c7 (.nd false [t, u]) (.cell c6.length) := by rw [h7]; exact newO false x6 y6
  have x7 : IsO c7 t x := by rw [h7]; exact appO x6
  have b4 := binO o3a x7 false
  obtain ⟨c8, h8⟩ : ∃ c8, c8 = c7 ++ [obj2 false (.nd false [t, u]) t (.cell c6.length) x] := ⟨_, rfl⟩
  have o3 : IsO c8 (.nd false [.nd false [t, u], t]) (.cell c7.length) := by rw [h8]; exact newO false o3a x7
  have n8 : Nxt p c c8 := by rw [h8, h7]; exact (n6.trans (Nxt.app1 n6.pot _)).trans (Nxt.app1 (Nxt.app1 n6.pot _).pot _)
  have q8 : c8[q]? = some (.lst, [P1, P2]) := by rw [h8, h7]; exact app_keep (app_keep q6)
  obtain ⟨P3, hP3⟩ : ∃ P3, P3 = D.tup [.cell c7.length, .tup [.str (wrd false), .lst [.tup [.str (wrd false), .lst [d, e]], d]]] := ⟨_, rfl⟩
  obtain ⟨c9, h9⟩ : ∃ c9, c9 = c8.set q (.lst, [P1, P2, P3]) := ⟨_, rfl⟩
  have n9 : Nxt p c c9 := by rw [h9]; exact setNxt n8 pq cq
  have q9 : c9[q]? = some (.lst, [P1, P2, P3]) := by rw [h9]; exact List.getElem?_set_self (List.getElem?_eq_some_iff.mp q8).1
  have up9 : ∀ {T : Tm} {o : D}, IsO c5 T o → IsO c9 T o := fun {T o} h => by
    rw [h9]
    refine setO q8 T o ?_
    rw [h8, h7, h6]
    exact appO (appO (appO h))
  have um9 : ∀ {T : Tm} {M : D}, Md p q c5 T M → Md p q c9 T M := fun {T M} h => by
    have p6 : PotC p c6 := n6.pot
    have a6 : Md p q c6 T M := by rw [h6]; exact h.app n5.pot
    have p7 : PotC p c7 := by rw [h7]; exact (Nxt.app1 p6 _).pot
    have a7 : Md p q c7 T M := by rw [h7]; exact a6.app p6
    have a8 : Md p q c8 T M := by rw [h8]; exact a7.app p7
    rw [h9]
    exact a8.set
  have o39 : IsO c9 (.nd false [.nd false [t, u], t]) (.cell c7.length) := by rw [h9]; exact setO q8 _ _ o3
  have x9 := up9 x5
  have y9 := up9 y5
  -- the fourth pair
  have b5 := binO y9 y9 false
  obtain ⟨c10, h10⟩ : ∃ c10, c10 = c9 ++ [obj2 false u u y y] := ⟨_, rfl⟩
  have o4a : IsO c10 (.nd false [u, u]) (.cell c9.length) := by rw [h10]; exact newO false y9 y9
  have x10 : IsO c10 t x := by rw [h10]; exact appO x9
  have b6 := binO x10 o4a true
  obtain ⟨c11, h11⟩ : ∃ c11, c11 = c10 ++ [obj2 true t (.nd false [u, u]) x (.cell c9.length)] := ⟨_, rfl⟩
  have o4 : IsO c11 (.nd true [t, .nd false [u, u]]) (.cell c10.length) := by rw [h11]; exact newO true x10 o4a
  have n10 : Nxt p c c10 := by rw [h10]; exact n9.trans (Nxt.app1 n9.pot _)
  have n11 : Nxt p c c11 := by rw [h11]; exact n10.trans (Nxt.app1 n10.pot _)
  have q11 : c11[q]? = some (.lst, [P1, P2, P3]) := by rw [h11, h10]; exact app_keep (app_keep q9)
  obtain ⟨P4, hP4⟩ : ∃ P4, P4 = D.tup [.cell c10.length, .tup [.str (wrd true), .lst [d, .tup [.str (wrd false), .lst [e, e]]]]] := ⟨_, rfl⟩
  obtain ⟨c12, h12⟩ : ∃ c12, c12 = c11.set q (.lst, [P1, P2, P3, P4]) := ⟨_, rfl⟩
  have n12 : Nxt p c c12 := by rw [h12]; exact setNxt n11 pq cq
  have q12 : c12[q]? = some (.lst, [P1, P2, P3, P4]) := by rw [h12]; exact List.getElem?_set_self (List.getElem?_eq_some_iff.mp q11).1
  have up12 : ∀ {T : Tm} {o : D}, IsO c9 T o → IsO c12 T o := fun {T o} h => by
    rw [h12]
    refine setO q11 T o ?_
    rw [h11, h10]
    exact appO (appO h)
  have um12 : ∀ {T : Tm} {M : D}, Md p q c9 T M → Md p q c12 T M := fun {T M} h => by
    have a10 : Md p q c10 T M := by rw [h10]; exact h.app n9.pot
    have a11 : Md p q c11 T M := by rw [h11]; exact a10.app n10.pot
    rw [h12]
    exact a11.set
  have all : ∀ z ∈ [P1, P2, P3, P4], ∃ T o M, z = D.tup [o, M] ∧ IsO c12 T o ∧ IsT p c12 T M ∧ T.ok ∧ T.dep ≤ 5 := fun z hz => by
    simp only [List.mem_cons, List.not_mem_nil, or_false] at hz
    have D9 := um12 (um9 Dm)
    have E9 := um12 (um9 Em)
    rcases hz with rfl | rfl | rfl | rfl
    · exact ⟨_, _, _, hP1, up12 (up9 o15), (um12 (um9 M1)).a, two_ok ht hu, Nat.le_trans (two_dep dt du) (by omega)⟩
    · exact ⟨_, _, _, hP2, up12 (up9 o25), (um12 (um9 M2)).a, two_ok hu ht, Nat.le_trans (two_dep du dt) (by omega)⟩
    · exact ⟨_, _, _, hP3, up12 o39, (Md.mk2 false (Md.mk2 false D9 E9) D9).a, two_ok (two_ok ht hu) ht, Nat.le_trans (two_dep (two_dep dt du) (Nat.le_succ_of_le dt)) (by omega)⟩
    · refine ⟨_, _, _, hP4, ?_, (Md.mk2 true D9 (Md.mk2 false E9 E9)).a, two_ok ht (two_ok hu hu), Nat.le_trans (two_dep (Nat.le_succ_of_le dt) (two_dep du du)) (by omega)⟩
      rw [h12]
      exact setO q11 _ _ o4
  -- the run
  obtain ⟨V, hV⟩ : ∃ V : Option D → Option D → Q.Env, V = fun o5 o6 => [some x, some d, some e, some y, some (.cell q), o5, o6] := ⟨_, rfl⟩
  have V0 : V none none = [some x, some d, some e, some y, some (.cell q), none, none] := by rw [hV]
  rw [← h2] at b1
  rw [← h4] at b2
  rw [← h7] at b3
  rw [← h8] at b4
  rw [← h10] at b5
  rw [← h11] at b6
  have L1 : mLstC (mCons (mVar 1) (mCons (mVar 2) mNil)) [some x, some d, some e, some y, none, none, none] c2 = .ok (.cell c2.length) c3 := by rw [h3]; exact eLstC (eCons (eV rfl) (eCons (eV rfl) eNil))
  have L2 : mLstC (mCons (mVar 2) (mCons (mVar 1) mNil)) [some x, some d, some e, some y, none, none, none] c4 = .ok (.cell c4.length) c5 := by rw [h5]; exact eLstC (eCons (eV rfl) (eCons (eV rfl) eNil))
  have A1 : mTup (mCons (m2 (fBinO andT allC) (mVar 0) (mVar 3)) (mCons (mTup (mCons (mC (.str "lesser")) (mCons (mLstC (mCons (mVar 1) (mCons (mVar 2) mNil))) mNil))) mNil)) [some x, some d, some e, some y, none, none, none] c1 = .ok P1 c3 := by
    rw [hP1]
    exact eTup (eCons (e2 (eV rfl) (eV rfl) b1) (eCons (eTup (eCons eC (eCons L1 eNil))) eNil))
  have A2 : mTup (mCons (m2 (fBinO orT allC) (mVar 3) (mVar 0)) (mCons (mTup (mCons (mC (.str "greater")) (mCons (mLstC (mCons (mVar 2) (mCons (mVar 1) mNil))) mNil))) mNil)) [some x, some d, some e, some y, none, none, none] c3 = .ok P2 c5 := by
    rw [hP2]
    exact eTup (eCons (e2 (eV rfl) (eV rfl) b2) (eCons (eTup (eCons eC (eCons L2 eNil))) eNil))
  have S4 : sSet 4 (mLstC (mCons (mTup (mCons (m2 (fBinO andT allC) (mVar 0) (mVar 3)) (mCons (mTup (mCons (mC (.str "lesser")) (mCons (mLstC (mCons (mVar 1) (mCons (mVar 2) mNil))) mNil))) mNil))) (mCons (mTup (mCons (m2 (fBinO orT allC) (mVar 3) (mVar 0)) (mCons (mTup (mCons (mC (.str "greater")) (mCons (mLstC (mCons (mVar 2) (mCons (mVar 1) mNil))) mNil))) mNil))) mNil))) [some x, some d, some e, some y, none, none, none] c1 = .ok (.nx (V none none)) c6 := by
    have r := stS (i := 4) (eLstC (env := [some x, some d, some e, some y, none, none, none]) (c := c1) (eCons A1 (eCons A2 eNil)))
    rw [← hq, ← h6] at r
    rw [V0]
    exact r
  have A3 : mTup (mCons (m2 (fBinO andT allC) (m2 (fBinO andT allC) (mVar 0) (mVar 3)) (mVar 0)) (mCons (mTup (mCons (mC (.str "lesser")) (mCons (mLst (mCons (mTup (mCons (mC (.str "lesser")) (mCons (mLst (mCons (mVar 1) (mCons (mVar 2) mNil))) mNil))) (mCons (mVar 1) mNil))) mNil))) mNil)) (V none none) c6 = .ok P3 c8 := by
    rw [hP3, V0]
    exact eTup (eCons (e2 (e2 (eV rfl) (eV rfl) b3) (eV rfl) b4) (eCons (eTup (eCons eC (eCons (eLst (eCons (eTup (eCons eC (eCons (eLst (eCons (eV rfl) (eCons (eV rfl) eNil))) eNil))) (eCons (eV rfl) eNil))) eNil))) eNil))
  have A4 : mTup (mCons (m2 (fBinO orT allC) (mVar 0) (m2 (fBinO andT allC) (mVar 3) (mVar 3))) (mCons (mTup (mCons (mC (.str "greater")) (mCons (mLst (mCons (mVar 1) (mCons (mTup (mCons (mC (.str "lesser")) (mCons (mLst (mCons (mVar 2) (mCons (mVar 2) mNil))) mNil))) mNil))) mNil))) mNil)) (V none none) c9 = .ok P4 c11 := by
    rw [hP4, V0]
    exact eTup (eCons (e2 (eV rfl) (e2 (eV rfl) (eV rfl) b5) b6) (eCons (eTup (eCons eC (eCons (eLst (eCons (eV rfl) (eCons (eTup (eCons eC (eCons (eLst (eCons (eV rfl) (eCons (eV rfl) eNil))) eNil))) eNil))) eNil))) eNil))
  have W4 : mVar 4 (V none none) c6 = .ok (.cell q) c6 := by rw [V0]; exact eV rfl
  have W49 : mVar 4 (V none none) c9 = .ok (.cell q) c9 := by rw [V0]; exact eV rfl
  have ap3 : fAppend (.cell q) [P3] c8 = some (.non, c9) := by rw [h9]; exact appM q8 (by simp)
  have ap4 : fAppend (.cell q) [P4] c11 = some (.non, c12) := by rw [h12]; exact appM q11 (by simp)
  have X3 := stX (eMe (T := "list") (f := fAppend) W4 (tyC q6) (eCons A3 eNil) ap3)
  have X4 := stX (eMe (T := "list") (f := fAppend) W49 (tyC q9) (eCons A4 eNil) ap4)
  have W412 : mVar 4 (V none none) c12 = .ok (.cell q) c12 := by rw [V0]; exact eV rfl
  obtain ⟨e2', c13, fr, n13, o5, o6, hE⟩ := stFor (g := gT (gsCons (gN 5) (gsCons (gN 6) gsNil))) (k := sIf (mOrT (mT (m2 fNe (mCall (bStrO (strT 12)) (mCons (mVar 5) mNil)) (mFn (F__law_text 12) 1 (mCons (mVar 6) mNil)))) (mOrT (mT (m2 fNe (mCall (bReprO (reprT 12)) (mCons (mVar 5) mNil)) (mFn (F__law_written 12) 1 (mCons (mVar 6) mNil)))) (mT (m2 (fNeO (tblE 12) allC) (mVar 5) (mFn (F__law_real 12) 1 (mCons (mVar 6) mNil)))))) (sRet (mC (.bl false))) sNil)
    (fun _ env' c' => Nxt p c12 c' ∧ ∃ o5 o6, env' = V o5 o6) W412 (show view c12 (.cell q) = some (.lst, [P1, P2, P3, P4]) from q12) rfl
    (fun i env' c' ⟨nx, _⟩ => view_keep nx (show view c12 (.cell q) = some (.lst, [P1, P2, P3, P4]) from q12) (fun z => pq (by cases z; rfl))) ⟨Nxt.refl n12.pot, none, none, rfl⟩
    (fun i z env' c' hz ⟨nx, o5, o6, hE⟩ => by
      obtain ⟨T, o, M, hzz, hO, hM, hT, hT5⟩ := all z (List.mem_of_getElem? hz)
      subst hzz hE
      have hO' := IsO.nx n12.pot nx T o hO
      have hM' := IsT.nx nx T M hM
      obtain ⟨r, c'', er, nr, hr⟩ := real 12 T M c' nx.pot hT (by omega) hM'
      have asg : gT (gsCons (gN 5) (gsCons (gN 6) gsNil)) (.tup [o, M]) (V o5 o6) c' = some (V (some o) (some M), c') := by rw [hV]; rfl
      have E5 : ∀ cc, mVar 5 (V (some o) (some M)) cc = .ok o cc := fun cc => by rw [hV]; exact eV rfl
      have E6 : ∀ cc, mVar 6 (V (some o) (some M)) cc = .ok M cc := fun cc => by rw [hV]; exact eV rfl
      have f1 : mT (m2 fNe (mCall (bStrO (strT 12)) (mCons (mVar 5) mNil)) (mFn (F__law_text 12) 1 (mCons (mVar 6) mNil))) (V (some o) (some M)) c' = .ok false c' :=
        eT (e2 (eCall (eCons (E5 c') eNil) (strO hT hT5 hO')) (eFn (eCons (E6 c') eNil) rfl (lawText 12 T M c' hT hT5 (by omega) hM')) (neS.trans (by rw [decide_eq_true rfl]; rfl)))
      have f2 : mT (m2 fNe (mCall (bReprO (reprT 12)) (mCons (mVar 5) mNil)) (mFn (F__law_written 12) 1 (mCons (mVar 6) mNil))) (V (some o) (some M)) c' = .ok false c' :=
        eT (e2 (eCall (eCons (E5 c') eNil) (reprO hT hT5 hO')) (eFn (eCons (E6 c') eNil) rfl (lawWritten 12 T M c' hT hT5 (by omega) hM')) (neS.trans (by rw [decide_eq_true rfl]; rfl)))
      have f3 : mT (m2 (fNeO (tblE 12) allC) (mVar 5) (mFn (F__law_real 12) 1 (mCons (mVar 6) mNil))) (V (some o) (some M)) c' = .ok false c'' :=
        eT (e2 (E5 c') (eFn (eCons (E6 c') eNil) rfl er) ((neOO (by omega) (IsO.nx nx.pot nr T o hO') hr).trans (by rw [tmRefl]; rfl)))
      exact ⟨_, c', asg, _, c'', stIF (eOrF f1 (eOrF f2 f3)) rfl, nx.trans nr, _, _, rfl⟩)
  subst hE
  have n113 : Nxt p c c13 := n12.trans n13
  have hx13 := IsO.nx hp n113 t x hx
  have hy13 : IsO c13 u y := IsO.nx n12.pot n13 u y (up12 y9)
  have hd13 := IsT.nx n113 t d hd
  have he13 := IsT.nx n113 u e he
  have V_0 : mVar 0 (V o5 o6) c13 = .ok x c13 := by rw [hV]; exact eV rfl
  have V_1 : mVar 1 (V o5 o6) c13 = .ok d c13 := by rw [hV]; exact eV rfl
  have V_2 : mVar 2 (V o5 o6) c13 = .ok e c13 := by rw [hV]; exact eV rfl
  have V_3 : mVar 3 (V o5 o6) c13 = .ok y c13 := by rw [hV]; exact eV rfl
  have F1 : m2 fEq (mCall (bStrO (strT 12)) (mCons (mVar 0) mNil)) (mFn (F__law_text 12) 1 (mCons (mVar 1) mNil)) (V o5 o6) c13 = .ok (.bl true) c13 :=
    e2 (eCall (eCons V_0 eNil) (strO ht (by omega) hx13)) (eFn (eCons V_1 eNil) rfl (lawText 12 t d c13 ht (by omega) (by omega) hd13)) (eqS.trans (by rw [decide_eq_true rfl]))
  have F2 : m2 fEq (mCall (bStrO (strT 12)) (mCons (mVar 3) mNil)) (mFn (F__law_text 12) 1 (mCons (mVar 2) mNil)) (V o5 o6) c13 = .ok (.bl true) c13 :=
    e2 (eCall (eCons V_3 eNil) (strO hu (by omega) hy13)) (eFn (eCons V_2 eNil) rfl (lawText 12 u e c13 hu (by omega) (by omega) he13)) (eqS.trans (by rw [decide_eq_true rfl]))
  exact ⟨c13, bodyR (sqN (stS (i := 3) (eFn (eCons (eV rfl) eNil) rfl e1)) (sqN S4 (sqN X3 (sqN X4 (sqN fr (stR (eAndV F1 rfl F2))))))), n113⟩
end K13
end
section
set_option Elab.async false
set_option linter.all false
set_option maxRecDepth 100000
set_option maxHeartbeats 1000000
namespace K13
open PySem PySem.Spec L2 Q
variable [Tb]
theorem thg {c : Cells} {z x : D} {a b : Str} (hz : z ∈ [.str a, .str b, .non, .int 0, .str "", .tup [], .lst [x], .tup [x], .nod (.dic []) [], .str "r0", .str "top"]) : ∃ tt, Thg c z tt := by
  simp only [List.mem_cons, List.not_mem_nil, or_false] at hz
  rcases hz with rfl | rfl | rfl | rfl | rfl | rfl | rfl | rfl | rfl | rfl | rfl
  · exact ⟨"str", rfl, by simp, fun _ _ _ h => by cases h⟩
  · exact ⟨"str", rfl, by simp, fun _ _ _ h => by cases h⟩
  · exact ⟨"NoneType", rfl, by simp, fun _ _ _ h => by cases h⟩
  · exact ⟨"int", rfl, by simp, fun _ _ _ h => by cases h⟩
  · exact ⟨"str", rfl, by simp, fun _ _ _ h => by cases h⟩
  · exact ⟨"tuple", rfl, by simp, fun _ _ _ h => by cases h⟩
  · exact ⟨"list", rfl, by simp, fun _ _ _ h => by cases h⟩
  · exact ⟨"tuple", rfl, by simp, fun _ _ _ h => by cases h⟩
  · exact ⟨"dict", rfl, by simp, fun _ _ _ h => by cases h⟩
  · exact ⟨"str", rfl, by simp, fun _ _ _ h => by cases h⟩
  · exact ⟨"str", rfl, by simp, fun _ _ _ h => by cases h⟩
theorem right {p : Nat} {c : Cells} (hp : PotC p c) : ∃ c', F__law_right [.cell p] c = .ok (.bl true) c' := by
  obtain ⟨pls, c1, e1, n1, hl⟩ := places hp
  obtain ⟨t, d, c2, e2', n2, hd, ht, dt⟩ := term 12 3 c1 pls n1.pot hl (by omega)
  obtain ⟨u, e, c3, e3, n3, he, hu, du⟩ := term 12 2 c2 pls n2.pot hl (by omega)
  have hd3 := IsT.nx n3 t d hd
  obtain ⟨x, c4, e4, n4, hx⟩ := real 12 t d c3 n3.pot ht (by omega) hd3
  have hd4 := IsT.nx n4 t d hd3
  have he4 := IsT.nx n4 u e he
  have n14 := ((n1.trans n2).trans n3).trans n4
  obtain ⟨NL, hNL⟩ : ∃ NL, NL = [d, e, D.tup [.str "lesser", .lst [d, d]], D.tup [.str "greater", .lst [d, d]]] := ⟨_, rfl⟩
  -- the near ones
  obtain ⟨acc, c5, q5, ql5, n5, hacc⟩ := lcR (m := mC (.int 4)) (te := mFn (F__law_bent 12) 3 (mCons (mVar 0) (mCons (mVar 2) (mCons (mVar 1) mNil)))) (env := [some (.cell p), some pls, some d, some e, some x, some (.lst NL), none, none, none, none, none, none]) (c := c4) (c1 := c4) (i := 10) (n := 4)
    (fun j acc c' => Nxt p c4 c' ∧ ∀ M ∈ acc, ∃ T, IsT p c' T M ∧ T.ok ∧ T.dep ≤ 5) eC (by omega) ⟨Nxt.refl n14.pot, fun M h => by simp at h⟩
    (fun j acc c' hj ha ⟨nx, hacc⟩ => by
      obtain ⟨v, d', c'', eb, nb, hv, ov, dv, _⟩ := bent 12 t d pls c' nx.pot hl ht (by omega) (IsT.nx nx t d hd4)
      refine ⟨d', c'', eFn (eCons (eV rfl) (eCons (eV rfl) (eCons (eV rfl) eNil))) rfl eb, nx.trans nb, fun M hM => ?_⟩
      rcases List.mem_append.mp hM with h | h
      · obtain ⟨T, h1, h2, h3⟩ := hacc M h
        exact ⟨T, IsT.nx nb T M h1, h2, h3⟩
      · rw [List.mem_singleton.mp h]
        exact ⟨v, hv, ov, by omega⟩)
  have hd5 := IsT.nx n5 t d hd4
  have he5 := IsT.nx n5 u e he4
  have near : ∀ M ∈ NL ++ acc, ∃ T, IsT p c5 T M ∧ T.ok ∧ T.dep ≤ 5 := fun M hM => by
    rcases List.mem_append.mp hM with h | h
    · rw [hNL] at h
      simp only [List.mem_cons, List.not_mem_nil, or_false] at h
      rcases h with rfl | rfl | rfl | rfl
      · exact ⟨t, hd5, ht, by omega⟩
      · exact ⟨u, he5, hu, by omega⟩
      · exact ⟨.nd false [t, t], ⟨_, _, rfl, rfl, by simp, hd5, hd5, trivial⟩, two_ok ht ht, Nat.le_trans (two_dep dt dt) (by omega)⟩
      · exact ⟨.nd true [t, t], ⟨_, _, rfl, rfl, by simp, hd5, hd5, trivial⟩, two_ok ht ht, Nat.le_trans (two_dep dt dt) (by omega)⟩
    · exact hacc M h
  obtain ⟨V, hV⟩ : ∃ V : Option D → Option D → Option D → Q.Env, V = fun o6 o8 o9 => [some (.cell p), some pls, some d, some e, some x, some (.lst (NL ++ acc)), o6, none, o8, o9, none, none] := ⟨_, rfl⟩
  have nl : (NL ++ acc).length ≤ 1000 := by rw [List.length_append, ql5, hNL]; simp
  have V5 : ∀ o6 o8 o9 cc, mVar 5 (V o6 o8 o9) cc = .ok (.lst (NL ++ acc)) cc := fun _ _ _ cc => by rw [hV]; exact eV rfl
  obtain ⟨e6, c6, fr, n6, o6, o8, o9, hE⟩ := stFor (g := gN 6) (k := sSeq (sSet 8 (mFn (F__law_real 12) 1 (mCons (mVar 6) mNil)))
      (sSeq (sSet 9 (mLst (mCons (m2 (fEqO (tblE 12) allC) (mVar 4) (mVar 8)) (mCons (m2 (fEqO (tblE 12) allC) (mVar 8) (mVar 4)) (mCons (m2 (fNeO (tblE 12) allC) (mVar 4) (mVar 8)) mNil)))))
      (sIf (mT (m2 fNe (mCall bRepr (mCons (mVar 9) mNil)) (mCall bRepr (mCons (mLst (mCons (m2 fEq (mVar 6) (mVar 2)) (mCons (m2 fEq (mVar 6) (mVar 2)) (mCons (m2 fNe (mVar 6) (mVar 2)) mNil)))) mNil)))) (sRet (mC (.bl false))) sNil)))
    (fun _ env' c' => Nxt p c5 c' ∧ ∃ o6 o8 o9, env' = V o6 o8 o9) (V5 none none none c5) rfl rfl (fun i env' c' _ => rfl) ⟨Nxt.refl n5.pot, none, none, none, rfl⟩
    (fun i M env' c' hz ⟨nx, o6, o8, o9, hE⟩ => by
      obtain ⟨T, hM, hT, hT5⟩ := near M (List.mem_of_getElem? hz)
      subst hE
      have hM' := IsT.nx nx T M hM
      have hd' := IsT.nx nx t d hd5
      obtain ⟨y, c'', er, nr, hy⟩ := real 12 T M c' nx.pot hT (by omega) hM'
      have hx'' : IsO c'' t x := IsO.nx nx.pot nr t x (IsO.nx n5.pot nx t x (IsO.nx n4.pot n5 t x hx))
      have hM'' := IsT.nx nr T M hM'
      have hd'' := IsT.nx nr t d hd'
      have k1 := eqOO (t := t) (u := T) (x := x) (y := y) (by omega) hx'' hy
      have k2 := eqOO (t := T) (u := t) (x := y) (y := x) (by omega) hy hx''
      have k3 := neOO (t := t) (u := T) (x := x) (y := y) (by omega) hx'' hy
      rw [sym T t] at k2
      obtain ⟨m1, m2'⟩ := eqTT hT ht hT5 (by omega) hM'' hd''
      rw [sym T t] at m1 m2'
      obtain ⟨R, hR⟩ := reprB (tmEq t T) c''
      obtain ⟨B, hB⟩ : ∃ B, B = tmEq t T := ⟨_, rfl⟩
      rw [← hB] at k1 k2 k3 m1 m2' hR
      have a6 : mVar 6 (V (some M) o8 o9) c' = .ok M c' := by rw [hV]; exact eV rfl
      have b4 : mVar 4 (V (some M) (some y) o9) c'' = .ok x c'' := by rw [hV]; exact eV rfl
      have b8 : mVar 8 (V (some M) (some y) o9) c'' = .ok y c'' := by rw [hV]; exact eV rfl
      obtain ⟨told, hT9⟩ : ∃ told, told = D.lst [.bl B, .bl B, .bl (!B)] := ⟨_, rfl⟩
      have c6' : mVar 6 (V (some M) (some y) (some told)) c'' = .ok M c'' := by rw [hV]; exact eV rfl
      have c2' : mVar 2 (V (some M) (some y) (some told)) c'' = .ok d c'' := by rw [hV]; exact eV rfl
      have c9' : mVar 9 (V (some M) (some y) (some told)) c'' = .ok told c'' := by rw [hV]; exact eV rfl
      have s8 : sSet 8 (mFn (F__law_real 12) 1 (mCons (mVar 6) mNil)) (V (some M) o8 o9) c' = .ok (.nx (V (some M) (some y) o9)) c'' := by
        have r := stS (i := 8) (eFn (F := F__law_real 12) (n := 1) (eCons a6 eNil) rfl er)
        rw [r, hV]
        rfl
      have s9 : sSet 9 (mLst (mCons (m2 (fEqO (tblE 12) allC) (mVar 4) (mVar 8)) (mCons (m2 (fEqO (tblE 12) allC) (mVar 8) (mVar 4)) (mCons (m2 (fNeO (tblE 12) allC) (mVar 4) (mVar 8)) mNil)))) (V (some M) (some y) o9) c'' = .ok (.nx (V (some M) (some y) (some told))) c'' := by
        have r := stS (i := 9) (eLst (eCons (e2 b4 b8 k1) (eCons (e2 b8 b4 k2) (eCons (e2 b4 b8 k3) eNil))))
        rw [r, hV, hT9]
        rfl
      have tst : mT (m2 fNe (mCall bRepr (mCons (mVar 9) mNil)) (mCall bRepr (mCons (mLst (mCons (m2 fEq (mVar 6) (mVar 2)) (mCons (m2 fEq (mVar 6) (mVar 2)) (mCons (m2 fNe (mVar 6) (mVar 2)) mNil)))) mNil))) (V (some M) (some y) (some told)) c'' = .ok false c'' :=
        eT (e2 (eCall (eCons c9' eNil) (by rw [hT9]; exact hR)) (eCall (eCons (eLst (eCons (e2 c6' c2' m1) (eCons (e2 c6' c2' m1) (eCons (e2 c6' c2' m2') eNil)))) eNil) hR) (neS.trans (by rw [decide_eq_true rfl]; rfl)))
      have as : gN 6 M (V o6 o8 o9) c' = some (V (some M) o8 o9, c') := by rw [hV]; rfl
      exact ⟨_, c', as, _, c'', sqN s8 (sqN s9 (stIF tst rfl)), nx.trans nr, _, _, _, rfl⟩)
  subst hE
  have n46 := n5.trans n6
  have hx6 := IsO.nx n4.pot n46 t x hx
  have hd6 := IsT.nx n46 t d hd4
  have he6 := IsT.nx n46 u e he4
  have V4 : mVar 4 (V o6 o8 o9) c6 = .ok x c6 := by rw [hV]; exact eV rfl
  obtain ⟨TL, hTL⟩ : ∃ TL : List D, TL = [.str (txt t), .str (wrt t), .non, .int 0, .str "", .tup [], .lst [x], .tup [x], .nod (.dic []) [], .str "r0", .str "top"] := ⟨_, rfl⟩
  have sx := strO (c := c6) ht (by omega) hx6
  have rx := reprO (c := c6) ht (by omega) hx6
  obtain ⟨Z, hZ⟩ : ∃ Z : Option D → Q.Env, Z = fun o11 => [some (.cell p), some pls, some d, some e, some x, some (.lst (NL ++ acc)), o6, some (.lst TL), o8, o9, none, o11] := ⟨_, rfl⟩
  have s7 : sSet 7 (mLst (mCons (mCall (bStrO (strT 12)) (mCons (mVar 4) mNil)) (mCons (mCall (bReprO (reprT 12)) (mCons (mVar 4) mNil)) (mCons (mC .non) (mCons (mC (.int 0)) (mCons (mC (.str "")) (mCons (mTup mNil) (mCons (mLst (mCons (mVar 4) mNil)) (mCons (mTup (mCons (mVar 4) mNil)) (mCons mDict0 (mCons (mC (.str "r0")) (mCons (mC (.str "top")) mNil)))))))))))) (V o6 o8 o9) c6 = .ok (.nx (Z none)) c6 := by
    have r := stS (i := 7) (eLst (eCons (eCall (eCons V4 eNil) sx) (eCons (eCall (eCons V4 eNil) rx) (eCons (eC (d := .non)) (eCons (eC (d := .int 0)) (eCons (eC (d := .str "")) (eCons (eTup eNil) (eCons (eLst (eCons V4 eNil)) (eCons (eTup (eCons V4 eNil)) (eCons (show mDict0 (V o6 o8 o9) c6 = .ok (.nod (.dic []) []) c6 from rfl) (eCons (eC (d := .str "r0")) (eCons (eC (d := .str "top")) eNil))))))))))))
    rw [r, hV, hZ, hTL]
    rfl
  have Z7 : mVar 7 (Z none) c6 = .ok (.lst TL) c6 := by rw [hZ]; exact eV rfl
  obtain ⟨ac2, c7, q7, ql7, hc7, hac2⟩ := lcJ (m := mVar 7) (te := mOrV (m2 (fEqO (tblE 12) allC) (mVar 4) (mVar 11)) (mOrV (m2 (fEqO (tblE 12) allC) (mVar 11) (mVar 4)) (mNotV (m2 (fNeO (tblE 12) allC) (mVar 4) (mVar 11))))) (env := Z none) (c := c6) (c1 := c6) (i := 11) (L := .lst TL) (t := .lst) (ds := TL)
    (fun k acc c' => c' = c6 ∧ acc = List.replicate k (.bl false)) Z7 (fun _ _ _ _ => rfl) rfl (by rw [hTL]; simp) ⟨rfl, rfl⟩
    (fun k z acc c' hz ha ⟨hc, hr⟩ => by
      subst hc
      obtain ⟨tt, hth⟩ := thg (c := c') (x := x) (a := txt t) (b := wrt t) (z := z) (by rw [← hTL]; exact List.mem_of_getElem? hz)
      have g4 : mVar 4 ((Z none).set 11 (some z)) c' = .ok x c' := by rw [hZ]; exact eV rfl
      have g11 : mVar 11 ((Z none).set 11 (some z)) c' = .ok z c' := by rw [hZ]; exact eV rfl
      refine ⟨.bl false, c', eOrV (e2 g4 g11 (eqOT (by omega) hx6 hth)) rfl (eOrV (e2 g11 g4 (eqTO (by omega) hx6 hth)) rfl (eNotV (b := true) (e2 g4 g11 (neOT (by omega) hx6 hth)) rfl)), rfl, ?_⟩
      rw [hr, List.replicate_succ'])
  subst hc7
  have any : bAny [.lst ac2] c7 = some (.bl false, c7) := by
    have hl11 : TL.length = 11 := by rw [hTL]; rfl
    rw [hac2, hl11]
    rfl
  have tst : mTru (mCall bAny (mCons (mLc false (mWalk (mVar 7)) (gN 11) [11] bYes (mOrV (m2 (fEqO (tblE 12) allC) (mVar 4) (mVar 11)) (mOrV (m2 (fEqO (tblE 12) allC) (mVar 11) (mVar 4)) (mNotV (m2 (fNeO (tblE 12) allC) (mVar 4) (mVar 11)))))) mNil)) (Z none) c7 = .ok false c7 := eTru (eCall (eCons q7 eNil) any) rfl
  obtain ⟨c8, es, n8⟩ := signs n6.pot ht hu dt (by omega) hx6 hd6 he6
  have hx8 := IsO.nx n6.pot n8 t x hx6
  have hd8 := IsT.nx n8 t d hd6
  have Y4 : ∀ cc, mVar 4 (Z none) cc = .ok x cc := fun cc => by rw [hZ]; exact eV rfl
  have Y2 : ∀ cc, mVar 2 (Z none) cc = .ok d cc := fun cc => by rw [hZ]; exact eV rfl
  have Y3 : ∀ cc, mVar 3 (Z none) cc = .ok e cc := fun cc => by rw [hZ]; exact eV rfl
  have last : m2 fEq (mLst (mCons (mCall (bStrO (strT 12)) (mCons (mVar 4) mNil)) (mCons (mCall (bReprO (reprT 12)) (mCons (mVar 4) mNil)) mNil))) (mLst (mCons (mFn (F__law_text 12) 1 (mCons (mVar 2) mNil)) (mCons (mFn (F__law_written 12) 1 (mCons (mVar 2) mNil)) mNil))) (Z none) c8 = .ok (.bl true) c8 :=
    e2 (eLst (eCons (eCall (eCons (Y4 c8) eNil) (strO ht (by omega) hx8)) (eCons (eCall (eCons (Y4 c8) eNil) (reprO ht (by omega) hx8)) eNil))) (eLst (eCons (eFn (eCons (Y2 c8) eNil) rfl (lawText 12 t d c8 ht (by omega) (by omega) hd8)) (eCons (eFn (eCons (Y2 c8) eNil) rfl (lawWritten 12 t d c8 ht (by omega) (by omega) hd8)) eNil))) (two (okTxt t ht) (okWrt t ht) c8).2
  -- the run
  have g23 : gT (gsCons (gN 2) (gsCons (gN 3) gsNil)) (.tup [d, e]) [some (.cell p), some pls, none, none, none, none, none, none, none, none, none, none] c3 = some ([some (.cell p), some pls, some d, some e, none, none, none, none, none, none, none, none], c3) := rfl
  have hx4 := hx
  have first : mT (m2 fNe (mLst (mCons (mCall (bStrO (strT 12)) (mCons (mVar 4) mNil)) (mCons (mCall (bReprO (reprT 12)) (mCons (mVar 4) mNil)) mNil))) (mLst (mCons (mFn (F__law_text 12) 1 (mCons (mVar 2) mNil)) (mCons (mFn (F__law_written 12) 1 (mCons (mVar 2) mNil)) mNil)))) [some (.cell p), some pls, some d, some e, some x, none, none, none, none, none, none, none] c4 = .ok false c4 :=
    eT (e2 (eLst (eCons (eCall (eCons (eV rfl) eNil) (strO ht (by omega) hx4)) (eCons (eCall (eCons (eV rfl) eNil) (reprO ht (by omega) hx4)) eNil))) (eLst (eCons (eFn (eCons (eV rfl) eNil) rfl (lawText 12 t d c4 ht (by omega) (by omega) hd4)) (eCons (eFn (eCons (eV rfl) eNil) rfl (lawWritten 12 t d c4 ht (by omega) (by omega) hd4)) eNil))) (two (okTxt t ht) (okWrt t ht) c4).1)
  have s5 : sSet 5 (mLst (mCons (mVar 2) (mCons (mVar 3) (mCons (mTup (mCons (mC (.str "lesser")) (mCons (mLst (mCons (mVar 2) (mCons (mVar 2) mNil))) mNil))) (mCons (mTup (mCons (mC (.str "greater")) (mCons (mLst (mCons (mVar 2) (mCons (mVar 2) mNil))) mNil))) mNil))))) [some (.cell p), some pls, some d, some e, some x, none, none, none, none, none, none, none] c4 = .ok (.nx [some (.cell p), some pls, some d, some e, some x, some (.lst NL), none, none, none, none, none, none]) c4 := by
    have r := stS (i := 5) (eLst (env := [some (.cell p), some pls, some d, some e, some x, none, none, none, none, none, none, none]) (c := c4) (eCons (eV (i := 2) rfl) (eCons (eV (i := 3) rfl) (eCons (eTup (eCons (eC (d := .str "lesser")) (eCons (eLst (eCons (eV (i := 2) rfl) (eCons (eV (i := 2) rfl) eNil))) eNil))) (eCons (eTup (eCons (eC (d := .str "greater")) (eCons (eLst (eCons (eV (i := 2) rfl) (eCons (eV (i := 2) rfl) eNil))) eNil))) eNil)))))
    rw [r, hNL]
    rfl
  have s5' : sSet 5 (m2 fAdd (mVar 5) (mLc false (mRng1 (mC (.int 4))) (gN 10) [10] bYes (mFn (F__law_bent 12) 3 (mCons (mVar 0) (mCons (mVar 2) (mCons (mVar 1) mNil)))))) [some (.cell p), some pls, some d, some e, some x, some (.lst NL), none, none, none, none, none, none] c4 = .ok (.nx (V none none none)) c5 := by
    have r := stS (i := 5) (e2 (env := [some (.cell p), some pls, some d, some e, some x, some (.lst NL), none, none, none, none, none, none]) (eV (i := 5) rfl) q5 (catL (c := c5) (by rw [← List.length_append]; exact nl)))
    rw [r, hV]
    rfl
  exact ⟨c8, bodyR (sqN (stS (eFn (eCons (eV rfl) eNil) rfl e1)) (sqN (stAsg (eTup (eCons (eFn (eCons (eV rfl) (eCons (eV rfl) (eCons eC eNil))) rfl e2') (eCons (eFn (eCons (eV rfl) (eCons (eV rfl) (eCons eC eNil))) rfl e3) eNil))) g23) (sqN (stS (eFn (eCons (eV rfl) eNil) rfl e4)) (sqN (stIF first rfl) (sqN s5 (sqN s5' (sqN fr (sqN s7 (sqN (stIF tst rfl) (stR (eAndV (eFn (eCons (Y4 c7) (eCons (Y2 c7) (eCons (Y3 c7) eNil))) rfl es) rfl last)))))))))))⟩
end K13
end
section
set_option Elab.async false
set_option linter.all false
set_option maxRecDepth 100000
namespace K13
open PySem PySem.Spec L2 Q
variable [Tb]
theorem maxI2 {i j : Int} {c : Cells} : bMax2 [.int i, .int j] c = some (.int (if j > i then j else i), c) := rfl
theorem minI2 {i j : Int} {c : Cells} : bMin2 [.int i, .int j] c = some (.int (if j < i then j else i), c) := rfl
theorem lenF {ds : List D} {c : Cells} : bLen [.nod .frl ds] c = some (.int ds.length, c) := rfl
theorem p18 {c : Cells} : fPow (.int 10) (.int 18) c = some (.int (10 ^ 18), c) := powI (i := 10) (k := 18) (by decide) (by decide)
theorem F_pot {ns : List Int} {k : Nat} (hk : k < 10) (c : Cells) : ∃ a b : Int, F__law_pot [.nod .frl (ns.map D.int), .int (k : Int)] c = .ok (.cell c.length) (c ++ [(.lst, [.int a, .int b])]) ∧ 0 ≤ a ∧ 0 ≤ b ∧ b < 2147483648 := by
  -- the cell's number
  have cell : ∃ z : Int, sSeq (sSet 2 (m2 fAdd (m2 fMul (mC (.int 23)) (mVar 1)) (mC (.int 9)))) (sIf (mT (m2 fLt (mVar 1) (mCall bLen (mCons (mVar 0) mNil)))) (sSet 2 (m2 fIx (mVar 0) (mVar 1))) sNil) [some (D.nod .frl (ns.map D.int)), some (D.int (k : Int)), none] c = .ok (.nx [some (D.nod .frl (ns.map D.int)), some (D.int (k : Int)), some (D.int z)]) c := by
    have m : fMul (.int 23) (.int (k : Int)) c = some (.int (23 * (k : Int)), c) := mulI (by decide) (by rw [Int.natAbs_natCast]; exact Nat.lt_of_lt_of_le hk (by decide))
    have ln : bLen [.nod .frl (ns.map D.int)] c = some (.int (ns.map D.int).length, c) := lenF
    by_cases h : (k : Int) < (ns.map D.int).length
    · obtain ⟨d, hd, ha⟩ := atL (xs := ns.map D.int) (k := (k : Int)) (by omega) h
      obtain ⟨z, _, rfl⟩ := List.mem_map.mp hd
      refine ⟨z, sqN (stS (e2 (e2 eC (eV rfl) m) eC addI)) (stIT (eT (e2 (eV rfl) (eCall (eCons (eV rfl) eNil) ln) (ltI.trans (by rw [decide_eq_true h])))) (stS (e2 (eV rfl) (eV rfl) ?_)))⟩
      show ((seqView c (.nod .frl (ns.map D.int))).bind fun ds => (atI ds (k : Int)).map fun d => (d, c)) = _
      show (atI (ns.map D.int) (k : Int)).map (fun d => (d, c)) = _
      rw [ha]
      rfl
    · exact ⟨_, sqN (stS (e2 (e2 eC (eV rfl) m) eC addI)) (stIF (eT (e2 (eV rfl) (eCall (eCons (eV rfl) eNil) ln) (ltI.trans (by rw [decide_eq_false h])))) rfl)⟩
  obtain ⟨z, hz⟩ := cell
  obtain ⟨y, hy⟩ : ∃ y : Int, y = (if z < 0 then -z else z) := ⟨_, rfl⟩
  have ab : bAbs [.int z] c = some (.int y, c) := by rw [hy]; rfl
  obtain ⟨g, hg⟩ : ∃ g : Int, g = y % 2147483549 := ⟨_, rfl⟩
  have g0 : 0 ≤ g := by rw [hg]; exact Int.emod_nonneg _ (by decide)
  have g1 : g < 2147483549 := by rw [hg]; exact Int.emod_lt_of_pos _ (by decide)
  have cube : fPow (.int (2 * (k : Int) + 5)) (.int 3) c = some (.int ((2 * (k : Int) + 5) ^ 3), c) := powI (k := 3) (Nat.lt_of_lt_of_le (show (2 * (k : Int) + 5).natAbs < 30 by omega) (by decide)) (by decide)
  have cb : ((2 * (k : Int) + 5) ^ 3).natAbs < 2 ^ 200 := by
    rw [Int.natAbs_pow]
    have : (2 * (k : Int) + 5).natAbs ≤ 25 := by omega
    exact Nat.lt_of_le_of_lt (Nat.pow_le_pow_left this 3) (by decide)
  obtain ⟨q, hq⟩ : ∃ q : Int, q = (g + 3) * (2 * (k : Int) + 5) ^ 3 := ⟨_, rfl⟩
  have m1 : fMul (.int (g + 3)) (.int ((2 * (k : Int) + 5) ^ 3)) c = some (.int q, c) := by
    rw [hq]
    refine mulI ?_ cb
    have : (2147483648 : Nat) < 2 ^ 200 := by decide
    omega
  have m0 : fMul (.int 2) (.int (k : Int)) c = some (.int (2 * (k : Int)), c) := mulI (by decide) (by rw [Int.natAbs_natCast]; exact Nat.lt_of_lt_of_le hk (by decide))
  have md : fMod (.int y) (.int 2147483549) c = some (.int g, c) := by rw [hg]; exact modI (by decide)
  have md2 : fMod (.int q) (.int 2147483477) c = some (.int (q % 2147483477), c) := modI (by decide)
  have r0 := Int.emod_nonneg q (by decide : (2147483477 : Int) ≠ 0)
  have r1 := Int.emod_lt_of_pos q (by decide : (0 : Int) < 2147483477)
  have split : ∀ (k1 k2 k3 : MS) (env : Q.Env) (c : Cells), sSeq k1 (sSeq k2 k3) env c = sSeq (sSeq k1 k2) k3 env c := fun k1 k2 k3 env c => by
    unfold sSeq
    cases k1 env c with
    | ok f c' => cases f <;> rfl
    | _ => rfl
  refine ⟨if y - 10 ^ 18 > 0 then y - 10 ^ 18 else 0, q % 2147483477 + 1, bodyR (d := .cell c.length) ?_, ?_, ?_, ?_⟩
  · unfold m__law_pot
    rw [split]
    exact sqN hz (stR (eLstC (eCons (eCall (eCons eC (eCons (e2 (eCall (eCons (eV rfl) eNil) ab) (e2 eC eC p18) subI) eNil)) maxI2) (eCons (e2 (e2 (e2 (eCall (eCons (e2 (e2 (eCall (eCons (eCall (eCons (eV rfl) eNil) ab) eNil) rfl) eC md) eC addI) eNil) rfl) (e2 (e2 (e2 eC (eV rfl) m0) eC addI) eC cube) m1) eC md2) eC addI) eNil))))
  · split <;> omega
  · omega
  · omega
theorem boolsM {α : Type} (f : α → Bool) : ∀ xs : List α, bools (xs.map fun x => D.bl (f x)) = some (xs.map f)
  | [] => rfl
  | x :: xs => by
    show (bools (xs.map fun x => D.bl (f x))).map (f x :: ·) = _
    rw [boolsM f xs]
    rfl
theorem allM {α : Type} (f : α → Bool) (xs : List α) (c : Cells) : bAll [.lst (xs.map fun x => D.bl (f x))] c = some (.bl (xs.all f), c) := by
  show ((lstView c (.lst (xs.map fun x => D.bl (f x)))).bind bools).map (fun bs => (D.bl (bs.all id), c)) = _
  show (bools (xs.map fun x => D.bl (f x))).map (fun bs => (D.bl (bs.all id), c)) = _
  rw [boolsM]
  simp [List.all_map]
theorem F_law_true (ns : List Int) (hl : ns.length ≤ 63) : ∃ c, F_law [.nod .frl (ns.map D.int)] [] = .ok (.bl true) c := by
  obtain ⟨n, hn⟩ : ∃ n : Nat, (n : Int) = (if (if (5 : Int) < ((ns.map D.int).length : Int) then 5 else ((ns.map D.int).length : Int)) > 1 then (if (5 : Int) < ((ns.map D.int).length : Int) then 5 else ((ns.map D.int).length : Int)) else 1) := by
    refine ⟨(if (if (5 : Int) < ((ns.map D.int).length : Int) then 5 else ((ns.map D.int).length : Int)) > 1 then (if (5 : Int) < ((ns.map D.int).length : Int) then 5 else ((ns.map D.int).length : Int)) else 1).toNat, Int.toNat_of_nonneg ?_⟩
    split <;> (try split) <;> omega
  have n5 : n ≤ 5 := by
    have : (n : Int) ≤ 5 := by
      rw [hn]
      split <;> (try split) <;> omega
    omega
  have ln : bLen [.nod .frl (ns.map D.int)] [] = some (.int ((ns.map D.int).length : Int), []) := lenF
  have rg : mRng1 (mCall bMax2 (mCons (mC (.int 1)) (mCons (mCall bMin2 (mCons (mCall bLen (mCons (mVar 0) mNil)) (mCons (mC (.int 5)) mNil))) mNil))) (enter 2 [.nod .frl (ns.map D.int)]) [] = .ok (srcR 0 n) [] := by
    refine eRng ?_ (by omega)
    rw [hn]
    exact eCall (eCons eC (eCons (eCall (eCons (eCall (eCons (eV rfl) eNil) ln) (eCons eC eNil)) minI2) eNil)) maxI2
  have e : ∀ i : Nat, ((List.range n).map fun j : Nat => D.int (0 + (j : Int)))[i]? = if i < n then some (.int (0 + (i : Int))) else none := fun i => by
    rw [List.getElem?_map]
    by_cases hi : i < n
    · rw [if_pos hi, List.getElem?_range hi]
      rfl
    · rw [if_neg hi, List.getElem?_eq_none (by simp; omega)]
      rfl
  have sm : (1000 : Nat) < sizeLine := by decide
  obtain ⟨acc, c2, w, ha⟩ := lc_inv (s := srcR 0 n) (ds := (List.range n).map fun j : Nat => D.int (0 + (j : Int))) (g := gN 1) (vs := [1]) (tt := bYes) (te := mFn F__law_right 1 (mCons (mFn F__law_pot 2 (mCons (mVar 0) (mCons (mVar 1) mNil))) mNil)) (env := enter 2 [.nod .frl (ns.map D.int)])
    (fun i acc _ => acc = (List.range i).map (fun _ => D.bl ((fun _ => true) ())) ∧ i ≤ n) (fun i acc c _ => by rw [e]; rfl) (fun i acc c ⟨h, hi⟩ => by rw [h]; simp; omega)
    (fun i x acc c hx ⟨ha, hi⟩ => by
      rw [e] at hx
      split at hx
      · rename_i lt
        cases hx
        obtain ⟨a, b, ep, a0, b0, b1⟩ := F_pot (ns := ns) (k := i) (by omega) c
        have pc : PotC c.length (c ++ [(.lst, [.int a, .int b])]) := ⟨a, b, by rw [List.getElem?_append_right (Nat.le_refl _), Nat.sub_self]; rfl, a0, b0, b1⟩
        obtain ⟨c', er⟩ := right pc
        refine ⟨[some (.nod .frl (ns.map D.int)), some (.int (0 + (i : Int)))], c, rfl, .inr ⟨c, .bl true, c', rfl, ?_, ?_, lt⟩⟩
        · exact eFn (eCons (eFn (eCons (eV rfl) (eCons (eV rfl) eNil)) rfl (by rw [Int.zero_add]; exact ep)) eNil) rfl er
        · rw [ha, List.range_succ, List.map_append]
          rfl
      · cases hx)
    (n + 1) 0 [] [] ⟨rfl, Nat.zero_le _⟩ (Nat.zero_le _) (by simp)
  have lc : mLc false (mRng1 (mCall bMax2 (mCons (mC (.int 1)) (mCons (mCall bMin2 (mCons (mCall bLen (mCons (mVar 0) mNil)) (mCons (mC (.int 5)) mNil))) mNil)))) (gN 1) [1] bYes (mFn F__law_right 1 (mCons (mFn F__law_pot 2 (mCons (mVar 0) (mCons (mVar 1) mNil))) mNil)) (enter 2 [.nod .frl (ns.map D.int)]) [] = .ok (.lst acc) c2 := by
    unfold mLc
    rw [rg]
    show (lcS (srcR 0 n) (gN 1) [1] bYes _ _ (n + 1) 0 [] []).bind (lcEnd false) = _
    rw [w]
    rfl
  have al : bAll [.lst acc] c2 = some (.bl true, c2) := by
    rw [ha.1, allM (fun _ => true)]
    simp
  exact ⟨c2, bodyR (stR (eCall (eCons lc eNil) al))⟩
end K13
end
section
set_option Elab.async false
set_option linter.all false
set_option maxRecDepth 100000
set_option maxHeartbeats 2000000
namespace K13
open PySem PySem.Spec L2 Q
section
variable [Tb]
/-- all defs, over any base -/
theorem all_ok {P : Program} {w : World} {K : PySem.W.Frag} {mg : Str → Option Value} {base : Heap} (hsys : SysIn base)
    (D__law_draw : Df K mg "_law_draw" (topS 26))
    (D__law_places : Df K mg "_law_places" (topS 28))
    (D__law_pick : Df K mg "_law_pick" (topS 27))
    (D__law_term : Df K mg "_law_term" (topS 29))
    (D_is_place : Df K mg "is_place" (topS 13))
    (D_Place_init : DfM K mg "Place" "__init__" "Place.__init__" (clsAt (topS 20) 0))
    (D_is_end : Df K mg "is_end" (topS 9))
    (D_End_init : DfM K mg "End" "__init__" "End.__init__" (clsAt (topS 21) 0))
    (D__check_terms : Df K mg "_check_terms" (topS 15))
    (D__checked_parts : Df K mg "_checked_parts" (topS 14))
    (D_Greater_depth : DfP K mg "Greater" "depth" "Greater.depth" (clsAt (topS 23) 2))
    (D_Lesser_depth : DfP K mg "Lesser" "depth" "Lesser.depth" (clsAt (topS 22) 2))
    (D_End_depth : DfP K mg "End" "depth" "End.depth" (clsAt (topS 21) 2))
    (D_Place_depth : DfP K mg "Place" "depth" "Place.depth" (clsAt (topS 20) 2))
    (D__depth_over : Df K mg "_depth_over" (topS 16))
    (D_Lesser_init : DfM K mg "Lesser" "__init__" "Lesser.__init__" (clsAt (topS 22) 0))
    (D_Greater_init : DfM K mg "Greater" "__init__" "Greater.__init__" (clsAt (topS 23) 0))
    (D__law_joined : Df K mg "_law_joined" (topS 30))
    (D__law_real : Df K mg "_law_real" (topS 31))
    (D_End_repr : DfM K mg "End" "__repr__" "End.__repr__" (clsAt (topS 21) 12))
    (D_Place_repr : DfM K mg "Place" "__repr__" "Place.__repr__" (clsAt (topS 20) 12))
    (D_Lesser_repr : DfM K mg "Lesser" "__repr__" "Lesser.__repr__" (clsAt (topS 22) 12))
    (D_Greater_repr : DfM K mg "Greater" "__repr__" "Greater.__repr__" (clsAt (topS 23) 12))
    (D_End_str : DfM K mg "End" "__str__" "End.__str__" (clsAt (topS 21) 11))
    (D_Place_str : DfM K mg "Place" "__str__" "Place.__str__" (clsAt (topS 20) 11))
    (D__text_within : Df K mg "_text_within" (topS 18))
    (D_Lesser_str : DfM K mg "Lesser" "__str__" "Lesser.__str__" (clsAt (topS 22) 11))
    (D_Greater_str : DfM K mg "Greater" "__str__" "Greater.__str__" (clsAt (topS 23) 11))
    (D__law_written : Df K mg "_law_written" (topS 34))
    (D__law_inner : Df K mg "_law_inner" (topS 32))
    (D__law_text : Df K mg "_law_text" (topS 33))
    (D__law_bent : Df K mg "_law_bent" (topS 35))
    (D_End_eq : DfM K mg "End" "__eq__" "End.__eq__" (clsAt (topS 21) 13))
    (D_Place_eq : DfM K mg "Place" "__eq__" "Place.__eq__" (clsAt (topS 20) 13))
    (D_Lesser_eq : DfM K mg "Lesser" "__eq__" "Lesser.__eq__" (clsAt (topS 22) 13))
    (D_Greater_eq : DfM K mg "Greater" "__eq__" "Greater.__eq__" (clsAt (topS 23) 13))
    (D_Greater_or : DfM K mg "Greater" "__or__" "Greater.__or__" (clsAt (topS 23) 10))
    (D_Lesser_or : DfM K mg "Lesser" "__or__" "Lesser.__or__" (clsAt (topS 22) 10))
    (D_End_or : DfM K mg "End" "__or__" "End.__or__" (clsAt (topS 21) 10))
    (D_Place_or : DfM K mg "Place" "__or__" "Place.__or__" (clsAt (topS 20) 10))
    (D_Greater_and : DfM K mg "Greater" "__and__" "Greater.__and__" (clsAt (topS 23) 9))
    (D_Lesser_and : DfM K mg "Lesser" "__and__" "Lesser.__and__" (clsAt (topS 22) 9))
    (D_End_and : DfM K mg "End" "__and__" "End.__and__" (clsAt (topS 21) 9))
    (D_Place_and : DfM K mg "Place" "__and__" "Place.__and__" (clsAt (topS 20) 9))
    (D__law_signs_right : Df K mg "_law_signs_right" (topS 36))
    (D__law_right : Df K mg "_law_right" (topS 37))
    (D__law_pot : Df K mg "_law_pot" (topS 25))
    (D_law : Df K mg "law" (topS 38))
    (n_divmod : mg "divmod" = none)
    (n_int : mg "int" = none)
    (n_range : mg "range" = none)
    (n_len : mg "len" = none)
    (n_str : mg "str" = none)
    (n_isinstance : mg "isinstance" = none)
    (k_REGISTERS : KT K mg "REGISTERS" ["r0", "r1", "r2", "r3", "r4", "r5"])
    (k_INPUTS : KT K mg "INPUTS" ["x0", "x1"])
    (x_InvalidPlace : ExD P w K mg base "InvalidPlace")
    (fl_name_Place : FldIn K mg ["Place"] "_name")
    (c_TOP : ∃ t, mg "TOP" = some (.str "top" t))
    (c_BOTTOM : ∃ t, mg "BOTTOM" = some (.str "bottom" t))
    (x_InvalidEnd : ExD P w K mg base "InvalidEnd")
    (fl_end_End : FldIn K mg ["End"] "_end")
    (is_Term : IsD K mg [("Place", true), ("End", true), ("Lesser", true), ("Greater", true)] "Term")
    (x_InvalidTerm : ExD P w K mg base "InvalidTerm")
    (fl_depth_Greater : FldIn K mg ["Greater"] "_depth")
    (fl_depth_Lesser : FldIn K mg ["Lesser"] "_depth")
    (n_max : mg "max" = none)
    (fl_parts_Lesser : FldIn K mg ["Lesser"] "_parts")
    (fl_parts_Greater : FldIn K mg ["Greater"] "_parts")
    (mk_Lesser : MkD K mg "Lesser")
    (mk_Greater : MkD K mg "Greater")
    (mk_Place : MkD K mg "Place")
    (mk_End : MkD K mg "End")
    (n_repr : mg "repr" = none)
    (fm_Greater : FmtD K mg "Greater")
    (fm_Lesser : FmtD K mg "Lesser")
    (fm_End : FmtD K mg "End")
    (fm_Place : FmtD K mg "Place")
    (n_list : mg "list" = none)
    (is_End : IsD K mg [("Place", false), ("End", true), ("Lesser", false), ("Greater", false)] "End")
    (is_Place : IsD K mg [("Place", true), ("End", false), ("Lesser", false), ("Greater", false)] "Place")
    (is_Lesser : IsD K mg [("Place", false), ("End", false), ("Lesser", true), ("Greater", false)] "Lesser")
    (eq_Greater : EqD K mg ["Place", "End", "Lesser", "Greater"] "Greater")
    (eq_Lesser : EqD K mg ["Place", "End", "Lesser", "Greater"] "Lesser")
    (eq_End : EqD K mg ["Place", "End", "Lesser", "Greater"] "End")
    (eq_Place : EqD K mg ["Place", "End", "Lesser", "Greater"] "Place")
    (is_Greater : IsD K mg [("Place", false), ("End", false), ("Lesser", false), ("Greater", true)] "Greater")
    (bor_Greater : BinD K mg .BitOr ["Place", "End", "Lesser", "Greater"] "Greater")
    (bor_Lesser : BinD K mg .BitOr ["Place", "End", "Lesser", "Greater"] "Lesser")
    (bor_End : BinD K mg .BitOr ["Place", "End", "Lesser", "Greater"] "End")
    (bor_Place : BinD K mg .BitOr ["Place", "End", "Lesser", "Greater"] "Place")
    (band_Greater : BinD K mg .BitAnd ["Place", "End", "Lesser", "Greater"] "Greater")
    (band_Lesser : BinD K mg .BitAnd ["Place", "End", "Lesser", "Greater"] "Lesser")
    (band_End : BinD K mg .BitAnd ["Place", "End", "Lesser", "Greater"] "End")
    (band_Place : BinD K mg .BitAnd ["Place", "End", "Lesser", "Greater"] "Place")
    (ne_Greater : NeC K mg "Greater")
    (ne_Lesser : NeC K mg "Lesser")
    (ne_End : NeC K mg "End")
    (ne_Place : NeC K mg "Place")
    (rf_Greater : RefC K mg "Greater")
    (rf_Lesser : RefC K mg "Lesser")
    (rf_End : RefC K mg "End")
    (rf_Place : RefC K mg "Place")
    (n_any : mg "any" = none)
    (n_abs : mg "abs" = none)
    (n_min : mg "min" = none)
    (n_all : mg "all" = none)
    : Ok P w K mg base 47 "law" (topS 38) ["_law_script"] F_law := by
  have o__law_draw := o__law_draw (P := P) (w := w) (base := base) D__law_draw n_divmod n_int
  have o__law_places := o__law_places (P := P) (w := w) (base := base) D__law_places n_range n_len o__law_draw
  have o__law_pick := o__law_pick (P := P) (w := w) (base := base) D__law_pick n_len o__law_draw
  have q__law_term := oo__law_term (P := P) (w := w) (base := base) D__law_term n_range o__law_draw o__law_pick 12
  have o__law_term := q__law_term
  have o_is_place := o_is_place (P := P) (w := w) (base := base) D_is_place n_str n_isinstance k_REGISTERS k_INPUTS
  have o_Place_init := o_Place_init (P := P) (w := w) (base := base) D_Place_init x_InvalidPlace fl_name_Place o_is_place
  have o_is_end := o_is_end (P := P) (w := w) (base := base) D_is_end n_str n_isinstance c_TOP c_BOTTOM
  have o_End_init := o_End_init (P := P) (w := w) (base := base) D_End_init x_InvalidEnd fl_end_End o_is_end
  have o__check_terms := o__check_terms (P := P) (w := w) (base := base) D__check_terms is_Term n_isinstance x_InvalidTerm
  have o__checked_parts := o__checked_parts (P := P) (w := w) (base := base) D__checked_parts n_len x_InvalidTerm o__check_terms
  have o_Greater_depth := o_Greater_depth (P := P) (w := w) (base := base) D_Greater_depth fl_depth_Greater
  have o_Lesser_depth := o_Lesser_depth (P := P) (w := w) (base := base) D_Lesser_depth fl_depth_Lesser
  have o_End_depth := o_End_depth (P := P) (w := w) (base := base) D_End_depth 
  have o_Place_depth := o_Place_depth (P := P) (w := w) (base := base) D_Place_depth 
  have o__depth_over := o__depth_over (P := P) (w := w) (base := base) D__depth_over n_max o_Greater_depth o_Lesser_depth o_End_depth o_Place_depth
  have o_Lesser_init := o_Lesser_init (P := P) (w := w) (base := base) D_Lesser_init fl_parts_Lesser fl_depth_Lesser o__checked_parts o__depth_over
  have o_Greater_init := o_Greater_init (P := P) (w := w) (base := base) D_Greater_init fl_parts_Greater fl_depth_Greater o__checked_parts o__depth_over
  have o__law_joined := o__law_joined (P := P) (w := w) (base := base) D__law_joined n_len mk_Lesser mk_Greater o_Lesser_init o_Greater_init
  have q__law_real := oo__law_real (P := P) (w := w) (base := base) D__law_real mk_Place mk_End o_Place_init o_End_init o__law_joined 12
  have o__law_real := q__law_real
  have o_End_repr := o_End_repr (P := P) (w := w) (base := base) D_End_repr fl_end_End
  have o_Place_repr := o_Place_repr (P := P) (w := w) (base := base) D_Place_repr fl_name_Place
  have q_Lesser_repr := oo_Lesser_repr (P := P) (w := w) (base := base) D_Lesser_repr D_Greater_repr fl_parts_Lesser n_repr fl_parts_Greater o_End_repr o_Place_repr 12
  obtain ⟨o_Lesser_repr, o_Greater_repr⟩ := q_Lesser_repr
  have o_End_str := o_End_str (P := P) (w := w) (base := base) D_End_str fl_end_End n_str
  have o_Place_str := o_Place_str (P := P) (w := w) (base := base) D_Place_str fl_name_Place n_str
  have q__text_within := oo__text_within (P := P) (w := w) (base := base) D__text_within D_Lesser_str D_Greater_str fm_Greater fm_Lesser fm_End fm_Place n_str fl_parts_Lesser fl_parts_Greater o_Greater_depth o_Lesser_depth o_End_depth o_Place_depth o_End_str o_Place_str 12
  obtain ⟨o__text_within, o_Lesser_str, o_Greater_str⟩ := q__text_within
  have q__law_written := oo__law_written (P := P) (w := w) (base := base) D__law_written  12
  have o__law_written := q__law_written
  have q__law_inner := oo__law_inner (P := P) (w := w) (base := base) D__law_inner D__law_text  12
  obtain ⟨o__law_inner, o__law_text⟩ := q__law_inner
  have q__law_bent := oo__law_bent (P := P) (w := w) (base := base) D__law_bent n_len n_list o__law_pick o__law_draw 12
  have o__law_bent := q__law_bent
  have o_End_eq := o_End_eq (P := P) (w := w) (base := base) D_End_eq is_End n_isinstance fl_end_End
  have o_Place_eq := o_Place_eq (P := P) (w := w) (base := base) D_Place_eq is_Place n_isinstance fl_name_Place
  have q_Lesser_eq := oo_Lesser_eq (P := P) (w := w) (base := base) D_Lesser_eq D_Greater_eq is_Lesser n_isinstance eq_Greater eq_Lesser eq_End eq_Place fl_parts_Lesser is_Greater fl_parts_Greater o_End_eq o_Place_eq 12
  obtain ⟨o_Lesser_eq, o_Greater_eq⟩ := q_Lesser_eq
  have o_Greater_or := o_Greater_or (P := P) (w := w) (base := base) D_Greater_or mk_Greater o_Greater_init
  have o_Lesser_or := o_Lesser_or (P := P) (w := w) (base := base) D_Lesser_or mk_Greater o_Greater_init
  have o_End_or := o_End_or (P := P) (w := w) (base := base) D_End_or mk_Greater o_Greater_init
  have o_Place_or := o_Place_or (P := P) (w := w) (base := base) D_Place_or mk_Greater o_Greater_init
  have o_Greater_and := o_Greater_and (P := P) (w := w) (base := base) D_Greater_and mk_Lesser o_Lesser_init
  have o_Lesser_and := o_Lesser_and (P := P) (w := w) (base := base) D_Lesser_and mk_Lesser o_Lesser_init
  have o_End_and := o_End_and (P := P) (w := w) (base := base) D_End_and mk_Lesser o_Lesser_init
  have o_Place_and := o_Place_and (P := P) (w := w) (base := base) D_Place_and mk_Lesser o_Lesser_init
  have o__law_signs_right := o__law_signs_right (P := P) (w := w) (base := base) D__law_signs_right bor_Greater bor_Lesser bor_End bor_Place band_Greater band_Lesser band_End band_Place n_str n_repr eq_Greater eq_Lesser eq_End eq_Place ne_Greater ne_Lesser ne_End ne_Place o__law_real o_Greater_or o_Lesser_or o_End_or o_Place_or o_Greater_and o_Lesser_and o_End_and o_Place_and o_Greater_str o_Lesser_str o_End_str o_Place_str o__law_text o_Greater_repr o_Lesser_repr o_End_repr o_Place_repr o__law_written o_Greater_eq o_Lesser_eq o_End_eq o_Place_eq
  have o__law_right := o__law_right (P := P) (w := w) (base := base) D__law_right hsys n_repr n_str n_range eq_Greater eq_Lesser eq_End eq_Place ne_Greater ne_Lesser ne_End ne_Place rf_Greater rf_Lesser rf_End rf_Place n_any o__law_places o__law_term o__law_real o_Greater_repr o_Lesser_repr o_End_repr o_Place_repr o_Greater_str o_Lesser_str o_End_str o_Place_str o__law_written o__law_text o__law_bent o_Greater_eq o_Lesser_eq o_End_eq o_Place_eq o__law_signs_right
  have o__law_pot := o__law_pot (P := P) (w := w) (base := base) D__law_pot n_len n_abs n_int n_max
  have o_law := o_law (P := P) (w := w) (base := base) D_law n_len n_min n_max n_range n_all o__law_right o__law_pot
  exact o_law
end
abbrev initS_InvalidPlace : Stmt := clsDef (topS 3)
theorem init_InvalidPlace : ∃ p1 p2 p3 p4, InitS initS_InvalidPlace p1 p2 p3 p4 := ⟨_, _, _, _, ⟨rfl, rfl, rfl, by decide +kernel, rfl, by decide +kernel, by decide +kernel⟩, rfl, .inl rfl, .inl rfl, fun _ => rfl, fun _ _ _ _ _ _ _ us hl => match us, hl with | [_, _], _ => rfl⟩
abbrev initS_InvalidEnd : Stmt := clsDef (topS 4)
theorem init_InvalidEnd : ∃ p1 p2 p3 p4, InitS initS_InvalidEnd p1 p2 p3 p4 := ⟨_, _, _, _, ⟨rfl, rfl, rfl, by decide +kernel, rfl, by decide +kernel, by decide +kernel⟩, rfl, .inl rfl, .inl rfl, fun _ => rfl, fun _ _ _ _ _ _ _ us hl => match us, hl with | [_, _], _ => rfl⟩
abbrev initS_InvalidTerm : Stmt := clsDef (topS 5)
theorem init_InvalidTerm : ∃ p1 p2 p3 p4, InitS initS_InvalidTerm p1 p2 p3 p4 := ⟨_, _, _, _, ⟨rfl, rfl, rfl, by decide +kernel, rfl, by decide +kernel, by decide +kernel⟩, rfl, .inl rfl, .inl rfl, fun _ => rfl, fun _ _ _ _ _ _ _ us hl => match us, hl with | [_, _], _ => rfl⟩
theorem room : Room 47 callerA := ⟨rfl, by decide, by decide⟩
theorem head_all {P : Program} {w : World} {K : PySem.W.Frag} {h : Heap} {mg : Str → Option Value} (X : K.In h) (G : h.Ns mainGlobals mg) (lw : PySem.W.OpenLaw) (hl : lw.prog = P)
    {C_Place C_End C_Lesser C_Greater C_Term : Addr}
    (a_Place : PySem.W.nsIn K mainGlobals "Place" = some (some (.ref C_Place)))
    (pg_Place : PySem.W.plainGet K C_Place Str.empty = true)
    (hd_Place : PySem.W.hasDictIn K C_Place = true)
    (po_Place : PySem.W.plainOver K C_Place = true)
    (sa_Place : PySem.W.findIn K (.ref C_Place) "__setattr__" = some (some (.builtin "object.__setattr__")))
    (ca_Place : PySem.W.findIn K (.ref C_Place) "__class__" = some (some (.builtin "object.__class__")))
    (mo_Place : PySem.W.mroIn K C_Place (.type "object") = some true)
    (tC_Place : PySem.W.typeIn K (.ref C_Place) = some (.type "type"))
    (kC_Place : PySem.W.keepIn K (.ref C_Place) = true)
    (mkk_Place : PySem.W.makesIn K C_Place = true)
    (sf_Place : PySem.W.selfFirst K C_Place = true)
    (ne_Place : PySem.W.findIn K (.ref C_Place) "__ne__" = some (some (.builtin "object.__ne__")))
    (fm_Place : PySem.W.findIn K (.ref C_Place) "__format__" = some (some (.builtin "object.__format__")))
    (ra_Place : PySem.W.findIn K (.ref C_Place) "__rand__" = some none)
    (ro_Place : PySem.W.findIn K (.ref C_Place) "__ror__" = some none)
    (bt_NoneType_Place : PySem.W.subIn K (.ref C_Place) (.type "NoneType") = some false)
    (bt_bool_Place : PySem.W.subIn K (.ref C_Place) (.type "bool") = some false)
    (bt_int_Place : PySem.W.subIn K (.ref C_Place) (.type "int") = some false)
    (bt_str_Place : PySem.W.subIn K (.ref C_Place) (.type "str") = some false)
    (bt_list_Place : PySem.W.subIn K (.ref C_Place) (.type "list") = some false)
    (bt_tuple_Place : PySem.W.subIn K (.ref C_Place) (.type "tuple") = some false)
    (bt_dict_Place : PySem.W.subIn K (.ref C_Place) (.type "dict") = some false)
    (a_End : PySem.W.nsIn K mainGlobals "End" = some (some (.ref C_End)))
    (pg_End : PySem.W.plainGet K C_End Str.empty = true)
    (hd_End : PySem.W.hasDictIn K C_End = true)
    (po_End : PySem.W.plainOver K C_End = true)
    (sa_End : PySem.W.findIn K (.ref C_End) "__setattr__" = some (some (.builtin "object.__setattr__")))
    (ca_End : PySem.W.findIn K (.ref C_End) "__class__" = some (some (.builtin "object.__class__")))
    (mo_End : PySem.W.mroIn K C_End (.type "object") = some true)
    (tC_End : PySem.W.typeIn K (.ref C_End) = some (.type "type"))
    (kC_End : PySem.W.keepIn K (.ref C_End) = true)
    (mkk_End : PySem.W.makesIn K C_End = true)
    (sf_End : PySem.W.selfFirst K C_End = true)
    (ne_End : PySem.W.findIn K (.ref C_End) "__ne__" = some (some (.builtin "object.__ne__")))
    (fm_End : PySem.W.findIn K (.ref C_End) "__format__" = some (some (.builtin "object.__format__")))
    (ra_End : PySem.W.findIn K (.ref C_End) "__rand__" = some none)
    (ro_End : PySem.W.findIn K (.ref C_End) "__ror__" = some none)
    (bt_NoneType_End : PySem.W.subIn K (.ref C_End) (.type "NoneType") = some false)
    (bt_bool_End : PySem.W.subIn K (.ref C_End) (.type "bool") = some false)
    (bt_int_End : PySem.W.subIn K (.ref C_End) (.type "int") = some false)
    (bt_str_End : PySem.W.subIn K (.ref C_End) (.type "str") = some false)
    (bt_list_End : PySem.W.subIn K (.ref C_End) (.type "list") = some false)
    (bt_tuple_End : PySem.W.subIn K (.ref C_End) (.type "tuple") = some false)
    (bt_dict_End : PySem.W.subIn K (.ref C_End) (.type "dict") = some false)
    (a_Lesser : PySem.W.nsIn K mainGlobals "Lesser" = some (some (.ref C_Lesser)))
    (pg_Lesser : PySem.W.plainGet K C_Lesser Str.empty = true)
    (hd_Lesser : PySem.W.hasDictIn K C_Lesser = true)
    (po_Lesser : PySem.W.plainOver K C_Lesser = true)
    (sa_Lesser : PySem.W.findIn K (.ref C_Lesser) "__setattr__" = some (some (.builtin "object.__setattr__")))
    (ca_Lesser : PySem.W.findIn K (.ref C_Lesser) "__class__" = some (some (.builtin "object.__class__")))
    (mo_Lesser : PySem.W.mroIn K C_Lesser (.type "object") = some true)
    (tC_Lesser : PySem.W.typeIn K (.ref C_Lesser) = some (.type "type"))
    (kC_Lesser : PySem.W.keepIn K (.ref C_Lesser) = true)
    (mkk_Lesser : PySem.W.makesIn K C_Lesser = true)
    (sf_Lesser : PySem.W.selfFirst K C_Lesser = true)
    (ne_Lesser : PySem.W.findIn K (.ref C_Lesser) "__ne__" = some (some (.builtin "object.__ne__")))
    (fm_Lesser : PySem.W.findIn K (.ref C_Lesser) "__format__" = some (some (.builtin "object.__format__")))
    (ra_Lesser : PySem.W.findIn K (.ref C_Lesser) "__rand__" = some none)
    (ro_Lesser : PySem.W.findIn K (.ref C_Lesser) "__ror__" = some none)
    (bt_NoneType_Lesser : PySem.W.subIn K (.ref C_Lesser) (.type "NoneType") = some false)
    (bt_bool_Lesser : PySem.W.subIn K (.ref C_Lesser) (.type "bool") = some false)
    (bt_int_Lesser : PySem.W.subIn K (.ref C_Lesser) (.type "int") = some false)
    (bt_str_Lesser : PySem.W.subIn K (.ref C_Lesser) (.type "str") = some false)
    (bt_list_Lesser : PySem.W.subIn K (.ref C_Lesser) (.type "list") = some false)
    (bt_tuple_Lesser : PySem.W.subIn K (.ref C_Lesser) (.type "tuple") = some false)
    (bt_dict_Lesser : PySem.W.subIn K (.ref C_Lesser) (.type "dict") = some false)
    (a_Greater : PySem.W.nsIn K mainGlobals "Greater" = some (some (.ref C_Greater)))
    (pg_Greater : PySem.W.plainGet K C_Greater Str.empty = true)
    (hd_Greater : PySem.W.hasDictIn K C_Greater = true)
    (po_Greater : PySem.W.plainOver K C_Greater = true)
    (sa_Greater : PySem.W.findIn K (.ref C_Greater) "__setattr__" = some (some (.builtin "object.__setattr__")))
    (ca_Greater : PySem.W.findIn K (.ref C_Greater) "__class__" = some (some (.builtin "object.__class__")))
    (mo_Greater : PySem.W.mroIn K C_Greater (.type "object") = some true)
    (tC_Greater : PySem.W.typeIn K (.ref C_Greater) = some (.type "type"))
    (kC_Greater : PySem.W.keepIn K (.ref C_Greater) = true)
    (mkk_Greater : PySem.W.makesIn K C_Greater = true)
    (sf_Greater : PySem.W.selfFirst K C_Greater = true)
    (ne_Greater : PySem.W.findIn K (.ref C_Greater) "__ne__" = some (some (.builtin "object.__ne__")))
    (fm_Greater : PySem.W.findIn K (.ref C_Greater) "__format__" = some (some (.builtin "object.__format__")))
    (ra_Greater : PySem.W.findIn K (.ref C_Greater) "__rand__" = some none)
    (ro_Greater : PySem.W.findIn K (.ref C_Greater) "__ror__" = some none)
    (bt_NoneType_Greater : PySem.W.subIn K (.ref C_Greater) (.type "NoneType") = some false)
    (bt_bool_Greater : PySem.W.subIn K (.ref C_Greater) (.type "bool") = some false)
    (bt_int_Greater : PySem.W.subIn K (.ref C_Greater) (.type "int") = some false)
    (bt_str_Greater : PySem.W.subIn K (.ref C_Greater) (.type "str") = some false)
    (bt_list_Greater : PySem.W.subIn K (.ref C_Greater) (.type "list") = some false)
    (bt_tuple_Greater : PySem.W.subIn K (.ref C_Greater) (.type "tuple") = some false)
    (bt_dict_Greater : PySem.W.subIn K (.ref C_Greater) (.type "dict") = some false)
    (s_Place_Place : PySem.W.subIn K (.ref C_Place) (.ref C_Place) = some true)
    (s_Place_End : PySem.W.subIn K (.ref C_Place) (.ref C_End) = some false)
    (s_Place_Lesser : PySem.W.subIn K (.ref C_Place) (.ref C_Lesser) = some false)
    (s_Place_Greater : PySem.W.subIn K (.ref C_Place) (.ref C_Greater) = some false)
    (s_End_Place : PySem.W.subIn K (.ref C_End) (.ref C_Place) = some false)
    (s_End_End : PySem.W.subIn K (.ref C_End) (.ref C_End) = some true)
    (s_End_Lesser : PySem.W.subIn K (.ref C_End) (.ref C_Lesser) = some false)
    (s_End_Greater : PySem.W.subIn K (.ref C_End) (.ref C_Greater) = some false)
    (s_Lesser_Place : PySem.W.subIn K (.ref C_Lesser) (.ref C_Place) = some false)
    (s_Lesser_End : PySem.W.subIn K (.ref C_Lesser) (.ref C_End) = some false)
    (s_Lesser_Lesser : PySem.W.subIn K (.ref C_Lesser) (.ref C_Lesser) = some true)
    (s_Lesser_Greater : PySem.W.subIn K (.ref C_Lesser) (.ref C_Greater) = some false)
    (s_Greater_Place : PySem.W.subIn K (.ref C_Greater) (.ref C_Place) = some false)
    (s_Greater_End : PySem.W.subIn K (.ref C_Greater) (.ref C_End) = some false)
    (s_Greater_Lesser : PySem.W.subIn K (.ref C_Greater) (.ref C_Lesser) = some false)
    (s_Greater_Greater : PySem.W.subIn K (.ref C_Greater) (.ref C_Greater) = some true)
    (a_Term : PySem.W.nsIn K mainGlobals "Term" = some (some (.ref C_Term)))
    (hd_Term : PySem.W.hasDictIn K C_Term = true)
    (tC_Term : PySem.W.typeIn K (.ref C_Term) = some (.type "type"))
    (s_Place_Term : PySem.W.subIn K (.ref C_Place) (.ref C_Term) = some true)
    (s_End_Term : PySem.W.subIn K (.ref C_End) (.ref C_Term) = some true)
    (s_Lesser_Term : PySem.W.subIn K (.ref C_Lesser) (.ref C_Term) = some true)
    (s_Greater_Term : PySem.W.subIn K (.ref C_Greater) (.ref C_Term) = some true)
    (hn : PySem.W.specialIn K (.builtin "object.__class__") "__get__" = some (some (.builtin "getset_descriptor.__get__")))
    (ht : PySem.W.takesIn K (.builtin "object.__class__") = some true)
    {f__law_draw : Addr} {oc__law_draw kV__law_draw dc__law_draw pm__law_draw ct__law_draw cd__law_draw : Value} {od__law_draw an__law_draw : Option Addr} {sl__law_draw : Array (Option Value)}
    (i__law_draw : PySem.W.nsIn K mainGlobals "_law_draw" = some (some (.ref f__law_draw)))
    (l__law_draw : K.lookup f__law_draw = some ⟨oc__law_draw, od__law_draw, .func (PySem.W.fnOf "_law_draw" "_law_draw" (defArgs (topS 26)) (defBody (topS 26)) (defScope (topS 26)) .none kV__law_draw dc__law_draw pm__law_draw an__law_draw cd__law_draw ct__law_draw), sl__law_draw⟩)
    (e__law_draw : PySem.W.codeIn K cd__law_draw "_law_draw" = true)
    (k__law_draw : PySem.W.keepIn K (.ref f__law_draw) = true)
    {f__law_places : Addr} {oc__law_places kV__law_places dc__law_places pm__law_places ct__law_places cd__law_places : Value} {od__law_places an__law_places : Option Addr} {sl__law_places : Array (Option Value)}
    (i__law_places : PySem.W.nsIn K mainGlobals "_law_places" = some (some (.ref f__law_places)))
    (l__law_places : K.lookup f__law_places = some ⟨oc__law_places, od__law_places, .func (PySem.W.fnOf "_law_places" "_law_places" (defArgs (topS 28)) (defBody (topS 28)) (defScope (topS 28)) .none kV__law_places dc__law_places pm__law_places an__law_places cd__law_places ct__law_places), sl__law_places⟩)
    (e__law_places : PySem.W.codeIn K cd__law_places "_law_places" = true)
    (k__law_places : PySem.W.keepIn K (.ref f__law_places) = true)
    {f__law_pick : Addr} {oc__law_pick kV__law_pick dc__law_pick pm__law_pick ct__law_pick cd__law_pick : Value} {od__law_pick an__law_pick : Option Addr} {sl__law_pick : Array (Option Value)}
    (i__law_pick : PySem.W.nsIn K mainGlobals "_law_pick" = some (some (.ref f__law_pick)))
    (l__law_pick : K.lookup f__law_pick = some ⟨oc__law_pick, od__law_pick, .func (PySem.W.fnOf "_law_pick" "_law_pick" (defArgs (topS 27)) (defBody (topS 27)) (defScope (topS 27)) .none kV__law_pick dc__law_pick pm__law_pick an__law_pick cd__law_pick ct__law_pick), sl__law_pick⟩)
    (e__law_pick : PySem.W.codeIn K cd__law_pick "_law_pick" = true)
    (k__law_pick : PySem.W.keepIn K (.ref f__law_pick) = true)
    {f__law_term : Addr} {oc__law_term kV__law_term dc__law_term pm__law_term ct__law_term cd__law_term : Value} {od__law_term an__law_term : Option Addr} {sl__law_term : Array (Option Value)}
    (i__law_term : PySem.W.nsIn K mainGlobals "_law_term" = some (some (.ref f__law_term)))
    (l__law_term : K.lookup f__law_term = some ⟨oc__law_term, od__law_term, .func (PySem.W.fnOf "_law_term" "_law_term" (defArgs (topS 29)) (defBody (topS 29)) (defScope (topS 29)) .none kV__law_term dc__law_term pm__law_term an__law_term cd__law_term ct__law_term), sl__law_term⟩)
    (e__law_term : PySem.W.codeIn K cd__law_term "_law_term" = true)
    (k__law_term : PySem.W.keepIn K (.ref f__law_term) = true)
    {f_is_place : Addr} {oc_is_place kV_is_place dc_is_place pm_is_place ct_is_place cd_is_place : Value} {od_is_place an_is_place : Option Addr} {sl_is_place : Array (Option Value)}
    (i_is_place : PySem.W.nsIn K mainGlobals "is_place" = some (some (.ref f_is_place)))
    (l_is_place : K.lookup f_is_place = some ⟨oc_is_place, od_is_place, .func (PySem.W.fnOf "is_place" "is_place" (defArgs (topS 13)) (defBody (topS 13)) (defScope (topS 13)) .none kV_is_place dc_is_place pm_is_place an_is_place cd_is_place ct_is_place), sl_is_place⟩)
    (e_is_place : PySem.W.codeIn K cd_is_place "is_place" = true)
    (k_is_place : PySem.W.keepIn K (.ref f_is_place) = true)
    {f_Place_init : Addr} {oc_Place_init kV_Place_init dc_Place_init pm_Place_init ct_Place_init cd_Place_init : Value} {od_Place_init an_Place_init : Option Addr} {sl_Place_init : Array (Option Value)}
    (i_Place_init : PySem.W.findIn K (.ref C_Place) "__init__" = some (some (.ref f_Place_init)))
    (t_Place_init : PySem.W.isFn K (.ref f_Place_init) = true)
    (l_Place_init : K.lookup f_Place_init = some ⟨oc_Place_init, od_Place_init, .func (PySem.W.fnOf "__init__" "Place.__init__" (defArgs (clsAt (topS 20) 0)) (defBody (clsAt (topS 20) 0)) (defScope (clsAt (topS 20) 0)) .none kV_Place_init dc_Place_init pm_Place_init an_Place_init cd_Place_init ct_Place_init), sl_Place_init⟩)
    (e_Place_init : PySem.W.codeIn K cd_Place_init "Place.__init__" = true)
    (k_Place_init : PySem.W.keepIn K (.ref f_Place_init) = true)
    {f_is_end : Addr} {oc_is_end kV_is_end dc_is_end pm_is_end ct_is_end cd_is_end : Value} {od_is_end an_is_end : Option Addr} {sl_is_end : Array (Option Value)}
    (i_is_end : PySem.W.nsIn K mainGlobals "is_end" = some (some (.ref f_is_end)))
    (l_is_end : K.lookup f_is_end = some ⟨oc_is_end, od_is_end, .func (PySem.W.fnOf "is_end" "is_end" (defArgs (topS 9)) (defBody (topS 9)) (defScope (topS 9)) .none kV_is_end dc_is_end pm_is_end an_is_end cd_is_end ct_is_end), sl_is_end⟩)
    (e_is_end : PySem.W.codeIn K cd_is_end "is_end" = true)
    (k_is_end : PySem.W.keepIn K (.ref f_is_end) = true)
    {f_End_init : Addr} {oc_End_init kV_End_init dc_End_init pm_End_init ct_End_init cd_End_init : Value} {od_End_init an_End_init : Option Addr} {sl_End_init : Array (Option Value)}
    (i_End_init : PySem.W.findIn K (.ref C_End) "__init__" = some (some (.ref f_End_init)))
    (t_End_init : PySem.W.isFn K (.ref f_End_init) = true)
    (l_End_init : K.lookup f_End_init = some ⟨oc_End_init, od_End_init, .func (PySem.W.fnOf "__init__" "End.__init__" (defArgs (clsAt (topS 21) 0)) (defBody (clsAt (topS 21) 0)) (defScope (clsAt (topS 21) 0)) .none kV_End_init dc_End_init pm_End_init an_End_init cd_End_init ct_End_init), sl_End_init⟩)
    (e_End_init : PySem.W.codeIn K cd_End_init "End.__init__" = true)
    (k_End_init : PySem.W.keepIn K (.ref f_End_init) = true)
    {f__check_terms : Addr} {oc__check_terms kV__check_terms dc__check_terms pm__check_terms ct__check_terms cd__check_terms : Value} {od__check_terms an__check_terms : Option Addr} {sl__check_terms : Array (Option Value)}
    (i__check_terms : PySem.W.nsIn K mainGlobals "_check_terms" = some (some (.ref f__check_terms)))
    (l__check_terms : K.lookup f__check_terms = some ⟨oc__check_terms, od__check_terms, .func (PySem.W.fnOf "_check_terms" "_check_terms" (defArgs (topS 15)) (defBody (topS 15)) (defScope (topS 15)) .none kV__check_terms dc__check_terms pm__check_terms an__check_terms cd__check_terms ct__check_terms), sl__check_terms⟩)
    (e__check_terms : PySem.W.codeIn K cd__check_terms "_check_terms" = true)
    (k__check_terms : PySem.W.keepIn K (.ref f__check_terms) = true)
    {f__checked_parts : Addr} {oc__checked_parts kV__checked_parts dc__checked_parts pm__checked_parts ct__checked_parts cd__checked_parts : Value} {od__checked_parts an__checked_parts : Option Addr} {sl__checked_parts : Array (Option Value)}
    (i__checked_parts : PySem.W.nsIn K mainGlobals "_checked_parts" = some (some (.ref f__checked_parts)))
    (l__checked_parts : K.lookup f__checked_parts = some ⟨oc__checked_parts, od__checked_parts, .func (PySem.W.fnOf "_checked_parts" "_checked_parts" (defArgs (topS 14)) (defBody (topS 14)) (defScope (topS 14)) .none kV__checked_parts dc__checked_parts pm__checked_parts an__checked_parts cd__checked_parts ct__checked_parts), sl__checked_parts⟩)
    (e__checked_parts : PySem.W.codeIn K cd__checked_parts "_checked_parts" = true)
    (k__checked_parts : PySem.W.keepIn K (.ref f__checked_parts) = true)
    {f_Greater_depth : Addr} {oc_Greater_depth kV_Greater_depth dc_Greater_depth pm_Greater_depth ct_Greater_depth cd_Greater_depth : Value} {od_Greater_depth an_Greater_depth : Option Addr} {sl_Greater_depth : Array (Option Value)}
    {p_Greater_depth : Addr} {r_Greater_depth : List Value}
    (i_Greater_depth : PySem.W.findIn K (.ref C_Greater) "depth" = some (some (.ref p_Greater_depth)))
    (g_Greater_depth : PySem.W.specialIn K (.ref p_Greater_depth) "__get__" = some (some (.builtin "property.__get__")))
    (t_Greater_depth : PySem.W.takesIn K (.ref p_Greater_depth) = some true)
    (c_Greater_depth : PySem.W.recIn K p_Greater_depth "property" = some (.ref f_Greater_depth :: r_Greater_depth))
    (l_Greater_depth : K.lookup f_Greater_depth = some ⟨oc_Greater_depth, od_Greater_depth, .func (PySem.W.fnOf "depth" "Greater.depth" (defArgs (clsAt (topS 23) 2)) (defBody (clsAt (topS 23) 2)) (defScope (clsAt (topS 23) 2)) .none kV_Greater_depth dc_Greater_depth pm_Greater_depth an_Greater_depth cd_Greater_depth ct_Greater_depth), sl_Greater_depth⟩)
    (e_Greater_depth : PySem.W.codeIn K cd_Greater_depth "Greater.depth" = true)
    (k_Greater_depth : PySem.W.keepIn K (.ref f_Greater_depth) = true)
    {f_Lesser_depth : Addr} {oc_Lesser_depth kV_Lesser_depth dc_Lesser_depth pm_Lesser_depth ct_Lesser_depth cd_Lesser_depth : Value} {od_Lesser_depth an_Lesser_depth : Option Addr} {sl_Lesser_depth : Array (Option Value)}
    {p_Lesser_depth : Addr} {r_Lesser_depth : List Value}
    (i_Lesser_depth : PySem.W.findIn K (.ref C_Lesser) "depth" = some (some (.ref p_Lesser_depth)))
    (g_Lesser_depth : PySem.W.specialIn K (.ref p_Lesser_depth) "__get__" = some (some (.builtin "property.__get__")))
    (t_Lesser_depth : PySem.W.takesIn K (.ref p_Lesser_depth) = some true)
    (c_Lesser_depth : PySem.W.recIn K p_Lesser_depth "property" = some (.ref f_Lesser_depth :: r_Lesser_depth))
    (l_Lesser_depth : K.lookup f_Lesser_depth = some ⟨oc_Lesser_depth, od_Lesser_depth, .func (PySem.W.fnOf "depth" "Lesser.depth" (defArgs (clsAt (topS 22) 2)) (defBody (clsAt (topS 22) 2)) (defScope (clsAt (topS 22) 2)) .none kV_Lesser_depth dc_Lesser_depth pm_Lesser_depth an_Lesser_depth cd_Lesser_depth ct_Lesser_depth), sl_Lesser_depth⟩)
    (e_Lesser_depth : PySem.W.codeIn K cd_Lesser_depth "Lesser.depth" = true)
    (k_Lesser_depth : PySem.W.keepIn K (.ref f_Lesser_depth) = true)
    {f_End_depth : Addr} {oc_End_depth kV_End_depth dc_End_depth pm_End_depth ct_End_depth cd_End_depth : Value} {od_End_depth an_End_depth : Option Addr} {sl_End_depth : Array (Option Value)}
    {p_End_depth : Addr} {r_End_depth : List Value}
    (i_End_depth : PySem.W.findIn K (.ref C_End) "depth" = some (some (.ref p_End_depth)))
    (g_End_depth : PySem.W.specialIn K (.ref p_End_depth) "__get__" = some (some (.builtin "property.__get__")))
    (t_End_depth : PySem.W.takesIn K (.ref p_End_depth) = some true)
    (c_End_depth : PySem.W.recIn K p_End_depth "property" = some (.ref f_End_depth :: r_End_depth))
    (l_End_depth : K.lookup f_End_depth = some ⟨oc_End_depth, od_End_depth, .func (PySem.W.fnOf "depth" "End.depth" (defArgs (clsAt (topS 21) 2)) (defBody (clsAt (topS 21) 2)) (defScope (clsAt (topS 21) 2)) .none kV_End_depth dc_End_depth pm_End_depth an_End_depth cd_End_depth ct_End_depth), sl_End_depth⟩)
    (e_End_depth : PySem.W.codeIn K cd_End_depth "End.depth" = true)
    (k_End_depth : PySem.W.keepIn K (.ref f_End_depth) = true)
    {f_Place_depth : Addr} {oc_Place_depth kV_Place_depth dc_Place_depth pm_Place_depth ct_Place_depth cd_Place_depth : Value} {od_Place_depth an_Place_depth : Option Addr} {sl_Place_depth : Array (Option Value)}
    {p_Place_depth : Addr} {r_Place_depth : List Value}
    (i_Place_depth : PySem.W.findIn K (.ref C_Place) "depth" = some (some (.ref p_Place_depth)))
    (g_Place_depth : PySem.W.specialIn K (.ref p_Place_depth) "__get__" = some (some (.builtin "property.__get__")))
    (t_Place_depth : PySem.W.takesIn K (.ref p_Place_depth) = some true)
    (c_Place_depth : PySem.W.recIn K p_Place_depth "property" = some (.ref f_Place_depth :: r_Place_depth))
    (l_Place_depth : K.lookup f_Place_depth = some ⟨oc_Place_depth, od_Place_depth, .func (PySem.W.fnOf "depth" "Place.depth" (defArgs (clsAt (topS 20) 2)) (defBody (clsAt (topS 20) 2)) (defScope (clsAt (topS 20) 2)) .none kV_Place_depth dc_Place_depth pm_Place_depth an_Place_depth cd_Place_depth ct_Place_depth), sl_Place_depth⟩)
    (e_Place_depth : PySem.W.codeIn K cd_Place_depth "Place.depth" = true)
    (k_Place_depth : PySem.W.keepIn K (.ref f_Place_depth) = true)
    {f__depth_over : Addr} {oc__depth_over kV__depth_over dc__depth_over pm__depth_over ct__depth_over cd__depth_over : Value} {od__depth_over an__depth_over : Option Addr} {sl__depth_over : Array (Option Value)}
    (i__depth_over : PySem.W.nsIn K mainGlobals "_depth_over" = some (some (.ref f__depth_over)))
    (l__depth_over : K.lookup f__depth_over = some ⟨oc__depth_over, od__depth_over, .func (PySem.W.fnOf "_depth_over" "_depth_over" (defArgs (topS 16)) (defBody (topS 16)) (defScope (topS 16)) .none kV__depth_over dc__depth_over pm__depth_over an__depth_over cd__depth_over ct__depth_over), sl__depth_over⟩)
    (e__depth_over : PySem.W.codeIn K cd__depth_over "_depth_over" = true)
    (k__depth_over : PySem.W.keepIn K (.ref f__depth_over) = true)
    {f_Lesser_init : Addr} {oc_Lesser_init kV_Lesser_init dc_Lesser_init pm_Lesser_init ct_Lesser_init cd_Lesser_init : Value} {od_Lesser_init an_Lesser_init : Option Addr} {sl_Lesser_init : Array (Option Value)}
    (i_Lesser_init : PySem.W.findIn K (.ref C_Lesser) "__init__" = some (some (.ref f_Lesser_init)))
    (t_Lesser_init : PySem.W.isFn K (.ref f_Lesser_init) = true)
    (l_Lesser_init : K.lookup f_Lesser_init = some ⟨oc_Lesser_init, od_Lesser_init, .func (PySem.W.fnOf "__init__" "Lesser.__init__" (defArgs (clsAt (topS 22) 0)) (defBody (clsAt (topS 22) 0)) (defScope (clsAt (topS 22) 0)) .none kV_Lesser_init dc_Lesser_init pm_Lesser_init an_Lesser_init cd_Lesser_init ct_Lesser_init), sl_Lesser_init⟩)
    (e_Lesser_init : PySem.W.codeIn K cd_Lesser_init "Lesser.__init__" = true)
    (k_Lesser_init : PySem.W.keepIn K (.ref f_Lesser_init) = true)
    {f_Greater_init : Addr} {oc_Greater_init kV_Greater_init dc_Greater_init pm_Greater_init ct_Greater_init cd_Greater_init : Value} {od_Greater_init an_Greater_init : Option Addr} {sl_Greater_init : Array (Option Value)}
    (i_Greater_init : PySem.W.findIn K (.ref C_Greater) "__init__" = some (some (.ref f_Greater_init)))
    (t_Greater_init : PySem.W.isFn K (.ref f_Greater_init) = true)
    (l_Greater_init : K.lookup f_Greater_init = some ⟨oc_Greater_init, od_Greater_init, .func (PySem.W.fnOf "__init__" "Greater.__init__" (defArgs (clsAt (topS 23) 0)) (defBody (clsAt (topS 23) 0)) (defScope (clsAt (topS 23) 0)) .none kV_Greater_init dc_Greater_init pm_Greater_init an_Greater_init cd_Greater_init ct_Greater_init), sl_Greater_init⟩)
    (e_Greater_init : PySem.W.codeIn K cd_Greater_init "Greater.__init__" = true)
    (k_Greater_init : PySem.W.keepIn K (.ref f_Greater_init) = true)
    {f__law_joined : Addr} {oc__law_joined kV__law_joined dc__law_joined pm__law_joined ct__law_joined cd__law_joined : Value} {od__law_joined an__law_joined : Option Addr} {sl__law_joined : Array (Option Value)}
    (i__law_joined : PySem.W.nsIn K mainGlobals "_law_joined" = some (some (.ref f__law_joined)))
    (l__law_joined : K.lookup f__law_joined = some ⟨oc__law_joined, od__law_joined, .func (PySem.W.fnOf "_law_joined" "_law_joined" (defArgs (topS 30)) (defBody (topS 30)) (defScope (topS 30)) .none kV__law_joined dc__law_joined pm__law_joined an__law_joined cd__law_joined ct__law_joined), sl__law_joined⟩)
    (e__law_joined : PySem.W.codeIn K cd__law_joined "_law_joined" = true)
    (k__law_joined : PySem.W.keepIn K (.ref f__law_joined) = true)
    {f__law_real : Addr} {oc__law_real kV__law_real dc__law_real pm__law_real ct__law_real cd__law_real : Value} {od__law_real an__law_real : Option Addr} {sl__law_real : Array (Option Value)}
    (i__law_real : PySem.W.nsIn K mainGlobals "_law_real" = some (some (.ref f__law_real)))
    (l__law_real : K.lookup f__law_real = some ⟨oc__law_real, od__law_real, .func (PySem.W.fnOf "_law_real" "_law_real" (defArgs (topS 31)) (defBody (topS 31)) (defScope (topS 31)) .none kV__law_real dc__law_real pm__law_real an__law_real cd__law_real ct__law_real), sl__law_real⟩)
    (e__law_real : PySem.W.codeIn K cd__law_real "_law_real" = true)
    (k__law_real : PySem.W.keepIn K (.ref f__law_real) = true)
    {f_End_repr : Addr} {oc_End_repr kV_End_repr dc_End_repr pm_End_repr ct_End_repr cd_End_repr : Value} {od_End_repr an_End_repr : Option Addr} {sl_End_repr : Array (Option Value)}
    (i_End_repr : PySem.W.findIn K (.ref C_End) "__repr__" = some (some (.ref f_End_repr)))
    (t_End_repr : PySem.W.isFn K (.ref f_End_repr) = true)
    (l_End_repr : K.lookup f_End_repr = some ⟨oc_End_repr, od_End_repr, .func (PySem.W.fnOf "__repr__" "End.__repr__" (defArgs (clsAt (topS 21) 12)) (defBody (clsAt (topS 21) 12)) (defScope (clsAt (topS 21) 12)) .none kV_End_repr dc_End_repr pm_End_repr an_End_repr cd_End_repr ct_End_repr), sl_End_repr⟩)
    (e_End_repr : PySem.W.codeIn K cd_End_repr "End.__repr__" = true)
    (k_End_repr : PySem.W.keepIn K (.ref f_End_repr) = true)
    {f_Place_repr : Addr} {oc_Place_repr kV_Place_repr dc_Place_repr pm_Place_repr ct_Place_repr cd_Place_repr : Value} {od_Place_repr an_Place_repr : Option Addr} {sl_Place_repr : Array (Option Value)}
    (i_Place_repr : PySem.W.findIn K (.ref C_Place) "__repr__" = some (some (.ref f_Place_repr)))
    (t_Place_repr : PySem.W.isFn K (.ref f_Place_repr) = true)
    (l_Place_repr : K.lookup f_Place_repr = some ⟨oc_Place_repr, od_Place_repr, .func (PySem.W.fnOf "__repr__" "Place.__repr__" (defArgs (clsAt (topS 20) 12)) (defBody (clsAt (topS 20) 12)) (defScope (clsAt (topS 20) 12)) .none kV_Place_repr dc_Place_repr pm_Place_repr an_Place_repr cd_Place_repr ct_Place_repr), sl_Place_repr⟩)
    (e_Place_repr : PySem.W.codeIn K cd_Place_repr "Place.__repr__" = true)
    (k_Place_repr : PySem.W.keepIn K (.ref f_Place_repr) = true)
    {f_Lesser_repr : Addr} {oc_Lesser_repr kV_Lesser_repr dc_Lesser_repr pm_Lesser_repr ct_Lesser_repr cd_Lesser_repr : Value} {od_Lesser_repr an_Lesser_repr : Option Addr} {sl_Lesser_repr : Array (Option Value)}
    (i_Lesser_repr : PySem.W.findIn K (.ref C_Lesser) "__repr__" = some (some (.ref f_Lesser_repr)))
    (t_Lesser_repr : PySem.W.isFn K (.ref f_Lesser_repr) = true)
    (l_Lesser_repr : K.lookup f_Lesser_repr = some ⟨oc_Lesser_repr, od_Lesser_repr, .func (PySem.W.fnOf "__repr__" "Lesser.__repr__" (defArgs (clsAt (topS 22) 12)) (defBody (clsAt (topS 22) 12)) (defScope (clsAt (topS 22) 12)) .none kV_Lesser_repr dc_Lesser_repr pm_Lesser_repr an_Lesser_repr cd_Lesser_repr ct_Lesser_repr), sl_Lesser_repr⟩)
    (e_Lesser_repr : PySem.W.codeIn K cd_Lesser_repr "Lesser.__repr__" = true)
    (k_Lesser_repr : PySem.W.keepIn K (.ref f_Lesser_repr) = true)
    {f_Greater_repr : Addr} {oc_Greater_repr kV_Greater_repr dc_Greater_repr pm_Greater_repr ct_Greater_repr cd_Greater_repr : Value} {od_Greater_repr an_Greater_repr : Option Addr} {sl_Greater_repr : Array (Option Value)}
    (i_Greater_repr : PySem.W.findIn K (.ref C_Greater) "__repr__" = some (some (.ref f_Greater_repr)))
    (t_Greater_repr : PySem.W.isFn K (.ref f_Greater_repr) = true)
    (l_Greater_repr : K.lookup f_Greater_repr = some ⟨oc_Greater_repr, od_Greater_repr, .func (PySem.W.fnOf "__repr__" "Greater.__repr__" (defArgs (clsAt (topS 23) 12)) (defBody (clsAt (topS 23) 12)) (defScope (clsAt (topS 23) 12)) .none kV_Greater_repr dc_Greater_repr pm_Greater_repr an_Greater_repr cd_Greater_repr ct_Greater_repr), sl_Greater_repr⟩)
    (e_Greater_repr : PySem.W.codeIn K cd_Greater_repr "Greater.__repr__" = true)
    (k_Greater_repr : PySem.W.keepIn K (.ref f_Greater_repr) = true)
    {f_End_str : Addr} {oc_End_str kV_End_str dc_End_str pm_End_str ct_End_str cd_End_str : Value} {od_End_str an_End_str : Option Addr} {sl_End_str : Array (Option Value)}
    (i_End_str : PySem.W.findIn K (.ref C_End) "__str__" = some (some (.ref f_End_str)))
    (t_End_str : PySem.W.isFn K (.ref f_End_str) = true)
    (l_End_str : K.lookup f_End_str = some ⟨oc_End_str, od_End_str, .func (PySem.W.fnOf "__str__" "End.__str__" (defArgs (clsAt (topS 21) 11)) (defBody (clsAt (topS 21) 11)) (defScope (clsAt (topS 21) 11)) .none kV_End_str dc_End_str pm_End_str an_End_str cd_End_str ct_End_str), sl_End_str⟩)
    (e_End_str : PySem.W.codeIn K cd_End_str "End.__str__" = true)
    (k_End_str : PySem.W.keepIn K (.ref f_End_str) = true)
    {f_Place_str : Addr} {oc_Place_str kV_Place_str dc_Place_str pm_Place_str ct_Place_str cd_Place_str : Value} {od_Place_str an_Place_str : Option Addr} {sl_Place_str : Array (Option Value)}
    (i_Place_str : PySem.W.findIn K (.ref C_Place) "__str__" = some (some (.ref f_Place_str)))
    (t_Place_str : PySem.W.isFn K (.ref f_Place_str) = true)
    (l_Place_str : K.lookup f_Place_str = some ⟨oc_Place_str, od_Place_str, .func (PySem.W.fnOf "__str__" "Place.__str__" (defArgs (clsAt (topS 20) 11)) (defBody (clsAt (topS 20) 11)) (defScope (clsAt (topS 20) 11)) .none kV_Place_str dc_Place_str pm_Place_str an_Place_str cd_Place_str ct_Place_str), sl_Place_str⟩)
    (e_Place_str : PySem.W.codeIn K cd_Place_str "Place.__str__" = true)
    (k_Place_str : PySem.W.keepIn K (.ref f_Place_str) = true)
    {f__text_within : Addr} {oc__text_within kV__text_within dc__text_within pm__text_within ct__text_within cd__text_within : Value} {od__text_within an__text_within : Option Addr} {sl__text_within : Array (Option Value)}
    (i__text_within : PySem.W.nsIn K mainGlobals "_text_within" = some (some (.ref f__text_within)))
    (l__text_within : K.lookup f__text_within = some ⟨oc__text_within, od__text_within, .func (PySem.W.fnOf "_text_within" "_text_within" (defArgs (topS 18)) (defBody (topS 18)) (defScope (topS 18)) .none kV__text_within dc__text_within pm__text_within an__text_within cd__text_within ct__text_within), sl__text_within⟩)
    (e__text_within : PySem.W.codeIn K cd__text_within "_text_within" = true)
    (k__text_within : PySem.W.keepIn K (.ref f__text_within) = true)
    {f_Lesser_str : Addr} {oc_Lesser_str kV_Lesser_str dc_Lesser_str pm_Lesser_str ct_Lesser_str cd_Lesser_str : Value} {od_Lesser_str an_Lesser_str : Option Addr} {sl_Lesser_str : Array (Option Value)}
    (i_Lesser_str : PySem.W.findIn K (.ref C_Lesser) "__str__" = some (some (.ref f_Lesser_str)))
    (t_Lesser_str : PySem.W.isFn K (.ref f_Lesser_str) = true)
    (l_Lesser_str : K.lookup f_Lesser_str = some ⟨oc_Lesser_str, od_Lesser_str, .func (PySem.W.fnOf "__str__" "Lesser.__str__" (defArgs (clsAt (topS 22) 11)) (defBody (clsAt (topS 22) 11)) (defScope (clsAt (topS 22) 11)) .none kV_Lesser_str dc_Lesser_str pm_Lesser_str an_Lesser_str cd_Lesser_str ct_Lesser_str), sl_Lesser_str⟩)
    (e_Lesser_str : PySem.W.codeIn K cd_Lesser_str "Lesser.__str__" = true)
    (k_Lesser_str : PySem.W.keepIn K (.ref f_Lesser_str) = true)
    {f_Greater_str : Addr} {oc_Greater_str kV_Greater_str dc_Greater_str pm_Greater_str ct_Greater_str cd_Greater_str : Value} {od_Greater_str an_Greater_str : Option Addr} {sl_Greater_str : Array (Option Value)}
    (i_Greater_str : PySem.W.findIn K (.ref C_Greater) "__str__" = some (some (.ref f_Greater_str)))
    (t_Greater_str : PySem.W.isFn K (.ref f_Greater_str) = true)
    (l_Greater_str : K.lookup f_Greater_str = some ⟨oc_Greater_str, od_Greater_str, .func (PySem.W.fnOf "__str__" "Greater.__str__" (defArgs (clsAt (topS 23) 11)) (defBody (clsAt (topS 23) 11)) (defScope (clsAt (topS 23) 11)) .none kV_Greater_str dc_Greater_str pm_Greater_str an_Greater_str cd_Greater_str ct_Greater_str), sl_Greater_str⟩)
    (e_Greater_str : PySem.W.codeIn K cd_Greater_str "Greater.__str__" = true)
    (k_Greater_str : PySem.W.keepIn K (.ref f_Greater_str) = true)
    {f__law_written : Addr} {oc__law_written kV__law_written dc__law_written pm__law_written ct__law_written cd__law_written : Value} {od__law_written an__law_written : Option Addr} {sl__law_written : Array (Option Value)}
    (i__law_written : PySem.W.nsIn K mainGlobals "_law_written" = some (some (.ref f__law_written)))
    (l__law_written : K.lookup f__law_written = some ⟨oc__law_written, od__law_written, .func (PySem.W.fnOf "_law_written" "_law_written" (defArgs (topS 34)) (defBody (topS 34)) (defScope (topS 34)) .none kV__law_written dc__law_written pm__law_written an__law_written cd__law_written ct__law_written), sl__law_written⟩)
    (e__law_written : PySem.W.codeIn K cd__law_written "_law_written" = true)
    (k__law_written : PySem.W.keepIn K (.ref f__law_written) = true)
    {f__law_inner : Addr} {oc__law_inner kV__law_inner dc__law_inner pm__law_inner ct__law_inner cd__law_inner : Value} {od__law_inner an__law_inner : Option Addr} {sl__law_inner : Array (Option Value)}
    (i__law_inner : PySem.W.nsIn K mainGlobals "_law_inner" = some (some (.ref f__law_inner)))
    (l__law_inner : K.lookup f__law_inner = some ⟨oc__law_inner, od__law_inner, .func (PySem.W.fnOf "_law_inner" "_law_inner" (defArgs (topS 32)) (defBody (topS 32)) (defScope (topS 32)) .none kV__law_inner dc__law_inner pm__law_inner an__law_inner cd__law_inner ct__law_inner), sl__law_inner⟩)
    (e__law_inner : PySem.W.codeIn K cd__law_inner "_law_inner" = true)
    (k__law_inner : PySem.W.keepIn K (.ref f__law_inner) = true)
    {f__law_text : Addr} {oc__law_text kV__law_text dc__law_text pm__law_text ct__law_text cd__law_text : Value} {od__law_text an__law_text : Option Addr} {sl__law_text : Array (Option Value)}
    (i__law_text : PySem.W.nsIn K mainGlobals "_law_text" = some (some (.ref f__law_text)))
    (l__law_text : K.lookup f__law_text = some ⟨oc__law_text, od__law_text, .func (PySem.W.fnOf "_law_text" "_law_text" (defArgs (topS 33)) (defBody (topS 33)) (defScope (topS 33)) .none kV__law_text dc__law_text pm__law_text an__law_text cd__law_text ct__law_text), sl__law_text⟩)
    (e__law_text : PySem.W.codeIn K cd__law_text "_law_text" = true)
    (k__law_text : PySem.W.keepIn K (.ref f__law_text) = true)
    {f__law_bent : Addr} {oc__law_bent kV__law_bent dc__law_bent pm__law_bent ct__law_bent cd__law_bent : Value} {od__law_bent an__law_bent : Option Addr} {sl__law_bent : Array (Option Value)}
    (i__law_bent : PySem.W.nsIn K mainGlobals "_law_bent" = some (some (.ref f__law_bent)))
    (l__law_bent : K.lookup f__law_bent = some ⟨oc__law_bent, od__law_bent, .func (PySem.W.fnOf "_law_bent" "_law_bent" (defArgs (topS 35)) (defBody (topS 35)) (defScope (topS 35)) .none kV__law_bent dc__law_bent pm__law_bent an__law_bent cd__law_bent ct__law_bent), sl__law_bent⟩)
    (e__law_bent : PySem.W.codeIn K cd__law_bent "_law_bent" = true)
    (k__law_bent : PySem.W.keepIn K (.ref f__law_bent) = true)
    {f_End_eq : Addr} {oc_End_eq kV_End_eq dc_End_eq pm_End_eq ct_End_eq cd_End_eq : Value} {od_End_eq an_End_eq : Option Addr} {sl_End_eq : Array (Option Value)}
    (i_End_eq : PySem.W.findIn K (.ref C_End) "__eq__" = some (some (.ref f_End_eq)))
    (t_End_eq : PySem.W.isFn K (.ref f_End_eq) = true)
    (l_End_eq : K.lookup f_End_eq = some ⟨oc_End_eq, od_End_eq, .func (PySem.W.fnOf "__eq__" "End.__eq__" (defArgs (clsAt (topS 21) 13)) (defBody (clsAt (topS 21) 13)) (defScope (clsAt (topS 21) 13)) .none kV_End_eq dc_End_eq pm_End_eq an_End_eq cd_End_eq ct_End_eq), sl_End_eq⟩)
    (e_End_eq : PySem.W.codeIn K cd_End_eq "End.__eq__" = true)
    (k_End_eq : PySem.W.keepIn K (.ref f_End_eq) = true)
    {f_Place_eq : Addr} {oc_Place_eq kV_Place_eq dc_Place_eq pm_Place_eq ct_Place_eq cd_Place_eq : Value} {od_Place_eq an_Place_eq : Option Addr} {sl_Place_eq : Array (Option Value)}
    (i_Place_eq : PySem.W.findIn K (.ref C_Place) "__eq__" = some (some (.ref f_Place_eq)))
    (t_Place_eq : PySem.W.isFn K (.ref f_Place_eq) = true)
    (l_Place_eq : K.lookup f_Place_eq = some ⟨oc_Place_eq, od_Place_eq, .func (PySem.W.fnOf "__eq__" "Place.__eq__" (defArgs (clsAt (topS 20) 13)) (defBody (clsAt (topS 20) 13)) (defScope (clsAt (topS 20) 13)) .none kV_Place_eq dc_Place_eq pm_Place_eq an_Place_eq cd_Place_eq ct_Place_eq), sl_Place_eq⟩)
    (e_Place_eq : PySem.W.codeIn K cd_Place_eq "Place.__eq__" = true)
    (k_Place_eq : PySem.W.keepIn K (.ref f_Place_eq) = true)
    {f_Lesser_eq : Addr} {oc_Lesser_eq kV_Lesser_eq dc_Lesser_eq pm_Lesser_eq ct_Lesser_eq cd_Lesser_eq : Value} {od_Lesser_eq an_Lesser_eq : Option Addr} {sl_Lesser_eq : Array (Option Value)}
    (i_Lesser_eq : PySem.W.findIn K (.ref C_Lesser) "__eq__" = some (some (.ref f_Lesser_eq)))
    (t_Lesser_eq : PySem.W.isFn K (.ref f_Lesser_eq) = true)
    (l_Lesser_eq : K.lookup f_Lesser_eq = some ⟨oc_Lesser_eq, od_Lesser_eq, .func (PySem.W.fnOf "__eq__" "Lesser.__eq__" (defArgs (clsAt (topS 22) 13)) (defBody (clsAt (topS 22) 13)) (defScope (clsAt (topS 22) 13)) .none kV_Lesser_eq dc_Lesser_eq pm_Lesser_eq an_Lesser_eq cd_Lesser_eq ct_Lesser_eq), sl_Lesser_eq⟩)
    (e_Lesser_eq : PySem.W.codeIn K cd_Lesser_eq "Lesser.__eq__" = true)
    (k_Lesser_eq : PySem.W.keepIn K (.ref f_Lesser_eq) = true)
    {f_Greater_eq : Addr} {oc_Greater_eq kV_Greater_eq dc_Greater_eq pm_Greater_eq ct_Greater_eq cd_Greater_eq : Value} {od_Greater_eq an_Greater_eq : Option Addr} {sl_Greater_eq : Array (Option Value)}
    (i_Greater_eq : PySem.W.findIn K (.ref C_Greater) "__eq__" = some (some (.ref f_Greater_eq)))
    (t_Greater_eq : PySem.W.isFn K (.ref f_Greater_eq) = true)
    (l_Greater_eq : K.lookup f_Greater_eq = some ⟨oc_Greater_eq, od_Greater_eq, .func (PySem.W.fnOf "__eq__" "Greater.__eq__" (defArgs (clsAt (topS 23) 13)) (defBody (clsAt (topS 23) 13)) (defScope (clsAt (topS 23) 13)) .none kV_Greater_eq dc_Greater_eq pm_Greater_eq an_Greater_eq cd_Greater_eq ct_Greater_eq), sl_Greater_eq⟩)
    (e_Greater_eq : PySem.W.codeIn K cd_Greater_eq "Greater.__eq__" = true)
    (k_Greater_eq : PySem.W.keepIn K (.ref f_Greater_eq) = true)
    {f_Greater_or : Addr} {oc_Greater_or kV_Greater_or dc_Greater_or pm_Greater_or ct_Greater_or cd_Greater_or : Value} {od_Greater_or an_Greater_or : Option Addr} {sl_Greater_or : Array (Option Value)}
    (i_Greater_or : PySem.W.findIn K (.ref C_Greater) "__or__" = some (some (.ref f_Greater_or)))
    (t_Greater_or : PySem.W.isFn K (.ref f_Greater_or) = true)
    (l_Greater_or : K.lookup f_Greater_or = some ⟨oc_Greater_or, od_Greater_or, .func (PySem.W.fnOf "__or__" "Greater.__or__" (defArgs (clsAt (topS 23) 10)) (defBody (clsAt (topS 23) 10)) (defScope (clsAt (topS 23) 10)) .none kV_Greater_or dc_Greater_or pm_Greater_or an_Greater_or cd_Greater_or ct_Greater_or), sl_Greater_or⟩)
    (e_Greater_or : PySem.W.codeIn K cd_Greater_or "Greater.__or__" = true)
    (k_Greater_or : PySem.W.keepIn K (.ref f_Greater_or) = true)
    {f_Lesser_or : Addr} {oc_Lesser_or kV_Lesser_or dc_Lesser_or pm_Lesser_or ct_Lesser_or cd_Lesser_or : Value} {od_Lesser_or an_Lesser_or : Option Addr} {sl_Lesser_or : Array (Option Value)}
    (i_Lesser_or : PySem.W.findIn K (.ref C_Lesser) "__or__" = some (some (.ref f_Lesser_or)))
    (t_Lesser_or : PySem.W.isFn K (.ref f_Lesser_or) = true)
    (l_Lesser_or : K.lookup f_Lesser_or = some ⟨oc_Lesser_or, od_Lesser_or, .func (PySem.W.fnOf "__or__" "Lesser.__or__" (defArgs (clsAt (topS 22) 10)) (defBody (clsAt (topS 22) 10)) (defScope (clsAt (topS 22) 10)) .none kV_Lesser_or dc_Lesser_or pm_Lesser_or an_Lesser_or cd_Lesser_or ct_Lesser_or), sl_Lesser_or⟩)
    (e_Lesser_or : PySem.W.codeIn K cd_Lesser_or "Lesser.__or__" = true)
    (k_Lesser_or : PySem.W.keepIn K (.ref f_Lesser_or) = true)
    {f_End_or : Addr} {oc_End_or kV_End_or dc_End_or pm_End_or ct_End_or cd_End_or : Value} {od_End_or an_End_or : Option Addr} {sl_End_or : Array (Option Value)}
    (i_End_or : PySem.W.findIn K (.ref C_End) "__or__" = some (some (.ref f_End_or)))
    (t_End_or : PySem.W.isFn K (.ref f_End_or) = true)
    (l_End_or : K.lookup f_End_or = some ⟨oc_End_or, od_End_or, .func (PySem.W.fnOf "__or__" "End.__or__" (defArgs (clsAt (topS 21) 10)) (defBody (clsAt (topS 21) 10)) (defScope (clsAt (topS 21) 10)) .none kV_End_or dc_End_or pm_End_or an_End_or cd_End_or ct_End_or), sl_End_or⟩)
    (e_End_or : PySem.W.codeIn K cd_End_or "End.__or__" = true)
    (k_End_or : PySem.W.keepIn K (.ref f_End_or) = true)
    {f_Place_or : Addr} {oc_Place_or kV_Place_or dc_Place_or pm_Place_or ct_Place_or cd_Place_or : Value} {od_Place_or an_Place_or : Option Addr} {sl_Place_or : Array (Option Value)}
    (i_Place_or : PySem.W.findIn K (.ref C_Place) "__or__" = some (some (.ref f_Place_or)))
    (t_Place_or : PySem.W.isFn K (.ref f_Place_or) = true)
    (l_Place_or : K.lookup f_Place_or = some ⟨oc_Place_or, od_Place_or, .func (PySem.W.fnOf "__or__" "Place.__or__" (defArgs (clsAt (topS 20) 10)) (defBody (clsAt (topS 20) 10)) (defScope (clsAt (topS 20) 10)) .none kV_Place_or dc_Place_or pm_Place_or an_Place_or cd_Place_or ct_Place_or), sl_Place_or⟩)
    (e_Place_or : PySem.W.codeIn K cd_Place_or "Place.__or__" = true)
    (k_Place_or : PySem.W.keepIn K (.ref f_Place_or) = true)
    {f_Greater_and : Addr} {oc_Greater_and kV_Greater_and dc_Greater_and pm_Greater_and ct_Greater_and cd_Greater_and : Value} {od_Greater_and an_Greater_and : Option Addr} {sl_Greater_and : Array (Option Value)}
    (i_Greater_and : PySem.W.findIn K (.ref C_Greater) "__and__" = some (some (.ref f_Greater_and)))
    (t_Greater_and : PySem.W.isFn K (.ref f_Greater_and) = true)
    (l_Greater_and : K.lookup f_Greater_and = some ⟨oc_Greater_and, od_Greater_and, .func (PySem.W.fnOf "__and__" "Greater.__and__" (defArgs (clsAt (topS 23) 9)) (defBody (clsAt (topS 23) 9)) (defScope (clsAt (topS 23) 9)) .none kV_Greater_and dc_Greater_and pm_Greater_and an_Greater_and cd_Greater_and ct_Greater_and), sl_Greater_and⟩)
    (e_Greater_and : PySem.W.codeIn K cd_Greater_and "Greater.__and__" = true)
    (k_Greater_and : PySem.W.keepIn K (.ref f_Greater_and) = true)
    {f_Lesser_and : Addr} {oc_Lesser_and kV_Lesser_and dc_Lesser_and pm_Lesser_and ct_Lesser_and cd_Lesser_and : Value} {od_Lesser_and an_Lesser_and : Option Addr} {sl_Lesser_and : Array (Option Value)}
    (i_Lesser_and : PySem.W.findIn K (.ref C_Lesser) "__and__" = some (some (.ref f_Lesser_and)))
    (t_Lesser_and : PySem.W.isFn K (.ref f_Lesser_and) = true)
    (l_Lesser_and : K.lookup f_Lesser_and = some ⟨oc_Lesser_and, od_Lesser_and, .func (PySem.W.fnOf "__and__" "Lesser.__and__" (defArgs (clsAt (topS 22) 9)) (defBody (clsAt (topS 22) 9)) (defScope (clsAt (topS 22) 9)) .none kV_Lesser_and dc_Lesser_and pm_Lesser_and an_Lesser_and cd_Lesser_and ct_Lesser_and), sl_Lesser_and⟩)
    (e_Lesser_and : PySem.W.codeIn K cd_Lesser_and "Lesser.__and__" = true)
    (k_Lesser_and : PySem.W.keepIn K (.ref f_Lesser_and) = true)
    {f_End_and : Addr} {oc_End_and kV_End_and dc_End_and pm_End_and ct_End_and cd_End_and : Value} {od_End_and an_End_and : Option Addr} {sl_End_and : Array (Option Value)}
    (i_End_and : PySem.W.findIn K (.ref C_End) "__and__" = some (some (.ref f_End_and)))
    (t_End_and : PySem.W.isFn K (.ref f_End_and) = true)
    (l_End_and : K.lookup f_End_and = some ⟨oc_End_and, od_End_and, .func (PySem.W.fnOf "__and__" "End.__and__" (defArgs (clsAt (topS 21) 9)) (defBody (clsAt (topS 21) 9)) (defScope (clsAt (topS 21) 9)) .none kV_End_and dc_End_and pm_End_and an_End_and cd_End_and ct_End_and), sl_End_and⟩)
    (e_End_and : PySem.W.codeIn K cd_End_and "End.__and__" = true)
    (k_End_and : PySem.W.keepIn K (.ref f_End_and) = true)
    {f_Place_and : Addr} {oc_Place_and kV_Place_and dc_Place_and pm_Place_and ct_Place_and cd_Place_and : Value} {od_Place_and an_Place_and : Option Addr} {sl_Place_and : Array (Option Value)}
    (i_Place_and : PySem.W.findIn K (.ref C_Place) "__and__" = some (some (.ref f_Place_and)))
    (t_Place_and : PySem.W.isFn K (.ref f_Place_and) = true)
    (l_Place_and : K.lookup f_Place_and = some ⟨oc_Place_and, od_Place_and, .func (PySem.W.fnOf "__and__" "Place.__and__" (defArgs (clsAt (topS 20) 9)) (defBody (clsAt (topS 20) 9)) (defScope (clsAt (topS 20) 9)) .none kV_Place_and dc_Place_and pm_Place_and an_Place_and cd_Place_and ct_Place_and), sl_Place_and⟩)
    (e_Place_and : PySem.W.codeIn K cd_Place_and "Place.__and__" = true)
    (k_Place_and : PySem.W.keepIn K (.ref f_Place_and) = true)
    {f__law_signs_right : Addr} {oc__law_signs_right kV__law_signs_right dc__law_signs_right pm__law_signs_right ct__law_signs_right cd__law_signs_right : Value} {od__law_signs_right an__law_signs_right : Option Addr} {sl__law_signs_right : Array (Option Value)}
    (i__law_signs_right : PySem.W.nsIn K mainGlobals "_law_signs_right" = some (some (.ref f__law_signs_right)))
    (l__law_signs_right : K.lookup f__law_signs_right = some ⟨oc__law_signs_right, od__law_signs_right, .func (PySem.W.fnOf "_law_signs_right" "_law_signs_right" (defArgs (topS 36)) (defBody (topS 36)) (defScope (topS 36)) .none kV__law_signs_right dc__law_signs_right pm__law_signs_right an__law_signs_right cd__law_signs_right ct__law_signs_right), sl__law_signs_right⟩)
    (e__law_signs_right : PySem.W.codeIn K cd__law_signs_right "_law_signs_right" = true)
    (k__law_signs_right : PySem.W.keepIn K (.ref f__law_signs_right) = true)
    {f__law_right : Addr} {oc__law_right kV__law_right dc__law_right pm__law_right ct__law_right cd__law_right : Value} {od__law_right an__law_right : Option Addr} {sl__law_right : Array (Option Value)}
    (i__law_right : PySem.W.nsIn K mainGlobals "_law_right" = some (some (.ref f__law_right)))
    (l__law_right : K.lookup f__law_right = some ⟨oc__law_right, od__law_right, .func (PySem.W.fnOf "_law_right" "_law_right" (defArgs (topS 37)) (defBody (topS 37)) (defScope (topS 37)) .none kV__law_right dc__law_right pm__law_right an__law_right cd__law_right ct__law_right), sl__law_right⟩)
    (e__law_right : PySem.W.codeIn K cd__law_right "_law_right" = true)
    (k__law_right : PySem.W.keepIn K (.ref f__law_right) = true)
    {f__law_pot : Addr} {oc__law_pot kV__law_pot dc__law_pot pm__law_pot ct__law_pot cd__law_pot : Value} {od__law_pot an__law_pot : Option Addr} {sl__law_pot : Array (Option Value)}
    (i__law_pot : PySem.W.nsIn K mainGlobals "_law_pot" = some (some (.ref f__law_pot)))
    (l__law_pot : K.lookup f__law_pot = some ⟨oc__law_pot, od__law_pot, .func (PySem.W.fnOf "_law_pot" "_law_pot" (defArgs (topS 25)) (defBody (topS 25)) (defScope (topS 25)) .none kV__law_pot dc__law_pot pm__law_pot an__law_pot cd__law_pot ct__law_pot), sl__law_pot⟩)
    (e__law_pot : PySem.W.codeIn K cd__law_pot "_law_pot" = true)
    (k__law_pot : PySem.W.keepIn K (.ref f__law_pot) = true)
    {f_law : Addr} {oc_law kV_law dc_law pm_law ct_law cd_law : Value} {od_law an_law : Option Addr} {sl_law : Array (Option Value)}
    (i_law : PySem.W.nsIn K mainGlobals "law" = some (some (.ref f_law)))
    (l_law : K.lookup f_law = some ⟨oc_law, od_law, .func (PySem.W.fnOf "law" "law" (defArgs (topS 38)) (defBody (topS 38)) (defScope (topS 38)) .none kV_law dc_law pm_law an_law cd_law ct_law), sl_law⟩)
    (e_law : PySem.W.codeIn K cd_law "law" = true)
    (k_law : PySem.W.keepIn K (.ref f_law) = true)
    (n_divmod : PySem.W.nsIn K mainGlobals "divmod" = some none)
    (n_int : PySem.W.nsIn K mainGlobals "int" = some none)
    (n_range : PySem.W.nsIn K mainGlobals "range" = some none)
    (n_len : PySem.W.nsIn K mainGlobals "len" = some none)
    (n_str : PySem.W.nsIn K mainGlobals "str" = some none)
    (n_isinstance : PySem.W.nsIn K mainGlobals "isinstance" = some none)
    {d_k_REGISTERS : Addr} {o_k_REGISTERS : Option Addr} {z_k_REGISTERS : Nat} {s_k_REGISTERS : Array (Option Value)} {t0_k_REGISTERS t1_k_REGISTERS t2_k_REGISTERS t3_k_REGISTERS t4_k_REGISTERS t5_k_REGISTERS : Tok}
    (k_REGISTERS : PySem.W.nsIn K mainGlobals "REGISTERS" = some (some (.ref d_k_REGISTERS)))
    (l_k_REGISTERS : K.lookup d_k_REGISTERS = some ⟨.type "tuple", o_k_REGISTERS, .seq #[.str "r0" t0_k_REGISTERS, .str "r1" t1_k_REGISTERS, .str "r2" t2_k_REGISTERS, .str "r3" t3_k_REGISTERS, .str "r4" t4_k_REGISTERS, .str "r5" t5_k_REGISTERS] z_k_REGISTERS, s_k_REGISTERS⟩)
    {d_k_INPUTS : Addr} {o_k_INPUTS : Option Addr} {z_k_INPUTS : Nat} {s_k_INPUTS : Array (Option Value)} {t0_k_INPUTS t1_k_INPUTS : Tok}
    (k_INPUTS : PySem.W.nsIn K mainGlobals "INPUTS" = some (some (.ref d_k_INPUTS)))
    (l_k_INPUTS : K.lookup d_k_INPUTS = some ⟨.type "tuple", o_k_INPUTS, .seq #[.str "x0" t0_k_INPUTS, .str "x1" t1_k_INPUTS] z_k_INPUTS, s_k_INPUTS⟩)
    {CInvalidPlace fIInvalidPlace NInvalidPlace : Addr} {nmInvalidPlace qInvalidPlace qualInvalidPlace : Str} {bsInvalidPlace bmInvalidPlace subInvalidPlace : List Value} {snInvalidPlace : List Str} {abInvalidPlace : Bool} {colInvalidPlace : Option Bool} {ddInvalidPlace odInvalidPlace anInvalidPlace : Option Addr} {m0InvalidPlace m1InvalidPlace m2InvalidPlace m3InvalidPlace m5InvalidPlace : Option Value} {ocInvalidPlace kVInvalidPlace docInvalidPlace pmInvalidPlace cdvInvalidPlace ctInvalidPlace : Value} {oslInvalidPlace : Array (Option Value)}
    (aXInvalidPlace : PySem.W.nsIn K mainGlobals "InvalidPlace" = some (some (.ref CInvalidPlace)))
    (gaXInvalidPlace : PySem.W.findIn K (.ref CInvalidPlace) "__getattribute__" = some (some (.builtin "BaseException.__getattribute__")))
    (ggXInvalidPlace : PySem.W.findIn K (.ref CInvalidPlace) "__getattr__" = some none)
    (saXInvalidPlace : PySem.W.findIn K (.ref CInvalidPlace) "__setattr__" = some (some (.builtin "object.__setattr__")))
    (caXInvalidPlace : PySem.W.findIn K (.ref CInvalidPlace) "__class__" = some (some (.builtin "object.__class__")))
    (nvXInvalidPlace : PySem.W.findIn K (.ref CInvalidPlace) "value" = some none)
    (eCXInvalidPlace : PySem.W.subIn K (.ref CInvalidPlace) (.type "BaseException") = some true)
    (tCXInvalidPlace : PySem.W.typeIn K (.ref CInvalidPlace) = some (.type "type"))
    (kCXInvalidPlace : PySem.W.keepIn K (.ref CInvalidPlace) = true)
    (hCXInvalidPlace : PySem.W.hasDictIn K CInvalidPlace = true)
    (mXInvalidPlace : PySem.W.mroIn K CInvalidPlace (.type "object") = some true)
    (xLXInvalidPlace : K.lookup CInvalidPlace = some (excClassObj nmInvalidPlace qInvalidPlace CInvalidPlace NInvalidPlace bsInvalidPlace bmInvalidPlace true snInvalidPlace subInvalidPlace abInvalidPlace colInvalidPlace ddInvalidPlace m0InvalidPlace m1InvalidPlace m2InvalidPlace m3InvalidPlace m5InvalidPlace "ValueError.__new__"))
    (rvXInvalidPlace : PySem.HandSPX.refsVE bmInvalidPlace = true)
    (iCXInvalidPlace : PySem.W.findIn K (.ref CInvalidPlace) "__init__" = some (some (.ref fIInvalidPlace)))
    (tIXInvalidPlace : PySem.W.typeIn K (.ref fIInvalidPlace) = some (.type "function"))
    (lXInvalidPlace : K.lookup fIInvalidPlace = some ⟨ocInvalidPlace, odInvalidPlace, .func (PySem.W.fnOf "__init__" qualInvalidPlace (defArgs initS_InvalidPlace) (defBody initS_InvalidPlace) (defScope initS_InvalidPlace) .none kVInvalidPlace docInvalidPlace pmInvalidPlace anInvalidPlace cdvInvalidPlace ctInvalidPlace), oslInvalidPlace⟩)
    (cXInvalidPlace : PySem.W.codeIn K cdvInvalidPlace qualInvalidPlace = true)
    (kXInvalidPlace : PySem.W.keepIn K (.ref fIInvalidPlace) = true)
    (no_name_Place : PySem.W.findIn K (.ref C_Place) "_name" = some none)
    {t_c_TOP : Tok}
    (c_TOP : PySem.W.nsIn K mainGlobals "TOP" = some (some (.str "top" t_c_TOP)))
    {t_c_BOTTOM : Tok}
    (c_BOTTOM : PySem.W.nsIn K mainGlobals "BOTTOM" = some (some (.str "bottom" t_c_BOTTOM)))
    {CInvalidEnd fIInvalidEnd NInvalidEnd : Addr} {nmInvalidEnd qInvalidEnd qualInvalidEnd : Str} {bsInvalidEnd bmInvalidEnd subInvalidEnd : List Value} {snInvalidEnd : List Str} {abInvalidEnd : Bool} {colInvalidEnd : Option Bool} {ddInvalidEnd odInvalidEnd anInvalidEnd : Option Addr} {m0InvalidEnd m1InvalidEnd m2InvalidEnd m3InvalidEnd m5InvalidEnd : Option Value} {ocInvalidEnd kVInvalidEnd docInvalidEnd pmInvalidEnd cdvInvalidEnd ctInvalidEnd : Value} {oslInvalidEnd : Array (Option Value)}
    (aXInvalidEnd : PySem.W.nsIn K mainGlobals "InvalidEnd" = some (some (.ref CInvalidEnd)))
    (gaXInvalidEnd : PySem.W.findIn K (.ref CInvalidEnd) "__getattribute__" = some (some (.builtin "BaseException.__getattribute__")))
    (ggXInvalidEnd : PySem.W.findIn K (.ref CInvalidEnd) "__getattr__" = some none)
    (saXInvalidEnd : PySem.W.findIn K (.ref CInvalidEnd) "__setattr__" = some (some (.builtin "object.__setattr__")))
    (caXInvalidEnd : PySem.W.findIn K (.ref CInvalidEnd) "__class__" = some (some (.builtin "object.__class__")))
    (nvXInvalidEnd : PySem.W.findIn K (.ref CInvalidEnd) "value" = some none)
    (eCXInvalidEnd : PySem.W.subIn K (.ref CInvalidEnd) (.type "BaseException") = some true)
    (tCXInvalidEnd : PySem.W.typeIn K (.ref CInvalidEnd) = some (.type "type"))
    (kCXInvalidEnd : PySem.W.keepIn K (.ref CInvalidEnd) = true)
    (hCXInvalidEnd : PySem.W.hasDictIn K CInvalidEnd = true)
    (mXInvalidEnd : PySem.W.mroIn K CInvalidEnd (.type "object") = some true)
    (xLXInvalidEnd : K.lookup CInvalidEnd = some (excClassObj nmInvalidEnd qInvalidEnd CInvalidEnd NInvalidEnd bsInvalidEnd bmInvalidEnd true snInvalidEnd subInvalidEnd abInvalidEnd colInvalidEnd ddInvalidEnd m0InvalidEnd m1InvalidEnd m2InvalidEnd m3InvalidEnd m5InvalidEnd "ValueError.__new__"))
    (rvXInvalidEnd : PySem.HandSPX.refsVE bmInvalidEnd = true)
    (iCXInvalidEnd : PySem.W.findIn K (.ref CInvalidEnd) "__init__" = some (some (.ref fIInvalidEnd)))
    (tIXInvalidEnd : PySem.W.typeIn K (.ref fIInvalidEnd) = some (.type "function"))
    (lXInvalidEnd : K.lookup fIInvalidEnd = some ⟨ocInvalidEnd, odInvalidEnd, .func (PySem.W.fnOf "__init__" qualInvalidEnd (defArgs initS_InvalidEnd) (defBody initS_InvalidEnd) (defScope initS_InvalidEnd) .none kVInvalidEnd docInvalidEnd pmInvalidEnd anInvalidEnd cdvInvalidEnd ctInvalidEnd), oslInvalidEnd⟩)
    (cXInvalidEnd : PySem.W.codeIn K cdvInvalidEnd qualInvalidEnd = true)
    (kXInvalidEnd : PySem.W.keepIn K (.ref fIInvalidEnd) = true)
    (no_end_End : PySem.W.findIn K (.ref C_End) "_end" = some none)
    {CInvalidTerm fIInvalidTerm NInvalidTerm : Addr} {nmInvalidTerm qInvalidTerm qualInvalidTerm : Str} {bsInvalidTerm bmInvalidTerm subInvalidTerm : List Value} {snInvalidTerm : List Str} {abInvalidTerm : Bool} {colInvalidTerm : Option Bool} {ddInvalidTerm odInvalidTerm anInvalidTerm : Option Addr} {m0InvalidTerm m1InvalidTerm m2InvalidTerm m3InvalidTerm m5InvalidTerm : Option Value} {ocInvalidTerm kVInvalidTerm docInvalidTerm pmInvalidTerm cdvInvalidTerm ctInvalidTerm : Value} {oslInvalidTerm : Array (Option Value)}
    (aXInvalidTerm : PySem.W.nsIn K mainGlobals "InvalidTerm" = some (some (.ref CInvalidTerm)))
    (gaXInvalidTerm : PySem.W.findIn K (.ref CInvalidTerm) "__getattribute__" = some (some (.builtin "BaseException.__getattribute__")))
    (ggXInvalidTerm : PySem.W.findIn K (.ref CInvalidTerm) "__getattr__" = some none)
    (saXInvalidTerm : PySem.W.findIn K (.ref CInvalidTerm) "__setattr__" = some (some (.builtin "object.__setattr__")))
    (caXInvalidTerm : PySem.W.findIn K (.ref CInvalidTerm) "__class__" = some (some (.builtin "object.__class__")))
    (nvXInvalidTerm : PySem.W.findIn K (.ref CInvalidTerm) "value" = some none)
    (eCXInvalidTerm : PySem.W.subIn K (.ref CInvalidTerm) (.type "BaseException") = some true)
    (tCXInvalidTerm : PySem.W.typeIn K (.ref CInvalidTerm) = some (.type "type"))
    (kCXInvalidTerm : PySem.W.keepIn K (.ref CInvalidTerm) = true)
    (hCXInvalidTerm : PySem.W.hasDictIn K CInvalidTerm = true)
    (mXInvalidTerm : PySem.W.mroIn K CInvalidTerm (.type "object") = some true)
    (xLXInvalidTerm : K.lookup CInvalidTerm = some (excClassObj nmInvalidTerm qInvalidTerm CInvalidTerm NInvalidTerm bsInvalidTerm bmInvalidTerm true snInvalidTerm subInvalidTerm abInvalidTerm colInvalidTerm ddInvalidTerm m0InvalidTerm m1InvalidTerm m2InvalidTerm m3InvalidTerm m5InvalidTerm "ValueError.__new__"))
    (rvXInvalidTerm : PySem.HandSPX.refsVE bmInvalidTerm = true)
    (iCXInvalidTerm : PySem.W.findIn K (.ref CInvalidTerm) "__init__" = some (some (.ref fIInvalidTerm)))
    (tIXInvalidTerm : PySem.W.typeIn K (.ref fIInvalidTerm) = some (.type "function"))
    (lXInvalidTerm : K.lookup fIInvalidTerm = some ⟨ocInvalidTerm, odInvalidTerm, .func (PySem.W.fnOf "__init__" qualInvalidTerm (defArgs initS_InvalidTerm) (defBody initS_InvalidTerm) (defScope initS_InvalidTerm) .none kVInvalidTerm docInvalidTerm pmInvalidTerm anInvalidTerm cdvInvalidTerm ctInvalidTerm), oslInvalidTerm⟩)
    (cXInvalidTerm : PySem.W.codeIn K cdvInvalidTerm qualInvalidTerm = true)
    (kXInvalidTerm : PySem.W.keepIn K (.ref fIInvalidTerm) = true)
    (no_depth_Greater : PySem.W.findIn K (.ref C_Greater) "_depth" = some none)
    (no_depth_Lesser : PySem.W.findIn K (.ref C_Lesser) "_depth" = some none)
    (n_max : PySem.W.nsIn K mainGlobals "max" = some none)
    (no_parts_Lesser : PySem.W.findIn K (.ref C_Lesser) "_parts" = some none)
    (no_parts_Greater : PySem.W.findIn K (.ref C_Greater) "_parts" = some none)
    (n_repr : PySem.W.nsIn K mainGlobals "repr" = some none)
    (n_list : PySem.W.nsIn K mainGlobals "list" = some none)
    (n_any : PySem.W.nsIn K mainGlobals "any" = some none)
    (n_abs : PySem.W.nsIn K mainGlobals "abs" = some none)
    (n_min : PySem.W.nsIn K mainGlobals "min" = some none)
    (n_all : PySem.W.nsIn K mainGlobals "all" = some none)
    : LawG lw w K 47 63 "law" "_law_script" (topS 38) mg h := by
  letI : Tb := ⟨[]⟩
  have cf_Place : CF K C_Place := ⟨pg_Place, hd_Place, po_Place, sa_Place, ca_Place, mo_Place, tC_Place, kC_Place, mkk_Place, sf_Place, ne_Place, fm_Place, ra_Place, ro_Place, fun t ht => by
    simp only [btys, List.mem_cons, List.not_mem_nil, or_false] at ht
    rcases ht with rfl | rfl | rfl | rfl | rfl | rfl | rfl
    · exact bt_NoneType_Place
    · exact bt_bool_Place
    · exact bt_int_Place
    · exact bt_str_Place
    · exact bt_list_Place
    · exact bt_tuple_Place
    · exact bt_dict_Place⟩
  have cf_End : CF K C_End := ⟨pg_End, hd_End, po_End, sa_End, ca_End, mo_End, tC_End, kC_End, mkk_End, sf_End, ne_End, fm_End, ra_End, ro_End, fun t ht => by
    simp only [btys, List.mem_cons, List.not_mem_nil, or_false] at ht
    rcases ht with rfl | rfl | rfl | rfl | rfl | rfl | rfl
    · exact bt_NoneType_End
    · exact bt_bool_End
    · exact bt_int_End
    · exact bt_str_End
    · exact bt_list_End
    · exact bt_tuple_End
    · exact bt_dict_End⟩
  have cf_Lesser : CF K C_Lesser := ⟨pg_Lesser, hd_Lesser, po_Lesser, sa_Lesser, ca_Lesser, mo_Lesser, tC_Lesser, kC_Lesser, mkk_Lesser, sf_Lesser, ne_Lesser, fm_Lesser, ra_Lesser, ro_Lesser, fun t ht => by
    simp only [btys, List.mem_cons, List.not_mem_nil, or_false] at ht
    rcases ht with rfl | rfl | rfl | rfl | rfl | rfl | rfl
    · exact bt_NoneType_Lesser
    · exact bt_bool_Lesser
    · exact bt_int_Lesser
    · exact bt_str_Lesser
    · exact bt_list_Lesser
    · exact bt_tuple_Lesser
    · exact bt_dict_Lesser⟩
  have cf_Greater : CF K C_Greater := ⟨pg_Greater, hd_Greater, po_Greater, sa_Greater, ca_Greater, mo_Greater, tC_Greater, kC_Greater, mkk_Greater, sf_Greater, ne_Greater, fm_Greater, ra_Greater, ro_Greater, fun t ht => by
    simp only [btys, List.mem_cons, List.not_mem_nil, or_false] at ht
    rcases ht with rfl | rfl | rfl | rfl | rfl | rfl | rfl
    · exact bt_NoneType_Greater
    · exact bt_bool_Greater
    · exact bt_int_Greater
    · exact bt_str_Greater
    · exact bt_list_Greater
    · exact bt_tuple_Greater
    · exact bt_dict_Greater⟩
  have F : Fam K mg ([("Place", C_Place), ("End", C_End), ("Lesser", C_Lesser), ("Greater", C_Greater)] : List (Str × Addr)) := ⟨hn, ht, fun p hp => by
    simp only [List.mem_cons, List.not_mem_nil, or_false] at hp
    rcases hp with rfl | rfl | rfl | rfl
    · exact PySem.W.mg_of X G a_Place
    · exact PySem.W.mg_of X G a_End
    · exact PySem.W.mg_of X G a_Lesser
    · exact PySem.W.mg_of X G a_Greater, fun p hp => by
    simp only [List.mem_cons, List.not_mem_nil, or_false] at hp
    rcases hp with rfl | rfl | rfl | rfl
    · exact cf_Place
    · exact cf_End
    · exact cf_Lesser
    · exact cf_Greater, fun p hp r hr => by
    simp only [List.mem_cons, List.not_mem_nil, or_false] at hp hr
    rcases hp with rfl | rfl | rfl | rfl <;> rcases hr with rfl | rfl | rfl | rfl
    · exact s_Place_Place
    · exact s_Place_End
    · exact s_Place_Lesser
    · exact s_Place_Greater
    · exact s_End_Place
    · exact s_End_End
    · exact s_End_Lesser
    · exact s_End_Greater
    · exact s_Lesser_Place
    · exact s_Lesser_End
    · exact s_Lesser_Lesser
    · exact s_Lesser_Greater
    · exact s_Greater_Place
    · exact s_Greater_End
    · exact s_Greater_Lesser
    · exact s_Greater_Greater⟩
  have m_Place : (("Place", C_Place) : Str × Addr) ∈ ([("Place", C_Place), ("End", C_End), ("Lesser", C_Lesser), ("Greater", C_Greater)] : List (Str × Addr)) := by simp
  have m_End : (("End", C_End) : Str × Addr) ∈ ([("Place", C_Place), ("End", C_End), ("Lesser", C_Lesser), ("Greater", C_Greater)] : List (Str × Addr)) := by simp
  have m_Lesser : (("Lesser", C_Lesser) : Str × Addr) ∈ ([("Place", C_Place), ("End", C_End), ("Lesser", C_Lesser), ("Greater", C_Greater)] : List (Str × Addr)) := by simp
  have m_Greater : (("Greater", C_Greater) : Str × Addr) ∈ ([("Place", C_Place), ("End", C_End), ("Lesser", C_Lesser), ("Greater", C_Greater)] : List (Str × Addr)) := by simp
  have D__law_draw : Df K mg "_law_draw" (topS 26) := df_mk X G i__law_draw l__law_draw e__law_draw k__law_draw
  have D__law_places : Df K mg "_law_places" (topS 28) := df_mk X G i__law_places l__law_places e__law_places k__law_places
  have D__law_pick : Df K mg "_law_pick" (topS 27) := df_mk X G i__law_pick l__law_pick e__law_pick k__law_pick
  have D__law_term : Df K mg "_law_term" (topS 29) := df_mk X G i__law_term l__law_term e__law_term k__law_term
  have D_is_place : Df K mg "is_place" (topS 13) := df_mk X G i_is_place l_is_place e_is_place k_is_place
  have D_Place_init : DfM K mg "Place" "__init__" "Place.__init__" (clsAt (topS 20) 0) := dfm_mk F m_Place i_Place_init t_Place_init l_Place_init e_Place_init k_Place_init
  have D_is_end : Df K mg "is_end" (topS 9) := df_mk X G i_is_end l_is_end e_is_end k_is_end
  have D_End_init : DfM K mg "End" "__init__" "End.__init__" (clsAt (topS 21) 0) := dfm_mk F m_End i_End_init t_End_init l_End_init e_End_init k_End_init
  have D__check_terms : Df K mg "_check_terms" (topS 15) := df_mk X G i__check_terms l__check_terms e__check_terms k__check_terms
  have D__checked_parts : Df K mg "_checked_parts" (topS 14) := df_mk X G i__checked_parts l__checked_parts e__checked_parts k__checked_parts
  have D_Greater_depth : DfP K mg "Greater" "depth" "Greater.depth" (clsAt (topS 23) 2) := dfp_mk F m_Greater i_Greater_depth g_Greater_depth t_Greater_depth c_Greater_depth l_Greater_depth e_Greater_depth k_Greater_depth
  have D_Lesser_depth : DfP K mg "Lesser" "depth" "Lesser.depth" (clsAt (topS 22) 2) := dfp_mk F m_Lesser i_Lesser_depth g_Lesser_depth t_Lesser_depth c_Lesser_depth l_Lesser_depth e_Lesser_depth k_Lesser_depth
  have D_End_depth : DfP K mg "End" "depth" "End.depth" (clsAt (topS 21) 2) := dfp_mk F m_End i_End_depth g_End_depth t_End_depth c_End_depth l_End_depth e_End_depth k_End_depth
  have D_Place_depth : DfP K mg "Place" "depth" "Place.depth" (clsAt (topS 20) 2) := dfp_mk F m_Place i_Place_depth g_Place_depth t_Place_depth c_Place_depth l_Place_depth e_Place_depth k_Place_depth
  have D__depth_over : Df K mg "_depth_over" (topS 16) := df_mk X G i__depth_over l__depth_over e__depth_over k__depth_over
  have D_Lesser_init : DfM K mg "Lesser" "__init__" "Lesser.__init__" (clsAt (topS 22) 0) := dfm_mk F m_Lesser i_Lesser_init t_Lesser_init l_Lesser_init e_Lesser_init k_Lesser_init
  have D_Greater_init : DfM K mg "Greater" "__init__" "Greater.__init__" (clsAt (topS 23) 0) := dfm_mk F m_Greater i_Greater_init t_Greater_init l_Greater_init e_Greater_init k_Greater_init
  have D__law_joined : Df K mg "_law_joined" (topS 30) := df_mk X G i__law_joined l__law_joined e__law_joined k__law_joined
  have D__law_real : Df K mg "_law_real" (topS 31) := df_mk X G i__law_real l__law_real e__law_real k__law_real
  have D_End_repr : DfM K mg "End" "__repr__" "End.__repr__" (clsAt (topS 21) 12) := dfm_mk F m_End i_End_repr t_End_repr l_End_repr e_End_repr k_End_repr
  have D_Place_repr : DfM K mg "Place" "__repr__" "Place.__repr__" (clsAt (topS 20) 12) := dfm_mk F m_Place i_Place_repr t_Place_repr l_Place_repr e_Place_repr k_Place_repr
  have D_Lesser_repr : DfM K mg "Lesser" "__repr__" "Lesser.__repr__" (clsAt (topS 22) 12) := dfm_mk F m_Lesser i_Lesser_repr t_Lesser_repr l_Lesser_repr e_Lesser_repr k_Lesser_repr
  have D_Greater_repr : DfM K mg "Greater" "__repr__" "Greater.__repr__" (clsAt (topS 23) 12) := dfm_mk F m_Greater i_Greater_repr t_Greater_repr l_Greater_repr e_Greater_repr k_Greater_repr
  have D_End_str : DfM K mg "End" "__str__" "End.__str__" (clsAt (topS 21) 11) := dfm_mk F m_End i_End_str t_End_str l_End_str e_End_str k_End_str
  have D_Place_str : DfM K mg "Place" "__str__" "Place.__str__" (clsAt (topS 20) 11) := dfm_mk F m_Place i_Place_str t_Place_str l_Place_str e_Place_str k_Place_str
  have D__text_within : Df K mg "_text_within" (topS 18) := df_mk X G i__text_within l__text_within e__text_within k__text_within
  have D_Lesser_str : DfM K mg "Lesser" "__str__" "Lesser.__str__" (clsAt (topS 22) 11) := dfm_mk F m_Lesser i_Lesser_str t_Lesser_str l_Lesser_str e_Lesser_str k_Lesser_str
  have D_Greater_str : DfM K mg "Greater" "__str__" "Greater.__str__" (clsAt (topS 23) 11) := dfm_mk F m_Greater i_Greater_str t_Greater_str l_Greater_str e_Greater_str k_Greater_str
  have D__law_written : Df K mg "_law_written" (topS 34) := df_mk X G i__law_written l__law_written e__law_written k__law_written
  have D__law_inner : Df K mg "_law_inner" (topS 32) := df_mk X G i__law_inner l__law_inner e__law_inner k__law_inner
  have D__law_text : Df K mg "_law_text" (topS 33) := df_mk X G i__law_text l__law_text e__law_text k__law_text
  have D__law_bent : Df K mg "_law_bent" (topS 35) := df_mk X G i__law_bent l__law_bent e__law_bent k__law_bent
  have D_End_eq : DfM K mg "End" "__eq__" "End.__eq__" (clsAt (topS 21) 13) := dfm_mk F m_End i_End_eq t_End_eq l_End_eq e_End_eq k_End_eq
  have D_Place_eq : DfM K mg "Place" "__eq__" "Place.__eq__" (clsAt (topS 20) 13) := dfm_mk F m_Place i_Place_eq t_Place_eq l_Place_eq e_Place_eq k_Place_eq
  have D_Lesser_eq : DfM K mg "Lesser" "__eq__" "Lesser.__eq__" (clsAt (topS 22) 13) := dfm_mk F m_Lesser i_Lesser_eq t_Lesser_eq l_Lesser_eq e_Lesser_eq k_Lesser_eq
  have D_Greater_eq : DfM K mg "Greater" "__eq__" "Greater.__eq__" (clsAt (topS 23) 13) := dfm_mk F m_Greater i_Greater_eq t_Greater_eq l_Greater_eq e_Greater_eq k_Greater_eq
  have D_Greater_or : DfM K mg "Greater" "__or__" "Greater.__or__" (clsAt (topS 23) 10) := dfm_mk F m_Greater i_Greater_or t_Greater_or l_Greater_or e_Greater_or k_Greater_or
  have D_Lesser_or : DfM K mg "Lesser" "__or__" "Lesser.__or__" (clsAt (topS 22) 10) := dfm_mk F m_Lesser i_Lesser_or t_Lesser_or l_Lesser_or e_Lesser_or k_Lesser_or
  have D_End_or : DfM K mg "End" "__or__" "End.__or__" (clsAt (topS 21) 10) := dfm_mk F m_End i_End_or t_End_or l_End_or e_End_or k_End_or
  have D_Place_or : DfM K mg "Place" "__or__" "Place.__or__" (clsAt (topS 20) 10) := dfm_mk F m_Place i_Place_or t_Place_or l_Place_or e_Place_or k_Place_or
  have D_Greater_and : DfM K mg "Greater" "__and__" "Greater.__and__" (clsAt (topS 23) 9) := dfm_mk F m_Greater i_Greater_and t_Greater_and l_Greater_and e_Greater_and k_Greater_and
  have D_Lesser_and : DfM K mg "Lesser" "__and__" "Lesser.__and__" (clsAt (topS 22) 9) := dfm_mk F m_Lesser i_Lesser_and t_Lesser_and l_Lesser_and e_Lesser_and k_Lesser_and
  have D_End_and : DfM K mg "End" "__and__" "End.__and__" (clsAt (topS 21) 9) := dfm_mk F m_End i_End_and t_End_and l_End_and e_End_and k_End_and
  have D_Place_and : DfM K mg "Place" "__and__" "Place.__and__" (clsAt (topS 20) 9) := dfm_mk F m_Place i_Place_and t_Place_and l_Place_and e_Place_and k_Place_and
  have D__law_signs_right : Df K mg "_law_signs_right" (topS 36) := df_mk X G i__law_signs_right l__law_signs_right e__law_signs_right k__law_signs_right
  have D__law_right : Df K mg "_law_right" (topS 37) := df_mk X G i__law_right l__law_right e__law_right k__law_right
  have D__law_pot : Df K mg "_law_pot" (topS 25) := df_mk X G i__law_pot l__law_pot e__law_pot k__law_pot
  have D_law : Df K mg "law" (topS 38) := df_mk X G i_law l_law e_law k_law
  have n_divmod := PySem.W.mg_none_of X G n_divmod
  have n_int := PySem.W.mg_none_of X G n_int
  have n_range := PySem.W.mg_none_of X G n_range
  have n_len := PySem.W.mg_none_of X G n_len
  have n_str := PySem.W.mg_none_of X G n_str
  have n_isinstance := PySem.W.mg_none_of X G n_isinstance
  have k_REGISTERS : KT K mg "REGISTERS" ["r0", "r1", "r2", "r3", "r4", "r5"] := ⟨_, _, _, _, PySem.W.mg_of X G k_REGISTERS, l_k_REGISTERS, rfl, rfl, (show 6 ≤ sizeLine by decide), (.cons ⟨_, rfl⟩ (.cons ⟨_, rfl⟩ (.cons ⟨_, rfl⟩ (.cons ⟨_, rfl⟩ (.cons ⟨_, rfl⟩ (.cons ⟨_, rfl⟩ .nil))))))⟩
  have k_INPUTS : KT K mg "INPUTS" ["x0", "x1"] := ⟨_, _, _, _, PySem.W.mg_of X G k_INPUTS, l_k_INPUTS, rfl, rfl, (show 2 ≤ sizeLine by decide), (.cons ⟨_, rfl⟩ (.cons ⟨_, rfl⟩ .nil))⟩
  obtain ⟨_, _, _, _, ZInvalidPlace⟩ := init_InvalidPlace
  have FInvalidPlace : XF K CInvalidPlace := ⟨gaXInvalidPlace, ggXInvalidPlace, saXInvalidPlace, caXInvalidPlace, nvXInvalidPlace, eCXInvalidPlace, tCXInvalidPlace, kCXInvalidPlace, hCXInvalidPlace, mXInvalidPlace⟩
  have x_InvalidPlace : ∀ base : Heap, ExD P w K mg base "InvalidPlace" := exd_of ZInvalidPlace X G aXInvalidPlace FInvalidPlace xLXInvalidPlace rvXInvalidPlace iCXInvalidPlace tIXInvalidPlace lXInvalidPlace cXInvalidPlace kXInvalidPlace
  have fl_name_Place : FldIn K mg ["Place"] "_name" := F.fld m_Place no_name_Place
  have c_TOP := str_mk X G c_TOP
  have c_BOTTOM := str_mk X G c_BOTTOM
  obtain ⟨_, _, _, _, ZInvalidEnd⟩ := init_InvalidEnd
  have FInvalidEnd : XF K CInvalidEnd := ⟨gaXInvalidEnd, ggXInvalidEnd, saXInvalidEnd, caXInvalidEnd, nvXInvalidEnd, eCXInvalidEnd, tCXInvalidEnd, kCXInvalidEnd, hCXInvalidEnd, mXInvalidEnd⟩
  have x_InvalidEnd : ∀ base : Heap, ExD P w K mg base "InvalidEnd" := exd_of ZInvalidEnd X G aXInvalidEnd FInvalidEnd xLXInvalidEnd rvXInvalidEnd iCXInvalidEnd tIXInvalidEnd lXInvalidEnd cXInvalidEnd kXInvalidEnd
  have fl_end_End : FldIn K mg ["End"] "_end" := F.fld m_End no_end_End
  have is_Term : IsD K mg [("Place", true), ("End", true), ("Lesser", true), ("Greater", true)] "Term" := F.isD (PySem.W.mg_of X G a_Term) hd_Term tC_Term (look_bcons (p := fun B b => ∃ Ba, (B, Ba) ∈ ([("Place", C_Place), ("End", C_End), ("Lesser", C_Lesser), ("Greater", C_Greater)] : List (Str × Addr)) ∧ PySem.W.subIn K (.ref Ba) (.ref C_Term) = some b ∧ (Ba = C_Term → b = true)) ⟨C_Place, m_Place, s_Place_Term, fun _ => rfl⟩ (look_bcons (p := fun B b => ∃ Ba, (B, Ba) ∈ ([("Place", C_Place), ("End", C_End), ("Lesser", C_Lesser), ("Greater", C_Greater)] : List (Str × Addr)) ∧ PySem.W.subIn K (.ref Ba) (.ref C_Term) = some b ∧ (Ba = C_Term → b = true)) ⟨C_End, m_End, s_End_Term, fun _ => rfl⟩ (look_bcons (p := fun B b => ∃ Ba, (B, Ba) ∈ ([("Place", C_Place), ("End", C_End), ("Lesser", C_Lesser), ("Greater", C_Greater)] : List (Str × Addr)) ∧ PySem.W.subIn K (.ref Ba) (.ref C_Term) = some b ∧ (Ba = C_Term → b = true)) ⟨C_Lesser, m_Lesser, s_Lesser_Term, fun _ => rfl⟩ (look_bcons (p := fun B b => ∃ Ba, (B, Ba) ∈ ([("Place", C_Place), ("End", C_End), ("Lesser", C_Lesser), ("Greater", C_Greater)] : List (Str × Addr)) ∧ PySem.W.subIn K (.ref Ba) (.ref C_Term) = some b ∧ (Ba = C_Term → b = true)) ⟨C_Greater, m_Greater, s_Greater_Term, fun _ => rfl⟩ look_bnil))))
  obtain ⟨_, _, _, _, ZInvalidTerm⟩ := init_InvalidTerm
  have FInvalidTerm : XF K CInvalidTerm := ⟨gaXInvalidTerm, ggXInvalidTerm, saXInvalidTerm, caXInvalidTerm, nvXInvalidTerm, eCXInvalidTerm, tCXInvalidTerm, kCXInvalidTerm, hCXInvalidTerm, mXInvalidTerm⟩
  have x_InvalidTerm : ∀ base : Heap, ExD P w K mg base "InvalidTerm" := exd_of ZInvalidTerm X G aXInvalidTerm FInvalidTerm xLXInvalidTerm rvXInvalidTerm iCXInvalidTerm tIXInvalidTerm lXInvalidTerm cXInvalidTerm kXInvalidTerm
  have fl_depth_Greater : FldIn K mg ["Greater"] "_depth" := F.fld m_Greater no_depth_Greater
  have fl_depth_Lesser : FldIn K mg ["Lesser"] "_depth" := F.fld m_Lesser no_depth_Lesser
  have n_max := PySem.W.mg_none_of X G n_max
  have fl_parts_Lesser : FldIn K mg ["Lesser"] "_parts" := F.fld m_Lesser no_parts_Lesser
  have fl_parts_Greater : FldIn K mg ["Greater"] "_parts" := F.fld m_Greater no_parts_Greater
  have mk_Lesser : MkD K mg "Lesser" := F.mkD m_Lesser
  have mk_Greater : MkD K mg "Greater" := F.mkD m_Greater
  have mk_Place : MkD K mg "Place" := F.mkD m_Place
  have mk_End : MkD K mg "End" := F.mkD m_End
  have n_repr := PySem.W.mg_none_of X G n_repr
  have fm_Greater : FmtD K mg "Greater" := F.fmtD m_Greater
  have fm_Lesser : FmtD K mg "Lesser" := F.fmtD m_Lesser
  have fm_End : FmtD K mg "End" := F.fmtD m_End
  have fm_Place : FmtD K mg "Place" := F.fmtD m_Place
  have n_list := PySem.W.mg_none_of X G n_list
  have is_End : IsD K mg [("Place", false), ("End", true), ("Lesser", false), ("Greater", false)] "End" := F.isD (PySem.W.mg_of X G a_End) hd_End tC_End (look_bcons (p := fun B b => ∃ Ba, (B, Ba) ∈ ([("Place", C_Place), ("End", C_End), ("Lesser", C_Lesser), ("Greater", C_Greater)] : List (Str × Addr)) ∧ PySem.W.subIn K (.ref Ba) (.ref C_End) = some b ∧ (Ba = C_End → b = true)) ⟨C_Place, m_Place, s_Place_End, sub_ne s_Place_End s_End_End⟩ (look_bcons (p := fun B b => ∃ Ba, (B, Ba) ∈ ([("Place", C_Place), ("End", C_End), ("Lesser", C_Lesser), ("Greater", C_Greater)] : List (Str × Addr)) ∧ PySem.W.subIn K (.ref Ba) (.ref C_End) = some b ∧ (Ba = C_End → b = true)) ⟨C_End, m_End, s_End_End, fun _ => rfl⟩ (look_bcons (p := fun B b => ∃ Ba, (B, Ba) ∈ ([("Place", C_Place), ("End", C_End), ("Lesser", C_Lesser), ("Greater", C_Greater)] : List (Str × Addr)) ∧ PySem.W.subIn K (.ref Ba) (.ref C_End) = some b ∧ (Ba = C_End → b = true)) ⟨C_Lesser, m_Lesser, s_Lesser_End, sub_ne s_Lesser_End s_End_End⟩ (look_bcons (p := fun B b => ∃ Ba, (B, Ba) ∈ ([("Place", C_Place), ("End", C_End), ("Lesser", C_Lesser), ("Greater", C_Greater)] : List (Str × Addr)) ∧ PySem.W.subIn K (.ref Ba) (.ref C_End) = some b ∧ (Ba = C_End → b = true)) ⟨C_Greater, m_Greater, s_Greater_End, sub_ne s_Greater_End s_End_End⟩ look_bnil))))
  have is_Place : IsD K mg [("Place", true), ("End", false), ("Lesser", false), ("Greater", false)] "Place" := F.isD (PySem.W.mg_of X G a_Place) hd_Place tC_Place (look_bcons (p := fun B b => ∃ Ba, (B, Ba) ∈ ([("Place", C_Place), ("End", C_End), ("Lesser", C_Lesser), ("Greater", C_Greater)] : List (Str × Addr)) ∧ PySem.W.subIn K (.ref Ba) (.ref C_Place) = some b ∧ (Ba = C_Place → b = true)) ⟨C_Place, m_Place, s_Place_Place, fun _ => rfl⟩ (look_bcons (p := fun B b => ∃ Ba, (B, Ba) ∈ ([("Place", C_Place), ("End", C_End), ("Lesser", C_Lesser), ("Greater", C_Greater)] : List (Str × Addr)) ∧ PySem.W.subIn K (.ref Ba) (.ref C_Place) = some b ∧ (Ba = C_Place → b = true)) ⟨C_End, m_End, s_End_Place, sub_ne s_End_Place s_Place_Place⟩ (look_bcons (p := fun B b => ∃ Ba, (B, Ba) ∈ ([("Place", C_Place), ("End", C_End), ("Lesser", C_Lesser), ("Greater", C_Greater)] : List (Str × Addr)) ∧ PySem.W.subIn K (.ref Ba) (.ref C_Place) = some b ∧ (Ba = C_Place → b = true)) ⟨C_Lesser, m_Lesser, s_Lesser_Place, sub_ne s_Lesser_Place s_Place_Place⟩ (look_bcons (p := fun B b => ∃ Ba, (B, Ba) ∈ ([("Place", C_Place), ("End", C_End), ("Lesser", C_Lesser), ("Greater", C_Greater)] : List (Str × Addr)) ∧ PySem.W.subIn K (.ref Ba) (.ref C_Place) = some b ∧ (Ba = C_Place → b = true)) ⟨C_Greater, m_Greater, s_Greater_Place, sub_ne s_Greater_Place s_Place_Place⟩ look_bnil))))
  have is_Lesser : IsD K mg [("Place", false), ("End", false), ("Lesser", true), ("Greater", false)] "Lesser" := F.isD (PySem.W.mg_of X G a_Lesser) hd_Lesser tC_Lesser (look_bcons (p := fun B b => ∃ Ba, (B, Ba) ∈ ([("Place", C_Place), ("End", C_End), ("Lesser", C_Lesser), ("Greater", C_Greater)] : List (Str × Addr)) ∧ PySem.W.subIn K (.ref Ba) (.ref C_Lesser) = some b ∧ (Ba = C_Lesser → b = true)) ⟨C_Place, m_Place, s_Place_Lesser, sub_ne s_Place_Lesser s_Lesser_Lesser⟩ (look_bcons (p := fun B b => ∃ Ba, (B, Ba) ∈ ([("Place", C_Place), ("End", C_End), ("Lesser", C_Lesser), ("Greater", C_Greater)] : List (Str × Addr)) ∧ PySem.W.subIn K (.ref Ba) (.ref C_Lesser) = some b ∧ (Ba = C_Lesser → b = true)) ⟨C_End, m_End, s_End_Lesser, sub_ne s_End_Lesser s_Lesser_Lesser⟩ (look_bcons (p := fun B b => ∃ Ba, (B, Ba) ∈ ([("Place", C_Place), ("End", C_End), ("Lesser", C_Lesser), ("Greater", C_Greater)] : List (Str × Addr)) ∧ PySem.W.subIn K (.ref Ba) (.ref C_Lesser) = some b ∧ (Ba = C_Lesser → b = true)) ⟨C_Lesser, m_Lesser, s_Lesser_Lesser, fun _ => rfl⟩ (look_bcons (p := fun B b => ∃ Ba, (B, Ba) ∈ ([("Place", C_Place), ("End", C_End), ("Lesser", C_Lesser), ("Greater", C_Greater)] : List (Str × Addr)) ∧ PySem.W.subIn K (.ref Ba) (.ref C_Lesser) = some b ∧ (Ba = C_Lesser → b = true)) ⟨C_Greater, m_Greater, s_Greater_Lesser, sub_ne s_Greater_Lesser s_Lesser_Lesser⟩ look_bnil))))
  have eq_Greater : EqD K mg ["Place", "End", "Lesser", "Greater"] "Greater" := F.eqD m_Greater rfl
  have eq_Lesser : EqD K mg ["Place", "End", "Lesser", "Greater"] "Lesser" := F.eqD m_Lesser rfl
  have eq_End : EqD K mg ["Place", "End", "Lesser", "Greater"] "End" := F.eqD m_End rfl
  have eq_Place : EqD K mg ["Place", "End", "Lesser", "Greater"] "Place" := F.eqD m_Place rfl
  have is_Greater : IsD K mg [("Place", false), ("End", false), ("Lesser", false), ("Greater", true)] "Greater" := F.isD (PySem.W.mg_of X G a_Greater) hd_Greater tC_Greater (look_bcons (p := fun B b => ∃ Ba, (B, Ba) ∈ ([("Place", C_Place), ("End", C_End), ("Lesser", C_Lesser), ("Greater", C_Greater)] : List (Str × Addr)) ∧ PySem.W.subIn K (.ref Ba) (.ref C_Greater) = some b ∧ (Ba = C_Greater → b = true)) ⟨C_Place, m_Place, s_Place_Greater, sub_ne s_Place_Greater s_Greater_Greater⟩ (look_bcons (p := fun B b => ∃ Ba, (B, Ba) ∈ ([("Place", C_Place), ("End", C_End), ("Lesser", C_Lesser), ("Greater", C_Greater)] : List (Str × Addr)) ∧ PySem.W.subIn K (.ref Ba) (.ref C_Greater) = some b ∧ (Ba = C_Greater → b = true)) ⟨C_End, m_End, s_End_Greater, sub_ne s_End_Greater s_Greater_Greater⟩ (look_bcons (p := fun B b => ∃ Ba, (B, Ba) ∈ ([("Place", C_Place), ("End", C_End), ("Lesser", C_Lesser), ("Greater", C_Greater)] : List (Str × Addr)) ∧ PySem.W.subIn K (.ref Ba) (.ref C_Greater) = some b ∧ (Ba = C_Greater → b = true)) ⟨C_Lesser, m_Lesser, s_Lesser_Greater, sub_ne s_Lesser_Greater s_Greater_Greater⟩ (look_bcons (p := fun B b => ∃ Ba, (B, Ba) ∈ ([("Place", C_Place), ("End", C_End), ("Lesser", C_Lesser), ("Greater", C_Greater)] : List (Str × Addr)) ∧ PySem.W.subIn K (.ref Ba) (.ref C_Greater) = some b ∧ (Ba = C_Greater → b = true)) ⟨C_Greater, m_Greater, s_Greater_Greater, fun _ => rfl⟩ look_bnil))))
  have bor_Greater : BinD K mg .BitOr ["Place", "End", "Lesser", "Greater"] "Greater" := F.binD (op := .BitOr) m_Greater rfl (fun p hp => (F.cf p hp).ro) (fun p hp => by
    simp only [List.mem_cons, List.not_mem_nil, or_false] at hp
    rcases hp with rfl | rfl | rfl | rfl
    · exact ⟨_, i_Place_or⟩
    · exact ⟨_, i_End_or⟩
    · exact ⟨_, i_Lesser_or⟩
    · exact ⟨_, i_Greater_or⟩)
  have bor_Lesser : BinD K mg .BitOr ["Place", "End", "Lesser", "Greater"] "Lesser" := F.binD (op := .BitOr) m_Lesser rfl (fun p hp => (F.cf p hp).ro) (fun p hp => by
    simp only [List.mem_cons, List.not_mem_nil, or_false] at hp
    rcases hp with rfl | rfl | rfl | rfl
    · exact ⟨_, i_Place_or⟩
    · exact ⟨_, i_End_or⟩
    · exact ⟨_, i_Lesser_or⟩
    · exact ⟨_, i_Greater_or⟩)
  have bor_End : BinD K mg .BitOr ["Place", "End", "Lesser", "Greater"] "End" := F.binD (op := .BitOr) m_End rfl (fun p hp => (F.cf p hp).ro) (fun p hp => by
    simp only [List.mem_cons, List.not_mem_nil, or_false] at hp
    rcases hp with rfl | rfl | rfl | rfl
    · exact ⟨_, i_Place_or⟩
    · exact ⟨_, i_End_or⟩
    · exact ⟨_, i_Lesser_or⟩
    · exact ⟨_, i_Greater_or⟩)
  have bor_Place : BinD K mg .BitOr ["Place", "End", "Lesser", "Greater"] "Place" := F.binD (op := .BitOr) m_Place rfl (fun p hp => (F.cf p hp).ro) (fun p hp => by
    simp only [List.mem_cons, List.not_mem_nil, or_false] at hp
    rcases hp with rfl | rfl | rfl | rfl
    · exact ⟨_, i_Place_or⟩
    · exact ⟨_, i_End_or⟩
    · exact ⟨_, i_Lesser_or⟩
    · exact ⟨_, i_Greater_or⟩)
  have band_Greater : BinD K mg .BitAnd ["Place", "End", "Lesser", "Greater"] "Greater" := F.binD (op := .BitAnd) m_Greater rfl (fun p hp => (F.cf p hp).ra) (fun p hp => by
    simp only [List.mem_cons, List.not_mem_nil, or_false] at hp
    rcases hp with rfl | rfl | rfl | rfl
    · exact ⟨_, i_Place_and⟩
    · exact ⟨_, i_End_and⟩
    · exact ⟨_, i_Lesser_and⟩
    · exact ⟨_, i_Greater_and⟩)
  have band_Lesser : BinD K mg .BitAnd ["Place", "End", "Lesser", "Greater"] "Lesser" := F.binD (op := .BitAnd) m_Lesser rfl (fun p hp => (F.cf p hp).ra) (fun p hp => by
    simp only [List.mem_cons, List.not_mem_nil, or_false] at hp
    rcases hp with rfl | rfl | rfl | rfl
    · exact ⟨_, i_Place_and⟩
    · exact ⟨_, i_End_and⟩
    · exact ⟨_, i_Lesser_and⟩
    · exact ⟨_, i_Greater_and⟩)
  have band_End : BinD K mg .BitAnd ["Place", "End", "Lesser", "Greater"] "End" := F.binD (op := .BitAnd) m_End rfl (fun p hp => (F.cf p hp).ra) (fun p hp => by
    simp only [List.mem_cons, List.not_mem_nil, or_false] at hp
    rcases hp with rfl | rfl | rfl | rfl
    · exact ⟨_, i_Place_and⟩
    · exact ⟨_, i_End_and⟩
    · exact ⟨_, i_Lesser_and⟩
    · exact ⟨_, i_Greater_and⟩)
  have band_Place : BinD K mg .BitAnd ["Place", "End", "Lesser", "Greater"] "Place" := F.binD (op := .BitAnd) m_Place rfl (fun p hp => (F.cf p hp).ra) (fun p hp => by
    simp only [List.mem_cons, List.not_mem_nil, or_false] at hp
    rcases hp with rfl | rfl | rfl | rfl
    · exact ⟨_, i_Place_and⟩
    · exact ⟨_, i_End_and⟩
    · exact ⟨_, i_Lesser_and⟩
    · exact ⟨_, i_Greater_and⟩)
  have ne_Greater : NeC K mg "Greater" := F.neC m_Greater
  have ne_Lesser : NeC K mg "Lesser" := F.neC m_Lesser
  have ne_End : NeC K mg "End" := F.neC m_End
  have ne_Place : NeC K mg "Place" := F.neC m_Place
  have rf_Greater : RefC K mg "Greater" := F.refC m_Greater
  have rf_Lesser : RefC K mg "Lesser" := F.refC m_Lesser
  have rf_End : RefC K mg "End" := F.refC m_End
  have rf_Place : RefC K mg "Place" := F.refC m_Place
  have n_any := PySem.W.mg_none_of X G n_any
  have n_abs := PySem.W.mg_none_of X G n_abs
  have n_min := PySem.W.mg_none_of X G n_min
  have n_all := PySem.W.mg_none_of X G n_all
  subst hl
  refine ⟨⟨[]⟩, [], F_law, fun p hp => (nomatch hp), fun p hp => (nomatch hp), fun p hp => (nomatch hp), fun p hp => (nomatch hp), (fun ns hn _ => F_law_true ns hn), fun base hK hN hT hS => ?_⟩
  exact all_ok hS D__law_draw D__law_places D__law_pick D__law_term D_is_place D_Place_init D_is_end D_End_init D__check_terms D__checked_parts D_Greater_depth D_Lesser_depth D_End_depth D_Place_depth D__depth_over D_Lesser_init D_Greater_init D__law_joined D__law_real D_End_repr D_Place_repr D_Lesser_repr D_Greater_repr D_End_str D_Place_str D__text_within D_Lesser_str D_Greater_str D__law_written D__law_inner D__law_text D__law_bent D_End_eq D_Place_eq D_Lesser_eq D_Greater_eq D_Greater_or D_Lesser_or D_End_or D_Place_or D_Greater_and D_Lesser_and D_End_and D_Place_and D__law_signs_right D__law_right D__law_pot D_law n_divmod n_int n_range n_len n_str n_isinstance k_REGISTERS k_INPUTS (x_InvalidPlace base) fl_name_Place c_TOP c_BOTTOM (x_InvalidEnd base) fl_end_End is_Term (x_InvalidTerm base) fl_depth_Greater fl_depth_Lesser n_max fl_parts_Lesser fl_parts_Greater mk_Lesser mk_Greater mk_Place mk_End n_repr fm_Greater fm_Lesser fm_End fm_Place n_list is_End is_Place is_Lesser eq_Greater eq_Lesser eq_End eq_Place is_Greater bor_Greater bor_Lesser bor_End bor_Place band_Greater band_Lesser band_End band_Place ne_Greater ne_Lesser ne_End ne_Place rf_Greater rf_Lesser rf_End rf_Place n_any n_abs n_min n_all
end K13
end
section
set_option Elab.async false
set_option linter.all false
set_option maxRecDepth 100000
open PySem PySem.W PyProof.Rows
set_option maxHeartbeats 0 in
theorem PySem.Challenge.cw_heldranks_k13_texts_and_equal_terms_holds : PySem.Challenge.rw_heldranks_k13_texts_and_equal_terms.Holds := by
  w_on; o_law; k_head; (case hw => w_witness2)
  k_fill
  refine Q.walk_G (l := PySem.Challenge.rw_heldranks_k13_texts_and_equal_terms) (n := 63) (k := 47) (x := "_law_script") (st := K13.topS 38) rfl (by decide) rfl (by decide +kernel) K13.room (fun w h Y => PySem.W.kIn_of Y) ?F
  case F =>
    intro w mg fa h Y KX G hmg
    refine' K13.head_all KX G PySem.Challenge.rw_heldranks_k13_texts_and_equal_terms rfl ?a_Place ?pg_Place ?hd_Place ?po_Place ?sa_Place ?ca_Place ?mo_Place ?tC_Place ?kC_Place ?mkk_Place ?sf_Place ?ne_Place ?fm_Place ?ra_Place ?ro_Place ?bt_NoneType_Place ?bt_bool_Place ?bt_int_Place ?bt_str_Place ?bt_list_Place ?bt_tuple_Place ?bt_dict_Place ?a_End ?pg_End ?hd_End ?po_End ?sa_End ?ca_End ?mo_End ?tC_End ?kC_End ?mkk_End ?sf_End ?ne_End ?fm_End ?ra_End ?ro_End ?bt_NoneType_End ?bt_bool_End ?bt_int_End ?bt_str_End ?bt_list_End ?bt_tuple_End ?bt_dict_End ?a_Lesser ?pg_Lesser ?hd_Lesser ?po_Lesser ?sa_Lesser ?ca_Lesser ?mo_Lesser ?tC_Lesser ?kC_Lesser ?mkk_Lesser ?sf_Lesser ?ne_Lesser ?fm_Lesser ?ra_Lesser ?ro_Lesser ?bt_NoneType_Lesser ?bt_bool_Lesser ?bt_int_Lesser ?bt_str_Lesser ?bt_list_Lesser ?bt_tuple_Lesser ?bt_dict_Lesser ?a_Greater ?pg_Greater ?hd_Greater ?po_Greater ?sa_Greater ?ca_Greater ?mo_Greater ?tC_Greater ?kC_Greater ?mkk_Greater ?sf_Greater ?ne_Greater ?fm_Greater ?ra_Greater ?ro_Greater ?bt_NoneType_Greater ?bt_bool_Greater ?bt_int_Greater ?bt_str_Greater ?bt_list_Greater ?bt_tuple_Greater ?bt_dict_Greater ?s_Place_Place ?s_Place_End ?s_Place_Lesser ?s_Place_Greater ?s_End_Place ?s_End_End ?s_End_Lesser ?s_End_Greater ?s_Lesser_Place ?s_Lesser_End ?s_Lesser_Lesser ?s_Lesser_Greater ?s_Greater_Place ?s_Greater_End ?s_Greater_Lesser ?s_Greater_Greater ?a_Term ?hd_Term ?tC_Term ?s_Place_Term ?s_End_Term ?s_Lesser_Term ?s_Greater_Term ?hn ?ht ?i__law_draw ?l__law_draw ?e__law_draw ?k__law_draw ?i__law_places ?l__law_places ?e__law_places ?k__law_places ?i__law_pick ?l__law_pick ?e__law_pick ?k__law_pick ?i__law_term ?l__law_term ?e__law_term ?k__law_term ?i_is_place ?l_is_place ?e_is_place ?k_is_place ?i_Place_init ?t_Place_init ?l_Place_init ?e_Place_init ?k_Place_init ?i_is_end ?l_is_end ?e_is_end ?k_is_end ?i_End_init ?t_End_init ?l_End_init ?e_End_init ?k_End_init ?i__check_terms ?l__check_terms ?e__check_terms ?k__check_terms ?i__checked_parts ?l__checked_parts ?e__checked_parts ?k__checked_parts ?i_Greater_depth ?g_Greater_depth ?t_Greater_depth ?c_Greater_depth ?l_Greater_depth ?e_Greater_depth ?k_Greater_depth ?i_Lesser_depth ?g_Lesser_depth ?t_Lesser_depth ?c_Lesser_depth ?l_Lesser_depth ?e_Lesser_depth ?k_Lesser_depth ?i_End_depth ?g_End_depth ?t_End_depth ?c_End_depth ?l_End_depth ?e_End_depth ?k_End_depth ?i_Place_depth ?g_Place_depth ?t_Place_depth ?c_Place_depth ?l_Place_depth ?e_Place_depth ?k_Place_depth ?i__depth_over ?l__depth_over ?e__depth_over ?k__depth_over ?i_Lesser_init ?t_Lesser_init ?l_Lesser_init ?e_Lesser_init ?k_Lesser_init ?i_Greater_init ?t_Greater_init ?l_Greater_init ?e_Greater_init ?k_Greater_init ?i__law_joined ?l__law_joined ?e__law_joined ?k__law_joined ?i__law_real ?l__law_real ?e__law_real ?k__law_real ?i_End_repr ?t_End_repr ?l_End_repr ?e_End_repr ?k_End_repr ?i_Place_repr ?t_Place_repr ?l_Place_repr ?e_Place_repr ?k_Place_repr ?i_Lesser_repr ?t_Lesser_repr ?l_Lesser_repr ?e_Lesser_repr ?k_Lesser_repr ?i_Greater_repr ?t_Greater_repr ?l_Greater_repr ?e_Greater_repr ?k_Greater_repr ?i_End_str ?t_End_str ?l_End_str ?e_End_str ?k_End_str ?i_Place_str ?t_Place_str ?l_Place_str ?e_Place_str ?k_Place_str ?i__text_within ?l__text_within ?e__text_within ?k__text_within ?i_Lesser_str ?t_Lesser_str ?l_Lesser_str ?e_Lesser_str ?k_Lesser_str ?i_Greater_str ?t_Greater_str ?l_Greater_str ?e_Greater_str ?k_Greater_str ?i__law_written ?l__law_written ?e__law_written ?k__law_written ?i__law_inner ?l__law_inner ?e__law_inner ?k__law_inner ?i__law_text ?l__law_text ?e__law_text ?k__law_text ?i__law_bent ?l__law_bent ?e__law_bent ?k__law_bent ?i_End_eq ?t_End_eq ?l_End_eq ?e_End_eq ?k_End_eq ?i_Place_eq ?t_Place_eq ?l_Place_eq ?e_Place_eq ?k_Place_eq ?i_Lesser_eq ?t_Lesser_eq ?l_Lesser_eq ?e_Lesser_eq ?k_Lesser_eq ?i_Greater_eq ?t_Greater_eq ?l_Greater_eq ?e_Greater_eq ?k_Greater_eq ?i_Greater_or ?t_Greater_or ?l_Greater_or ?e_Greater_or ?k_Greater_or ?i_Lesser_or ?t_Lesser_or ?l_Lesser_or ?e_Lesser_or ?k_Lesser_or ?i_End_or ?t_End_or ?l_End_or ?e_End_or ?k_End_or ?i_Place_or ?t_Place_or ?l_Place_or ?e_Place_or ?k_Place_or ?i_Greater_and ?t_Greater_and ?l_Greater_and ?e_Greater_and ?k_Greater_and ?i_Lesser_and ?t_Lesser_and ?l_Lesser_and ?e_Lesser_and ?k_Lesser_and ?i_End_and ?t_End_and ?l_End_and ?e_End_and ?k_End_and ?i_Place_and ?t_Place_and ?l_Place_and ?e_Place_and ?k_Place_and ?i__law_signs_right ?l__law_signs_right ?e__law_signs_right ?k__law_signs_right ?i__law_right ?l__law_right ?e__law_right ?k__law_right ?i__law_pot ?l__law_pot ?e__law_pot ?k__law_pot ?i_law ?l_law ?e_law ?k_law ?n_divmod ?n_int ?n_range ?n_len ?n_str ?n_isinstance ?k_REGISTERS ?l_k_REGISTERS ?k_INPUTS ?l_k_INPUTS ?aXInvalidPlace ?gaXInvalidPlace ?ggXInvalidPlace ?saXInvalidPlace ?caXInvalidPlace ?nvXInvalidPlace ?eCXInvalidPlace ?tCXInvalidPlace ?kCXInvalidPlace ?hCXInvalidPlace ?mXInvalidPlace ?xLXInvalidPlace ?rvXInvalidPlace ?iCXInvalidPlace ?tIXInvalidPlace ?lXInvalidPlace ?cXInvalidPlace ?kXInvalidPlace ?no_name_Place ?c_TOP ?c_BOTTOM ?aXInvalidEnd ?gaXInvalidEnd ?ggXInvalidEnd ?saXInvalidEnd ?caXInvalidEnd ?nvXInvalidEnd ?eCXInvalidEnd ?tCXInvalidEnd ?kCXInvalidEnd ?hCXInvalidEnd ?mXInvalidEnd ?xLXInvalidEnd ?rvXInvalidEnd ?iCXInvalidEnd ?tIXInvalidEnd ?lXInvalidEnd ?cXInvalidEnd ?kXInvalidEnd ?no_end_End ?aXInvalidTerm ?gaXInvalidTerm ?ggXInvalidTerm ?saXInvalidTerm ?caXInvalidTerm ?nvXInvalidTerm ?eCXInvalidTerm ?tCXInvalidTerm ?kCXInvalidTerm ?hCXInvalidTerm ?mXInvalidTerm ?xLXInvalidTerm ?rvXInvalidTerm ?iCXInvalidTerm ?tIXInvalidTerm ?lXInvalidTerm ?cXInvalidTerm ?kXInvalidTerm ?no_depth_Greater ?no_depth_Lesser ?n_max ?no_parts_Lesser ?no_parts_Greater ?n_repr ?n_list ?n_any ?n_abs ?n_min ?n_all
    (case a_Place => first | k_is | kernel_rfl); (case pg_Place => first | k_is | kernel_rfl); (case hd_Place => first | k_is | kernel_rfl); (case po_Place => first | k_is | kernel_rfl)
    (case sa_Place => first | k_is | kernel_rfl); (case ca_Place => first | k_is | kernel_rfl); (case mo_Place => first | k_is | kernel_rfl); (case tC_Place => first | k_is | kernel_rfl)
    (case kC_Place => first | k_is | kernel_rfl); (case mkk_Place => first | k_is | kernel_rfl); (case sf_Place => first | k_is | kernel_rfl); (case ne_Place => first | k_is | kernel_rfl)
    (case fm_Place => first | k_is | kernel_rfl); (case ra_Place => first | k_is | kernel_rfl); (case ro_Place => first | k_is | kernel_rfl); (case bt_NoneType_Place => first | k_is | kernel_rfl)
    (case bt_bool_Place => first | k_is | kernel_rfl); (case bt_int_Place => first | k_is | kernel_rfl); (case bt_str_Place => first | k_is | kernel_rfl); (case bt_list_Place => first | k_is | kernel_rfl)
    (case bt_tuple_Place => first | k_is | kernel_rfl); (case bt_dict_Place => first | k_is | kernel_rfl); (case a_End => first | k_is | kernel_rfl); (case pg_End => first | k_is | kernel_rfl)
    (case hd_End => first | k_is | kernel_rfl); (case po_End => first | k_is | kernel_rfl); (case sa_End => first | k_is | kernel_rfl); (case ca_End => first | k_is | kernel_rfl)
    (case mo_End => first | k_is | kernel_rfl); (case tC_End => first | k_is | kernel_rfl); (case kC_End => first | k_is | kernel_rfl); (case mkk_End => first | k_is | kernel_rfl)
    (case sf_End => first | k_is | kernel_rfl); (case ne_End => first | k_is | kernel_rfl); (case fm_End => first | k_is | kernel_rfl); (case ra_End => first | k_is | kernel_rfl)
    (case ro_End => first | k_is | kernel_rfl); (case bt_NoneType_End => first | k_is | kernel_rfl); (case bt_bool_End => first | k_is | kernel_rfl); (case bt_int_End => first | k_is | kernel_rfl)
    (case bt_str_End => first | k_is | kernel_rfl); (case bt_list_End => first | k_is | kernel_rfl); (case bt_tuple_End => first | k_is | kernel_rfl); (case bt_dict_End => first | k_is | kernel_rfl)
    (case a_Lesser => first | k_is | kernel_rfl); (case pg_Lesser => first | k_is | kernel_rfl); (case hd_Lesser => first | k_is | kernel_rfl); (case po_Lesser => first | k_is | kernel_rfl)
    (case sa_Lesser => first | k_is | kernel_rfl); (case ca_Lesser => first | k_is | kernel_rfl); (case mo_Lesser => first | k_is | kernel_rfl); (case tC_Lesser => first | k_is | kernel_rfl)
    (case kC_Lesser => first | k_is | kernel_rfl); (case mkk_Lesser => first | k_is | kernel_rfl); (case sf_Lesser => first | k_is | kernel_rfl); (case ne_Lesser => first | k_is | kernel_rfl)
    (case fm_Lesser => first | k_is | kernel_rfl); (case ra_Lesser => first | k_is | kernel_rfl); (case ro_Lesser => first | k_is | kernel_rfl); (case bt_NoneType_Lesser => first | k_is | kernel_rfl)
    (case bt_bool_Lesser => first | k_is | kernel_rfl); (case bt_int_Lesser => first | k_is | kernel_rfl); (case bt_str_Lesser => first | k_is | kernel_rfl); (case bt_list_Lesser => first | k_is | kernel_rfl)
    (case bt_tuple_Lesser => first | k_is | kernel_rfl); (case bt_dict_Lesser => first | k_is | kernel_rfl); (case a_Greater => first | k_is | kernel_rfl); (case pg_Greater => first | k_is | kernel_rfl)
    (case hd_Greater => first | k_is | kernel_rfl); (case po_Greater => first | k_is | kernel_rfl); (case sa_Greater => first | k_is | kernel_rfl); (case ca_Greater => first | k_is | kernel_rfl)
    (case mo_Greater => first | k_is | kernel_rfl); (case tC_Greater => first | k_is | kernel_rfl); (case kC_Greater => first | k_is | kernel_rfl); (case mkk_Greater => first | k_is | kernel_rfl)
    (case sf_Greater => first | k_is | kernel_rfl); (case ne_Greater => first | k_is | kernel_rfl); (case fm_Greater => first | k_is | kernel_rfl); (case ra_Greater => first | k_is | kernel_rfl)
    (case ro_Greater => first | k_is | kernel_rfl); (case bt_NoneType_Greater => first | k_is | kernel_rfl); (case bt_bool_Greater => first | k_is | kernel_rfl); (case bt_int_Greater => first | k_is | kernel_rfl)
    (case bt_str_Greater => first | k_is | kernel_rfl); (case bt_list_Greater => first | k_is | kernel_rfl); (case bt_tuple_Greater => first | k_is | kernel_rfl); (case bt_dict_Greater => first | k_is | kernel_rfl)
    (case s_Place_Place => first | k_is | kernel_rfl); (case s_Place_End => first | k_is | kernel_rfl); (case s_Place_Lesser => first | k_is | kernel_rfl); (case s_Place_Greater => first | k_is | kernel_rfl)
    (case s_End_Place => first | k_is | kernel_rfl); (case s_End_End => first | k_is | kernel_rfl); (case s_End_Lesser => first | k_is | kernel_rfl); (case s_End_Greater => first | k_is | kernel_rfl)
    (case s_Lesser_Place => first | k_is | kernel_rfl); (case s_Lesser_End => first | k_is | kernel_rfl); (case s_Lesser_Lesser => first | k_is | kernel_rfl); (case s_Lesser_Greater => first | k_is | kernel_rfl)
    (case s_Greater_Place => first | k_is | kernel_rfl); (case s_Greater_End => first | k_is | kernel_rfl); (case s_Greater_Lesser => first | k_is | kernel_rfl); (case s_Greater_Greater => first | k_is | kernel_rfl)
    (case a_Term => first | k_is | kernel_rfl); (case hd_Term => first | k_is | kernel_rfl); (case tC_Term => first | k_is | kernel_rfl); (case s_Place_Term => first | k_is | kernel_rfl)
    (case s_End_Term => first | k_is | kernel_rfl); (case s_Lesser_Term => first | k_is | kernel_rfl); (case s_Greater_Term => first | k_is | kernel_rfl); (case hn => first | k_is | kernel_rfl)
    (case ht => first | k_is | kernel_rfl); (case i__law_draw => first | k_is | kernel_rfl); (case l__law_draw => first | k_is | kernel_rfl); (case e__law_draw => first | k_is | kernel_rfl)
    (case k__law_draw => first | k_is | kernel_rfl); (case i__law_places => first | k_is | kernel_rfl); (case l__law_places => first | k_is | kernel_rfl); (case e__law_places => first | k_is | kernel_rfl)
    (case k__law_places => first | k_is | kernel_rfl); (case i__law_pick => first | k_is | kernel_rfl); (case l__law_pick => first | k_is | kernel_rfl); (case e__law_pick => first | k_is | kernel_rfl)
    (case k__law_pick => first | k_is | kernel_rfl); (case i__law_term => first | k_is | kernel_rfl); (case l__law_term => first | k_is | kernel_rfl); (case e__law_term => first | k_is | kernel_rfl)
    (case k__law_term => first | k_is | kernel_rfl); (case i_is_place => first | k_is | kernel_rfl); (case l_is_place => first | k_is | kernel_rfl); (case e_is_place => first | k_is | kernel_rfl)
    (case k_is_place => first | k_is | kernel_rfl); (case i_Place_init => first | k_is | kernel_rfl); (case t_Place_init => first | k_is | kernel_rfl); (case l_Place_init => first | k_is | kernel_rfl)
    (case e_Place_init => first | k_is | kernel_rfl); (case k_Place_init => first | k_is | kernel_rfl); (case i_is_end => first | k_is | kernel_rfl); (case l_is_end => first | k_is | kernel_rfl)
    (case e_is_end => first | k_is | kernel_rfl); (case k_is_end => first | k_is | kernel_rfl); (case i_End_init => first | k_is | kernel_rfl); (case t_End_init => first | k_is | kernel_rfl)
    (case l_End_init => first | k_is | kernel_rfl); (case e_End_init => first | k_is | kernel_rfl); (case k_End_init => first | k_is | kernel_rfl); (case i__check_terms => first | k_is | kernel_rfl)
    (case l__check_terms => first | k_is | kernel_rfl); (case e__check_terms => first | k_is | kernel_rfl); (case k__check_terms => first | k_is | kernel_rfl); (case i__checked_parts => first | k_is | kernel_rfl)
    (case l__checked_parts => first | k_is | kernel_rfl); (case e__checked_parts => first | k_is | kernel_rfl); (case k__checked_parts => first | k_is | kernel_rfl); (case i_Greater_depth => first | k_is | kernel_rfl)
    (case g_Greater_depth => first | k_is | kernel_rfl); (case t_Greater_depth => first | k_is | kernel_rfl); (case c_Greater_depth => first | k_is | kernel_rfl); (case l_Greater_depth => first | k_is | kernel_rfl)
    (case e_Greater_depth => first | k_is | kernel_rfl); (case k_Greater_depth => first | k_is | kernel_rfl); (case i_Lesser_depth => first | k_is | kernel_rfl); (case g_Lesser_depth => first | k_is | kernel_rfl)
    (case t_Lesser_depth => first | k_is | kernel_rfl); (case c_Lesser_depth => first | k_is | kernel_rfl); (case l_Lesser_depth => first | k_is | kernel_rfl); (case e_Lesser_depth => first | k_is | kernel_rfl)
    (case k_Lesser_depth => first | k_is | kernel_rfl); (case i_End_depth => first | k_is | kernel_rfl); (case g_End_depth => first | k_is | kernel_rfl); (case t_End_depth => first | k_is | kernel_rfl)
    (case c_End_depth => first | k_is | kernel_rfl); (case l_End_depth => first | k_is | kernel_rfl); (case e_End_depth => first | k_is | kernel_rfl); (case k_End_depth => first | k_is | kernel_rfl)
    (case i_Place_depth => first | k_is | kernel_rfl); (case g_Place_depth => first | k_is | kernel_rfl); (case t_Place_depth => first | k_is | kernel_rfl); (case c_Place_depth => first | k_is | kernel_rfl)
    (case l_Place_depth => first | k_is | kernel_rfl); (case e_Place_depth => first | k_is | kernel_rfl); (case k_Place_depth => first | k_is | kernel_rfl); (case i__depth_over => first | k_is | kernel_rfl)
    (case l__depth_over => first | k_is | kernel_rfl); (case e__depth_over => first | k_is | kernel_rfl); (case k__depth_over => first | k_is | kernel_rfl); (case i_Lesser_init => first | k_is | kernel_rfl)
    (case t_Lesser_init => first | k_is | kernel_rfl); (case l_Lesser_init => first | k_is | kernel_rfl); (case e_Lesser_init => first | k_is | kernel_rfl); (case k_Lesser_init => first | k_is | kernel_rfl)
    (case i_Greater_init => first | k_is | kernel_rfl); (case t_Greater_init => first | k_is | kernel_rfl); (case l_Greater_init => first | k_is | kernel_rfl); (case e_Greater_init => first | k_is | kernel_rfl)
    (case k_Greater_init => first | k_is | kernel_rfl); (case i__law_joined => first | k_is | kernel_rfl); (case l__law_joined => first | k_is | kernel_rfl); (case e__law_joined => first | k_is | kernel_rfl)
    (case k__law_joined => first | k_is | kernel_rfl); (case i__law_real => first | k_is | kernel_rfl); (case l__law_real => first | k_is | kernel_rfl); (case e__law_real => first | k_is | kernel_rfl)
    (case k__law_real => first | k_is | kernel_rfl); (case i_End_repr => first | k_is | kernel_rfl); (case t_End_repr => first | k_is | kernel_rfl); (case l_End_repr => first | k_is | kernel_rfl)
    (case e_End_repr => first | k_is | kernel_rfl); (case k_End_repr => first | k_is | kernel_rfl); (case i_Place_repr => first | k_is | kernel_rfl); (case t_Place_repr => first | k_is | kernel_rfl)
    (case l_Place_repr => first | k_is | kernel_rfl); (case e_Place_repr => first | k_is | kernel_rfl); (case k_Place_repr => first | k_is | kernel_rfl); (case i_Lesser_repr => first | k_is | kernel_rfl)
    (case t_Lesser_repr => first | k_is | kernel_rfl); (case l_Lesser_repr => first | k_is | kernel_rfl); (case e_Lesser_repr => first | k_is | kernel_rfl); (case k_Lesser_repr => first | k_is | kernel_rfl)
    (case i_Greater_repr => first | k_is | kernel_rfl); (case t_Greater_repr => first | k_is | kernel_rfl); (case l_Greater_repr => first | k_is | kernel_rfl); (case e_Greater_repr => first | k_is | kernel_rfl)
    (case k_Greater_repr => first | k_is | kernel_rfl); (case i_End_str => first | k_is | kernel_rfl); (case t_End_str => first | k_is | kernel_rfl); (case l_End_str => first | k_is | kernel_rfl)
    (case e_End_str => first | k_is | kernel_rfl); (case k_End_str => first | k_is | kernel_rfl); (case i_Place_str => first | k_is | kernel_rfl); (case t_Place_str => first | k_is | kernel_rfl)
    (case l_Place_str => first | k_is | kernel_rfl); (case e_Place_str => first | k_is | kernel_rfl); (case k_Place_str => first | k_is | kernel_rfl); (case i__text_within => first | k_is | kernel_rfl)
    (case l__text_within => first | k_is | kernel_rfl); (case e__text_within => first | k_is | kernel_rfl); (case k__text_within => first | k_is | kernel_rfl); (case i_Lesser_str => first | k_is | kernel_rfl)
    (case t_Lesser_str => first | k_is | kernel_rfl); (case l_Lesser_str => first | k_is | kernel_rfl); (case e_Lesser_str => first | k_is | kernel_rfl); (case k_Lesser_str => first | k_is | kernel_rfl)
    (case i_Greater_str => first | k_is | kernel_rfl); (case t_Greater_str => first | k_is | kernel_rfl); (case l_Greater_str => first | k_is | kernel_rfl); (case e_Greater_str => first | k_is | kernel_rfl)
    (case k_Greater_str => first | k_is | kernel_rfl); (case i__law_written => first | k_is | kernel_rfl); (case l__law_written => first | k_is | kernel_rfl); (case e__law_written => first | k_is | kernel_rfl)
    (case k__law_written => first | k_is | kernel_rfl); (case i__law_inner => first | k_is | kernel_rfl); (case l__law_inner => first | k_is | kernel_rfl); (case e__law_inner => first | k_is | kernel_rfl)
    (case k__law_inner => first | k_is | kernel_rfl); (case i__law_text => first | k_is | kernel_rfl); (case l__law_text => first | k_is | kernel_rfl); (case e__law_text => first | k_is | kernel_rfl)
    (case k__law_text => first | k_is | kernel_rfl); (case i__law_bent => first | k_is | kernel_rfl); (case l__law_bent => first | k_is | kernel_rfl); (case e__law_bent => first | k_is | kernel_rfl)
    (case k__law_bent => first | k_is | kernel_rfl); (case i_End_eq => first | k_is | kernel_rfl); (case t_End_eq => first | k_is | kernel_rfl); (case l_End_eq => first | k_is | kernel_rfl)
    (case e_End_eq => first | k_is | kernel_rfl); (case k_End_eq => first | k_is | kernel_rfl); (case i_Place_eq => first | k_is | kernel_rfl); (case t_Place_eq => first | k_is | kernel_rfl)
    (case l_Place_eq => first | k_is | kernel_rfl); (case e_Place_eq => first | k_is | kernel_rfl); (case k_Place_eq => first | k_is | kernel_rfl); (case i_Lesser_eq => first | k_is | kernel_rfl)
    (case t_Lesser_eq => first | k_is | kernel_rfl); (case l_Lesser_eq => first | k_is | kernel_rfl); (case e_Lesser_eq => first | k_is | kernel_rfl); (case k_Lesser_eq => first | k_is | kernel_rfl)
    (case i_Greater_eq => first | k_is | kernel_rfl); (case t_Greater_eq => first | k_is | kernel_rfl); (case l_Greater_eq => first | k_is | kernel_rfl); (case e_Greater_eq => first | k_is | kernel_rfl)
    (case k_Greater_eq => first | k_is | kernel_rfl); (case i_Greater_or => first | k_is | kernel_rfl); (case t_Greater_or => first | k_is | kernel_rfl); (case l_Greater_or => first | k_is | kernel_rfl)
    (case e_Greater_or => first | k_is | kernel_rfl); (case k_Greater_or => first | k_is | kernel_rfl); (case i_Lesser_or => first | k_is | kernel_rfl); (case t_Lesser_or => first | k_is | kernel_rfl)
    (case l_Lesser_or => first | k_is | kernel_rfl); (case e_Lesser_or => first | k_is | kernel_rfl); (case k_Lesser_or => first | k_is | kernel_rfl); (case i_End_or => first | k_is | kernel_rfl)
    (case t_End_or => first | k_is | kernel_rfl); (case l_End_or => first | k_is | kernel_rfl); (case e_End_or => first | k_is | kernel_rfl); (case k_End_or => first | k_is | kernel_rfl)
    (case i_Place_or => first | k_is | kernel_rfl); (case t_Place_or => first | k_is | kernel_rfl); (case l_Place_or => first | k_is | kernel_rfl); (case e_Place_or => first | k_is | kernel_rfl)
    (case k_Place_or => first | k_is | kernel_rfl); (case i_Greater_and => first | k_is | kernel_rfl); (case t_Greater_and => first | k_is | kernel_rfl); (case l_Greater_and => first | k_is | kernel_rfl)
    (case e_Greater_and => first | k_is | kernel_rfl); (case k_Greater_and => first | k_is | kernel_rfl); (case i_Lesser_and => first | k_is | kernel_rfl); (case t_Lesser_and => first | k_is | kernel_rfl)
    (case l_Lesser_and => first | k_is | kernel_rfl); (case e_Lesser_and => first | k_is | kernel_rfl); (case k_Lesser_and => first | k_is | kernel_rfl); (case i_End_and => first | k_is | kernel_rfl)
    (case t_End_and => first | k_is | kernel_rfl); (case l_End_and => first | k_is | kernel_rfl); (case e_End_and => first | k_is | kernel_rfl); (case k_End_and => first | k_is | kernel_rfl)
    (case i_Place_and => first | k_is | kernel_rfl); (case t_Place_and => first | k_is | kernel_rfl); (case l_Place_and => first | k_is | kernel_rfl); (case e_Place_and => first | k_is | kernel_rfl)
    (case k_Place_and => first | k_is | kernel_rfl); (case i__law_signs_right => first | k_is | kernel_rfl); (case l__law_signs_right => first | k_is | kernel_rfl); (case e__law_signs_right => first | k_is | kernel_rfl)
    (case k__law_signs_right => first | k_is | kernel_rfl); (case i__law_right => first | k_is | kernel_rfl); (case l__law_right => first | k_is | kernel_rfl); (case e__law_right => first | k_is | kernel_rfl)
    (case k__law_right => first | k_is | kernel_rfl); (case i__law_pot => first | k_is | kernel_rfl); (case l__law_pot => first | k_is | kernel_rfl); (case e__law_pot => first | k_is | kernel_rfl)
    (case k__law_pot => first | k_is | kernel_rfl); (case i_law => first | k_is | kernel_rfl); (case l_law => first | k_is | kernel_rfl); (case e_law => first | k_is | kernel_rfl)
    (case k_law => first | k_is | kernel_rfl); (case n_divmod => first | k_is | kernel_rfl); (case n_int => first | k_is | kernel_rfl); (case n_range => first | k_is | kernel_rfl)
    (case n_len => first | k_is | kernel_rfl); (case n_str => first | k_is | kernel_rfl); (case n_isinstance => first | k_is | kernel_rfl); (case k_REGISTERS => first | k_is | kernel_rfl)
    (case l_k_REGISTERS => first | k_is | kernel_rfl); (case k_INPUTS => first | k_is | kernel_rfl); (case l_k_INPUTS => first | k_is | kernel_rfl); (case aXInvalidPlace => first | k_is | kernel_rfl)
    (case gaXInvalidPlace => first | k_is | kernel_rfl); (case ggXInvalidPlace => first | k_is | kernel_rfl); (case saXInvalidPlace => first | k_is | kernel_rfl); (case caXInvalidPlace => first | k_is | kernel_rfl)
    (case nvXInvalidPlace => first | k_is | kernel_rfl); (case eCXInvalidPlace => first | k_is | kernel_rfl); (case tCXInvalidPlace => first | k_is | kernel_rfl); (case kCXInvalidPlace => first | k_is | kernel_rfl)
    (case hCXInvalidPlace => first | k_is | kernel_rfl); (case mXInvalidPlace => first | k_is | kernel_rfl); (case xLXInvalidPlace => first | k_is | kernel_rfl); (case rvXInvalidPlace => decide +kernel)
    (case iCXInvalidPlace => first | k_is | kernel_rfl); (case tIXInvalidPlace => first | k_is | kernel_rfl); (case lXInvalidPlace => first | k_is | kernel_rfl); (case cXInvalidPlace => first | k_is | kernel_rfl)
    (case kXInvalidPlace => first | k_is | kernel_rfl); (case no_name_Place => first | k_is | kernel_rfl); (case c_TOP => first | k_is | kernel_rfl); (case c_BOTTOM => first | k_is | kernel_rfl)
    (case aXInvalidEnd => first | k_is | kernel_rfl); (case gaXInvalidEnd => first | k_is | kernel_rfl); (case ggXInvalidEnd => first | k_is | kernel_rfl); (case saXInvalidEnd => first | k_is | kernel_rfl)
    (case caXInvalidEnd => first | k_is | kernel_rfl); (case nvXInvalidEnd => first | k_is | kernel_rfl); (case eCXInvalidEnd => first | k_is | kernel_rfl); (case tCXInvalidEnd => first | k_is | kernel_rfl)
    (case kCXInvalidEnd => first | k_is | kernel_rfl); (case hCXInvalidEnd => first | k_is | kernel_rfl); (case mXInvalidEnd => first | k_is | kernel_rfl); (case xLXInvalidEnd => first | k_is | kernel_rfl)
    (case rvXInvalidEnd => decide +kernel); (case iCXInvalidEnd => first | k_is | kernel_rfl); (case tIXInvalidEnd => first | k_is | kernel_rfl); (case lXInvalidEnd => first | k_is | kernel_rfl)
    (case cXInvalidEnd => first | k_is | kernel_rfl); (case kXInvalidEnd => first | k_is | kernel_rfl); (case no_end_End => first | k_is | kernel_rfl); (case aXInvalidTerm => first | k_is | kernel_rfl)
    (case gaXInvalidTerm => first | k_is | kernel_rfl); (case ggXInvalidTerm => first | k_is | kernel_rfl); (case saXInvalidTerm => first | k_is | kernel_rfl); (case caXInvalidTerm => first | k_is | kernel_rfl)
    (case nvXInvalidTerm => first | k_is | kernel_rfl); (case eCXInvalidTerm => first | k_is | kernel_rfl); (case tCXInvalidTerm => first | k_is | kernel_rfl); (case kCXInvalidTerm => first | k_is | kernel_rfl)
    (case hCXInvalidTerm => first | k_is | kernel_rfl); (case mXInvalidTerm => first | k_is | kernel_rfl); (case xLXInvalidTerm => first | k_is | kernel_rfl); (case rvXInvalidTerm => decide +kernel)
    (case iCXInvalidTerm => first | k_is | kernel_rfl); (case tIXInvalidTerm => first | k_is | kernel_rfl); (case lXInvalidTerm => first | k_is | kernel_rfl); (case cXInvalidTerm => first | k_is | kernel_rfl)
    (case kXInvalidTerm => first | k_is | kernel_rfl); (case no_depth_Greater => first | k_is | kernel_rfl); (case no_depth_Lesser => first | k_is | kernel_rfl); (case n_max => first | k_is | kernel_rfl)
    (case no_parts_Lesser => first | k_is | kernel_rfl); (case no_parts_Greater => first | k_is | kernel_rfl); (case n_repr => first | k_is | kernel_rfl); (case n_list => first | k_is | kernel_rfl)
    (case n_any => first | k_is | kernel_rfl); (case n_abs => first | k_is | kernel_rfl); (case n_min => first | k_is | kernel_rfl); (case n_all => first | k_is | kernel_rfl)
end
